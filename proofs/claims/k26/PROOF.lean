import PyProof.Rows.All
import Wide.All
import OpenK.AllK
import Wide.FinOn
import HandS.ForMost
import HandS.Wide
import HandS.IsInst
import HandS.Defaults
import HandS.WideBits

import HandS.ForExc
import HandS.ExcIs
import HandS.Style
import HandS.Sort
import HandS.SortRule
import HandS.Zip
import HandS.Iter
import HandS.Deep
import HandS.TupSets
import HandS.TupAny
import HandS.DictComp
import HandS.TupMul
import PySem.Challenge.RW_restbodies_k26_pushed

set_option Elab.async false
set_option linter.all false
set_option maxRecDepth 100000
set_option maxHeartbeats 2000000
set_option synthInstance.maxSize 100000
set_option synthInstance.maxHeartbeats 2000000
namespace R
open PySem PySem.Spec PyProof.Rows L2
/-! ### the text -/
def topS (i : Nat) : Stmt := PySem.Challenge.pw_restbodies_k26_pushed.main.body.getD i (.Pass ⟨0, 0, 0, 0⟩)
abbrev s_p__wall : Stmt := topS 0
theorem sc_p__wall : FnScope ["k"] ["k"] (defScope s_p__wall) := ⟨rfl, rfl, rfl, by decide +kernel, rfl, by decide +kernel, by decide +kernel⟩
abbrev s_p_common_divisor : Stmt := topS 9
theorem sc_p_common_divisor : FnScope ["one", "other"] ["one", "other"] (defScope s_p_common_divisor) := ⟨rfl, rfl, rfl, by decide +kernel, rfl, by decide +kernel, by decide +kernel⟩
abbrev s_p_share : Stmt := topS 11
theorem sc_p_share : FnScope ["top", "bottom", "divisor"] ["top", "bottom"] (defScope s_p_share) := ⟨rfl, rfl, rfl, by decide +kernel, rfl, by decide +kernel, by decide +kernel⟩
abbrev s_p_plus : Stmt := topS 12
theorem sc_p_plus : FnScope ["one", "other", "top", "bottom", "more", "part", "divisor", "total", "again"] ["one", "other"] (defScope s_p_plus) := ⟨rfl, rfl, rfl, by decide +kernel, rfl, by decide +kernel, by decide +kernel⟩
abbrev s_p_times : Stmt := topS 13
theorem sc_p_times : FnScope ["one", "other", "top", "bottom", "more", "part", "divisor", "again"] ["one", "other"] (defScope s_p_times) := ⟨rfl, rfl, rfl, by decide +kernel, rfl, by decide +kernel, by decide +kernel⟩
abbrev s_p_over : Stmt := topS 14
theorem sc_p_over : FnScope ["one", "other", "top", "bottom"] ["one", "other"] (defScope s_p_over) := ⟨rfl, rfl, rfl, by decide +kernel, rfl, by decide +kernel, by decide +kernel⟩
abbrev s_p_on_one_bottom : Stmt := topS 15
theorem sc_p_on_one_bottom : FnScope ["shares", "base", "top", "bottom"] ["shares"] (defScope s_p_on_one_bottom) := ⟨rfl, rfl, rfl, by decide +kernel, rfl, by decide +kernel, by decide +kernel⟩
abbrev s_p_share_text : Stmt := topS 16
theorem sc_p_share_text : FnScope ["one", "top", "bottom"] ["one"] (defScope s_p_share_text) := ⟨rfl, rfl, rfl, by decide +kernel, rfl, by decide +kernel, by decide +kernel⟩
abbrev s_p_along : Stmt := topS 19
theorem sc_p_along : FnScope ["way", "spot", "p", "q", "x", "y"] ["way", "spot"] (defScope s_p_along) := ⟨rfl, rfl, rfl, by decide +kernel, rfl, by decide +kernel, by decide +kernel⟩
abbrev s_p_spot_plus : Stmt := topS 20
theorem sc_p_spot_plus : FnScope ["one", "other"] ["one", "other"] (defScope s_p_spot_plus) := ⟨rfl, rfl, rfl, by decide +kernel, rfl, by decide +kernel, by decide +kernel⟩
abbrev s_p_spot_times : Stmt := topS 21
theorem sc_p_spot_times : FnScope ["spot", "share"] ["spot", "share"] (defScope s_p_spot_times) := ⟨rfl, rfl, rfl, by decide +kernel, rfl, by decide +kernel, by decide +kernel⟩
abbrev s_p_onto_rail : Stmt := topS 23
theorem sc_p_onto_rail : FnScope ["rail", "spot", "mass", "p", "q", "part"] ["rail", "spot", "mass"] (defScope s_p_onto_rail) := ⟨rfl, rfl, rfl, by decide +kernel, rfl, by decide +kernel, by decide +kernel⟩
abbrev s_p_spot_words : Stmt := topS 24
theorem sc_p_spot_words : FnScope ["spot", "part"] ["spot"] (defScope s_p_spot_words) := ⟨rfl, rfl, rfl, by decide +kernel, rfl, by decide +kernel, by decide +kernel⟩
abbrev s_p_corner_words : Stmt := topS 25
theorem sc_p_corner_words : FnScope ["shape", "x", "y"] ["shape"] (defScope s_p_corner_words) := ⟨rfl, rfl, rfl, by decide +kernel, rfl, by decide +kernel, by decide +kernel⟩
abbrev s_p_wall_words : Stmt := topS 26
theorem sc_p_wall_words : FnScope ["row", "name", "shape", "mass", "rail", "place", "speed"] ["row"] (defScope s_p_wall_words) := ⟨rfl, rfl, rfl, by decide +kernel, rfl, by decide +kernel, by decide +kernel⟩
abbrev s_p_free_words : Stmt := topS 27
theorem sc_p_free_words : FnScope ["row", "name", "shape", "mass", "rail", "place", "speed"] ["row"] (defScope s_p_free_words) := ⟨rfl, rfl, rfl, by decide +kernel, rfl, by decide +kernel, by decide +kernel⟩
abbrev s_p_rail_words : Stmt := topS 28
theorem sc_p_rail_words : FnScope ["row", "name", "shape", "mass", "rail", "place", "speed", "ahead"] ["row"] (defScope s_p_rail_words) := ⟨rfl, rfl, rfl, by decide +kernel, rfl, by decide +kernel, by decide +kernel⟩
abbrev s_p_body_of : Stmt := topS 33
theorem sc_p_body_of : FnScope ["row", "name", "shape", "mass", "rail", "place", "speed"] ["row"] (defScope s_p_body_of) := ⟨rfl, rfl, rfl, by decide +kernel, rfl, by decide +kernel, by decide +kernel⟩
abbrev s_p_with_speed : Stmt := topS 35
theorem sc_p_with_speed : FnScope ["row", "speed", "name", "shape", "mass", "rail", "place", "old"] ["row", "speed"] (defScope s_p_with_speed) := ⟨rfl, rfl, rfl, by decide +kernel, rfl, by decide +kernel, by decide +kernel⟩
abbrev s_p_sped : Stmt := topS 36
theorem sc_p_sped : FnScope ["row", "change"] ["row", "change"] (defScope s_p_sped) := ⟨rfl, rfl, rfl, by decide +kernel, rfl, by decide +kernel, by decide +kernel⟩
abbrev s_p_push_sum : Stmt := topS 38
theorem sc_p_push_sum : FnScope ["parts", "tops", "bottom", "x", "y", "p", "q", "push", "top"] ["parts"] (defScope s_p_push_sum) := ⟨rfl, rfl, rfl, by decide +kernel, rfl, by decide +kernel, by decide +kernel⟩
abbrev s_p_push_sums : Stmt := topS 39
theorem sc_p_push_sums : FnScope ["rows", "contacts", "pushes", "parts", "low", "high", "p", "q", "push", "row", "name", "each"] ["rows", "contacts", "pushes"] (defScope s_p_push_sums) := ⟨rfl, rfl, rfl, by decide +kernel, rfl, by decide +kernel, by decide +kernel⟩
abbrev s_p_pushed : Stmt := topS 40
theorem sc_p_pushed : FnScope ["rows", "contacts", "pushes", "sums", "row"] ["rows", "contacts", "pushes"] (defScope s_p_pushed) := ⟨rfl, rfl, rfl, by decide +kernel, rfl, by decide +kernel, by decide +kernel⟩
abbrev s_l_cell : Stmt := topS 42
theorem sc_l_cell : FnScope ["_law_script", "_law_k"] ["_law_script", "_law_k"] (defScope s_l_cell) := ⟨rfl, rfl, rfl, by decide +kernel, rfl, by decide +kernel, by decide +kernel⟩
abbrev s_l_mixed : Stmt := topS 43
theorem sc_l_mixed : FnScope ["_law_script", "_law_k", "_law_many", "_law_number_here"] ["_law_script", "_law_k", "_law_many"] (defScope s_l_mixed) := ⟨rfl, rfl, rfl, by decide +kernel, rfl, by decide +kernel, by decide +kernel⟩
abbrev s_l_deck : Stmt := topS 44
theorem sc_l_deck : FnScope ["_law_script", "_law_cell_here"] ["_law_script"] (defScope s_l_deck) := ⟨rfl, rfl, rfl, by decide +kernel, rfl, by decide +kernel, by decide +kernel⟩
abbrev s_l_take : Stmt := topS 45
theorem sc_l_take : FnScope ["_law_deck_here", "_law_many", "_law_cell_here"] ["_law_deck_here", "_law_many"] (defScope s_l_take) := ⟨rfl, rfl, rfl, by decide +kernel, rfl, by decide +kernel, by decide +kernel⟩
abbrev s_l_number : Stmt := topS 46
theorem sc_l_number : FnScope ["_law_deck_here", "_law_span"] ["_law_deck_here", "_law_span"] (defScope s_l_number) := ⟨rfl, rfl, rfl, by decide +kernel, rfl, by decide +kernel, by decide +kernel⟩
abbrev s_l_gcd : Stmt := topS 47
theorem sc_l_gcd : FnScope ["_law_one", "_law_other", "_law_rest"] ["_law_one", "_law_other"] (defScope s_l_gcd) := ⟨rfl, rfl, rfl, by decide +kernel, rfl, by decide +kernel, by decide +kernel⟩
abbrev s_l_share : Stmt := topS 48
theorem sc_l_share : FnScope ["_law_top", "_law_bottom", "_law_part_here"] ["_law_top", "_law_bottom"] (defScope s_l_share) := ⟨rfl, rfl, rfl, by decide +kernel, rfl, by decide +kernel, by decide +kernel⟩
abbrev s_l_plus : Stmt := topS 49
theorem sc_l_plus : FnScope ["_law_one", "_law_other"] ["_law_one", "_law_other"] (defScope s_l_plus) := ⟨rfl, rfl, rfl, by decide +kernel, rfl, by decide +kernel, by decide +kernel⟩
abbrev s_l_times : Stmt := topS 50
theorem sc_l_times : FnScope ["_law_one", "_law_other"] ["_law_one", "_law_other"] (defScope s_l_times) := ⟨rfl, rfl, rfl, by decide +kernel, rfl, by decide +kernel, by decide +kernel⟩
abbrev s_l_along : Stmt := topS 52
theorem sc_l_along : FnScope ["_law_way_here", "_law_spot", "_law_x", "_law_y"] ["_law_way_here", "_law_spot"] (defScope s_l_along) := ⟨rfl, rfl, rfl, by decide +kernel, rfl, by decide +kernel, by decide +kernel⟩
abbrev s_l_spot_plus : Stmt := topS 53
theorem sc_l_spot_plus : FnScope ["_law_one", "_law_other"] ["_law_one", "_law_other"] (defScope s_l_spot_plus) := ⟨rfl, rfl, rfl, by decide +kernel, rfl, by decide +kernel, by decide +kernel⟩
abbrev s_l_spot_times : Stmt := topS 54
theorem sc_l_spot_times : FnScope ["_law_spot", "_law_part_here"] ["_law_spot", "_law_part_here"] (defScope s_l_spot_times) := ⟨rfl, rfl, rfl, by decide +kernel, rfl, by decide +kernel, by decide +kernel⟩
abbrev s_l_part : Stmt := topS 55
theorem sc_l_part : FnScope ["_law_deck_here", "_law_great", "_law_kind", "_law_top"] ["_law_deck_here", "_law_great"] (defScope s_l_part) := ⟨rfl, rfl, rfl, by decide +kernel, rfl, by decide +kernel, by decide +kernel⟩
abbrev s_l_name : Stmt := topS 56
theorem sc_l_name : FnScope ["_law_deck_here", "_law_size", "_law_letters", "_law_k"] ["_law_deck_here", "_law_size"] (defScope s_l_name) := ⟨rfl, rfl, rfl, by decide +kernel, rfl, by decide +kernel, by decide +kernel⟩
abbrev s_l_names : Stmt := topS 57
theorem sc_l_names : FnScope ["_law_deck_here", "_law_many", "_law_alike_here", "_law_size", "_law_at", "_law_stem", "_law_found", "_law_turn", "_law_name_here", "_law_long"] ["_law_deck_here", "_law_many"] (defScope s_l_names) := ⟨rfl, rfl, rfl, by decide +kernel, rfl, by decide +kernel, by decide +kernel⟩
abbrev s_l_way : Stmt := topS 58
theorem sc_l_way : FnScope ["_law_deck_here", "_law_great", "_law_kind", "_law_span", "_law_p", "_law_q", "_law_part_here"] ["_law_deck_here", "_law_great"] (defScope s_l_way) := ⟨rfl, rfl, rfl, by decide +kernel, rfl, by decide +kernel, by decide +kernel⟩
abbrev s_l_row : Stmt := topS 59
theorem sc_l_row : FnScope ["_law_deck_here", "_law_name_here", "_law_great", "_law_kind", "_law_shape", "_law_place", "_law_mass", "_law_speed", "_law_rail"] ["_law_deck_here", "_law_name_here", "_law_great"] (defScope s_l_row) := ⟨rfl, rfl, rfl, by decide +kernel, rfl, by decide +kernel, by decide +kernel⟩
abbrev s_l_crowd : Stmt := topS 60
theorem sc_l_crowd : FnScope ["_law_deck_here", "_law_great", "_law_names_here", "_law_name_here"] ["_law_deck_here", "_law_great"] (defScope s_l_crowd) := ⟨rfl, rfl, rfl, by decide +kernel, rfl, by decide +kernel, by decide +kernel⟩
abbrev s_l_ties : Stmt := topS 61
theorem sc_l_ties : FnScope ["_law_deck_here", "_law_rows", "_law_great", "_law_found", "_law_turn", "_law_one", "_law_other", "_law_tie"] ["_law_deck_here", "_law_rows", "_law_great"] (defScope s_l_ties) := ⟨rfl, rfl, rfl, by decide +kernel, rfl, by decide +kernel, by decide +kernel⟩
abbrev s_l_answer : Stmt := topS 62
theorem sc_l_answer : FnScope ["_law_row_here", "_law_push", "_law_line", "_law_size"] ["_law_row_here", "_law_push"] (defScope s_l_answer) := ⟨rfl, rfl, rfl, by decide +kernel, rfl, by decide +kernel, by decide +kernel⟩
abbrev s_l_push_on : Stmt := topS 63
theorem sc_l_push_on : FnScope ["_law_row_here", "_law_ties_here", "_law_pushes", "_law_total", "_law_k", "_law_tie", "_law_size", "_law_way_here"] ["_law_row_here", "_law_ties_here", "_law_pushes"] (defScope s_l_push_on) := ⟨rfl, rfl, rfl, by decide +kernel, rfl, by decide +kernel, by decide +kernel⟩
abbrev s_l_pushed : Stmt := topS 64
theorem sc_l_pushed : FnScope ["_law_rows", "_law_ties_here", "_law_pushes", "_law_found", "_law_row_here", "_law_change"] ["_law_rows", "_law_ties_here", "_law_pushes"] (defScope s_l_pushed) := ⟨rfl, rfl, rfl, by decide +kernel, rfl, by decide +kernel, by decide +kernel⟩
abbrev s_l_alike : Stmt := topS 67
theorem sc_l_alike : FnScope ["_law_found", "_law_due", "_law_k"] ["_law_found", "_law_due"] (defScope s_l_alike) := ⟨rfl, rfl, rfl, by decide +kernel, rfl, by decide +kernel, by decide +kernel⟩
abbrev s_law : Stmt := topS 68
theorem sc_law : FnScope ["_law_script", "_law_deck_here", "_law_great", "_law_rows", "_law_ties_here", "_law_pushes", "_law_others", "_law_none", "_law_given", "_law_tie"] ["_law_script"] (defScope s_law) := ⟨rfl, rfl, rfl, by decide +kernel, rfl, by decide +kernel, by decide +kernel⟩
abbrev s_m_Body___init__ : Stmt := inClass (topS 29) 0
theorem sc_m_Body___init__ : FnScope ["self", "row"] ["self", "row"] (defScope s_m_Body___init__) := ⟨rfl, rfl, rfl, by decide +kernel, rfl, by decide +kernel, by decide +kernel⟩
abbrev s_m_Wall_answer : Stmt := inClass (topS 30) 0
theorem sc_m_Wall_answer : FnScope ["self", "push"] ["self", "push"] (defScope s_m_Wall_answer) := ⟨rfl, rfl, rfl, by decide +kernel, rfl, by decide +kernel, by decide +kernel⟩
abbrev s_m_Free_answer : Stmt := inClass (topS 31) 0
theorem sc_m_Free_answer : FnScope ["self", "push"] ["self", "push"] (defScope s_m_Free_answer) := ⟨rfl, rfl, rfl, by decide +kernel, rfl, by decide +kernel, by decide +kernel⟩
abbrev s_m_Railed_answer : Stmt := inClass (topS 32) 0
theorem sc_m_Railed_answer : FnScope ["self", "push"] ["self", "push"] (defScope s_m_Railed_answer) := ⟨rfl, rfl, rfl, by decide +kernel, rfl, by decide +kernel, by decide +kernel⟩
/-! ### heaps -/
theorem upd_some {H : Hp} {p x : Addr} {o u : HO} (hp : H p = none) (h : H x = some u) : (upd H p o) x = some u := by
  rw [upd_ne (ne_of_none h hp)]
  exact h
theorem same_upd {H : Hp} {p : Addr} {o : HO} (h : H p = none) : Same H (upd H p o) := fun b x e => upd_some h e
theorem alloc {H G : Hp} {p : Addr} {o : HO} (e : upd H p o = G) (hp : H p = none) : Same H G ∧ G p = some o := by
  subst e
  exact ⟨same_upd hp, upd_same⟩
theorem Same.seqT {K : PySem.W.Frag} {H H' : Hp} {a : Addr} {xs : List V} (e : Same H H') (h : SqT K H a xs) : SqT K H' a xs := by
  rcases h with (h | ⟨o, h⟩) | h
  · exact .inl (.inl (e _ _ h))
  · exact .inl (.inr ⟨o, e _ _ h⟩)
  · exact .inr h
/-- all but what stands at d and b is as it was -/
def Kp (d b : Addr) (H H' : Hp) : Prop := ∀ x o, x ≠ d → x ≠ b → H x = some o → H' x = some o
theorem Kp.refl {d b : Addr} {H : Hp} : Kp d b H H := fun _ _ _ _ h => h
theorem Kp.trans {d b : Addr} {H H1 H2 : Hp} (u : Kp d b H H1) (v : Kp d b H1 H2) : Kp d b H H2 := fun x o h1 h2 h => v x o h1 h2 (u x o h1 h2 h)
theorem Kp.same {d b : Addr} {H H' : Hp} (s : Same H H') : Kp d b H H' := fun x o _ _ h => s x o h
theorem Kp.free {d b : Addr} {H H' : Hp} (u : Kp d b H H') {x : Addr} (hd : H d ≠ none) (hb : H b ≠ none) (h : H' x = none) (h1 : H' d ≠ none) (h2 : H' b ≠ none) : H x = none := by
  cases e : H x with
  | none => rfl
  | some o =>
    by_cases e1 : x = d
    · subst e1; exact absurd h h1
    by_cases e2 : x = b
    · subst e2; exact absurd h h2
    rw [u x o e1 e2 e] at h
    cases h
/-- the law's script -/
def Sc (K : PySem.W.Frag) (H : Hp) (s : Addr) (ns : List Int) : Prop := (∃ o, H s = some (.frz o (.lst (ns.map V.int)))) ∨ ∀ H', SqL K H' s (ns.map V.int)
theorem Sc.seq {K : PySem.W.Frag} {H : Hp} {s : Addr} {ns : List Int} (h : Sc K H s ns) : SqL K H s (ns.map V.int) := by
  rcases h with ⟨o, h⟩ | h
  · exact .inl (.inr ⟨o, h⟩)
  · exact h H
theorem Sc.mk {K : PySem.W.Frag} {H : Hp} {s : Addr} {ns : List Int} (hO : Only H) (h : SqL K H s (ns.map V.int)) : Sc K H s ns := by
  rcases h with (h | ⟨o, h⟩) | h
  · rcases hO s with e | ⟨o, xs, e⟩
    · rw [e] at h; cases h
    · rw [e] at h; cases h
  · exact .inl ⟨o, h⟩
  · exact .inr fun H' => .inr h
theorem Sc.upd {K : PySem.W.Frag} {H : Hp} {s b : Addr} {ns : List Int} {u : HO} (h : Sc K H s ns) (hb : H b = none ∨ ∃ xs, H b = some (.lst xs)) : Sc K (upd H b u) s ns := by
  rcases h with ⟨o, h⟩ | h
  · refine .inl ⟨o, ?_⟩
    have n : s ≠ b := fun e => by
      subst e
      rcases hb with e | ⟨xs, e⟩ <;> rw [e] at h <;> cases h
    rw [upd_ne n]
    exact h
  · exact .inr h
theorem Sc.keep {K : PySem.W.Frag} {H H' : Hp} {s : Addr} {ns : List Int} (h : Sc K H s ns) (k : Same H H') : Sc K H' s ns := by
  rcases h with ⟨o, h⟩ | h
  · exact .inl ⟨o, k _ _ h⟩
  · exact .inr h
/-- the deck at d, its cells at b, drawn at most c times -/
structure Deck (K : PySem.W.Frag) (H : Hp) (d b : Addr) (c : Int) : Prop where
  ex : ∃ (s : Addr) (ns cs : List Int) (i k : Int), H d = some (.lst [.ref s, .ref b, .int i, .int k]) ∧ H b = some (.lst (cs.map V.int)) ∧ Sc K H s ns ∧ 0 ≤ i ∧ 0 ≤ k ∧ k ≤ c
  ne : b ≠ d
theorem Deck.keep {K : PySem.W.Frag} {H H' : Hp} {d b : Addr} {c : Int} (D : Deck K H d b c) (k : Same H H') : Deck K H' d b c := by
  obtain ⟨⟨s, ns, cs, i, j, h1, h2, h3, h4⟩, n⟩ := D
  exact ⟨⟨s, ns, cs, i, j, k _ _ h1, k _ _ h2, h3.keep k, h4⟩, n⟩
theorem Deck.le {K : PySem.W.Frag} {H : Hp} {d b : Addr} {c c' : Int} (D : Deck K H d b c) (h : c ≤ c') : Deck K H d b c' := by
  obtain ⟨⟨s, ns, cs, i, j, h1, h2, h3, h4, h5, h6⟩, n⟩ := D
  exact ⟨⟨s, ns, cs, i, j, h1, h2, h3, h4, h5, by omega⟩, n⟩
/-- an object beside the deck stands -/
theorem Deck.tup {K : PySem.W.Frag} {H H' : Hp} {d b x : Addr} {c : Int} {xs : List V} (D : Deck K H d b c) (k : Kp d b H H') (h : H x = some (.tup xs)) : H' x = some (.tup xs) := by
  obtain ⟨⟨s, ns, cs, i, j, h1, h2, _⟩, n⟩ := D
  exact k x _ (fun e => by rw [e, h1] at h; cases h) (fun e => by rw [e, h2] at h; cases h) h
theorem Deck.seqT {K : PySem.W.Frag} {H H' : Hp} {d b x : Addr} {c : Int} {xs : List V} (D : Deck K H d b c) (k : Kp d b H H') (h : SqT K H x xs) : SqT K H' x xs := by
  obtain ⟨⟨s, ns, cs, i, j, h1, h2, _⟩, n⟩ := D
  rcases h with (h | ⟨o, h⟩) | h
  · exact .inl (.inl (k x _ (fun e => by rw [e, h1] at h; cases h) (fun e => by rw [e, h2] at h; cases h) h))
  · exact .inl (.inr ⟨o, k x _ (fun e => by rw [e, h1] at h; cases h) (fun e => by rw [e, h2] at h; cases h) h⟩)
  · exact .inr h
theorem Deck.hd {K : PySem.W.Frag} {H : Hp} {d b : Addr} {c : Int} (D : Deck K H d b c) : H d ≠ none := by
  obtain ⟨⟨s, ns, cs, i, j, h1, _⟩, n⟩ := D
  rw [h1]; exact fun e => nomatch e
theorem Deck.hb {K : PySem.W.Frag} {H : Hp} {d b : Addr} {c : Int} (D : Deck K H d b c) : H b ≠ none := by
  obtain ⟨⟨s, ns, cs, i, j, _, h1, _⟩, n⟩ := D
  rw [h1]; exact fun e => nomatch e
theorem Deck.free {K : PySem.W.Frag} {H H' : Hp} {d b x : Addr} {c c' : Int} (D : Deck K H d b c) (D' : Deck K H' d b c') (k : Kp d b H H') (h : H' x = none) : H x = none := k.free D.hd D.hb h D'.hd D'.hb
theorem Deck.ne_d {K : PySem.W.Frag} {H : Hp} {d b x : Addr} {c : Int} (D : Deck K H d b c) (h : H x = none) : x ≠ d := fun e => D.hd (e ▸ h)
theorem Deck.ne_b {K : PySem.W.Frag} {H : Hp} {d b x : Addr} {c : Int} (D : Deck K H d b c) (h : H x = none) : x ≠ b := fun e => D.hb (e ▸ h)
/-! ### numbers -/
theorem log2_lt {n k : Nat} (h : n < 2 ^ k) (h0 : 0 < k) : n.log2 < k := PySem.Flt.log2_lt_of h0 h
theorem size63 {n : Nat} (h : n ≤ 1000) : n ≤ sizeLine := Nat.le_of_lt (small1000 h)
theorem abs_nn (i : Int) : 0 ≤ (if i < 0 then -i else i) := by
  split <;> omega
theorem abs_nat (i : Int) : (if i < 0 then -i else i) = (i.natAbs : Int) := by
  split <;> omega
/-! ### the facts of the text -/
structure Ad where
  f_p__wall : Addr
  fd_p__wall : FuncData
  f_p_common_divisor : Addr
  fd_p_common_divisor : FuncData
  f_p_share : Addr
  fd_p_share : FuncData
  f_p_plus : Addr
  fd_p_plus : FuncData
  f_p_times : Addr
  fd_p_times : FuncData
  f_p_over : Addr
  fd_p_over : FuncData
  f_p_on_one_bottom : Addr
  fd_p_on_one_bottom : FuncData
  f_p_share_text : Addr
  fd_p_share_text : FuncData
  f_p_along : Addr
  fd_p_along : FuncData
  f_p_spot_plus : Addr
  fd_p_spot_plus : FuncData
  f_p_spot_times : Addr
  fd_p_spot_times : FuncData
  f_p_onto_rail : Addr
  fd_p_onto_rail : FuncData
  f_p_spot_words : Addr
  fd_p_spot_words : FuncData
  f_p_corner_words : Addr
  fd_p_corner_words : FuncData
  f_p_wall_words : Addr
  fd_p_wall_words : FuncData
  f_p_free_words : Addr
  fd_p_free_words : FuncData
  f_p_rail_words : Addr
  fd_p_rail_words : FuncData
  f_p_body_of : Addr
  fd_p_body_of : FuncData
  f_p_with_speed : Addr
  fd_p_with_speed : FuncData
  f_p_sped : Addr
  fd_p_sped : FuncData
  f_p_push_sum : Addr
  fd_p_push_sum : FuncData
  f_p_push_sums : Addr
  fd_p_push_sums : FuncData
  f_p_pushed : Addr
  fd_p_pushed : FuncData
  f_l_cell : Addr
  fd_l_cell : FuncData
  f_l_mixed : Addr
  fd_l_mixed : FuncData
  f_l_deck : Addr
  fd_l_deck : FuncData
  f_l_take : Addr
  fd_l_take : FuncData
  f_l_number : Addr
  fd_l_number : FuncData
  f_l_gcd : Addr
  fd_l_gcd : FuncData
  f_l_share : Addr
  fd_l_share : FuncData
  f_l_plus : Addr
  fd_l_plus : FuncData
  f_l_times : Addr
  fd_l_times : FuncData
  f_l_along : Addr
  fd_l_along : FuncData
  f_l_spot_plus : Addr
  fd_l_spot_plus : FuncData
  f_l_spot_times : Addr
  fd_l_spot_times : FuncData
  f_l_part : Addr
  fd_l_part : FuncData
  f_l_name : Addr
  fd_l_name : FuncData
  f_l_names : Addr
  fd_l_names : FuncData
  f_l_way : Addr
  fd_l_way : FuncData
  f_l_row : Addr
  fd_l_row : FuncData
  f_l_crowd : Addr
  fd_l_crowd : FuncData
  f_l_ties : Addr
  fd_l_ties : FuncData
  f_l_answer : Addr
  fd_l_answer : FuncData
  f_l_push_on : Addr
  fd_l_push_on : FuncData
  f_l_pushed : Addr
  fd_l_pushed : FuncData
  f_l_alike : Addr
  fd_l_alike : FuncData
  f_law : Addr
  fd_law : FuncData
  c_BodyError : Addr
  c_NoShare : Addr
  c_Body : Addr
  c_Wall : Addr
  c_Free : Addr
  c_Railed : Addr
  f_m_Body___init__ : Addr
  fd_m_Body___init__ : FuncData
  f_m_Wall_answer : Addr
  fd_m_Wall_answer : FuncData
  f_m_Free_answer : Addr
  fd_m_Free_answer : FuncData
  f_m_Railed_answer : Addr
  fd_m_Railed_answer : FuncData
  n_STILL : Addr
  k_LENGTHY : Tok
structure Tx (K : PySem.W.Frag) (mg : Str → Option Value) (A : Ad) : Prop where
  F_p__wall : Fun K "_wall" "_wall" s_p__wall A.f_p__wall A.fd_p__wall
  b_p__wall : Binds K A.fd_p__wall ["k"] []
  g_p__wall : mg "_wall" = some (.ref A.f_p__wall)
  F_p_common_divisor : Fun K "common_divisor" "common_divisor" s_p_common_divisor A.f_p_common_divisor A.fd_p_common_divisor
  b_p_common_divisor : Binds K A.fd_p_common_divisor ["one", "other"] []
  g_p_common_divisor : mg "common_divisor" = some (.ref A.f_p_common_divisor)
  g_p_share : mg "share" = some (.ref A.f_p_share)
  F_p_plus : Fun K "plus" "plus" s_p_plus A.f_p_plus A.fd_p_plus
  b_p_plus : Binds K A.fd_p_plus ["one", "other"] []
  g_p_plus : mg "plus" = some (.ref A.f_p_plus)
  F_p_times : Fun K "times" "times" s_p_times A.f_p_times A.fd_p_times
  b_p_times : Binds K A.fd_p_times ["one", "other"] []
  g_p_times : mg "times" = some (.ref A.f_p_times)
  F_p_over : Fun K "over" "over" s_p_over A.f_p_over A.fd_p_over
  b_p_over : Binds K A.fd_p_over ["one", "other"] []
  g_p_over : mg "over" = some (.ref A.f_p_over)
  F_p_on_one_bottom : Fun K "on_one_bottom" "on_one_bottom" s_p_on_one_bottom A.f_p_on_one_bottom A.fd_p_on_one_bottom
  b_p_on_one_bottom : Binds K A.fd_p_on_one_bottom ["shares"] []
  g_p_on_one_bottom : mg "on_one_bottom" = some (.ref A.f_p_on_one_bottom)
  F_p_share_text : Fun K "share_text" "share_text" s_p_share_text A.f_p_share_text A.fd_p_share_text
  b_p_share_text : Binds K A.fd_p_share_text ["one"] []
  g_p_share_text : mg "share_text" = some (.ref A.f_p_share_text)
  F_p_along : Fun K "along" "along" s_p_along A.f_p_along A.fd_p_along
  b_p_along : Binds K A.fd_p_along ["way", "spot"] []
  g_p_along : mg "along" = some (.ref A.f_p_along)
  F_p_spot_plus : Fun K "spot_plus" "spot_plus" s_p_spot_plus A.f_p_spot_plus A.fd_p_spot_plus
  b_p_spot_plus : Binds K A.fd_p_spot_plus ["one", "other"] []
  g_p_spot_plus : mg "spot_plus" = some (.ref A.f_p_spot_plus)
  F_p_spot_times : Fun K "spot_times" "spot_times" s_p_spot_times A.f_p_spot_times A.fd_p_spot_times
  b_p_spot_times : Binds K A.fd_p_spot_times ["spot", "share"] []
  g_p_spot_times : mg "spot_times" = some (.ref A.f_p_spot_times)
  F_p_onto_rail : Fun K "onto_rail" "onto_rail" s_p_onto_rail A.f_p_onto_rail A.fd_p_onto_rail
  b_p_onto_rail : Binds K A.fd_p_onto_rail ["rail", "spot", "mass"] []
  g_p_onto_rail : mg "onto_rail" = some (.ref A.f_p_onto_rail)
  F_p_spot_words : Fun K "spot_words" "spot_words" s_p_spot_words A.f_p_spot_words A.fd_p_spot_words
  b_p_spot_words : Binds K A.fd_p_spot_words ["spot"] []
  g_p_spot_words : mg "spot_words" = some (.ref A.f_p_spot_words)
  F_p_corner_words : Fun K "corner_words" "corner_words" s_p_corner_words A.f_p_corner_words A.fd_p_corner_words
  b_p_corner_words : Binds K A.fd_p_corner_words ["shape"] []
  g_p_corner_words : mg "corner_words" = some (.ref A.f_p_corner_words)
  F_p_wall_words : Fun K "wall_words" "wall_words" s_p_wall_words A.f_p_wall_words A.fd_p_wall_words
  b_p_wall_words : Binds K A.fd_p_wall_words ["row"] []
  g_p_wall_words : mg "wall_words" = some (.ref A.f_p_wall_words)
  F_p_free_words : Fun K "free_words" "free_words" s_p_free_words A.f_p_free_words A.fd_p_free_words
  b_p_free_words : Binds K A.fd_p_free_words ["row"] []
  g_p_free_words : mg "free_words" = some (.ref A.f_p_free_words)
  F_p_rail_words : Fun K "rail_words" "rail_words" s_p_rail_words A.f_p_rail_words A.fd_p_rail_words
  b_p_rail_words : Binds K A.fd_p_rail_words ["row"] []
  g_p_rail_words : mg "rail_words" = some (.ref A.f_p_rail_words)
  F_p_body_of : Fun K "body_of" "body_of" s_p_body_of A.f_p_body_of A.fd_p_body_of
  b_p_body_of : Binds K A.fd_p_body_of ["row"] []
  g_p_body_of : mg "body_of" = some (.ref A.f_p_body_of)
  F_p_with_speed : Fun K "with_speed" "with_speed" s_p_with_speed A.f_p_with_speed A.fd_p_with_speed
  b_p_with_speed : Binds K A.fd_p_with_speed ["row", "speed"] []
  g_p_with_speed : mg "with_speed" = some (.ref A.f_p_with_speed)
  F_p_sped : Fun K "sped" "sped" s_p_sped A.f_p_sped A.fd_p_sped
  b_p_sped : Binds K A.fd_p_sped ["row", "change"] []
  g_p_sped : mg "sped" = some (.ref A.f_p_sped)
  F_p_push_sum : Fun K "push_sum" "push_sum" s_p_push_sum A.f_p_push_sum A.fd_p_push_sum
  b_p_push_sum : Binds K A.fd_p_push_sum ["parts"] []
  g_p_push_sum : mg "push_sum" = some (.ref A.f_p_push_sum)
  F_p_push_sums : Fun K "push_sums" "push_sums" s_p_push_sums A.f_p_push_sums A.fd_p_push_sums
  b_p_push_sums : Binds K A.fd_p_push_sums ["rows", "contacts", "pushes"] []
  g_p_push_sums : mg "push_sums" = some (.ref A.f_p_push_sums)
  F_p_pushed : Fun K "pushed" "pushed" s_p_pushed A.f_p_pushed A.fd_p_pushed
  b_p_pushed : Binds K A.fd_p_pushed ["rows", "contacts", "pushes"] []
  g_p_pushed : mg "pushed" = some (.ref A.f_p_pushed)
  F_l_cell : Fun K "_law_cell" "_law_cell" s_l_cell A.f_l_cell A.fd_l_cell
  b_l_cell : Binds K A.fd_l_cell ["_law_script", "_law_k"] []
  g_l_cell : mg "_law_cell" = some (.ref A.f_l_cell)
  F_l_mixed : Fun K "_law_mixed" "_law_mixed" s_l_mixed A.f_l_mixed A.fd_l_mixed
  b_l_mixed : Binds K A.fd_l_mixed ["_law_script", "_law_k", "_law_many"] []
  g_l_mixed : mg "_law_mixed" = some (.ref A.f_l_mixed)
  F_l_deck : Fun K "_law_deck" "_law_deck" s_l_deck A.f_l_deck A.fd_l_deck
  b_l_deck : Binds K A.fd_l_deck ["_law_script"] []
  g_l_deck : mg "_law_deck" = some (.ref A.f_l_deck)
  F_l_take : Fun K "_law_take" "_law_take" s_l_take A.f_l_take A.fd_l_take
  b_l_take : Binds K A.fd_l_take ["_law_deck_here", "_law_many"] []
  g_l_take : mg "_law_take" = some (.ref A.f_l_take)
  F_l_number : Fun K "_law_number" "_law_number" s_l_number A.f_l_number A.fd_l_number
  b_l_number : Binds K A.fd_l_number ["_law_deck_here", "_law_span"] []
  g_l_number : mg "_law_number" = some (.ref A.f_l_number)
  F_l_gcd : Fun K "_law_gcd" "_law_gcd" s_l_gcd A.f_l_gcd A.fd_l_gcd
  b_l_gcd : Binds K A.fd_l_gcd ["_law_one", "_law_other"] []
  g_l_gcd : mg "_law_gcd" = some (.ref A.f_l_gcd)
  F_l_share : Fun K "_law_share" "_law_share" s_l_share A.f_l_share A.fd_l_share
  b_l_share : Binds K A.fd_l_share ["_law_top", "_law_bottom"] []
  g_l_share : mg "_law_share" = some (.ref A.f_l_share)
  F_l_plus : Fun K "_law_plus" "_law_plus" s_l_plus A.f_l_plus A.fd_l_plus
  b_l_plus : Binds K A.fd_l_plus ["_law_one", "_law_other"] []
  g_l_plus : mg "_law_plus" = some (.ref A.f_l_plus)
  F_l_times : Fun K "_law_times" "_law_times" s_l_times A.f_l_times A.fd_l_times
  b_l_times : Binds K A.fd_l_times ["_law_one", "_law_other"] []
  g_l_times : mg "_law_times" = some (.ref A.f_l_times)
  F_l_along : Fun K "_law_along" "_law_along" s_l_along A.f_l_along A.fd_l_along
  b_l_along : Binds K A.fd_l_along ["_law_way_here", "_law_spot"] []
  g_l_along : mg "_law_along" = some (.ref A.f_l_along)
  F_l_spot_plus : Fun K "_law_spot_plus" "_law_spot_plus" s_l_spot_plus A.f_l_spot_plus A.fd_l_spot_plus
  b_l_spot_plus : Binds K A.fd_l_spot_plus ["_law_one", "_law_other"] []
  g_l_spot_plus : mg "_law_spot_plus" = some (.ref A.f_l_spot_plus)
  F_l_spot_times : Fun K "_law_spot_times" "_law_spot_times" s_l_spot_times A.f_l_spot_times A.fd_l_spot_times
  b_l_spot_times : Binds K A.fd_l_spot_times ["_law_spot", "_law_part_here"] []
  g_l_spot_times : mg "_law_spot_times" = some (.ref A.f_l_spot_times)
  F_l_part : Fun K "_law_part" "_law_part" s_l_part A.f_l_part A.fd_l_part
  b_l_part : Binds K A.fd_l_part ["_law_deck_here", "_law_great"] []
  g_l_part : mg "_law_part" = some (.ref A.f_l_part)
  F_l_name : Fun K "_law_name" "_law_name" s_l_name A.f_l_name A.fd_l_name
  b_l_name : Binds K A.fd_l_name ["_law_deck_here", "_law_size"] []
  g_l_name : mg "_law_name" = some (.ref A.f_l_name)
  F_l_names : Fun K "_law_names" "_law_names" s_l_names A.f_l_names A.fd_l_names
  b_l_names : Binds K A.fd_l_names ["_law_deck_here", "_law_many"] []
  g_l_names : mg "_law_names" = some (.ref A.f_l_names)
  F_l_way : Fun K "_law_way" "_law_way" s_l_way A.f_l_way A.fd_l_way
  b_l_way : Binds K A.fd_l_way ["_law_deck_here", "_law_great"] []
  g_l_way : mg "_law_way" = some (.ref A.f_l_way)
  F_l_row : Fun K "_law_row" "_law_row" s_l_row A.f_l_row A.fd_l_row
  b_l_row : Binds K A.fd_l_row ["_law_deck_here", "_law_name_here", "_law_great"] []
  g_l_row : mg "_law_row" = some (.ref A.f_l_row)
  F_l_crowd : Fun K "_law_crowd" "_law_crowd" s_l_crowd A.f_l_crowd A.fd_l_crowd
  b_l_crowd : Binds K A.fd_l_crowd ["_law_deck_here", "_law_great"] []
  g_l_crowd : mg "_law_crowd" = some (.ref A.f_l_crowd)
  F_l_ties : Fun K "_law_ties" "_law_ties" s_l_ties A.f_l_ties A.fd_l_ties
  b_l_ties : Binds K A.fd_l_ties ["_law_deck_here", "_law_rows", "_law_great"] []
  g_l_ties : mg "_law_ties" = some (.ref A.f_l_ties)
  F_l_answer : Fun K "_law_answer" "_law_answer" s_l_answer A.f_l_answer A.fd_l_answer
  b_l_answer : Binds K A.fd_l_answer ["_law_row_here", "_law_push"] []
  g_l_answer : mg "_law_answer" = some (.ref A.f_l_answer)
  F_l_push_on : Fun K "_law_push_on" "_law_push_on" s_l_push_on A.f_l_push_on A.fd_l_push_on
  b_l_push_on : Binds K A.fd_l_push_on ["_law_row_here", "_law_ties_here", "_law_pushes"] []
  g_l_push_on : mg "_law_push_on" = some (.ref A.f_l_push_on)
  F_l_pushed : Fun K "_law_pushed" "_law_pushed" s_l_pushed A.f_l_pushed A.fd_l_pushed
  b_l_pushed : Binds K A.fd_l_pushed ["_law_rows", "_law_ties_here", "_law_pushes"] []
  g_l_pushed : mg "_law_pushed" = some (.ref A.f_l_pushed)
  F_l_alike : Fun K "_law_alike" "_law_alike" s_l_alike A.f_l_alike A.fd_l_alike
  b_l_alike : Binds K A.fd_l_alike ["_law_found", "_law_due"] []
  g_l_alike : mg "_law_alike" = some (.ref A.f_l_alike)
  F_law : Fun K "law" "law" s_law A.f_law A.fd_law
  b_law : Binds K A.fd_law ["_law_script"] []
  g_law : mg "law" = some (.ref A.f_law)
  m_abs : mg "abs" = none
  m_bool : mg "bool" = none
  m_enumerate : mg "enumerate" = none
  m_int : mg "int" = none
  m_isinstance : mg "isinstance" = none
  m_len : mg "len" = none
  m_max : mg "max" = none
  m_min : mg "min" = none
  m_range : mg "range" = none
  m_sorted : mg "sorted" = none
  m_str : mg "str" = none
  m_sum : mg "sum" = none
  m_tuple : mg "tuple" = none
  m_zip : mg "zip" = none
  g_STILL : mg "STILL" = some (.ref A.n_STILL)
  g_LENGTHY : mg "LENGTHY" = some (.int 4000 A.k_LENGTHY)
  g_BodyError : mg "BodyError" = some (.ref A.c_BodyError)
  g_NoShare : mg "NoShare" = some (.ref A.c_NoShare)
  g_Body : mg "Body" = some (.ref A.c_Body)
  g_Wall : mg "Wall" = some (.ref A.c_Wall)
  g_Free : mg "Free" = some (.ref A.c_Free)
  g_Railed : mg "Railed" = some (.ref A.c_Railed)
  F_m_Body___init__ : Fun K "__init__" "Body.__init__" s_m_Body___init__ A.f_m_Body___init__ A.fd_m_Body___init__
  b_m_Body___init__ : Binds K A.fd_m_Body___init__ ["self", "row"] []
  F_m_Wall_answer : Fun K "answer" "Wall.answer" s_m_Wall_answer A.f_m_Wall_answer A.fd_m_Wall_answer
  b_m_Wall_answer : Binds K A.fd_m_Wall_answer ["self", "push"] []
  mt_m_Wall_answer : Meth K A.c_Wall "answer" A.f_m_Wall_answer
  F_m_Free_answer : Fun K "answer" "Free.answer" s_m_Free_answer A.f_m_Free_answer A.fd_m_Free_answer
  b_m_Free_answer : Binds K A.fd_m_Free_answer ["self", "push"] []
  mt_m_Free_answer : Meth K A.c_Free "answer" A.f_m_Free_answer
  F_m_Railed_answer : Fun K "answer" "Railed.answer" s_m_Railed_answer A.f_m_Railed_answer A.fd_m_Railed_answer
  b_m_Railed_answer : Binds K A.fd_m_Railed_answer ["self", "push"] []
  mt_m_Railed_answer : Meth K A.c_Railed "answer" A.f_m_Railed_answer
  cl_Wall : Cls K A.c_Wall
  mk_Wall : Mk K A.c_Wall A.f_m_Body___init__
  na_Wall_row : NoAttr K A.c_Wall "row"
  na_Wall_name : NoAttr K A.c_Wall "name"
  na_Wall_mass : NoAttr K A.c_Wall "mass"
  cl_Free : Cls K A.c_Free
  mk_Free : Mk K A.c_Free A.f_m_Body___init__
  na_Free_row : NoAttr K A.c_Free "row"
  na_Free_name : NoAttr K A.c_Free "name"
  na_Free_mass : NoAttr K A.c_Free "mass"
  cl_Railed : Cls K A.c_Railed
  mk_Railed : Mk K A.c_Railed A.f_m_Body___init__
  na_Railed_row : NoAttr K A.c_Railed "row"
  na_Railed_name : NoAttr K A.c_Railed "name"
  na_Railed_mass : NoAttr K A.c_Railed "mass"
  F_p_share : FunD K "share" "share" (defArgs s_p_share) (defBody s_p_share) (defScope s_p_share) [.int 1] [] A.f_p_share A.fd_p_share
  b_p_share : Binds K A.fd_p_share ["top", "bottom"] []
  t_STILL : ∃ a1 a2, (∀ H, SqT K H A.n_STILL [.ref a1, .ref a2]) ∧ (∀ H, SqT K H a1 [.int 0, .int 1]) ∧ (∀ H, SqT K H a2 [.int 0, .int 1])
section
variable {P : Program} {w : World} {K : PySem.W.Frag} {mg : Str → Option Value} {base : Heap} {A : Ad}
theorem ixN_nat {n j : Nat} (h : j < n) : ixN n (j : Int) = some j := by
  unfold ixN
  rw [if_pos (by omega), if_pos (by omega)]
  rfl
theorem ty_tup {H : Hp} {a : Addr} {xs : List V} (h : SqT K H a xs) : TyX K H (.ref a) (.type "tuple") := by
  rcases h with (h | ⟨o, h⟩) | ⟨o, its, n, h, hc, _⟩
  · exact .base (.tup h)
  · exact .fTuple h
  · exact .kTuple h hc

/-! ### a cell of the script -/
def sp_l_cell (K : PySem.W.Frag) : Sp := fun vs H Q _ => ∃ (s : Addr) (ns : List Int) (k : Int), vs = [.ref s, .int k] ∧ SqL K H s (ns.map V.int) ∧ 0 ≤ k ∧ k ≤ 1000000 ∧ ∀ r, 0 ≤ r → Q (.int r) H
theorem ok_l_cell (T : Tx K mg A) : FnOk P w K mg base CX0 1 A.f_l_cell A.fd_l_cell ["_law_script", "_law_k"] (sp_l_cell K) := by
  refine T.F_l_cell.ok sc_l_cell (fun vs H Q E h => ?_) (fun cdv Ar outer s H vs Q E hr h => ?_)
  · obtain ⟨s, ns, k, rfl, _⟩ := h
    rfl
  · obtain ⟨s, ns, k, rfl, hS, h0, h1, q⟩ := h
    refine ⟨_, (pss_cons (ps_if (pt_cmpR op_eq (pe_callB call_len_seq (by rfl) T.m_len (by decide +kernel) (pa_cons (pv 0) pa_nil)) pe_int (nomark _))
      (pss_one (ps_ret (pe_op op_add (pe_op op_mul pe_int (pv 1)) pe_int)))
      pss_nil)
    (pss_one (ps_ret (pe_callB call_abs (by rfl) T.m_abs (by decide +kernel) (pa_cons (pe_ix ix_list (pv 0) (pe_op op_mod (pv 1) (pe_callB call_len_seq (by rfl) T.m_len (by decide +kernel) (pa_cons (pv 0) pa_nil))) (fun _ _ => rfl)) pa_nil))))), ?_⟩
    refine ⟨.ref s, rfl, s, ns.map V.int, rfl, .inl hS, rfl, _, rfl, ite2 (fun e => ?_) (fun e => ?_)⟩
    · exact ⟨_, rfl, 7, k, rfl, rfl, .inl (by decide), _, _, rfl, rfl, q _ (by omega)⟩
    · have hl : ns.length ≠ 0 := fun z => e (decide_eq_true (by rw [List.length_map, z]; rfl))
      have hp : (0 : Int) < ((ns.map V.int).length : Int) := by
        rw [List.length_map]
        omega
      have hm0 : 0 ≤ k % ((ns.map V.int).length : Int) := Int.emod_nonneg _ (by omega)
      have hm1 : k % ((ns.map V.int).length : Int) < ((ns.map V.int).length : Int) := Int.emod_lt_of_pos _ hp
      obtain ⟨j, hj⟩ : ∃ j : Nat, (j : Int) = k % ((ns.map V.int).length : Int) := ⟨_, Int.toNat_of_nonneg hm0⟩
      have hj2 : j < ns.length := by
        rw [List.length_map] at hj hm1
        omega
      have ha : atI (ns.map V.int) (k % ((ns.map V.int).length : Int)) = some (.int ns[j]) := by
        rw [← hj]
        exact atI_nat (by rw [List.getElem?_map, List.getElem?_eq_getElem hj2]; rfl)
      exact ⟨_, rfl, _, rfl, _, rfl, s, _, rfl, .inl hS, k, _, rfl, rfl, hp, s, _, _, _, rfl, rfl, hS, ha, _, rfl, q _ (abs_nn _)⟩
/-! ### a mixed number -/
def sp_l_mixed (K : PySem.W.Frag) : Sp := fun vs H Q _ => ∃ (s : Addr) (ns : List Int) (k m : Int), vs = [.ref s, .int k, .int m] ∧ SqL K H s (ns.map V.int) ∧ 0 ≤ k ∧ k ≤ 1000000 ∧ 0 < m ∧ ∀ r, 0 ≤ r → r < m → Q (.int r) H
theorem mixed_bound {r k : Int} (h0 : 0 ≤ r) (h1 : r < 1000003) (k0 : 0 ≤ k) (k1 : k ≤ 1000000) : ((r + 5) * (k + 2) + 7919 * k).natAbs < 2 ^ 64 := by
  have e1 : (r + 5) * (k + 2) ≤ 1000008 * 1000002 := Int.mul_le_mul (by omega) (by omega) (by omega) (by omega)
  have e0 : 0 ≤ (r + 5) * (k + 2) := Int.mul_nonneg (by omega) (by omega)
  omega
theorem ok_l_mixed (T : Tx K mg A) : FnOk P w K mg base CX0 2 A.f_l_mixed A.fd_l_mixed ["_law_script", "_law_k", "_law_many"] (sp_l_mixed K) := by
  refine T.F_l_mixed.ok sc_l_mixed (fun vs H Q E h => ?_) (fun cdv Ar outer s H vs Q E hr h => ?_)
  · obtain ⟨s, ns, k, m, rfl, _⟩ := h
    rfl
  · obtain ⟨s, ns, k, m, rfl, hS, h0, h1, hm, q⟩ := h
    refine ⟨_, (pss_cons (ps_set (i := 3) sc_l_mixed.nd rfl (.inl rfl) (pe_op op_mod (pe_op op_pow (pe_op op_add (pe_op op_mul (pe_op op_add (pe_op op_mod (pe_call (ok_l_cell T) (hr.mono (by decide)) (by rfl) T.g_l_cell T.F_l_cell.kp T.b_l_cell .nil pass0 (pa_cons (pv 0) (pa_cons (pv 1) pa_nil))) pe_int) pe_int) (pe_op op_add (pv 1) pe_int)) (pe_op op_mul pe_int (pv 1))) pe_int) pe_int))
    (pss_one (ps_ret (pe_op op_mod (pe_op op_fdivW (pv 3) pe_int) (pv 2))))), ?_⟩
    refine ⟨_, rfl, _, rfl, s, ns, k, rfl, hS, h0, h1, fun r hr0 => ?_⟩
    have c0 : 0 ≤ r % 1000003 := Int.emod_nonneg _ (by decide)
    have c1 : r % 1000003 < 1000003 := Int.emod_lt_of_pos _ (by decide)
    refine ⟨r, 1000003, rfl, rfl, (show (0 : Int) < 1000003 by decide), _, _, rfl, rfl, _, rfl, _, _, rfl, rfl, _, _, rfl, rfl, ?_, _, rfl, _, _, rfl, rfl, .inl (by decide), _, _, rfl, rfl, _, _, rfl, rfl, ⟨by decide, by decide, ?_⟩, _, _, rfl, rfl, (show (0 : Int) < 2147483647 by decide), ?_⟩
    · exact .inl ⟨by omega, by omega⟩
    · exact mixed_bound c0 c1 h0 h1
    · refine ⟨_, rfl, _, _, rfl, rfl, ⟨by decide, by decide⟩, _, rfl, _, _, rfl, rfl, hm, ?_⟩
      exact q _ (Int.emod_nonneg _ (by omega)) (Int.emod_lt_of_pos _ hm)
/-! ### the deck is made -/
def sp_l_deck (K : PySem.W.Frag) : Sp := fun vs H Q _ => ∃ (s : Addr) (ns : List Int), vs = [.ref s] ∧ Sc K H s ns ∧ ns.length ≤ 63 ∧ ∀ H' d b, H d = none → H b = none → Deck K H' d b 0 → Same H H' → Q (.ref d) H'
theorem ok_l_deck (T : Tx K mg A) : FnOk P w K mg base CX0 1 A.f_l_deck A.fd_l_deck ["_law_script"] (sp_l_deck K) := by
  refine T.F_l_deck.ok sc_l_deck (fun vs H Q E h => ?_) (fun cdv Ar outer s H vs Q E hr h => ?_)
  · obtain ⟨s, ns, rfl, _⟩ := h
    rfl
  · obtain ⟨s, ns, rfl, hS, hlen, q⟩ := h
    refine ⟨_, (pss_one (ps_ret (pe_lst (pa_cons (pv 0) (pa_cons (pe_lc (own := [("_law_cell_here", 1)]) rfl sc_l_deck.nd (pi_list (pv 0)) (blkOk_by (own := [("_law_cell_here", 1)]) (N := ["_law_script", "_law_cell_here"]) (sc := defScope s_l_deck) (by decide +kernel)) (fun _ _ _ _ _ => (pg_name (i := 1) sc_l_deck.nd rfl (Or.inl rfl))) (fun _ _ _ _ _ => (pts_one (pt_cmpR op_ge (pe_callB call_abs (by rfl) T.m_abs (by decide +kernel) (pa_cons (pv 1) pa_nil)) (pe_op op_pow pe_int pe_int) (nomark _)))) (fun _ _ _ _ _ => (pe_callB call_abs (by rfl) T.m_abs (by decide +kernel) (pa_cons (pv 1) pa_nil)))) (pa_cons pe_int (pa_cons pe_int pa_nil))))))), ?_⟩
    refine ⟨_, rfl, _, rfl, s, rfl, ⟨_, hS.seq⟩, fun D hD => lc_list (K := K) (a := s) (xs := ns.map V.int) (fun i H' => ∃ cs : List Int, Same H H' ∧ Sc K H' s ns ∧ H' D = some (.lst (cs.map V.int)) ∧ cs.length ≤ i) ?_ ?_ ?_ ?_⟩
    · exact ⟨[], same_upd hD, hS.upd (.inl hD), upd_same, Nat.le_refl _⟩
    · rintro i H' _ ⟨cs, _, h, _⟩
      exact h.seq
    · rintro i x H' hx ⟨cs, sm, hs, hd, hc⟩
      obtain ⟨n, rfl⟩ : ∃ n : Int, x = .int n := by
        rw [List.getElem?_map] at hx
        cases e : ns[i]? with
        | none => rw [e] at hx; cases hx
        | some n => rw [e] at hx; exact ⟨n, (Option.some.inj hx).symm⟩
      have hi : i < ns.length := by
        have := (List.getElem?_eq_some_iff.mp hx).1
        rw [List.length_map] at this
        exact this
      refine ⟨rfl, _, rfl, n, rfl, 10, 18, rfl, rfl, ⟨by decide, by decide, by decide⟩, _, _, rfl, rfl, _, rfl, ite2 (fun e => ?_) (fun e => ?_)⟩
      · refine ⟨_, rfl, n, rfl, cs.map V.int, hd, small1000 (by rw [List.length_map]; omega), cs ++ [(if n < 0 then -n else n)], ?_, ?_, ?_, ?_⟩
        · exact fun x o h => by
            rw [upd_ne (ne_of_none h hD)]
            exact sm _ _ h
        · exact hs.upd (.inr ⟨_, hd⟩)
        · rw [upd_same, List.map_append]
          rfl
        · rw [List.length_append]
          exact Nat.succ_le_succ hc
      · exact ⟨cs, sm, hs, hd, Nat.le_succ_of_le hc⟩
    · rintro H' ⟨cs, sm, hs, hd, hc⟩
      refine ⟨size63 (show 4 ≤ 1000 by decide), fun d hn => ?_⟩
      have ne : D ≠ d := ne_of_none hd hn
      refine q _ d D (sm.free hn) hD ⟨⟨s, ns, cs, 0, 0, upd_same, ?_, hs.upd (.inl hn), by omega, by omega, by omega⟩, ne⟩ (sm.trans (same_upd hn))
      rw [upd_ne ne]
      exact hd
/-! ### a number is taken -/
def sp_l_take (K : PySem.W.Frag) : Sp := fun vs H Q _ => ∃ (d b : Addr) (c m : Int), vs = [.ref d, .int m] ∧ Deck K H d b c ∧ c < 1000000 ∧ 0 < m ∧ m.natAbs.log2 < 9000 ∧ ∀ H' r, Deck K H' d b (c + 1) → Kp d b H H' → 0 ≤ r → r < m → Q (.int r) H'
theorem ok0_l_take (T : Tx K mg A) : FnOk P w K mg base CX0 3 A.f_l_take A.fd_l_take ["_law_deck_here", "_law_many"] (sp_l_take K) := by
  refine T.F_l_take.ok sc_l_take (fun vs H Q E h => ?_) (fun cdv Ar outer s H vs Q E hr h => ?_)
  · obtain ⟨d, b, c, m, rfl, _⟩ := h
    rfl
  · obtain ⟨d, b, c, m, rfl, ⟨⟨s, ns, cs, i0, k, hd, hb, hS, hi0, hk0, hk1⟩, ne⟩, hc, hm, hm2, q⟩ := h
    refine ⟨_, (pss_cons (ps_while PassesOwn.never (pt_cmpR op_lt (pe_ix ix_list (pv 0) pe_int (fun _ _ => rfl)) (pe_callB call_len_seq (by rfl) T.m_len (by decide +kernel) (pa_cons (pe_ix ix_list (pv 0) pe_int (fun _ _ => rfl)) pa_nil)) (nomark _))
      (pss_cons (ps_set (i := 2) sc_l_take.nd rfl (.inl rfl) (pe_ix ix_list (pe_ix ix_list (pv 0) pe_int (fun _ _ => rfl)) (pe_ix ix_list (pv 0) pe_int (fun _ _ => rfl)) (fun _ _ => rfl)))
    (pss_cons (ps_if (pt_cmpR op_gt (pv 2) pe_int (nomark _))
      (pss_cons (ps_asg (pe_op op_fdivW (pv 2) (pv 1)) (pg_sub (pe_ix ix_list (pv 0) pe_int (fun _ _ => rfl)) (pe_ix ix_list (pv 0) pe_int (fun _ _ => rfl)) set_list))
    (pss_one (ps_ret (pe_op op_mod (pv 2) (pv 1)))))
      pss_nil)
    (pss_one (ps_asg (pe_op op_add (pe_ix ix_list (pv 0) pe_int (fun _ _ => rfl)) pe_int) (pg_sub (pv 0) pe_int set_list))))))
    (pss_cons (ps_asg (pe_op op_add (pe_ix ix_list (pv 0) pe_int (fun _ _ => rfl)) pe_int) (pg_sub (pv 0) pe_int set_list))
    (pss_one (ps_ret (pe_call (ok_l_mixed T) (hr.mono (by decide)) (by rfl) T.g_l_mixed T.F_l_mixed.kp T.b_l_mixed .nil pass0 (pa_cons (pe_ix ix_list (pv 0) pe_int (fun _ _ => rfl)) (pa_cons (pe_ix ix_list (pv 0) pe_int (fun _ _ => rfl)) (pa_cons (pv 1) pa_nil)))))))), ?_⟩
    refine ⟨fun n σ H' => ∃ (y : Option V) (i : Int), σ = [some (.ref d), some (.int m), y] ∧ 0 ≤ i ∧ n = cs.length - i.toNat ∧ H' d = some (.lst [.ref s, .ref b, .int i, .int k]) ∧ H' b = some (.lst (cs.map V.int)) ∧ Sc K H' s ns ∧ Kp d b H H', ⟨_, none, i0, rfl, hi0, rfl, hd, hb, hS, Kp.refl⟩, fun n σ H' hW => ?_⟩
    obtain ⟨y, i, rfl, hi, hn, hd', hb', hS', kp⟩ := hW
    refine ⟨_, rfl, d, _, 2, .int i, rfl, rfl, SqL.of hd', rfl, _, rfl, d, _, 1, .ref b, rfl, rfl, SqL.of hd', rfl, b, _, rfl, .inl (SqL.of hb'), i, _, rfl, rfl, _, rfl, ite2 (fun e => ?_) (fun e => ?_)⟩
    · -- a turn
      have hlt : i < ((cs.map V.int).length : Int) := of_decide_eq_true e
      rw [List.length_map] at hlt
      obtain ⟨j, rfl⟩ : ∃ j : Nat, i = (j : Int) := ⟨_, (Int.toNat_of_nonneg hi).symm⟩
      have hj : j < cs.length := by omega
      have ha : atI (cs.map V.int) (j : Int) = some (.int cs[j]) := atI_nat (by rw [List.getElem?_map, List.getElem?_eq_getElem hj]; rfl)
      refine ⟨fun σ' H'' => ∃ (y : Option V), σ' = [some (.ref d), some (.int m), y] ∧ H'' d = some (.lst [.ref s, .ref b, .int ((j : Int) + 1), .int k]) ∧ H'' b = some (.lst (cs.map V.int)) ∧ Sc K H'' s ns ∧ Kp d b H H'', ?_, ?_⟩
      · rintro σ' H'' ⟨y, e1, e2, e3, e4, e5⟩
        exact ⟨cs.length - ((j : Int) + 1).toNat, by omega, y, _, e1, by omega, rfl, e2, e3, e4, e5⟩
      · refine ⟨_, rfl, d, _, 1, .ref b, rfl, rfl, SqL.of hd', rfl, _, rfl, d, _, 2, .int (j : Int), rfl, rfl, SqL.of hd', rfl, b, _, (j : Int), .int cs[j], rfl, rfl, SqL.of hb', ha, ?_⟩
        refine ⟨_, rfl, cs[j], 0, rfl, rfl, _, rfl, ite2 (fun e2 => ?_) (fun e2 => ?_)⟩
        · -- the cell is drawn from
          refine ⟨_, rfl, _, rfl, cs[j], m, rfl, rfl, ⟨hm, hm2⟩, _, rfl, d, _, 1, .ref b, rfl, rfl, SqL.of hd', rfl, _, rfl, d, _, 2, .int (j : Int), rfl, rfl, SqL.of hd', rfl, b, _, (j : Int), j, rfl, rfl, hb', ?_, ?_⟩
          · exact ixN_nat (by rw [List.length_map]; exact hj)
          · refine ⟨_, rfl, _, rfl, cs[j], m, rfl, rfl, hm, ?_⟩
            refine q _ _ ⟨⟨s, ns, cs.set j (cs[j] / m), (j : Int), k, ?_, ?_, hS'.upd (.inr ⟨_, hb'⟩), by omega, hk0, by omega⟩, ne⟩ ?_ (Int.emod_nonneg _ (by omega)) (Int.emod_lt_of_pos _ hm)
            · rw [upd_ne (Ne.symm ne)]
              exact hd'
            · rw [upd_same, List.map_set]
            · intro x o h1 h2 h
              rw [upd_ne h2]
              exact kp x o h1 h2 h
        · -- the next cell
          refine ⟨_, rfl, d, _, 2, .int (j : Int), rfl, rfl, SqL.of hd', rfl, _, _, rfl, rfl, _, rfl, d, _, 2, 2, rfl, rfl, hd', rfl, ?_⟩
          refine ⟨_, rfl, ?_, ?_, hS'.upd (.inr ⟨_, hd'⟩), ?_⟩
          · rw [upd_same]; rfl
          · rw [upd_ne ne]; exact hb'
          · intro x o h1 h2 h
            rw [upd_ne h1]
            exact kp x o h1 h2 h
    · -- no cell is left
      refine ⟨_, rfl, d, _, 3, .int k, rfl, rfl, SqL.of hd', rfl, _, _, rfl, rfl, _, rfl, d, _, 3, 3, rfl, rfl, hd', rfl, ?_⟩
      have hd2 : (upd H' d (.lst ([V.ref s, V.ref b, V.int i, V.int k].set 3 (V.int (k + 1))))) d = some (.lst [.ref s, .ref b, .int i, .int (k + 1)]) := upd_same
      have hS2 : Sc K (upd H' d (.lst ([V.ref s, V.ref b, V.int i, V.int k].set 3 (V.int (k + 1))))) s ns := hS'.upd (.inr ⟨_, hd'⟩)
      refine ⟨_, rfl, d, _, 0, .ref s, rfl, rfl, SqL.of hd2, rfl, _, rfl, d, _, 3, .int (k + 1), rfl, rfl, SqL.of hd2, rfl, _, rfl, s, ns, k + 1, m, rfl, hS2.seq, by omega, by omega, hm, fun r h0 h1 => ?_⟩
      refine q _ r ⟨⟨s, ns, cs, i, k + 1, hd2, ?_, hS2, hi, by omega, by omega⟩, ne⟩ ?_ h0 h1
      · rw [upd_ne ne]; exact hb'
      · intro x o h1 h2 h
        rw [upd_ne h1]
        exact kp x o h1 h2 h

/-! ### divisors -/
def gcdI (a b : Int) : Int := ((Nat.gcd a.natAbs b.natAbs : Nat) : Int)
/-- a share's two numbers -/
def IsSh (t u : Int) : Prop := 1 ≤ u ∧ gcdI t u = 1
instance (t u : Int) : Decidable (IsSh t u) := inferInstanceAs (Decidable (_ ∧ _))
theorem gcdI_nn (a b : Int) : 0 ≤ gcdI a b := Int.natCast_nonneg _
theorem gcdI_pos {a b : Int} (h : b ≠ 0) : 0 < gcdI a b := by
  have : 0 < Nat.gcd a.natAbs b.natAbs := Nat.gcd_pos_of_pos_right _ (by omega)
  unfold gcdI
  omega
theorem gcdI_neg_l (a b : Int) : gcdI (-a) b = gcdI a b := by
  unfold gcdI
  rw [Int.natAbs_neg]
theorem gcdI_neg_r (a b : Int) : gcdI a (-b) = gcdI a b := by
  unfold gcdI
  rw [Int.natAbs_neg]
theorem gcdI_dvd_l (a b : Int) : gcdI a b ∣ a := by
  unfold gcdI
  exact Int.ofNat_dvd_left.mpr (Nat.gcd_dvd_left _ _)
theorem gcdI_dvd_r (a b : Int) : gcdI a b ∣ b := by
  unfold gcdI
  exact Int.ofNat_dvd_left.mpr (Nat.gcd_dvd_right _ _)
/-- a share is told by what it is worth -/
theorem share_uniq {t u t' u' : Int} (h : IsSh t u) (h' : IsSh t' u') (e : t * u' = t' * u) : t = t' ∧ u = u' := by
  obtain ⟨u1, g1⟩ := h
  obtain ⟨u2, g2⟩ := h'
  have c1 : Nat.gcd t.natAbs u.natAbs = 1 := by unfold gcdI at g1; omega
  have c2 : Nat.gcd t'.natAbs u'.natAbs = 1 := by unfold gcdI at g2; omega
  have en : t.natAbs * u'.natAbs = t'.natAbs * u.natAbs := by
    rw [← Int.natAbs_mul, ← Int.natAbs_mul, e]
  have d1 : u.natAbs ∣ u'.natAbs := (Nat.Coprime.symm c1).dvd_of_dvd_mul_left (by rw [en]; exact Nat.dvd_mul_left _ _)
  have d2 : u'.natAbs ∣ u.natAbs := (Nat.Coprime.symm c2).dvd_of_dvd_mul_left (by rw [← en]; exact Nat.dvd_mul_left _ _)
  have eu : u = u' := by
    have := Nat.dvd_antisymm d1 d2
    omega
  subst eu
  exact ⟨Int.eq_of_mul_eq_mul_right (by omega) e, rfl⟩
theorem dvd_le_natAbs {g a : Int} (h : g ∣ a) (ha : a ≠ 0) : g.natAbs ≤ a.natAbs := Nat.le_of_dvd (by omega) (Int.natAbs_dvd_natAbs.mpr h)
theorem div_natAbs_le {a g : Int} (hg : 0 < g) (h : g ∣ a) : (a / g).natAbs ≤ a.natAbs := by
  obtain ⟨q, rfl⟩ := h
  rw [Int.mul_ediv_cancel_left _ (by omega), Int.natAbs_mul]
  exact Nat.le_mul_of_pos_left _ (by omega)
/-- a over b (b above nought) in lowest terms -/
theorem low_is {a b : Int} (hb : 0 < b) : IsSh (a / gcdI a b) (b / gcdI a b) ∧ (a / gcdI a b) * b = (b / gcdI a b) * a ∧ (a / gcdI a b).natAbs ≤ a.natAbs ∧ (b / gcdI a b).natAbs ≤ b.natAbs := by
  have hg : 0 < gcdI a b := gcdI_pos (by omega)
  have d1 := gcdI_dvd_l a b
  have d2 := gcdI_dvd_r a b
  refine ⟨⟨?_, ?_⟩, ?_, div_natAbs_le hg d1, div_natAbs_le hg d2⟩
  · have : 0 < b / gcdI a b := Int.ediv_pos_of_pos_of_dvd hb (by omega) d2
    omega
  · unfold gcdI at hg d1 d2 ⊢
    have e1 : (a / ((Nat.gcd a.natAbs b.natAbs : Nat) : Int)).natAbs = a.natAbs / Nat.gcd a.natAbs b.natAbs := by
      rw [Int.natAbs_ediv_of_dvd d1]
      rfl
    have e2 : (b / ((Nat.gcd a.natAbs b.natAbs : Nat) : Int)).natAbs = b.natAbs / Nat.gcd a.natAbs b.natAbs := by
      rw [Int.natAbs_ediv_of_dvd d2]
      rfl
    rw [e1, e2, Nat.gcd_div_gcd_div_gcd_of_pos_right (by omega)]
    rfl
  · obtain ⟨x, hx⟩ := d1
    obtain ⟨y, hy⟩ := d2
    have q1 : a / gcdI a b = x := (Int.eq_ediv_of_mul_eq_right (by omega) hx.symm).symm
    have q2 : b / gcdI a b = y := (Int.eq_ediv_of_mul_eq_right (by omega) hy.symm).symm
    rw [q1, q2]
    conv => lhs; rw [hy]
    conv => rhs; rw [hx]
    rw [Int.mul_left_comm, Int.mul_left_comm y, Int.mul_comm x y]
theorem log_le {m n k : Nat} (h : m ≤ n) (hn : n < 2 ^ k) (h0 : 0 < k) : m.log2 < k := log2_lt (Nat.lt_of_le_of_lt h hn) h0
/-! ### the law's gcd -/

/-! ### the law's own share -/
def Bd (n : Nat) (x : Int) : Prop := x.natAbs < 2 ^ n
theorem Bd.le {n m : Nat} {x : Int} (h : Bd n x) (l : n ≤ m) : Bd m x := Nat.lt_of_lt_of_le h (Nat.pow_le_pow_right (by decide) l)
theorem Bd.mul {n m : Nat} {x y : Int} (h : Bd n x) (g : Bd m y) : Bd (n + m) (x * y) := wide_lt h g
theorem Bd.of_le {n : Nat} {x y : Int} (h : Bd n x) (l : y.natAbs ≤ x.natAbs) : Bd n y := Nat.lt_of_le_of_lt l h
theorem Bd.neg {n : Nat} {x : Int} (h : Bd n x) : Bd n (-x) := by
  unfold Bd
  rw [Int.natAbs_neg]
  exact h
theorem Bd.add {n : Nat} {x y : Int} (h : Bd n x) (g : Bd n y) : Bd (n + 1) (x + y) := by
  unfold Bd at *
  rw [Nat.pow_succ]
  omega
theorem Bd.mulW {n m : Nat} {x y : Int} (h : Bd n x) (g : Bd m y) (hn : n ≤ 400000) (hm : m ≤ 400000) : CMulW x y := wide_mul (a := n + 1) (b := m + 1) (h.le (Nat.le_succ _)) (g.le (Nat.le_succ _)) (by omega) (by omega) (by omega)
theorem Bd.divW {n : Nat} {x y : Int} (h : Bd n y) (h0 : 0 < y) (hn : n < 9000) : CDivW x y := wide_div (b := n + 1) h0 (h.le (Nat.le_succ _)) (by omega) (by omega)
theorem gcdI_bd {n : Nat} {a b : Int} (h : Bd n b) (hb : b ≠ 0) : Bd n (gcdI a b) := h.of_le (by
  unfold gcdI
  exact Nat.le_of_dvd (by omega) (Nat.gcd_dvd_right _ _))

/-! ### fractions -/
theorem isSh_q (q : Rat) : IsSh q.num q.den := by
  refine ⟨by have := q.den_pos; omega, ?_⟩
  unfold gcdI
  rw [Int.natAbs_natCast]
  exact congrArg Int.ofNat q.reduced
theorem divInt_cross {a b : Int} (hb : b ≠ 0) : a * ((Rat.divInt a b).den : Int) = (Rat.divInt a b).num * b := by
  have h : Rat.divInt a b = Rat.divInt (Rat.divInt a b).num ((Rat.divInt a b).den : Int) := (Rat.num_divInt_den _).symm
  exact (Rat.divInt_eq_divInt_iff hb (by have := (Rat.divInt a b).den_pos; omega)).mp h
theorem rep_of {t u : Int} {q : Rat} (h : IsSh t u) (e : t * (q.den : Int) = q.num * u) : t = q.num ∧ u = (q.den : Int) := share_uniq h (isSh_q q) e
theorem rep_divInt {t u a b : Int} (h : IsSh t u) (hb : b ≠ 0) (e : t * b = u * a) : t = (Rat.divInt a b).num ∧ u = ((Rat.divInt a b).den : Int) := by
  have hu : u ≠ 0 := by have := h.1; omega
  have eq : Rat.divInt t u = Rat.divInt a b := (Rat.divInt_eq_divInt_iff hu hb).mpr (by rw [e, Int.mul_comm])
  rw [← eq]
  exact rep_of h (divInt_cross hu)
theorem low_bd {t u a b : Int} (h : IsSh t u) (hb : 0 < b) (e : t * b = u * a) : t.natAbs ≤ a.natAbs ∧ u.natAbs ≤ b.natAbs := by
  obtain ⟨h1, h2, h3, h4⟩ := low_is (a := a) (b := b) hb
  have hu : u ≠ 0 := by have := h.1; omega
  have e1 := rep_divInt h (by omega) e
  have e2 := rep_divInt h1 (by omega) h2
  rw [e1.1, e1.2, ← e2.1, ← e2.2]
  exact ⟨h3, h4⟩
def BdQ (n : Nat) (q : Rat) : Prop := Bd n q.num ∧ Bd n (q.den : Int)
theorem BdQ.le {n m : Nat} {q : Rat} (h : BdQ n q) (l : n ≤ m) : BdQ m q := ⟨h.1.le l, h.2.le l⟩
theorem divInt_bd {a b : Int} {n : Nat} (hb : 0 < b) (ha : Bd n a) (hn : Bd n b) : BdQ n (Rat.divInt a b) := by
  have h := low_bd (isSh_q (Rat.divInt a b)) hb (by rw [← divInt_cross (by omega), Int.mul_comm])
  exact ⟨ha.of_le h.1, hn.of_le h.2⟩
theorem den_pos (q : Rat) : (0 : Int) < (q.den : Int) := by have := q.den_pos; omega
theorem add_divInt (p q : Rat) : p + q = Rat.divInt (p.num * q.den + q.num * p.den) (p.den * q.den) := by
  have h := Rat.divInt_add_divInt p.num q.num (d₁ := p.den) (d₂ := q.den) (by have := den_pos p; omega) (by have := den_pos q; omega)
  rw [Rat.num_divInt_den, Rat.num_divInt_den] at h
  exact h
theorem mul_divInt (p q : Rat) : p * q = Rat.divInt (p.num * q.num) (p.den * q.den) := by
  have h := Rat.divInt_mul_divInt p.num q.num (d₁ := p.den) (d₂ := q.den)
  rw [Rat.num_divInt_den, Rat.num_divInt_den] at h
  exact h
theorem BdQ.add {n m : Nat} {p q : Rat} (h : BdQ n p) (g : BdQ m q) : BdQ (n + m + 1) (p + q) := by
  rw [add_divInt]
  refine divInt_bd (Int.mul_pos (den_pos p) (den_pos q)) ?_ ((h.2.mul g.2).le (Nat.le_succ _))
  exact (h.1.mul g.2).add ((g.1.mul h.2).le (by omega))
theorem BdQ.mul {n m : Nat} {p q : Rat} (h : BdQ n p) (g : BdQ m q) : BdQ (n + m) (p * q) := by
  rw [mul_divInt]
  exact divInt_bd (Int.mul_pos (den_pos p) (den_pos q)) (h.1.mul g.1) (h.2.mul g.2)
theorem BdQ.neg {n : Nat} {q : Rat} (h : BdQ n q) : BdQ n (-q) := by
  refine ⟨?_, h.2⟩
  rw [Rat.neg_num]
  exact h.1.neg
theorem BdQ.sub {n m : Nat} {p q : Rat} (h : BdQ n p) (g : BdQ m q) : BdQ (n + m + 1) (p - q) := by
  rw [Rat.sub_eq_add_neg]
  exact h.add g.neg
theorem neg_num (q : Rat) : (-q).num = -q.num := Rat.neg_num q
theorem neg_den (q : Rat) : (-q).den = q.den := rfl
/-- one over a fraction -/
theorem inv_rep {q : Rat} (h : 0 < q.num) : (q⁻¹).num = q.den ∧ ((q⁻¹).den : Int) = q.num := by
  have hs := isSh_q q
  have e := rep_divInt (t := (q.den : Int)) (u := q.num) (a := (q.den : Int)) (b := q.num) ⟨by omega, by
    have := hs.2
    unfold gcdI at this ⊢
    rw [Nat.gcd_comm]
    exact this⟩ (by omega) (Int.mul_comm _ _)
  rw [Rat.inv_def]
  exact ⟨e.1.symm, e.2.symm⟩
theorem inv_rep_neg {q : Rat} (h : q.num < 0) : (q⁻¹).num = -(q.den : Int) ∧ ((q⁻¹).den : Int) = -q.num := by
  have hs := isSh_q q
  have e := rep_divInt (t := -(q.den : Int)) (u := -q.num) (a := (q.den : Int)) (b := q.num) ⟨by omega, by
    rw [gcdI_neg_l, gcdI_neg_r]
    have := hs.2
    unfold gcdI at this ⊢
    rw [Nat.gcd_comm]
    exact this⟩ (by omega) (by rw [Int.neg_mul, Int.neg_mul, Int.mul_comm])
  rw [Rat.inv_def]
  exact ⟨e.1.symm, e.2.symm⟩
/-! ### divisors, further -/
theorem cop_iff {a b : Int} : gcdI a b = 1 ↔ ∀ k : Nat, (k : Int) ∣ a → (k : Int) ∣ b → k = 1 := by
  constructor
  · intro h k h1 h2
    have h3 : k ∣ Nat.gcd a.natAbs b.natAbs := Nat.dvd_gcd (Int.ofNat_dvd_left.mp h1) (Int.ofNat_dvd_left.mp h2)
    have h4 : Nat.gcd a.natAbs b.natAbs = 1 := by unfold gcdI at h; omega
    rw [h4] at h3
    exact Nat.dvd_one.mp h3
  · intro h
    have := h (Nat.gcd a.natAbs b.natAbs) (gcdI_dvd_l a b) (gcdI_dvd_r a b)
    unfold gcdI
    rw [this]
    rfl
theorem cop_comm {a b : Int} (h : gcdI a b = 1) : gcdI b a = 1 := cop_iff.mpr fun k h1 h2 => cop_iff.mp h k h2 h1
theorem cop_dvd_l {a a' b : Int} (h : gcdI a b = 1) (d : a' ∣ a) : gcdI a' b = 1 := cop_iff.mpr fun k h1 h2 => cop_iff.mp h k (Int.dvd_trans h1 d) h2
theorem cop_dvd_r {a b b' : Int} (h : gcdI a b = 1) (d : b' ∣ b) : gcdI a b' = 1 := cop_iff.mpr fun k h1 h2 => cop_iff.mp h k h1 (Int.dvd_trans h2 d)
theorem cop_mul_r {a b c : Int} (h : gcdI a b = 1) (g : gcdI a c = 1) : gcdI a (b * c) = 1 := by
  unfold gcdI at *
  rw [Int.natAbs_mul]
  have h1 : Nat.Coprime a.natAbs b.natAbs := by unfold Nat.Coprime; omega
  have h2 : Nat.Coprime a.natAbs c.natAbs := by unfold Nat.Coprime; omega
  have h3 : Nat.Coprime a.natAbs (b.natAbs * c.natAbs) := Nat.Coprime.mul_right h1 h2
  unfold Nat.Coprime at h3
  omega
theorem cop_mul_l {a b c : Int} (h : gcdI a c = 1) (g : gcdI b c = 1) : gcdI (a * b) c = 1 := cop_comm (cop_mul_r (cop_comm h) (cop_comm g))
theorem cop_add {x y a : Int} (h : gcdI x a = 1) (d : a ∣ y) : gcdI (x + y) a = 1 := cop_iff.mpr fun k h1 h2 => cop_iff.mp h k ((Int.dvd_add_left (Int.dvd_trans h2 d)).mp h1) h2
theorem cop_div {a b : Int} (h : b ≠ 0) : gcdI (a / gcdI a b) (b / gcdI a b) = 1 := by
  rcases Int.lt_or_gt_of_ne h with h | h
  · have := (low_is (a := a) (b := -b) (by omega)).1.2
    rw [gcdI_neg_r, Int.neg_ediv_of_dvd (gcdI_dvd_r a b), gcdI_neg_r] at this
    exact this
  · exact (low_is h).1.2
theorem div_mul {g a : Int} (h : g ∣ a) : g * (a / g) = a := Int.mul_ediv_cancel' h
theorem div_dvd {g a : Int} (h : g ∣ a) : a / g ∣ a := ⟨g, by rw [Int.mul_comm]; exact (div_mul h).symm⟩
/-! ### sums and products of shares, as the program reckons them -/
theorem plus_one {t u t' u' : Int} (h : IsSh t u) (h' : IsSh t' u') (e : gcdI u u' = 1) : IsSh (t * u' + t' * u) (u * u') := by
  have hu : 0 < u * u' := Int.mul_pos (by have := h.1; omega) (by have := h'.1; omega)
  refine ⟨by omega, cop_mul_r ?_ ?_⟩
  · exact cop_add (cop_mul_l h.2 (cop_comm e)) (Int.dvd_mul_left ..)
  · rw [Int.add_comm]
    exact cop_add (cop_mul_l h'.2 e) (Int.dvd_mul_left ..)
theorem plus_two {t u t' u' d tot g : Int} (h : IsSh t u) (h' : IsSh t' u') (ed : gcdI u u' = d) (et : t * (u' / d) + t' * (u / d) = tot) (eg : gcdI tot d = g) :
    IsSh (tot / g) (u / d * (u' / g)) ∧ (tot / g) * (u * u') = (u / d * (u' / g)) * (t * u' + t' * u) := by
  have hu1 := h.1
  have hu2 := h'.1
  have d0 : 0 < d := by rw [← ed]; exact gcdI_pos (by omega)
  have g0 : 0 < g := by rw [← eg]; exact gcdI_pos (by omega)
  have da : d ∣ u := by rw [← ed]; exact gcdI_dvd_l _ _
  have db : d ∣ u' := by rw [← ed]; exact gcdI_dvd_r _ _
  have gt : g ∣ tot := by rw [← eg]; exact gcdI_dvd_l _ _
  have gd : g ∣ d := by rw [← eg]; exact gcdI_dvd_r _ _
  have hab : gcdI (u / d) (u' / d) = 1 := by rw [← ed]; exact cop_div (by omega)
  have hgd : gcdI (tot / g) (d / g) = 1 := by rw [← eg]; exact cop_div (by omega)
  obtain ⟨a, rfl⟩ := da
  obtain ⟨b, rfl⟩ := db
  obtain ⟨e, rfl⟩ := gd
  obtain ⟨f, rfl⟩ := gt
  have g1 : g ≠ 0 := by omega
  have d1 : g * e ≠ 0 := by omega
  rw [Int.mul_ediv_cancel_left _ d1] at et hab ⊢
  rw [Int.mul_ediv_cancel_left _ d1] at et hab
  rw [Int.mul_ediv_cancel_left _ g1] at hgd ⊢
  rw [Int.mul_ediv_cancel_left _ g1] at hgd
  have eb : g * e * b / g = e * b := by rw [Int.mul_assoc, Int.mul_ediv_cancel_left _ g1]
  rw [eb]
  have e0 : 0 < e := by
    rcases Int.lt_trichotomy e 0 with z | z | z
    · have := Int.mul_neg_of_pos_of_neg g0 z
      omega
    · rw [z] at d0; simp at d0
    · exact z
  have a0 : 0 < a := Int.pos_of_mul_pos_right (a := g * e) (by omega) d0
  have b0 : 0 < b := Int.pos_of_mul_pos_right (a := g * e) (by omega) d0
  have c1 : gcdI f a = 1 := by
    refine cop_dvd_l (a := g * f) ?_ (Int.dvd_mul_left ..)
    rw [← et]
    exact cop_add (cop_mul_l (cop_dvd_r h.2 (Int.dvd_mul_left ..)) (cop_comm hab)) (Int.dvd_mul_left ..)
  have c2 : gcdI f b = 1 := by
    refine cop_dvd_l (a := g * f) ?_ (Int.dvd_mul_left ..)
    rw [← et, Int.add_comm]
    exact cop_add (cop_mul_l (cop_dvd_r h'.2 (Int.dvd_mul_left ..)) hab) (Int.dvd_mul_left ..)
  refine ⟨⟨?_, cop_mul_r c1 (cop_mul_r hgd c2)⟩, ?_⟩
  · have := Int.mul_pos a0 (Int.mul_pos e0 b0)
    omega
  · have : a * (e * b) * (t * (g * e * b) + t' * (g * e * a)) = a * (e * b) * (g * e) * (t * b + t' * a) := by grind
    rw [this, et]
    grind
theorem times_one {t u t' u' d e : Int} (h : IsSh t u) (h' : IsSh t' u') (ed : gcdI t u' = d) (ee : gcdI t' u = e) :
    IsSh ((t / d) * (t' / e)) ((u / e) * (u' / d)) ∧ ((t / d) * (t' / e)) * (u * u') = ((u / e) * (u' / d)) * (t * t') := by
  have hu1 := h.1
  have hu2 := h'.1
  have d0 : 0 < d := by rw [← ed]; exact gcdI_pos (by omega)
  have e0 : 0 < e := by rw [← ee]; exact gcdI_pos (by omega)
  have d1 : d ∣ t := by rw [← ed]; exact gcdI_dvd_l _ _
  have d2 : d ∣ u' := by rw [← ed]; exact gcdI_dvd_r _ _
  have d3 : e ∣ t' := by rw [← ee]; exact gcdI_dvd_l _ _
  have d4 : e ∣ u := by rw [← ee]; exact gcdI_dvd_r _ _
  have c1 : gcdI (t / d) (u' / d) = 1 := by rw [← ed]; exact cop_div (by omega)
  have c2 : gcdI (t' / e) (u / e) = 1 := by rw [← ee]; exact cop_div (by omega)
  have c3 : gcdI (t / d) (u / e) = 1 := cop_dvd_l (cop_dvd_r h.2 (div_dvd d4)) (div_dvd d1)
  have c4 : gcdI (t' / e) (u' / d) = 1 := cop_dvd_l (cop_dvd_r h'.2 (div_dvd d2)) (div_dvd d3)
  refine ⟨⟨?_, cop_mul_l (cop_mul_r c3 c1) (cop_mul_r c2 c4)⟩, ?_⟩
  · have := Int.mul_pos (Int.ediv_pos_of_pos_of_dvd (show 0 < u by omega) (by omega) d4) (Int.ediv_pos_of_pos_of_dvd (show 0 < u' by omega) (by omega) d2)
    omega
  · have m1 := div_mul d1
    have m2 := div_mul d2
    have m3 := div_mul d3
    have m4 := div_mul d4
    generalize t / d = x at *
    generalize u' / d = y at *
    generalize t' / e = v at *
    generalize u / e = z at *
    subst m1 m2 m3 m4
    grind
theorem gcdI_bd2 {n : Nat} {p q : Int} (h : Bd n p) (g : Bd n q) (h0 : ¬ (p = 0 ∧ q = 0)) : Bd n (gcdI p q) := by
  by_cases hq : q = 0
  · have hp : p ≠ 0 := fun z => h0 ⟨z, hq⟩
    refine h.of_le ?_
    unfold gcdI
    exact Nat.le_of_dvd (by omega) (Nat.gcd_dvd_left _ _)
  · exact gcdI_bd g hq
theorem gcdI_comm (p q : Int) : gcdI p q = gcdI q p := by
  unfold gcdI
  rw [Nat.gcd_comm]
theorem gcdI_pos2 {p q : Int} (h0 : ¬ (p = 0 ∧ q = 0)) : 0 < gcdI p q := by
  by_cases hq : q = 0
  · rw [gcdI_comm]
    exact gcdI_pos fun z => h0 ⟨z, hq⟩
  · exact gcdI_pos hq
theorem cop_div2 {p q : Int} (h0 : ¬ (p = 0 ∧ q = 0)) : gcdI (p / gcdI p q) (q / gcdI p q) = 1 := by
  by_cases hq : q = 0
  · have hp : p ≠ 0 := fun z => h0 ⟨z, hq⟩
    rw [gcdI_comm p q]
    exact cop_comm (cop_div hp)
  · exact cop_div hq
/-- a fraction by what it is worth -/
theorem eq_divInt {q : Rat} {a b : Int} (hb : b ≠ 0) (h : q * (b : Rat) = (a : Rat)) : q = Rat.divInt a b := by
  rw [Rat.divInt_eq_div, ← h]
  have : (b : Rat) ≠ 0 := fun z => hb (by exact_mod_cast z)
  grind
theorem num_eq (x : Rat) : (x.num : Rat) = x * ((x.den : Int) : Rat) := by
  have h : (((x.den : Int)) : Rat) ≠ 0 := fun z => by
    have hp := den_pos x
    have : ((x.den : Int)) = 0 := by exact_mod_cast z
    omega
  have e := Rat.num_divInt_den x
  rw [Rat.divInt_eq_div] at e
  have e2 := Rat.div_mul_cancel (a := (x.num : Rat)) h
  rw [e] at e2
  exact e2.symm

end
/-! ### the mirror: things without a heap -/
inductive Ty where
  | non | bl | int | str | tup | lst | dic | verr
def Ty.nm : Ty → String
  | .non => "NoneType" | .bl => "bool" | .int => "int" | .str => "str" | .tup => "tuple" | .lst => "list" | .dic => "dict" | .verr => "ValueError"
inductive D where
  | non | bl (b : Bool) | int (i : Int) | str (x : Str) | ty (t : Ty) | cls (a : Addr) | tup (ds : List D) | lst (ds : List D) | dic (ks : List Key) (ds : List D) | ins (C : Addr) (ns : List Str) (ds : List D) | deck | xcp (a C : Addr) (d : Option Addr) (ns : List Str) (ds : List D)
/-- the world: the law's deck and its cells, lists that are being built -/
structure Wd where
  dk : Option (Addr × Addr)
  own : List (Addr × HO)
def Wd.rs (W : Wd) (a : Addr) : Prop := (∃ d b, W.dk = some (d, b) ∧ (a = d ∨ a = b)) ∨ a ∈ W.own.map (·.1)
def Mt : HO → Prop
  | .lst _ => True
  | .dK _ => True
  | _ => False
structure Wd.ok (K : PySem.W.Frag) (W : Wd) (n : Nat) (H : Hp) : Prop where
  deck : ∀ d b, W.dk = some (d, b) → ∃ c : Int, Deck K H d b c ∧ c + n ≤ 900000
  owns : ∀ p ∈ W.own, H p.1 = some p.2 ∧ Mt p.2
  dis : ∀ d b, W.dk = some (d, b) → ∀ p ∈ W.own, p.1 ≠ d ∧ p.1 ≠ b
def Wd.le (W : Wd) (H H' : Hp) : Prop := ∀ a o, ¬ W.rs a → H a = some o → H' a = some o
theorem Wd.le_refl {W : Wd} {H : Hp} : W.le H H := fun _ _ _ h => h
theorem Wd.le.trans {W : Wd} {H H1 H2 : Hp} (u : W.le H H1) (v : W.le H1 H2) : W.le H H2 := fun a o n h => v a o n (u a o n h)
theorem Wd.le_same {W : Wd} {H H' : Hp} (s : Same H H') : W.le H H' := fun a o _ h => s a o h
theorem Wd.ok.same {K : PySem.W.Frag} {W : Wd} {n : Nat} {H H' : Hp} (o : W.ok K n H) (s : Same H H') : W.ok K n H' :=
  ⟨fun d b e => let ⟨c, h, l⟩ := o.deck d b e; ⟨c, h.keep s, l⟩, fun p hp => ⟨s _ _ (o.owns p hp).1, (o.owns p hp).2⟩, o.dis⟩
theorem Wd.ok.le {K : PySem.W.Frag} {W : Wd} {n m : Nat} {H : Hp} (o : W.ok K n H) (l : m ≤ n) : W.ok K m H :=
  ⟨fun d b e => let ⟨c, h, l'⟩ := o.deck d b e; ⟨c, h, by omega⟩, o.owns, o.dis⟩
theorem Wd.ok.lst {K : PySem.W.Frag} {W : Wd} {n : Nat} {H : Hp} (o : W.ok K n H) {a : Addr} (r : W.rs a) : ∃ ob, H a = some ob ∧ Mt ob := by
  rcases r with ⟨d, b, e, h⟩ | h
  · obtain ⟨c, ⟨⟨s, ns, cs, i, k, h1, h2, _⟩, _⟩, _⟩ := o.deck d b e
    rcases h with rfl | rfl
    · exact ⟨_, h1, trivial⟩
    · exact ⟨_, h2, trivial⟩
  · obtain ⟨p, hp, rfl⟩ := List.mem_map.mp h
    exact ⟨_, o.owns p hp⟩
theorem Wd.ok.fresh {K : PySem.W.Frag} {W : Wd} {n : Nat} {H : Hp} (o : W.ok K n H) {a : Addr} (h : H a = none) : ¬ W.rs a := fun r => by
  obtain ⟨xs, e, _⟩ := o.lst r
  rw [e] at h
  cases h
mutual
inductive At (K : PySem.W.Frag) (W : Wd) (H : Hp) : V → D → Prop
  | non : At K W H .non .non
  | bl (b : Bool) : At K W H (.bl b) (.bl b)
  | int (i : Int) : At K W H (.int i) (.int i)
  | str (x : Str) : At K W H (.str x) (.str x)
  | ty (t : Ty) : At K W H (.ty t.nm) (.ty t)
  | cls (a : Addr) : At K W H (.ref a) (.cls a)
  | tup {a : Addr} {xs : List V} {ds : List D} : SqT K H a xs → AtAll K W H xs ds → At K W H (.ref a) (.tup ds)
  | lst {a : Addr} {xs : List V} {ds : List D} : ¬ W.rs a → H a = some (.lst xs) → AtAll K W H xs ds → At K W H (.ref a) (.lst ds)
  | dic {a : Addr} {ks : List Key} {xs : List V} {ds : List D} : ¬ W.rs a → H a = some (.dK (ks.zip xs)) → ks.length = xs.length → AtAll K W H xs ds → At K W H (.ref a) (.dic ks ds)
  | ins {a C dx : Addr} {ns : List Str} {xs : List V} {ds : List D} : H a = some (.ins C dx (ns.zip xs)) → ns.length = xs.length → AtAll K W H xs ds → At K W H (.ref a) (.ins C ns ds)
  | deck {d b : Addr} : W.dk = some (d, b) → At K W H (.ref d) .deck
  | xcp0 {a C : Addr} : At K W H (.ref a) (.xcp a C none [] [])
  | xcp1 {a C dx : Addr} {ns : List Str} {xs : List V} {ds : List D} : H dx = some (.xd (ns.zip xs)) → ns.length = xs.length → AtAll K W H xs ds → At K W H (.ref a) (.xcp a C (some dx) ns ds)
inductive AtAll (K : PySem.W.Frag) (W : Wd) (H : Hp) : List V → List D → Prop
  | nil : AtAll K W H [] []
  | cons {v : V} {vs : List V} {d : D} {ds : List D} : At K W H v d → AtAll K W H vs ds → AtAll K W H (v :: vs) (d :: ds)
end
section
variable {K : PySem.W.Frag} {W : Wd} {H H' : Hp}
def Wd.lk (W : Wd) (H : Hp) : Prop := ∀ a, W.rs a → ∀ o, H a = some o → Mt o
theorem Wd.ok.lk {n : Nat} (o : W.ok K n H) : W.lk H := fun a r ob e => by
  obtain ⟨xs, e', m⟩ := o.lst r
  rw [e'] at e
  cases e
  exact m
theorem sqt_lk {a : Addr} {xs : List V} (o : W.lk H) (l : W.le H H') (h : SqT K H a xs) : SqT K H' a xs := by
  rcases h with (h | ⟨ob, h⟩) | h
  · exact .inl (.inl (l _ _ (fun r => o _ r _ h) h))
  · exact .inl (.inr ⟨ob, l _ _ (fun r => o _ r _ h) h⟩)
  · exact .inr h
mutual
theorem At.lk (o : W.lk H) (l : W.le H H') : ∀ (d : D) {v : V}, At K W H v d → At K W H' v d
  | .non, _, h => by cases h; exact .non
  | .bl b, _, h => by cases h; exact .bl b
  | .int i, _, h => by cases h; exact .int i
  | .str x, _, h => by cases h; exact .str x
  | .ty t, _, h => by cases h; exact .ty t
  | .cls a, _, h => by cases h; exact .cls a
  | .tup ds, _, h => by
    cases h with
    | tup s a => exact .tup (sqt_lk o l s) (AtAll.lk o l ds a)
  | .lst ds, _, h => by
    cases h with
    | lst r s a => exact .lst r (l _ _ r s) (AtAll.lk o l ds a)
  | .dic ks ds, _, h => by
    cases h with
    | dic r s e a => exact .dic r (l _ _ r s) e (AtAll.lk o l ds a)
  | .ins C ns ds, _, h => by
    cases h with
    | ins s e a => exact .ins (l _ _ (fun r => o _ r _ s) s) e (AtAll.lk o l ds a)
  | .deck, _, h => by
    cases h with
    | deck e => exact .deck e
  | .xcp a C d ns ds, _, h => by
    cases h with
    | xcp0 => exact .xcp0
    | xcp1 s e b => exact .xcp1 (l _ _ (fun r => o _ r _ s) s) e (AtAll.lk o l _ b)
theorem AtAll.lk (o : W.lk H) (l : W.le H H') : ∀ (ds : List D) {vs : List V}, AtAll K W H vs ds → AtAll K W H' vs ds
  | [], _, h => by cases h; exact .nil
  | d :: ds, _, h => by
    cases h with
    | cons a r => exact .cons (At.lk o l d a) (AtAll.lk o l ds r)
end
theorem At.le {n : Nat} (o : W.ok K n H) (l : W.le H H') (d : D) {v : V} (h : At K W H v d) : At K W H' v d := At.lk o.lk l d h
theorem AtAll.le {n : Nat} (o : W.ok K n H) (l : W.le H H') (ds : List D) {vs : List V} (h : AtAll K W H vs ds) : AtAll K W H' vs ds := AtAll.lk o.lk l ds h
/-- one more list is being built -/
def Wd.add (W : Wd) (p : Addr × HO) : Wd := { W with own := p :: W.own }
mutual
/-- a world with more that is reserved, none of it there -/
theorem At.ext {W' : Wd} (hr : ∀ a, W'.rs a → ¬ W.rs a → H a = none) (hd : W'.dk = W.dk) : ∀ (d : D) {v : V}, At K W H v d → At K W' H v d
  | .non, _, h => by cases h; exact .non
  | .bl b, _, h => by cases h; exact .bl b
  | .int i, _, h => by cases h; exact .int i
  | .str x, _, h => by cases h; exact .str x
  | .ty t, _, h => by cases h; exact .ty t
  | .cls a, _, h => by cases h; exact .cls a
  | .tup ds, _, h => by
    cases h with
    | tup s a => exact .tup s (AtAll.ext hr hd ds a)
  | .lst ds, _, h => by
    cases h with
    | lst r s a => exact .lst (fun z => by rw [hr _ z r] at s; cases s) s (AtAll.ext hr hd ds a)
  | .dic ks ds, _, h => by
    cases h with
    | dic r s e a => exact .dic (fun z => by rw [hr _ z r] at s; cases s) s e (AtAll.ext hr hd ds a)
  | .ins C ns ds, _, h => by
    cases h with
    | ins s e a => exact .ins s e (AtAll.ext hr hd ds a)
  | .deck, _, h => by
    cases h with
    | deck e => exact .deck (hd.trans e)
  | .xcp a C d ns ds, _, h => by
    cases h with
    | xcp0 => exact .xcp0
    | xcp1 s e b => exact .xcp1 s e (AtAll.ext hr hd _ b)
theorem AtAll.ext {W' : Wd} (hr : ∀ a, W'.rs a → ¬ W.rs a → H a = none) (hd : W'.dk = W.dk) : ∀ (ds : List D) {vs : List V}, AtAll K W H vs ds → AtAll K W' H vs ds
  | [], _, h => by cases h; exact .nil
  | d :: ds, _, h => by
    cases h with
    | cons a r => exact .cons (At.ext hr hd d a) (AtAll.ext hr hd ds r)
end
mutual
/-- the worlds' reserved places alone count; fewer are less asked -/
theorem At.weak {W' : Wd} (hr : ∀ a, W'.rs a → W.rs a) (hd : W'.dk = W.dk) : ∀ (d : D) {v : V}, At K W H v d → At K W' H v d
  | .non, _, h => by cases h; exact .non
  | .bl b, _, h => by cases h; exact .bl b
  | .int i, _, h => by cases h; exact .int i
  | .str x, _, h => by cases h; exact .str x
  | .ty t, _, h => by cases h; exact .ty t
  | .cls a, _, h => by cases h; exact .cls a
  | .tup ds, _, h => by
    cases h with
    | tup s a => exact .tup s (AtAll.weak hr hd ds a)
  | .lst ds, _, h => by
    cases h with
    | lst r s a => exact .lst (fun z => r (hr _ z)) s (AtAll.weak hr hd ds a)
  | .dic ks ds, _, h => by
    cases h with
    | dic r s e a => exact .dic (fun z => r (hr _ z)) s e (AtAll.weak hr hd ds a)
  | .ins C ns ds, _, h => by
    cases h with
    | ins s e a => exact .ins s e (AtAll.weak hr hd ds a)
  | .deck, _, h => by
    cases h with
    | deck e => exact .deck (hd.trans e)
  | .xcp a C d ns ds, _, h => by
    cases h with
    | xcp0 => exact .xcp0
    | xcp1 s e b => exact .xcp1 s e (AtAll.weak hr hd _ b)
theorem AtAll.weak {W' : Wd} (hr : ∀ a, W'.rs a → W.rs a) (hd : W'.dk = W.dk) : ∀ (ds : List D) {vs : List V}, AtAll K W H vs ds → AtAll K W' H vs ds
  | [], _, h => by cases h; exact .nil
  | d :: ds, _, h => by
    cases h with
    | cons a r => exact .cons (At.weak hr hd d a) (AtAll.weak hr hd ds r)
end
theorem Wd.rs_add {q : Addr × HO} {a : Addr} (h : W.rs a) : (W.add q).rs a := by
  rcases h with h | h
  · exact .inl h
  · exact .inr (List.mem_cons_of_mem _ h)
theorem AtAll.length : ∀ {vs : List V} {ds : List D}, AtAll K W H vs ds → vs.length = ds.length
  | _, [], h => by cases h; rfl
  | _, d :: ds, h => by
    cases h with
    | cons a r => rw [List.length_cons, List.length_cons, AtAll.length r]
theorem AtAll.append : ∀ {vs us : List V} {ds es : List D}, AtAll K W H vs ds → AtAll K W H us es → AtAll K W H (vs ++ us) (ds ++ es)
  | _, _, [], _, h, g => by cases h; exact g
  | _, _, d :: ds, _, h, g => by
    cases h with
    | cons a r => exact .cons a (AtAll.append r g)
theorem AtAll.get : ∀ {vs : List V} {ds : List D} {i : Nat} {d : D}, AtAll K W H vs ds → ds[i]? = some d → ∃ v, vs[i]? = some v ∧ At K W H v d
  | _, [], _, _, h, e => by cases e
  | _, _ :: _, 0, _, h, e => by
    cases h with
    | cons a r => cases e; exact ⟨_, rfl, a⟩
  | _, _ :: ds, i + 1, _, h, e => by
    cases h with
    | cons a r => exact AtAll.get (i := i) r e
theorem AtAll.get' : ∀ {vs : List V} {ds : List D} {i : Nat} {v : V}, AtAll K W H vs ds → vs[i]? = some v → ∃ d, ds[i]? = some d ∧ At K W H v d
  | _, [], _, _, h, e => by cases h; cases e
  | _, _ :: _, 0, _, h, e => by
    cases h with
    | cons a r => cases e; exact ⟨_, rfl, a⟩
  | _, _ :: ds, i + 1, _, h, e => by
    cases h with
    | cons a r => exact AtAll.get' (i := i) r e
end
/-! ### environments and the judgement of expressions -/
abbrev Env' := List (Option D)
def eGet : Env' → Nat → Option D
  | [], _ => none
  | d :: _, 0 => d
  | _ :: r, i + 1 => eGet r i
def eSet : Env' → Nat → Option D → Env'
  | [], _, _ => []
  | _ :: r, 0, d => d :: r
  | x :: r, i + 1, d => x :: eSet r i d
theorem eSet_length : ∀ (ρ : Env') (i : Nat) (d : Option D), (eSet ρ i d).length = ρ.length
  | [], _, _ => rfl
  | _ :: _, 0, _ => rfl
  | x :: r, i + 1, d => by rw [eSet, List.length_cons, List.length_cons, eSet_length]
theorem eGet_set : ∀ {ρ : Env'} {i : Nat} {d : Option D} {e : D}, eGet (eSet ρ i d) i = some e → i < ρ.length ∧ d = some e
  | [], _, _, _, h => by cases h
  | _ :: _, 0, _, _, h => ⟨Nat.succ_pos _, h⟩
  | _ :: r, i + 1, _, _, h => let ⟨h1, h2⟩ := eGet_set (ρ := r) (i := i) h; ⟨Nat.succ_lt_succ h1, h2⟩
theorem eGet_ne : ∀ {ρ : Env'} {i j : Nat} {d : Option D}, i ≠ j → eGet (eSet ρ i d) j = eGet ρ j
  | [], _, _, _, _ => rfl
  | _ :: _, 0, 0, _, h => absurd rfl h
  | _ :: _, 0, _ + 1, _, _ => rfl
  | _ :: _, _ + 1, 0, _, _ => rfl
  | _ :: r, i + 1, j + 1, _, h => eGet_ne (ρ := r) (i := i) (j := j) fun z => h (by rw [z])
def EnvAt (K : PySem.W.Frag) (W : Wd) (H : Hp) (σ : L2.St) (ρ : Env') : Prop := σ.length = ρ.length ∧ ∀ (i : Nat) (d : D), eGet ρ i = some d → ∃ v, σ[i]? = some (some v) ∧ At K W H v d
theorem EnvAt.le {K : PySem.W.Frag} {W : Wd} {H H' : Hp} {n : Nat} {σ : L2.St} {ρ : Env'} (h : EnvAt K W H σ ρ) (o : W.ok K n H) (l : W.le H H') : EnvAt K W H' σ ρ :=
  ⟨h.1, fun i d e => let ⟨v, e', a⟩ := h.2 i d e; ⟨v, e', At.le o l d a⟩⟩
theorem EnvAt.set {K : PySem.W.Frag} {W : Wd} {H : Hp} {σ : L2.St} {ρ : Env'} {i : Nat} {v : V} {d : D} (h : EnvAt K W H σ ρ) (a : At K W H v d) : EnvAt K W H (σ.set i (some v)) (eSet ρ i (some d)) := by
  refine ⟨by rw [List.length_set, eSet_length]; exact h.1, fun j e he => ?_⟩
  by_cases hj : i = j
  · subst hj
    obtain ⟨hl, he⟩ := eGet_set he
    cases he
    exact ⟨v, by rw [List.getElem?_set_self (by rw [h.1]; exact hl)], a⟩
  · rw [eGet_ne hj] at he
    rw [List.getElem?_set_ne hj]
    exact h.2 j e he
/-- what is wanted of a value: any heap that has grown -/
def Wants (K : PySem.W.Frag) (W : Wd) (H : Hp) (Qa : D → Nat → Prop) (Q : VK) : Prop := ∀ d n', Qa d n' → ∀ H' v, W.le H H' → W.ok K n' H' → At K W H' v d → Q v H'
abbrev AE := Env' → Nat → (D → Nat → Prop) → Prop
class DE (K : PySem.W.Frag) (te : TE) (f : outParam AE) : Prop where
  run : ∀ (W : Wd) (σ : L2.St) (ρ : Env') (n : Nat) (H : Hp) (Q : VK) (Qa : D → Nat → Prop), Wants K W H Qa Q → EnvAt K W H σ ρ → W.ok K n H → f ρ n Qa → te σ H Q
abbrev AT := Env' → Nat → (Bool → Nat → Prop) → Prop
class DT (K : PySem.W.Frag) (te : TT) (f : outParam AT) : Prop where
  run : ∀ (W : Wd) (σ : L2.St) (ρ : Env') (n : Nat) (H : Hp) (Q : Bool → Hp → Prop) (Qa : Bool → Nat → Prop), (∀ b n', Qa b n' → ∀ H', W.le H H' → W.ok K n' H' → Q b H') → EnvAt K W H σ ρ → W.ok K n H → f ρ n Qa → te σ H Q
abbrev AA := Env' → Nat → (List D → Nat → Prop) → Prop
class DA (K : PySem.W.Frag) (te : TA) (f : outParam AA) : Prop where
  run : ∀ (W : Wd) (σ : L2.St) (ρ : Env') (n : Nat) (H : Hp) (Q : List V → Hp → Prop) (Qa : List D → Nat → Prop), (∀ ds n', Qa ds n' → ∀ H' vs, W.le H H' → W.ok K n' H' → AtAll K W H' vs ds → Q vs H') → EnvAt K W H σ ρ → W.ok K n H → f ρ n Qa → te σ H Q
/-- a choice whose side is not yet known -/
def aIte (b : Bool) (p q : Prop) : Prop := (b = true → p) ∧ (b = false → q)
theorem aT {p q : Prop} (h : p) : aIte true p q := ⟨fun _ => h, fun z => Bool.noConfusion z⟩
theorem aF {p q : Prop} (h : q) : aIte false p q := ⟨fun z => Bool.noConfusion z, fun _ => h⟩
section
variable {K : PySem.W.Frag}
/-- by values, one -/
class D1 (K : PySem.W.Frag) (r : V → Hp → VK → Prop) (f : outParam (D → Nat → (D → Nat → Prop) → Prop)) : Prop where
  run : ∀ (W : Wd) (n : Nat) (H : Hp) (x : V) (d : D) (Q : VK) (Qa : D → Nat → Prop), Wants K W H Qa Q → W.ok K n H → At K W H x d → f d n Qa → r x H Q
class D2 (K : PySem.W.Frag) (r : R2) (f : outParam (D → D → Nat → (D → Nat → Prop) → Prop)) : Prop where
  run : ∀ (W : Wd) (n : Nat) (H : Hp) (x y : V) (d e : D) (Q : VK) (Qa : D → Nat → Prop), Wants K W H Qa Q → W.ok K n H → At K W H x d → At K W H y e → f d e n Qa → r x y H Q
class DL (K : PySem.W.Frag) (r : List V → Hp → VK → Prop) (f : outParam (List D → Nat → (D → Nat → Prop) → Prop)) : Prop where
  run : ∀ (W : Wd) (n : Nat) (H : Hp) (xs : List V) (ds : List D) (Q : VK) (Qa : D → Nat → Prop), Wants K W H Qa Q → W.ok K n H → AtAll K W H xs ds → f ds n Qa → r xs H Q
theorem Wants.le {W : Wd} {H H1 : Hp} {Qa : D → Nat → Prop} {Q : VK} (h : Wants K W H Qa Q) (l : W.le H H1) : Wants K W H1 Qa Q := fun d n' q H' v l' o a => h d n' q H' v (l.trans l') o a
theorem Wants.now {W : Wd} {H : Hp} {Qa : D → Nat → Prop} {Q : VK} {n : Nat} {d : D} {v : V} (h : Wants K W H Qa Q) (o : W.ok K n H) (q : Qa d n) (a : At K W H v d) : Q v H := h d n q H v Wd.le_refl o a
/-- a new object -/
theorem Wants.new {W : Wd} {H : Hp} {Qa : D → Nat → Prop} {Q : VK} {n : Nat} {d : D} {p : Addr} {ob : HO} (h : Wants K W H Qa Q) (o : W.ok K n H) (q : Qa d n) (hp : H p = none) (a : At K W (upd H p ob) (.ref p) d) : Q (.ref p) (upd H p ob) :=
  h d n q _ _ (Wd.le_same (same_upd hp)) (o.same (same_upd hp)) a
/-! expressions -/
def aVar (i : Nat) : AE := fun ρ n Q => match eGet ρ i with
  | some d => Q d n
  | none => False
instance {i : Nat} : DE K (tVar i) (aVar i) := ⟨fun W σ ρ n H Q Qa hQ hE o h => by
  unfold aVar at h
  split at h
  · rename_i d e
    obtain ⟨v, e', a⟩ := hE.2 i d e
    exact ⟨v, e', hQ.now o h a⟩
  · exact h.elim⟩
def vD : V → Option D
  | .non => some .non | .bl b => some (.bl b) | .int i => some (.int i) | .str x => some (.str x)
  | _ => none
theorem vD_at {W : Wd} {H : Hp} {v : V} {d : D} (h : vD v = some d) : At K W H v d := by
  cases v <;> cases h
  · exact .non
  · exact .bl _
  · exact .int _
  · exact .str _
def aC (v : V) : AE := fun _ n Q => match vD v with
  | some d => Q d n
  | none => False
instance (priority := 100) {v : V} : DE K (tC v) (aC v) := ⟨fun W σ ρ n H Q Qa hQ hE o h => by
  unfold aC at h
  split at h
  · rename_i d e
    exact hQ.now o h (vD_at e)
  · exact h.elim⟩
def a1 (f : D → Nat → (D → Nat → Prop) → Prop) (fa : AE) : AE := fun ρ n Q => fa ρ n fun d n1 => f d n1 Q
def a2 (f : D → D → Nat → (D → Nat → Prop) → Prop) (fa fb : AE) : AE := fun ρ n Q => fa ρ n fun d n1 => fb ρ n1 fun e n2 => f d e n2 Q
instance {r : R2} {f : D → D → Nat → (D → Nat → Prop) → Prop} {ta tb : TE} {fa fb : AE} [D2 K r f] [DE K ta fa] [DE K tb fb] : DE K (tOp r ta tb) (a2 f fa fb) := ⟨fun W σ ρ n H Q Qa hQ hE o h =>
  DE.run (te := ta) (f := fa) W σ ρ n H _ _ (fun d n1 h1 H1 x l1 o1 ax => DE.run (te := tb) (f := fb) W σ ρ n1 H1 _ _ (fun e n2 h2 H2 y l2 o2 ay => D2.run (f := f) W n2 H2 x y d e Q Qa (hQ.le (l1.trans l2)) o2 (At.le o1 l2 d ax) ay h2) (hE.le o l1) o1 h1) hE o h⟩
instance {r : V → Hp → VK → Prop} {f : D → Nat → (D → Nat → Prop) → Prop} {ta : TE} {fa : AE} [D1 K r f] [DE K ta fa] : DE K (tUn r ta) (a1 f fa) := ⟨fun W σ ρ n H Q Qa hQ hE o h =>
  DE.run (te := ta) (f := fa) W σ ρ n H _ _ (fun d n1 h1 H1 x l1 o1 ax => D1.run (f := f) W n1 H1 x d Q Qa (hQ.le l1) o1 ax h1) hE o h⟩
def aInt2 (C : Int → Int → Prop) (g : Int → Int → V) : D → D → Nat → (D → Nat → Prop) → Prop
  | .int i, .int j, n, Q => C i j ∧ (match vD (g i j) with
    | some d => Q d n
    | none => False)
  | _, _, _, _ => False
def aInt0 (g : Int → Int → V) : D → D → Nat → (D → Nat → Prop) → Prop
  | .int i, .int j, n, Q => (match vD (g i j) with
    | some d => Q d n
    | none => False)
  | _, _, _, _ => False
instance {C : Int → Int → Prop} {g : Int → Int → V} : D2 K (rI C g) (aInt2 C g) := ⟨fun W n H x y d e Q Qa hQ o ax ay h => by
  unfold aInt2 at h
  split at h
  · obtain ⟨hc, h⟩ := h
    cases ax
    cases ay
    refine ⟨_, _, rfl, rfl, hc, ?_⟩
    split at h
    · rename_i d e
      exact hQ.now o h (vD_at e)
    · exact h.elim
  · exact h.elim⟩
instance {g : Int → Int → V} : D2 K (rI0 g) (aInt0 g) := ⟨fun W n H x y d e Q Qa hQ o ax ay h => by
  unfold aInt0 at h
  split at h
  · cases ax
    cases ay
    refine ⟨_, _, rfl, rfl, ?_⟩
    split at h
    · rename_i d e
      exact hQ.now o h (vD_at e)
    · exact h.elim
  · exact h.elim⟩
def aIntU (g : Int → V) : D → Nat → (D → Nat → Prop) → Prop
  | .int i, n, Q => (match vD (g i) with
    | some d => Q d n
    | none => False)
  | _, _, _ => False
instance {g : Int → V} : D1 K (rU g) (aIntU g) := ⟨fun W n H x d Q Qa hQ o ax h => by
  unfold aIntU at h
  split at h
  · cases ax
    refine ⟨_, rfl, ?_⟩
    split at h
    · rename_i d e
      exact hQ.now o h (vD_at e)
    · exact h.elim
  · exact h.elim⟩
/-! == of scalars -/
def eqS : D → D → Option Bool
  | .int i, .int j => some (decide (i = j)) | .bl i, .bl j => some (decide (i = j)) | .str i, .str j => some (decide (i = j)) | .non, .non => some true
  | .non, .int _ => some false | .int _, .non => some false | .non, .bl _ => some false | .bl _, .non => some false | .non, .str _ => some false | .str _, .non => some false
  | .int _, .str _ => some false | .str _, .int _ => some false | .bl _, .str _ => some false | .str _, .bl _ => some false
  | _, _ => none
def aEqS (f : Bool → Bool) : D → D → Nat → (D → Nat → Prop) → Prop := fun d e n Q => match eqS d e with
  | some b => Q (.bl (f b)) n
  | none => False
theorem eqS_is {W : Wd} {H : Hp} {x y : V} {d e : D} {b : Bool} (ax : At K W H x d) (ay : At K W H y e) (h : eqS d e = some b) : scal x y = true ∧ decide (x = y) = b := by
  cases ax <;> cases ay <;> first
    | cases h; done
    | (cases h; refine ⟨rfl, ?_⟩; first
        | rfl
        | (refine decide_eq_decide.mpr ⟨fun z => ?_, fun z => by rw [z]⟩; injection z))
instance : D2 K rEq (aEqS id) := ⟨fun W n H x y d e Q Qa hQ o ax ay h => by
  unfold aEqS at h
  split at h
  · rename_i b e
    obtain ⟨h1, h2⟩ := eqS_is ax ay e
    refine ⟨h1, ?_⟩
    rw [h2]
    exact hQ.now o h (.bl _)
  · exact h.elim⟩
instance : D2 K rNe (aEqS not) := ⟨fun W n H x y d e Q Qa hQ o ax ay h => by
  unfold aEqS at h
  split at h
  · rename_i b e
    obtain ⟨h1, h2⟩ := eqS_is ax ay e
    refine ⟨h1, ?_⟩
    rw [h2]
    exact hQ.now o h (.bl _)
  · exact h.elim⟩
/-! tests -/
def aTest (f : AE) : AT := fun ρ n Q => f ρ n fun d n1 => match d with
  | .bl b => Q b n1
  | _ => False
theorem aTest_run {te : TE} {f : AE} [DE K te f] (W : Wd) (σ : L2.St) (ρ : Env') (n : Nat) (H : Hp) (Q : Bool → Hp → Prop) (Qa : Bool → Nat → Prop) (hQ : ∀ b n', Qa b n' → ∀ H', W.le H H' → W.ok K n' H' → Q b H') (hE : EnvAt K W H σ ρ) (o : W.ok K n H) (h : aTest f ρ n Qa) :
    te σ H fun x H' => ∃ k, x = .bl k ∧ Q k H' :=
  DE.run (te := te) (f := f) W σ ρ n H _ _ (fun d n1 h1 H1 x l1 o1 ax => by
    split at h1
    · cases ax
      exact ⟨_, rfl, hQ _ _ h1 H1 l1 o1⟩
    · exact h1.elim) hE o h
instance {te : TE} {f : AE} [DE K te f] : DT K (tTest te) (aTest f) := ⟨aTest_run⟩
instance {te : TE} {f : AE} [DE K te f] : DT K (tB te) (aTest f) := ⟨aTest_run⟩
def aNotT (f : AT) : AT := fun ρ n Q => f ρ n fun b n1 => Q (!b) n1
instance {t : TT} {f : AT} [DT K t f] : DT K (tNot t) (aNotT f) := ⟨fun W σ ρ n H Q Qa hQ hE o h => DT.run (te := t) (f := f) W σ ρ n H _ _ (fun b n1 h1 H1 l1 o1 => hQ _ _ h1 H1 l1 o1) hE o h⟩
def aAndT (f g : AT) : AT := fun ρ n Q => f ρ n fun b n1 => aIte b (g ρ n1 Q) (Q false n1)
def aOrT (f g : AT) : AT := fun ρ n Q => f ρ n fun b n1 => aIte b (Q true n1) (g ρ n1 Q)
instance {t u : TT} {f g : AT} [DT K t f] [DT K u g] : DT K (tAnd t u) (aAndT f g) := ⟨fun W σ ρ n H Q Qa hQ hE o h =>
  DT.run (te := t) (f := f) W σ ρ n H _ _ (fun b n1 h1 H1 l1 o1 => by
    cases b with
    | true => rw [if_pos rfl]; exact DT.run (te := u) (f := g) W σ ρ n1 H1 Q Qa (fun b n2 h2 H2 l2 o2 => hQ _ _ h2 H2 (l1.trans l2) o2) (hE.le o l1) o1 (h1.1 rfl)
    | false => rw [if_neg Bool.false_ne_true]; exact hQ _ _ (h1.2 rfl) H1 l1 o1) hE o h⟩
instance {t u : TT} {f g : AT} [DT K t f] [DT K u g] : DT K (tOr t u) (aOrT f g) := ⟨fun W σ ρ n H Q Qa hQ hE o h =>
  DT.run (te := t) (f := f) W σ ρ n H _ _ (fun b n1 h1 H1 l1 o1 => by
    cases b with
    | false => rw [if_neg Bool.false_ne_true]; exact DT.run (te := u) (f := g) W σ ρ n1 H1 Q Qa (fun b n2 h2 H2 l2 o2 => hQ _ _ h2 H2 (l1.trans l2) o2) (hE.le o l1) o1 (h1.2 rfl)
    | true => rw [if_pos rfl]; exact hQ _ _ (h1.1 rfl) H1 l1 o1) hE o h⟩
def aYes : AT := fun _ n Q => Q true n
instance : DT K tYes aYes := ⟨fun W σ ρ n H Q Qa hQ hE o h => hQ _ _ h H Wd.le_refl o⟩
def aNotV (f : AE) : AE := fun ρ n Q => f ρ n fun d n1 => match d with
  | .bl b => Q (.bl (!b)) n1
  | _ => False
def aBits (f : AE) : AE := fun ρ n Q => f ρ n fun d n1 => match d with
  | .int i => Q (.int (Builtin.Int.intBits i : Nat)) n1
  | _ => False
def aAndV (f g : AE) : AE := fun ρ n Q => f ρ n fun d n1 => match d with
  | .bl b => aIte b (g ρ n1 Q) (Q (.bl false) n1)
  | _ => False
def aOrV (f g : AE) : AE := fun ρ n Q => f ρ n fun d n1 => match d with
  | .bl b => aIte b (Q (.bl true) n1) (g ρ n1 Q)
  | _ => False
instance {te : TE} {f : AE} [DE K te f] : DE K (tNotV te) (aNotV f) := ⟨fun W σ ρ n H Q Qa hQ hE o h =>
  DE.run (te := te) (f := f) W σ ρ n H _ _ (fun d n1 h1 H1 x l1 o1 ax => by
    split at h1
    · cases ax
      exact ⟨_, rfl, (hQ.le l1).now o1 h1 (.bl _)⟩
    · exact h1.elim) hE o h⟩
instance {te : TE} {f : AE} [DE K te f] : DE K (tBits te) (aBits f) := ⟨fun W σ ρ n H Q Qa hQ hE o h =>
  DE.run (te := te) (f := f) W σ ρ n H _ _ (fun d n1 h1 H1 x l1 o1 ax => by
    split at h1
    · cases ax
      exact ⟨_, rfl, (hQ.le l1).now o1 h1 (.int _)⟩
    · exact h1.elim) hE o h⟩
instance {te tu : TE} {f g : AE} [DE K te f] [DE K tu g] : DE K (tAndV te tu) (aAndV f g) := ⟨fun W σ ρ n H Q Qa hQ hE o h =>
  DE.run (te := te) (f := f) W σ ρ n H _ _ (fun d n1 h1 H1 x l1 o1 ax => by
    split at h1
    · rename_i b
      cases ax
      refine ⟨_, rfl, ?_⟩
      cases b with
      | true => rw [if_pos rfl]; exact DE.run (te := tu) (f := g) W σ ρ n1 H1 Q Qa (hQ.le l1) (hE.le o l1) o1 (h1.1 rfl)
      | false => rw [if_neg Bool.false_ne_true]; exact (hQ.le l1).now o1 (h1.2 rfl) (.bl _)
    · exact h1.elim) hE o h⟩
instance {te tu : TE} {f g : AE} [DE K te f] [DE K tu g] : DE K (tOrV te tu) (aOrV f g) := ⟨fun W σ ρ n H Q Qa hQ hE o h =>
  DE.run (te := te) (f := f) W σ ρ n H _ _ (fun d n1 h1 H1 x l1 o1 ax => by
    split at h1
    · rename_i b
      cases ax
      refine ⟨_, rfl, ?_⟩
      cases b with
      | false => rw [if_neg Bool.false_ne_true]; exact DE.run (te := tu) (f := g) W σ ρ n1 H1 Q Qa (hQ.le l1) (hE.le o l1) o1 (h1.2 rfl)
      | true => rw [if_pos rfl]; exact (hQ.le l1).now o1 (h1.1 rfl) (.bl _)
    · exact h1.elim) hE o h⟩
def aIfE (c : AT) (f g : AE) : AE := fun ρ n Q => c ρ n fun b n1 => aIte b (f ρ n1 Q) (g ρ n1 Q)
instance {tc : TT} {te tu : TE} {c : AT} {f g : AE} [DT K tc c] [DE K te f] [DE K tu g] : DE K (tIf tc te tu) (aIfE c f g) := ⟨fun W σ ρ n H Q Qa hQ hE o h =>
  DT.run (te := tc) (f := c) W σ ρ n H _ _ (fun b n1 h1 H1 l1 o1 => by
    cases b with
    | true => rw [if_pos rfl]; exact DE.run (te := te) (f := f) W σ ρ n1 H1 Q Qa (hQ.le l1) (hE.le o l1) o1 (h1.1 rfl)
    | false => rw [if_neg Bool.false_ne_true]; exact DE.run (te := tu) (f := g) W σ ρ n1 H1 Q Qa (hQ.le l1) (hE.le o l1) o1 (h1.2 rfl)) hE o h⟩
def aChain (f g : D → D → Nat → (D → Nat → Prop) → Prop) (fa fb fc : AE) : AE := fun ρ n Q => fa ρ n fun x n1 => fb ρ n1 fun y n2 => f x y n2 fun z n3 => match z with
  | .bl b => aIte b (fc ρ n3 fun w n4 => g y w n4 Q) (Q (.bl false) n3)
  | _ => False
instance {r r' : R2} {f g : D → D → Nat → (D → Nat → Prop) → Prop} {ta tb tc : TE} {fa fb fc : AE} [D2 K r f] [D2 K r' g] [DE K ta fa] [DE K tb fb] [DE K tc fc] : DE K (tChain r r' ta tb tc) (aChain f g fa fb fc) := ⟨fun W σ ρ n H Q Qa hQ hE o h =>
  DE.run (te := ta) (f := fa) W σ ρ n H _ _ (fun d n1 h1 H1 x l1 o1 ax => DE.run (te := tb) (f := fb) W σ ρ n1 H1 _ _ (fun e n2 h2 H2 y l2 o2 ay => D2.run (f := f) W n2 H2 x y d e _ _ (fun z n3 h3 H3 v l3 o3 az => by
    split at h3
    · rename_i b
      cases az
      refine ⟨_, rfl, ?_⟩
      have l13 := l1.trans (l2.trans l3)
      cases b with
      | true =>
        rw [if_pos rfl]
        exact DE.run (te := tc) (f := fc) W σ ρ n3 H3 _ _ (fun w n4 h4 H4 u l4 o4 au => D2.run (f := g) W n4 H4 y u e w Q Qa (hQ.le (l13.trans l4)) o4 (At.le o2 (l3.trans l4) e ay) au h4) (hE.le o l13) o3 (h3.1 rfl)
      | false => rw [if_neg Bool.false_ne_true]; exact (hQ.le l13).now o3 (h3.2 rfl) (.bl _)
    · exact h3.elim) o2 (At.le o1 l2 d ax) ay h2) (hE.le o l1) o1 h1) hE o h⟩
/-! argument lists, displays, calls -/
def aNil : AA := fun _ n Q => Q [] n
def aCons (f : AE) (g : AA) : AA := fun ρ n Q => f ρ n fun d n1 => g ρ n1 fun ds n2 => Q (d :: ds) n2
instance : DA K tNil aNil := ⟨fun W σ ρ n H Q Qa hQ hE o h => hQ _ _ h H _ Wd.le_refl o .nil⟩
instance {te : TE} {ta : TA} {f : AE} {g : AA} [DE K te f] [DA K ta g] : DA K (tCons te ta) (aCons f g) := ⟨fun W σ ρ n H Q Qa hQ hE o h =>
  DE.run (te := te) (f := f) W σ ρ n H _ _ (fun d n1 h1 H1 x l1 o1 ax => DA.run (te := ta) (f := g) W σ ρ n1 H1 _ _ (fun ds n2 h2 H2 xs l2 o2 axs => hQ _ _ h2 H2 _ (l1.trans l2) o2 (.cons (At.le o1 l2 d ax) axs)) (hE.le o l1) o1 h1) hE o h⟩
def aTup (g : AA) : AE := fun ρ n Q => g ρ n fun ds n1 => match Nat.ble ds.length 1000 with
  | true => Q (.tup ds) n1
  | false => False
def aLst (g : AA) : AE := fun ρ n Q => g ρ n fun ds n1 => match Nat.ble ds.length 1000 with
  | true => Q (.lst ds) n1
  | false => False
instance {ta : TA} {g : AA} [DA K ta g] : DE K (tTup ta) (aTup g) := ⟨fun W σ ρ n H Q Qa hQ hE o h =>
  DA.run (te := ta) (f := g) W σ ρ n H _ _ (fun ds n1 h1 H1 xs l1 o1 ax => by
    split at h1
    · rename_i e
      refine ⟨size63 (by rw [ax.length]; exact Nat.le_of_ble_eq_true e), fun p hp => (hQ.le l1).new o1 h1 hp ?_⟩
      exact .tup (.inl (.inl upd_same)) (AtAll.le o1 (Wd.le_same (same_upd hp)) ds ax)
    · exact h1.elim) hE o h⟩
instance {ta : TA} {g : AA} [DA K ta g] : DE K (tLst ta) (aLst g) := ⟨fun W σ ρ n H Q Qa hQ hE o h =>
  DA.run (te := ta) (f := g) W σ ρ n H _ _ (fun ds n1 h1 H1 xs l1 o1 ax => by
    split at h1
    · rename_i e
      refine ⟨size63 (by rw [ax.length]; exact Nat.le_of_ble_eq_true e), fun p hp => (hQ.le l1).new o1 h1 hp ?_⟩
      exact .lst (o1.fresh hp) upd_same (AtAll.le o1 (Wd.le_same (same_upd hp)) ds ax)
    · exact h1.elim) hE o h⟩
abbrev ASp := List D → Nat → (D → Nat → Prop) → Prop
/-- the promise of a def that only makes new things (and draws) -/
def spOf (K : PySem.W.Frag) (k : Nat) (A : ASp) : Sp := fun vs H Q _ => ∃ (W : Wd) (n : Nat) (ds : List D) (Qa : D → Nat → Prop), AtAll K W H vs ds ∧ ds.length = k ∧ W.ok K n H ∧ Wants K W H Qa Q ∧ A ds n Qa
def aCall (k : Nat) (A : ASp) (g : AA) : AE := fun ρ n Q => g ρ n fun ds n1 => match Nat.beq ds.length k with
  | true => A ds n1 Q
  | false => False
instance {k : Nat} {A : ASp} {E : XK} {ta : TA} {g : AA} [DA K ta g] : DE K (tCall (spOf K k A) [] E ta) (aCall k A g) := ⟨fun W σ ρ n H Q Qa hQ hE o h =>
  DA.run (te := ta) (f := g) W σ ρ n H _ _ (fun ds n1 h1 H1 xs l1 o1 ax => by
    rw [List.append_nil]
    split at h1
    · rename_i e
      exact ⟨W, n1, ds, Qa, ax, Nat.eq_of_beq_eq_true e, o1, hQ.le l1, h1⟩
    · exact h1.elim) hE o h⟩
def aCB (f : List D → Nat → (D → Nat → Prop) → Prop) (g : AA) : AE := fun ρ n Q => g ρ n fun ds n1 => f ds n1 Q
instance {r : List V → Hp → VK → Prop} {f : List D → Nat → (D → Nat → Prop) → Prop} {ta : TA} {g : AA} [DL K r f] [DA K ta g] : DE K (tCB r ta) (aCB f g) := ⟨fun W σ ρ n H Q Qa hQ hE o h =>
  DA.run (te := ta) (f := g) W σ ρ n H _ _ (fun ds n1 h1 H1 xs l1 o1 ax => DL.run (f := f) W n1 H1 xs ds Q Qa (hQ.le l1) o1 ax h1) hE o h⟩
end

/-! ### the mirror, second part: rules over the kinds -/
section
variable {K : PySem.W.Frag}
theorem take_at {W : Wd} {H : Hp} : ∀ (k : Nat) {vs : List V} {ds : List D}, AtAll K W H vs ds → AtAll K W H (vs.take k) (ds.take k)
  | 0, _, _, _ => .nil
  | k + 1, _, [], h => by cases h; exact .nil
  | k + 1, _, d :: ds, h => by
    cases h with
    | cons a r => exact .cons a (take_at k r)
theorem drop_at {W : Wd} {H : Hp} : ∀ (k : Nat) {vs : List V} {ds : List D}, AtAll K W H vs ds → AtAll K W H (vs.drop k) (ds.drop k)
  | 0, _, _, h => h
  | k + 1, _, [], h => by cases h; exact .nil
  | k + 1, _, d :: ds, h => by
    cases h with
    | cons a r => exact drop_at k r
theorem rev_at {W : Wd} {H : Hp} : ∀ {vs : List V} {ds : List D}, AtAll K W H vs ds → AtAll K W H vs.reverse ds.reverse
  | _, [], h => by cases h; exact .nil
  | _, d :: ds, h => by
    cases h with
    | cons a r =>
      rw [List.reverse_cons, List.reverse_cons]
      exact (rev_at r).append (.cons a .nil)
theorem atI_at {W : Wd} {H : Hp} {vs : List V} {ds : List D} {i : Int} {d : D} (h : AtAll K W H vs ds) (e : atI ds i = some d) : ∃ v, atI vs i = some v ∧ At K W H v d := by
  unfold atI at e ⊢
  rw [h.length]
  cases e1 : ixN ds.length i with
  | none => rw [e1] at e; cases e
  | some j =>
    rw [e1] at e
    obtain ⟨v, h1, h2⟩ := h.get (i := j) e
    exact ⟨v, h1, h2⟩
theorem lim : (1000000 : Nat) ≤ sizeLine := by rw [sizeLine_eq]; decide
/-! a place in a list, a tuple, a text -/
def aIx : D → D → Nat → (D → Nat → Prop) → Prop
  | .tup ds, .int i, n, Q => (match atI ds i with
    | some d => Q d n
    | none => False)
  | .lst ds, .int i, n, Q => (match atI ds i with
    | some d => Q d n
    | none => False)
  | .str z, .int i, n, Q => z.length ≤ 1000000 ∧ (match atI z.cps.toList i with
    | some c => Q (.str ⟨#[c]⟩) n
    | none => False)
  | _, _, _, _ => False
instance : D2 K (rIx K) aIx := ⟨fun W n H x y d e Q Qa hQ o ax ay h => by
  unfold aIx at h
  split at h
  · cases ay
    cases ax with
    | tup s a =>
      split at h
      · rename_i d' e'
        obtain ⟨v, h1, h2⟩ := atI_at a e'
        exact .inr (.inl ⟨_, _, _, v, rfl, rfl, s, h1, hQ.now o h h2⟩)
      · exact h.elim
  · cases ay
    cases ax with
    | lst r s a =>
      split at h
      · rename_i d' e'
        obtain ⟨v, h1, h2⟩ := atI_at a e'
        exact .inl ⟨_, _, _, v, rfl, rfl, SqL.of s, h1, hQ.now o h h2⟩
      · exact h.elim
  · cases ay
    cases ax
    obtain ⟨hl, h⟩ := h
    split at h
    · rename_i c e'
      exact .inr (.inr ⟨_, _, c, rfl, rfl, Nat.le_trans hl lim, e', hQ.now o h (.str _)⟩)
    · exact h.elim
  · exact h.elim⟩
theorem k_ix {X : Cx} (hK : X.K = K) : IxR X (rIx K) := hK ▸ ix_seq
/-- the same, where the place is not written -/
def rIxY (K : PySem.W.Frag) : R2 := rIx K
@[irreducible] def aIxS : D → D → Nat → (D → Nat → Prop) → Prop := aIx
instance : D2 K (rIxY K) aIxS := ⟨fun W n H x y d e Q Qa hQ o ax ay h => by
  unfold aIxS at h
  exact D2.run (K := K) (r := rIx K) (f := aIx) W n H x y d e Q Qa hQ o ax ay h⟩
theorem k_ixS {X : Cx} (hK : X.K = K) : IxR X (rIxY K) := hK ▸ ix_seq
theorem aIx_lst {ds : List D} {i : Int} {d : D} {n : Nat} {Q : D → Nat → Prop} (e : atI ds i = some d) (q : Q d n) : aIxS (.lst ds) (.int i) n Q := by
  unfold aIxS
  show (match atI ds i with
    | some d => Q d n
    | none => False)
  rw [e]
  exact q
theorem aIx_tup {ds : List D} {i : Int} {d : D} {n : Nat} {Q : D → Nat → Prop} (e : atI ds i = some d) (q : Q d n) : aIxS (.tup ds) (.int i) n Q := by
  unfold aIxS
  show (match atI ds i with
    | some d => Q d n
    | none => False)
  rw [e]
  exact q
/-! + -/
def rAddA (K : PySem.W.Frag) : R2 := fun x y H Q => (rI0 (fun i j => .int (i + j)) x y H Q ∨ rCat x y H Q) ∨ (rCatT K x y H Q ∨ ∃ i j, x = .str i ∧ y = .str j ∧ i.length + j.length ≤ sizeLine ∧ Q (.str (i ++ j)) H)
theorem OpR.or' {X : Cx} {op : Value → Value → Sem Value} {r r' : R2} (h : OpR X op r) (h' : OpR X op r') : OpR X op (fun x y H Q => r x y H Q ∨ r' x y H Q) := by
  intro pins s σ H x y v u Q I rx ry q
  rcases q with q | q
  · exact h pins s σ H x y v u Q I rx ry q
  · exact h' pins s σ H x y v u Q I rx ry q
theorem k_add {X : Cx} (hK : X.K = K) : OpR X (binaryOp .Add) (rAddA K) := hK ▸ OpR.or' (OpR.or' op_add op_cat) (OpR.or' op_catT op_add_str)
def aAdd : D → D → Nat → (D → Nat → Prop) → Prop
  | .int i, .int j, n, Q => Q (.int (i + j)) n
  | .lst ds, .lst es, n, Q => ds.length + es.length ≤ 1000000 ∧ Q (.lst (ds ++ es)) n
  | .tup ds, .tup es, n, Q => ds ≠ [] ∧ ds.length + es.length ≤ 1000000 ∧ Q (.tup (ds ++ es)) n
  | .str a, .str b, n, Q => a.length + b.length ≤ 1000000 ∧ Q (.str (a ++ b)) n
  | _, _, _, _ => False
instance : D2 K (rAddA K) aAdd := ⟨fun W n H x y d e Q Qa hQ o ax ay h => by
  unfold aAdd at h
  split at h
  · cases ax
    cases ay
    exact .inl (.inl ⟨_, _, rfl, rfl, hQ.now o h (.int _)⟩)
  · cases ax with
    | lst r s a =>
      cases ay with
      | lst r' s' a' =>
        refine .inl (.inr ⟨_, _, _, _, rfl, rfl, s, s', ?_, fun p hp => hQ.new o h.2 hp ?_⟩)
        · rw [a.length, a'.length]
          exact Nat.le_trans h.1 lim
        · exact .lst (o.fresh hp) upd_same ((AtAll.le o (Wd.le_same (same_upd hp)) _ a).append (AtAll.le o (Wd.le_same (same_upd hp)) _ a'))
  · cases ax with
    | tup s a =>
      cases ay with
      | tup s' a' =>
        obtain ⟨h0, h1, h2⟩ := h
        refine .inr (.inl ⟨_, _, _, _, rfl, rfl, s, s', ?_, ?_, fun z => ?_, fun z p hp => hQ.new o h2 hp ?_⟩)
        · rintro rfl
          cases a
          exact h0 rfl
        · rw [a.length, a'.length]
          exact Nat.le_trans h1 lim
        · subst z
          cases a'
          rw [List.append_nil] at h2
          exact hQ.now o h2 (.tup s a)
        · exact .tup (.inl (.inl upd_same)) ((AtAll.le o (Wd.le_same (same_upd hp)) _ a).append (AtAll.le o (Wd.le_same (same_upd hp)) _ a'))
  · cases ax
    cases ay
    exact .inr (.inr ⟨_, _, rfl, rfl, Nat.le_trans h.1 lim, hQ.now o h.2 (.str _)⟩)
  · exact h.elim⟩
/-! * and // of numbers of any size -/
def CMulA (i j : Int) : Prop := CMul i j ∨ CMulW i j
def CDivA (i j : Int) : Prop := CDiv i j ∨ CDivW i j
theorem k_mul {X : Cx} : OpR X (binaryOp .Mult) (rI CMulA fun i j => .int (i * j)) := by
  intro pins s σ H x y v u Q I rx ry q
  obtain ⟨i, j, h1, h2, h | h, q⟩ := q
  · exact op_mul pins s σ H x y v u Q I rx ry ⟨i, j, h1, h2, h, q⟩
  · exact op_mulW pins s σ H x y v u Q I rx ry ⟨i, j, h1, h2, h, q⟩
theorem k_fdiv {X : Cx} : OpR X (binaryOp .FloorDiv) (rI CDivA fun i j => .int (i / j)) := by
  intro pins s σ H x y v u Q I rx ry q
  obtain ⟨i, j, h1, h2, h | h, q⟩ := q
  · exact op_fdiv pins s σ H x y v u Q I rx ry ⟨i, j, h1, h2, h, q⟩
  · exact op_fdivW pins s σ H x y v u Q I rx ry ⟨i, j, h1, h2, h, q⟩
/-! == at any depth -/
mutual
def D.pd : D → PyData
  | .bl b => .bool b | .int i => .int i | .str x => .str x | .tup ds => .tuple (pdAll ds) | .lst ds => .list (pdAll ds)
  | _ => .none
def pdAll : List D → List PyData
  | [] => []
  | d :: ds => d.pd :: pdAll ds
end
mutual
def D.isD : D → Bool
  | .non => true | .bl _ => true | .int _ => true | .str _ => true | .tup ds => isDAll ds | .lst ds => isDAll ds
  | _ => false
def isDAll : List D → Bool
  | [] => true
  | d :: ds => d.isD && isDAll ds
end
mutual
theorem At.dp {W : Wd} {H : Hp} : ∀ (d : D) {v : V}, d.isD = true → At K W H v d → Dp K H v d.pd
  | .non, _, _, h => by cases h; exact .non
  | .bl b, _, _, h => by cases h; exact .bl b
  | .int i, _, _, h => by cases h; exact .int i
  | .str x, _, _, h => by cases h; exact .str x
  | .ty t, _, e, _ => Bool.noConfusion e
  | .cls a, _, e, _ => Bool.noConfusion e
  | .tup ds, _, e, h => by
    cases h with
    | tup s a => exact .tup s (AtAll.dp ds e a)
  | .lst ds, _, e, h => by
    cases h with
    | lst r s a => exact .lst (SqL.of s) (AtAll.dp ds e a)
  | .dic ks ds, _, e, _ => Bool.noConfusion e
  | .ins C ns ds, _, e, _ => Bool.noConfusion e
  | .deck, _, e, _ => Bool.noConfusion e
  | .xcp _ _ _ _ _, _, e, _ => Bool.noConfusion e
theorem AtAll.dp {W : Wd} {H : Hp} : ∀ (ds : List D) {vs : List V}, isDAll ds = true → AtAll K W H vs ds → DpAll K H vs (pdAll ds)
  | [], _, _, h => by cases h; exact .nil
  | d :: ds, _, e, h => by
    have e' : (d.isD && isDAll ds) = true := e
    rw [Bool.and_eq_true] at e'
    cases h with
    | cons a r => exact .cons (At.dp d e'.1 a) (AtAll.dp ds e'.2 r)
end
def rEqA (K : PySem.W.Frag) : R2 := fun x y H Q => rEq x y H Q ∨ rEqD K x y H Q
def rNeA (K : PySem.W.Frag) : R2 := fun x y H Q => rNe x y H Q ∨ rNeD K x y H Q
theorem k_eq {X : Cx} (hK : X.K = K) (hu : X.A.units + 64 < cLine) : OpR X (compareOp .Eq) (rEqA K) := hK ▸ OpR.or' op_eq (op_eqD hu)
theorem k_ne {X : Cx} (hK : X.K = K) (hu : X.A.units + 64 < cLine) : OpR X (compareOp .NotEq) (rNeA K) := hK ▸ OpR.or' op_ne (op_neD hu)
def aEq (f : Bool → Bool) : D → D → Nat → (D → Nat → Prop) → Prop := fun d e n Q => match eqS d e with
  | some b => Q (.bl (f b)) n
  | none => (d.isD = true ∧ e.isD = true ∧ SeqAt.shaped d.pd = true ∧ SeqAt.shaped e.pd = true) ∧ Q (.bl (f (PyData.eqv d.pd e.pd))) n
instance : D2 K (rEqA K) (aEq id) := ⟨fun W n H x y d e Q Qa hQ o ax ay h => by
  unfold aEq at h
  split at h
  · rename_i b e
    obtain ⟨h1, h2⟩ := eqS_is ax ay e
    refine .inl ⟨h1, ?_⟩
    rw [h2]
    exact hQ.now o h (.bl _)
  · obtain ⟨⟨h1, h2, h3, h4⟩, h⟩ := h
    exact .inr ⟨_, _, At.dp d h1 ax, At.dp e h2 ay, h3, h4, hQ.now o h (.bl _)⟩⟩
instance : D2 K (rNeA K) (aEq not) := ⟨fun W n H x y d e Q Qa hQ o ax ay h => by
  unfold aEq at h
  split at h
  · rename_i b e
    obtain ⟨h1, h2⟩ := eqS_is ax ay e
    refine .inl ⟨h1, ?_⟩
    rw [h2]
    exact hQ.now o h (.bl _)
  · obtain ⟨⟨h1, h2, h3, h4⟩, h⟩ := h
    exact .inr ⟨_, _, At.dp d h1 ax, At.dp e h2 ay, h3, h4, hQ.now o h (.bl _)⟩⟩
/-! is None -/
def rIsN : R2 := fun x y H Q => y = .non ∧ Q (.bl (decide (x = .non))) H
def rNotN : R2 := fun x y H Q => y = .non ∧ Q (.bl (!decide (x = .non))) H
theorem k_isN {X : Cx} : OpR X (compareOp .Is) rIsN := op_isN
theorem k_notN {X : Cx} : OpR X (compareOp .IsNot) rNotN := op_notN
def D.isN : D → Bool
  | .non => true
  | _ => false
def aIsN (f : Bool → Bool) : D → D → Nat → (D → Nat → Prop) → Prop
  | d, .non, n, Q => Q (.bl (f d.isN)) n
  | _, _, _, _ => False
theorem isN_is {W : Wd} {H : Hp} {x : V} {d : D} (ax : At K W H x d) : decide (x = .non) = d.isN := by
  cases ax <;> rfl
instance : D2 K rIsN (aIsN id) := ⟨fun W n H x y d e Q Qa hQ o ax ay h => by
  unfold aIsN at h
  split at h
  · cases ay
    refine ⟨rfl, ?_⟩
    rw [isN_is ax]
    exact hQ.now o h (.bl _)
  · exact h.elim⟩
instance : D2 K rNotN (aIsN not) := ⟨fun W n H x y d e Q Qa hQ o ax ay h => by
  unfold aIsN at h
  split at h
  · cases ay
    refine ⟨rfl, ?_⟩
    rw [isN_is ax]
    exact hQ.now o h (.bl _)
  · exact h.elim⟩
/-! built-in functions -/
def rLen (K : PySem.W.Frag) : List V → Hp → VK → Prop := fun xs H Q => ∃ x n, xs = [x] ∧ LenV K x H n ∧ Q (.int n) H
theorem k_len {X : Cx} (hK : X.K = K) : CallR X (.builtin "len") (rLen K) := hK ▸ call_len
def aLen : List D → Nat → (D → Nat → Prop) → Prop
  | [.tup ds], n, Q => Q (.int ds.length) n
  | [.lst ds], n, Q => Q (.int ds.length) n
  | [.str z], n, Q => z.length ≤ 1000000 ∧ Q (.int z.length) n
  | _, _, _ => False
instance : DL K (rLen K) aLen := ⟨fun W n H xs ds Q Qa hQ o a h => by
  unfold aLen at h
  split at h
  · cases a with
    | cons a r =>
      cases r
      cases a with
      | tup s a => exact ⟨_, _, rfl, .inr ⟨_, s, rfl⟩, by rw [a.length]; exact hQ.now o h (.int _)⟩
  · cases a with
    | cons a r =>
      cases r
      cases a with
      | lst _ s a => exact ⟨_, _, rfl, .inl ⟨_, SqL.of s, rfl⟩, by rw [a.length]; exact hQ.now o h (.int _)⟩
  · cases a with
    | cons a r =>
      cases r
      cases a
      exact ⟨_, _, rfl, ⟨Nat.le_trans h.1 lim, rfl⟩, hQ.now o h.2 (.int _)⟩
  · exact h.elim⟩
def rAbs : List V → Hp → VK → Prop := fun xs H Q => ∃ i, xs = [.int i] ∧ Q (.int (if i < 0 then -i else i)) H
theorem k_abs {X : Cx} : CallR X (.builtin "abs") rAbs := call_abs
def aAbs : List D → Nat → (D → Nat → Prop) → Prop
  | [.int i], n, Q => Q (.int (if i < 0 then -i else i)) n
  | _, _, _ => False
instance : DL K rAbs aAbs := ⟨fun W n H xs ds Q Qa hQ o a h => by
  unfold aAbs at h
  split at h
  · cases a with
    | cons a r =>
      cases r
      cases a
      exact ⟨_, rfl, hQ.now o h (.int _)⟩
  · exact h.elim⟩
def rMax2 : List V → Hp → VK → Prop := fun xs H Q => ∃ i j, xs = [.int i, .int j] ∧ Q (.int (if j > i then j else i)) H
def rMin2 : List V → Hp → VK → Prop := fun xs H Q => ∃ i j, xs = [.int i, .int j] ∧ Q (.int (if j < i then j else i)) H
theorem k_max2 {X : Cx} (hc : X.calm = true) : CallR X (.builtin "max") rMax2 := call_max2 hc
theorem k_min2 {X : Cx} (hc : X.calm = true) : CallR X (.builtin "min") rMin2 := call_min2 hc
def aMM (g : Int → Int → Int) : List D → Nat → (D → Nat → Prop) → Prop
  | [.int i, .int j], n, Q => Q (.int (g i j)) n
  | _, _, _ => False
instance : DL K rMax2 (aMM fun i j => if j > i then j else i) := ⟨fun W n H xs ds Q Qa hQ o a h => by
  unfold aMM at h
  split at h
  · cases a with
    | cons a r =>
      cases r with
      | cons b r =>
        cases r
        cases a
        cases b
        exact ⟨_, _, rfl, hQ.now o h (.int _)⟩
  · exact h.elim⟩
instance : DL K rMin2 (aMM fun i j => if j < i then j else i) := ⟨fun W n H xs ds Q Qa hQ o a h => by
  unfold aMM at h
  split at h
  · cases a with
    | cons a r =>
      cases r with
      | cons b r =>
        cases r
        cases a
        cases b
        exact ⟨_, _, rfl, hQ.now o h (.int _)⟩
  · exact h.elim⟩
def rListOf (K : PySem.W.Frag) : List V → Hp → VK → Prop := fun xs H Q => ∃ p ys, xs = [.ref p] ∧ (SqL K H p ys ∨ SqT K H p ys) ∧ ∀ l, H l = none → Q (.ref l) (upd H l (.lst ys))
def rTupOf (K : PySem.W.Frag) : List V → Hp → VK → Prop := fun xs H Q => ∃ p ys, xs = [.ref p] ∧ ((SqL K H p ys ∧ ∀ l, H l = none → Q (.ref l) (upd H l (.tup ys))) ∨ (SqT K H p ys ∧ Q (.ref p) H))
theorem k_list {X : Cx} (hK : X.K = K) : CallR X (.type "list") (rListOf K) := hK ▸ call_list_of
theorem k_tuple {X : Cx} (hK : X.K = K) : CallR X (.type "tuple") (rTupOf K) := hK ▸ call_tuple_of
def aListOf : List D → Nat → (D → Nat → Prop) → Prop
  | [.tup ds], n, Q => Q (.lst ds) n
  | [.lst ds], n, Q => Q (.lst ds) n
  | _, _, _ => False
def aTupOf : List D → Nat → (D → Nat → Prop) → Prop
  | [.tup ds], n, Q => Q (.tup ds) n
  | [.lst ds], n, Q => Q (.tup ds) n
  | _, _, _ => False
instance : DL K (rListOf K) aListOf := ⟨fun W n H xs ds Q Qa hQ o a h => by
  unfold aListOf at h
  split at h
  · cases a with
    | cons a r =>
      cases r
      cases a with
      | tup s a => exact ⟨_, _, rfl, .inr s, fun p hp => hQ.new o h hp (.lst (o.fresh hp) upd_same (AtAll.le o (Wd.le_same (same_upd hp)) _ a))⟩
  · cases a with
    | cons a r =>
      cases r
      cases a with
      | lst _ s a => exact ⟨_, _, rfl, .inl (SqL.of s), fun p hp => hQ.new o h hp (.lst (o.fresh hp) upd_same (AtAll.le o (Wd.le_same (same_upd hp)) _ a))⟩
  · exact h.elim⟩
instance : DL K (rTupOf K) aTupOf := ⟨fun W n H xs ds Q Qa hQ o a h => by
  unfold aTupOf at h
  split at h
  · cases a with
    | cons a r =>
      cases r
      cases a with
      | tup s a => exact ⟨_, _, rfl, .inr ⟨s, hQ.now o h (.tup s a)⟩⟩
  · cases a with
    | cons a r =>
      cases r
      cases a with
      | lst _ s a => exact ⟨_, _, rfl, .inl ⟨SqL.of s, fun p hp => hQ.new o h hp (.tup (.inl (.inl upd_same)) (AtAll.le o (Wd.le_same (same_upd hp)) _ a))⟩⟩
  · exact h.elim⟩
/-! isinstance -/
def D.tv : D → Option Ty
  | .non => some .non | .bl _ => some .bl | .int _ => some .int | .str _ => some .str | .tup _ => some .tup | .lst _ => some .lst | .dic _ _ => some .dic
  | _ => none
def isiB : Ty → Ty → Bool
  | .non, .non => true | .bl, .bl => true | .bl, .int => true | .int, .int => true | .str, .str => true | .tup, .tup => true | .lst, .lst => true | .dic, .dic => true
  | _, _ => false
theorem kitB_is (a b : Ty) (h : b ≠ .non) (hb : b ≠ .verr) (ha : a ≠ .verr) : kitB a.nm b.nm = some (isiB a b) := by
  cases a <;> cases b <;> first
    | exact absurd rfl h
    | exact absurd rfl hb
    | exact absurd rfl ha
    | decide +kernel
theorem tv_nv {d : D} (e : d.tv = some .verr) : False := by
  cases d <;> cases e
theorem tv_is {W : Wd} {H : Hp} {x : V} {d : D} {t : Ty} (ax : At K W H x d) (e : d.tv = some t) : TyX K H x (.type t.nm) := by
  cases ax <;> cases e
  · exact .base .non
  · exact .base (.bl _)
  · exact .base (.int _)
  · exact .base (.str _)
  · rename_i a xs ds s _
    rcases s with (h | ⟨o, h⟩) | ⟨o, its, n, h, hc, _⟩
    · exact .base (.tup h)
    · exact .fTuple h
    · exact .kTuple h hc
  · rename_i r s _
    exact .base (.lst s)
  · rename_i r s _ _
    exact .base (.dK s)
theorem k_isi {X : Cx} (hK : X.K = K) : CallR X (.builtin "isinstance") (rIsi K) := hK ▸ call_isi
/-- what isinstance asks of an own class -/
structure InsC (K : PySem.W.Frag) (C : Addr) : Prop where
  cl : Cls K C
  ha : PySem.W.findIn K (.ref C) "__class__" = some (some (.builtin "object.__class__"))
  hn : PySem.W.specialIn K (.builtin "object.__class__") "__get__" = some (some (.builtin "getset_descriptor.__get__"))
  ht : PySem.W.takesIn K (.builtin "object.__class__") = some true
  hm : PySem.W.mroIn K C (.type "object") = some true
def aIsi (K : PySem.W.Frag) : List D → Nat → (D → Nat → Prop) → Prop
  | [.ins C _ _, .ty t], n, Q => InsC K C ∧ ∃ b, PySem.W.kitOne K (.ref C) (.type t.nm) = some b ∧ Q (.bl b) n
  | [.ins C _ _, .cls c], n, Q => InsC K C ∧ ∃ b, PySem.W.kitOne K (.ref C) (.ref c) = some b ∧ Q (.bl b) n
  | [d, .cls c], n, Q => (match d.tv with
    | some t => ∃ b, PySem.W.kitOne K (.type t.nm) (.ref c) = some b ∧ Q (.bl b) n
    | none => False)
  | [d, .ty t], n, Q => (match d.tv, t with
    | some _, .non => False
    | some _, .verr => False
    | some t', t => Q (.bl (isiB t' t)) n
    | none, _ => False)
  | _, _, _ => False
instance : DL K (rIsi K) (aIsi K) := ⟨fun W n H xs ds Q Qa hQ o a h => by
  unfold aIsi at h
  split at h
  · cases a with
    | cons a r =>
      cases r with
      | cons b r =>
        cases r
        cases b
        cases a with
        | ins s e a =>
          obtain ⟨ic, b, hk, h⟩ := h
          exact ⟨_, _, _, _, b, rfl, .ty _, .base (.ins s ic.cl ic.ha ic.hn ic.ht ic.hm), hk, hQ.now o h (.bl _)⟩
  · cases a with
    | cons a r =>
      cases r with
      | cons b r =>
        cases r
        cases b
        cases a with
        | ins s e a =>
          obtain ⟨ic, b, hk, h⟩ := h
          exact ⟨_, _, _, _, b, rfl, .own _, .base (.ins s ic.cl ic.ha ic.hn ic.ht ic.hm), hk, hQ.now o h (.bl _)⟩
  · cases a with
    | cons a r =>
      cases r with
      | cons b r =>
        cases r
        cases b
        split at h
        · rename_i t e
          obtain ⟨b, hk, h⟩ := h
          exact ⟨_, _, _, _, b, rfl, .own _, tv_is a e, hk, hQ.now o h (.bl _)⟩
        · exact h.elim
  · cases a with
    | cons a r =>
      cases r with
      | cons b r =>
        cases r
        cases b
        split at h
        · exact h.elim
        · exact h.elim
        · rename_i t' e hne hne2
          exact ⟨_, _, _, _, _, rfl, .ty _, tv_is a e, kit_ty (kitB_is _ _ (fun z => hne z) (fun z => hne2 z) fun z => tv_nv (z ▸ e)), hQ.now o h (.bl _)⟩
        · exact h.elim
  · exact h.elim⟩
/-! constants of the program's top, classes and types as values -/
def tKon (a : Addr) : TE := tC (.ref a)
def tCls (a : Addr) : TE := tC (.ref a)
def tTy (t : Ty) : TE := tC (.ty t.nm)
class Kon (K : PySem.W.Frag) (a : Addr) (d : outParam D) : Prop where
  at_ : ∀ W H, At K W H (.ref a) d
def aD (d : D) : AE := fun _ n Q => Q d n
instance {a : Addr} {d : D} [k : Kon K a d] : DE K (tKon a) (aD d) := ⟨fun W σ ρ n H Q Qa hQ hE o h => hQ.now o h (k.at_ W H)⟩
instance {a : Addr} : DE K (tCls a) (aD (.cls a)) := ⟨fun W σ ρ n H Q Qa hQ hE o h => hQ.now o h (.cls a)⟩
instance {t : Ty} : DE K (tTy t) (aD (.ty t)) := ⟨fun W σ ρ n H Q Qa hQ hE o h => hQ.now o h (.ty t)⟩
theorem k_kon {X : Cx} {x : Str} {a : Addr} {pos : Pos} (hg : Gl X x) (hm : X.mg x = some (.ref a)) (hd : (x == ("__debug__" : Str)) = false := by decide) : PE X (.Name x pos) (tKon a) := pe_glob (v := .ref a) hg hm rfl hd
theorem k_cls {X : Cx} {x : Str} {a : Addr} {pos : Pos} (hg : Gl X x) (hm : X.mg x = some (.ref a)) (hd : (x == ("__debug__" : Str)) = false := by decide) : PE X (.Name x pos) (tCls a) := pe_glob (v := .ref a) hg hm rfl hd
theorem k_ty {X : Cx} {x : Str} {t : Ty} {pos : Pos} (hg : Gl X x) (hm : X.mg x = none) (hv : bootBuiltins x = some (.type t.nm)) (hn : x ≠ "__name__" := by decide) (hd : (x == ("__debug__" : Str)) = false := by decide) : PE X (.Name x pos) (tTy t) := pe_bltn (v := .ty t.nm) hg hm hv rfl hn hd
/-! fields -/
def tFldK (K : PySem.W.Frag) (ta : TE) (f : Str) : TE := tFld K ta f
theorem k_fld {X : Cx} {e : Expr} {ta : TE} {f : Str} {pos : Pos} (hK : X.K = K) (he : PE X e ta) (hb : attributeBase e f X.env (eval e X.env) = eval e X.env) : PE X (.Attribute e f pos) (tFldK K ta f) := hK ▸ pe_fld he hb
def aFld (K : PySem.W.Frag) (f : Str) (fa : AE) : AE := fun ρ n Q => fa ρ n fun d n1 => match d with
  | .ins C ns ds => (Cls K C ∧ NoAttr K C f) ∧ ∃ d, (ns.zip ds).lookup f = some d ∧ Q d n1
  | _ => False
theorem lookup_at {W : Wd} {H : Hp} {f : Str} : ∀ {ns : List Str} {vs : List V} {ds : List D} {d : D}, AtAll K W H vs ds → (ns.zip ds).lookup f = some d → ∃ v, (ns.zip vs).lookup f = some v ∧ At K W H v d
  | [], _, _, _, _, e => by cases e
  | _ :: _, _, [], _, h, e => by cases h; cases e
  | x :: ns, _, d :: ds, d', h, e => by
    cases h with
    | cons a r =>
      rw [List.zip_cons_cons, List.lookup_cons] at e ⊢
      cases hb : f == x with
      | true =>
        rw [hb] at e
        cases e
        exact ⟨_, rfl, a⟩
      | false =>
        rw [hb] at e
        exact lookup_at r e
instance {f : Str} {ta : TE} {fa : AE} [DE K ta fa] : DE K (tFldK K ta f) (aFld K f fa) := ⟨fun W σ ρ n H Q Qa hQ hE o h =>
  DE.run (te := ta) (f := fa) W σ ρ n H _ _ (fun d n1 h1 H1 x l1 o1 ax => by
    split at h1
    · obtain ⟨⟨hc, hn⟩, d, e, q⟩ := h1
      cases ax with
      | ins s e' a =>
        obtain ⟨v, h1, h2⟩ := lookup_at a e
        exact ⟨_, _, _, _, v, rfl, s, hc, hn, h1, (hQ.le l1).now o1 q h2⟩
    · exact h1.elim) hE o h⟩
/-! slices of lists -/
def cutL (xs : List D) (lo hi : Option Int) : List D := (xs.drop (HT.sIx xs.length 0 lo)).take (HT.sIx xs.length xs.length hi - HT.sIx xs.length 0 lo)
class DO (K : PySem.W.Frag) (te : TO) (f : outParam (Env' → Nat → (Option Int → Nat → Prop) → Prop)) : Prop where
  run : ∀ (W : Wd) (σ : L2.St) (ρ : Env') (n : Nat) (H : Hp) (Q : Option Int → Hp → Prop) (Qa : Option Int → Nat → Prop), (∀ b n', Qa b n' → ∀ H', W.le H H' → W.ok K n' H' → Q b H') → EnvAt K W H σ ρ → W.ok K n H → f ρ n Qa → te σ H Q
def aNoPart : Env' → Nat → (Option Int → Nat → Prop) → Prop := fun _ n Q => Q none n
def aPart (f : AE) : Env' → Nat → (Option Int → Nat → Prop) → Prop := fun ρ n Q => f ρ n fun d n1 => match d with
  | .int i => Q (some i) n1
  | _ => False
instance : DO K tNoPart aNoPart := ⟨fun W σ ρ n H Q Qa hQ hE o h => hQ _ _ h H Wd.le_refl o⟩
instance {te : TE} {f : AE} [DE K te f] : DO K (tPart te) (aPart f) := ⟨fun W σ ρ n H Q Qa hQ hE o h =>
  DE.run (te := te) (f := f) W σ ρ n H _ _ (fun d n1 h1 H1 x l1 o1 ax => by
    split at h1
    · cases ax
      exact ⟨_, rfl, hQ _ _ h1 H1 l1 o1⟩
    · exact h1.elim) hE o h⟩
def rSlA (K : PySem.W.Frag) : V → Option Int → Option Int → Hp → VK → Prop := fun x lo hi H Q => rSlL K x lo hi H Q ∨ (fun x lo hi H Q => rSlT K x lo hi H Q ∨ rSlS x lo hi H Q) x lo hi H Q
def aCut (d : D) (l u : Option Int) (n : Nat) (Q : D → Nat → Prop) : Prop := match d with
  | .lst ds => Q (.lst (cutL ds l u)) n
  | .tup ds => ¬ (HT.sIx ds.length 0 l = 0 ∧ HT.sIx ds.length ds.length u = ds.length) ∧ Q (.tup (cutL ds l u)) n
  | .str z => z.length ≤ 1000000 ∧ Q (.str (cutS z l u)) n
  | _ => False
def aSl (fa : AE) (fl fu : Env' → Nat → (Option Int → Nat → Prop) → Prop) : AE := fun ρ n Q => fa ρ n fun d n1 => fl ρ n1 fun l n2 => fu ρ n2 fun u n3 => aCut d l u n3 Q
instance {te : TE} {tl tu : TO} {fa : AE} {fl fu : Env' → Nat → (Option Int → Nat → Prop) → Prop} [DE K te fa] [DO K tl fl] [DO K tu fu] : DE K (tSl (rSlA K) te tl tu) (aSl fa fl fu) := ⟨fun W σ ρ n H Q Qa hQ hE o h =>
  DE.run (te := te) (f := fa) W σ ρ n H _ _ (fun d n1 h1 H1 x l1 o1 ax => DO.run (te := tl) (f := fl) W σ ρ n1 H1 _ _ (fun l n2 h2 H2 l2 o2 => DO.run (te := tu) (f := fu) W σ ρ n2 H2 _ _ (fun u n3 h3 H3 l3 o3 => by
    have hQ3 := hQ.le (l1.trans (l2.trans l3))
    unfold aCut at h3
    split at h3
    · cases At.le o1 (l2.trans l3) _ ax with
      | lst r s a =>
        refine .inl ⟨_, _, rfl, SqL.of s, fun p hp => hQ3.new o3 h3 hp ?_⟩
        refine .lst (o3.fresh hp) upd_same ?_
        unfold cutV cutL
        rw [a.length]
        exact take_at _ (drop_at _ (AtAll.le o3 (Wd.le_same (same_upd hp)) _ a))
    · cases At.le o1 (l2.trans l3) _ ax with
      | tup s a =>
        refine .inr (.inl ⟨_, _, rfl, s, by rw [a.length]; exact h3.1, fun p hp => hQ3.new o3 h3.2 hp ?_⟩)
        refine .tup (.inl (.inl upd_same)) ?_
        unfold cutV cutL
        rw [a.length]
        exact take_at _ (drop_at _ (AtAll.le o3 (Wd.le_same (same_upd hp)) _ a))
    · cases ax
      exact .inr (.inr ⟨_, rfl, Nat.le_trans h3.1 lim, hQ3.now o3 h3.2 (.str _)⟩)
    · exact h3.elim) (hE.le o (l1.trans l2)) o2 h2) (hE.le o l1) o1 h1) hE o h⟩
theorem k_sl {X : Cx} (hK : X.K = K) : SlR X (rSlA K) := hK ▸ SlR.or sl_list (SlR.or sl_tup sl_str)
/-! texts and truths -/
def rJoin (K : PySem.W.Frag) : V → List V → Hp → VK → Prop := fun x xs H Q => ∃ a p, ∃ ys : List Str, x = .str a ∧ xs = [.ref p] ∧ (SqL K H p (ys.map V.str) ∨ SqT K H p (ys.map V.str)) ∧ (ys.map (·.length)).sum + ys.length * a.length ≤ 16777216 ∧ Q (.str (Txt.join a ys)) H
def tJoinK (K : PySem.W.Frag) (to te : TE) : TE := tM1 (rJoin K) to te
theorem k_join {X : Cx} {o e : Expr} {to te : TE} {apos pos : Pos} (hK : X.K = K) (ho : PE X o to) (he : PE X e te) (hs : starEach [e] X.env = [(false, eval e X.env)] := by rfl) (hbase : attributeBase o "join" X.env (eval o X.env) = eval o X.env := by rfl) (hline : (apos.endLine == pos.line) = true := by rfl) :
    PE X (.Call (.Attribute o "join" apos) [e] [] pos) (tJoinK K to te) := hK ▸ pe_join ho he hs hbase hline
def aJoin (fa fb : AE) : AE := fun ρ n Q => fa ρ n fun x n1 => match x with
  | .str a => fb ρ n1 fun y n2 => (match y with
    | .lst ds => ∃ ys : List Str, ds = ys.map D.str ∧ (ys.map (·.length)).sum + ys.length * a.length ≤ 16777216 ∧ Q (.str (Txt.join a ys)) n2
    | .tup ds => ∃ ys : List Str, ds = ys.map D.str ∧ (ys.map (·.length)).sum + ys.length * a.length ≤ 16777216 ∧ Q (.str (Txt.join a ys)) n2
    | _ => False)
  | _ => False
theorem strs_at {W : Wd} {H : Hp} : ∀ {ys : List Str} {vs : List V}, AtAll K W H vs (ys.map D.str) → vs = ys.map V.str
  | [], _, h => by cases h; rfl
  | y :: ys, _, h => by
    cases h with
    | cons a r => cases a; rw [List.map_cons, strs_at r]
theorem bls_at {W : Wd} {H : Hp} : ∀ {ys : List Bool} {vs : List V}, AtAll K W H vs (ys.map D.bl) → vs = ys.map V.bl
  | [], _, h => by cases h; rfl
  | y :: ys, _, h => by
    cases h with
    | cons a r => cases a; rw [List.map_cons, bls_at r]
theorem ints_at {W : Wd} {H : Hp} : ∀ {ys : List Int} {vs : List V}, AtAll K W H vs (ys.map D.int) → vs = ys.map V.int
  | [], _, h => by cases h; rfl
  | y :: ys, _, h => by
    cases h with
    | cons a r => cases a; rw [List.map_cons, ints_at r]
theorem at_ints {W : Wd} {H : Hp} : ∀ ys : List Int, AtAll K W H (ys.map V.int) (ys.map D.int)
  | [] => .nil
  | y :: ys => .cons (.int y) (at_ints ys)
theorem at_strs {W : Wd} {H : Hp} : ∀ ys : List Str, AtAll K W H (ys.map V.str) (ys.map D.str)
  | [] => .nil
  | y :: ys => .cons (.str y) (at_strs ys)
instance {to te : TE} {fa fb : AE} [DE K to fa] [DE K te fb] : DE K (tJoinK K to te) (aJoin fa fb) := ⟨fun W σ ρ n H Q Qa hQ hE o h =>
  DE.run (te := to) (f := fa) W σ ρ n H _ _ (fun d n1 h1 H1 x l1 o1 ax => by
    cases ax with
    | str a =>
      refine ⟨⟨_, rfl⟩, DE.run (te := te) (f := fb) W σ ρ n1 H1 _ _ (fun e n2 h2 H2 y l2 o2 ay => ?_) (hE.le o l1) o1 h1⟩
      cases ay with
      | lst r s b =>
        obtain ⟨ys, rfl, hl, q⟩ := h2
        rw [strs_at b] at s
        exact ⟨_, _, ys, rfl, rfl, .inl (SqL.of s), hl, (hQ.le (l1.trans l2)).now o2 q (.str _)⟩
      | tup s b =>
        obtain ⟨ys, rfl, hl, q⟩ := h2
        rw [strs_at b] at s
        exact ⟨_, _, ys, rfl, rfl, .inr s, hl, (hQ.le (l1.trans l2)).now o2 q (.str _)⟩
      | _ => exact h2.elim
    | _ => exact h1.elim) hE o h⟩
/-! int(..), str(..) of a number -/
def rInt : List V → Hp → VK → Prop := fun xs H Q => (∃ i, xs = [.int i] ∧ Q (.int i) H) ∨ ∃ k, xs = [.bl k] ∧ Q (.int (if k then 1 else 0)) H
theorem k_int {X : Cx} : CallR X (.type "int") rInt := call_int1
def aInt : List D → Nat → (D → Nat → Prop) → Prop
  | [.int i], n, Q => Q (.int i) n
  | [.bl b], n, Q => Q (.int (if b then 1 else 0)) n
  | _, _, _ => False
instance : DL K rInt aInt := ⟨fun W n H xs ds Q Qa hQ o a h => by
  unfold aInt at h
  split at h
  · cases a with
    | cons a r =>
      cases r
      cases a
      exact .inl ⟨_, rfl, hQ.now o h (.int _)⟩
  · cases a with
    | cons a r =>
      cases r
      cases a
      exact .inr ⟨_, rfl, hQ.now o h (.int _)⟩
  · exact h.elim⟩
def rStr : List V → Hp → VK → Prop := fun xs H Q => ∃ i, xs = [.int i] ∧ i.natAbs.log2 < 1920 ∧ Q (.str (toString i)) H
theorem k_str {X : Cx} : CallR X (.type "str") rStr := call_str_int
def aStr : List D → Nat → (D → Nat → Prop) → Prop
  | [.int i], n, Q => i.natAbs.log2 < 1920 ∧ Q (.str (toString i)) n
  | _, _, _ => False
instance : DL K rStr aStr := ⟨fun W n H xs ds Q Qa hQ o a h => by
  unfold aStr at h
  split at h
  · cases a with
    | cons a r =>
      cases r
      cases a
      exact ⟨_, rfl, h.1, hQ.now o h.2 (.str _)⟩
  · exact h.elim⟩
/-! all, any, sum, max, min of a list -/
theorem k_all {X : Cx} (hK : X.K = K) (hc : X.calm = true) : CallR X (.builtin "all") (rAll K) := hK ▸ cr_all hc
theorem k_any {X : Cx} (hK : X.K = K) (hc : X.calm = true) : CallR X (.builtin "any") (rAny K) := hK ▸ cr_any hc
theorem k_sum {X : Cx} (hK : X.K = K) (hc : X.calm = true) : CallR X (.builtin "sum") (rSum K) := hK ▸ cr_sum hc
theorem k_max1 {X : Cx} (hK : X.K = K) (hc : X.calm = true) : CallR X (.builtin "max") (rMax K) := hK ▸ cr_max hc
theorem k_min1 {X : Cx} (hK : X.K = K) (hc : X.calm = true) : CallR X (.builtin "min") (rMin K) := hK ▸ cr_min hc
def aBools (g : List Bool → Bool) : List D → Nat → (D → Nat → Prop) → Prop := fun ds n Q => ∃ bs : List Bool, ds = [.lst (bs.map D.bl)] ∧ Q (.bl (g bs)) n
instance : DL K (rAll K) (aBools fun bs => bs.all id) := ⟨fun W n H xs ds Q Qa hQ o a h => by
  obtain ⟨bs, rfl, q⟩ := h
  cases a with
  | cons a r =>
    cases r
    cases a with
    | lst _ s b => rw [bls_at b] at s; exact ⟨_, bs, rfl, SqL.of s, hQ.now o q (.bl _)⟩⟩
instance : DL K (rAny K) (aBools fun bs => bs.any id) := ⟨fun W n H xs ds Q Qa hQ o a h => by
  obtain ⟨bs, rfl, q⟩ := h
  cases a with
  | cons a r =>
    cases r
    cases a with
    | lst _ s b => rw [bls_at b] at s; exact ⟨_, bs, rfl, SqL.of s, hQ.now o q (.bl _)⟩⟩
def aSum : List D → Nat → (D → Nat → Prop) → Prop := fun ds n Q => ∃ ns : List Int, ds = [.lst (ns.map D.int)] ∧ Q (.int ns.sum) n
instance : DL K (rSum K) aSum := ⟨fun W n H xs ds Q Qa hQ o a h => by
  obtain ⟨ns, rfl, q⟩ := h
  cases a with
  | cons a r =>
    cases r
    cases a with
    | lst _ s b => rw [ints_at b] at s; exact ⟨_, ns, rfl, SqL.of s, hQ.now o q (.int _)⟩⟩
def aMax1 : List D → Nat → (D → Nat → Prop) → Prop := fun ds n Q => ∃ ns : List Int, ds = [.lst (ns.map D.int)] ∧ 0 < ns.length ∧ ∀ m, m ∈ ns → (∀ y, y ∈ ns → y ≤ m) → Q (.int m) n
def aMin1 : List D → Nat → (D → Nat → Prop) → Prop := fun ds n Q => ∃ ns : List Int, ds = [.lst (ns.map D.int)] ∧ 0 < ns.length ∧ ∀ m, m ∈ ns → (∀ y, y ∈ ns → m ≤ y) → Q (.int m) n
instance : DL K (rMax K) aMax1 := ⟨fun W n H xs ds Q Qa hQ o a h => by
  obtain ⟨ns, rfl, hl, q⟩ := h
  cases a with
  | cons a r =>
    cases r
    cases a with
    | lst _ s b => rw [ints_at b] at s; exact ⟨_, ns, rfl, SqL.of s, hl, fun m h1 h2 => hQ.now o (q m h1 h2) (.int _)⟩⟩
instance : DL K (rMin K) aMin1 := ⟨fun W n H xs ds Q Qa hQ o a h => by
  obtain ⟨ns, rfl, hl, q⟩ := h
  cases a with
  | cons a r =>
    cases r
    cases a with
    | lst _ s b => rw [ints_at b] at s; exact ⟨_, ns, rfl, SqL.of s, hl, fun m h1 h2 => hQ.now o (q m h1 h2) (.int _)⟩⟩
/-! x in xs -/
def flatD : D → Bool
  | .non => true | .bl _ => true | .int _ => true | .str _ => true
  | _ => false
def eqF : D → D → Bool
  | .non, .non => true | .bl a, .bl b => a == b | .bl a, .int b => (if a then 1 else 0) == b | .int a, .bl b => a == (if b then 1 else 0) | .int a, .int b => a == b | .str a, .str b => a == b
  | _, _ => false
theorem flat_at {W : Wd} {H : Hp} {v : V} {d : D} (a : At K W H v d) (h : flatD d = true) : flatV v = true := by
  cases a <;> first | rfl | cases h
theorem eqF_at {W : Wd} {H : Hp} {v u : V} {d e : D} (a : At K W H v d) (b : At K W H u e) (h : flatD d = true) (g : flatD e = true) : eqV v u = eqF d e := by
  cases a <;> first
    | cases h; done
    | (cases b <;> first | rfl | cases g; done)
theorem flats_at {W : Wd} {H : Hp} : ∀ {ds : List D} {vs : List V}, AtAll K W H vs ds → ds.all flatD = true → vs.all flatV = true
  | [], _, h, _ => by cases h; rfl
  | d :: ds, _, h, g => by
    cases h with
    | cons a r =>
      rw [List.all_cons, Bool.and_eq_true] at g ⊢
      exact ⟨flat_at a g.1, flats_at r g.2⟩
theorem in_at {W : Wd} {H : Hp} {u : V} {e : D} (b : At K W H u e) (g : flatD e = true) : ∀ {ds : List D} {vs : List V}, AtAll K W H vs ds → ds.all flatD = true → inV u vs = ds.any fun d => eqF d e
  | [], _, h, _ => by cases h; rfl
  | d :: ds, _, h, g' => by
    cases h with
    | cons a r =>
      rw [List.all_cons, Bool.and_eq_true] at g'
      have ih := in_at b g r g'.2
      unfold inV at ih ⊢
      rw [List.any_cons, List.any_cons, ih, eqF_at a b g'.1 g]
def rInA (K : PySem.W.Frag) (neg : Bool) : R2 := rIn K neg
theorem k_in {X : Cx} (hK : X.K = K) (_ : X.A.units + 64 < cLine) : OpR X (compareOp .In) (rInA K false) := hK ▸ op_in_seq
theorem k_notin {X : Cx} (hK : X.K = K) (_ : X.A.units + 64 < cLine) : OpR X (compareOp .NotIn) (rInA K true) := hK ▸ op_notIn_seq
def aIn (neg : Bool) : D → D → Nat → (D → Nat → Prop) → Prop
  | d, .lst ds, n, Q => flatD d = true ∧ ds.all flatD = true ∧ Q (.bl (if neg then !(ds.any fun x => eqF x d) else ds.any fun x => eqF x d)) n
  | d, .tup ds, n, Q => flatD d = true ∧ ds.all flatD = true ∧ Q (.bl (if neg then !(ds.any fun x => eqF x d) else ds.any fun x => eqF x d)) n
  | _, _, _, _ => False
instance {neg : Bool} : D2 K (rInA K neg) (aIn neg) := ⟨fun W n H x y d e Q Qa hQ o ax ay h => by
  unfold aIn at h
  split at h
  · obtain ⟨h1, h2, q⟩ := h
    cases ay with
    | lst r s a => exact ⟨_, _, rfl, .inl (SqL.of s), flat_at ax h1, flats_at a h2, by rw [in_at ax h1 a h2]; exact hQ.now o q (.bl _)⟩
  · obtain ⟨h1, h2, q⟩ := h
    cases ay with
    | tup s a => exact ⟨_, _, rfl, .inr s, flat_at ax h1, flats_at a h2, by rw [in_at ax h1 a h2]; exact hQ.now o q (.bl _)⟩
  · exact h.elim⟩
end

/-! ### the mirror, third part: targets, what is walked, statements -/
section
variable {K : PySem.W.Frag}
/-! targets -/
abbrev Upd (K : PySem.W.Frag) (W : Wd) (H : Hp) : List (Nat × V) → List (Nat × D) → Prop := Paired fun z u => z.1 = u.1 ∧ At K W H z.2 u.2
def setAll : L2.St → List (Nat × V) → L2.St
  | σ, [] => σ
  | σ, z :: r => setAll (σ.set z.1 (some z.2)) r
def eSetAll : Env' → List (Nat × D) → Env'
  | ρ, [] => ρ
  | ρ, u :: r => eSetAll (eSet ρ u.1 (some u.2)) r
theorem setAll_append : ∀ (σ : L2.St) (a b : List (Nat × V)), setAll σ (a ++ b) = setAll (setAll σ a) b
  | σ, [], b => rfl
  | σ, z :: r, b => setAll_append (σ.set z.1 (some z.2)) r b
theorem paired_append {α β : Type} {F : α → β → Prop} : ∀ {l l' : List α} {m m' : List β}, Paired F l m → Paired F l' m' → Paired F (l ++ l') (m ++ m')
  | _, _, _, _, .nil, h => h
  | _, _, _, _, .cons a r, h => .cons a (paired_append r h)
class DG (K : PySem.W.Frag) (g : TG) (f : outParam (D → Option (List (Nat × D)))) : Prop where
  run : ∀ (W : Wd) (σ : L2.St) (H : Hp) (v : V) (d : D) (us : List (Nat × D)) (Q : L2.St → Hp → Prop), At K W H v d → f d = some us → (∀ zs, Upd K W H zs us → Q (setAll σ zs) H) → g v σ H Q
class DGs (K : PySem.W.Frag) (g : TGs) (f : outParam (List D → Option (List (Nat × D)))) : Prop where
  run : ∀ (W : Wd) (σ : L2.St) (H : Hp) (vs : List V) (ds : List D) (us : List (Nat × D)) (Q : L2.St → Hp → Prop), AtAll K W H vs ds → f ds = some us → (∀ zs, Upd K W H zs us → Q (setAll σ zs) H) → g vs σ H Q
def aName (i : Nat) : D → Option (List (Nat × D)) := fun d => some [(i, d)]
instance {i : Nat} : DG K (gName i) (aName i) := ⟨fun W σ H v d us Q a e h => by
  cases e
  exact h [(i, v)] (.cons ⟨rfl, a⟩ .nil)⟩
def aGNil : List D → Option (List (Nat × D))
  | [] => some []
  | _ => none
def aGCons (f : D → Option (List (Nat × D))) (g : List D → Option (List (Nat × D))) : List D → Option (List (Nat × D))
  | d :: r => (match f d, g r with
    | some a, some b => some (a ++ b)
    | _, _ => none)
  | [] => none
instance : DGs K gNil aGNil := ⟨fun W σ H vs ds us Q a e h => by
  cases a with
  | nil => cases e; exact ⟨rfl, h [] .nil⟩
  | cons _ _ => cases e⟩
instance {t : TG} {u : TGs} {f : D → Option (List (Nat × D))} {g : List D → Option (List (Nat × D))} [DG K t f] [DGs K u g] : DGs K (gCons t u) (aGCons f g) := ⟨fun W σ H vs ds us Q a e h => by
  cases a with
  | nil => cases e
  | @cons v vs d ds a r =>
    unfold aGCons at e
    cases e1 : f d with
    | none => simp only [e1] at e; cases e
    | some x =>
      cases e2 : g ds with
      | none => simp only [e1, e2] at e; cases e
      | some y =>
        simp only [e1, e2] at e
        cases e
        refine ⟨_, _, rfl, DG.run (g := t) (f := f) W σ H _ _ x _ a e1 fun zs hz => ?_⟩
        refine DGs.run (g := u) (f := g) W (setAll σ zs) H _ _ y _ r e2 fun ws hw => ?_
        rw [← setAll_append]
        exact h _ (paired_append hz hw)⟩
def gTupK (K : PySem.W.Frag) (k : Nat) (t : TGs) : TG := fun v σ H Q => gTup K k t v σ H Q ∨ gLst K k t v σ H Q
theorem k_gtup {X : Cx} {es : List Expr} {k : Nat} {t : TGs} {pos : Pos} {m : Nat} (hK : X.K = K) (hc : X.calm = true) (h : PGs X es t)
    (hn : (assignEach es X.env).length = m := by rfl) (hst : (assignEach es X.env).findIdx? (·.1) = none := by rfl) : PG X (.Tuple es k pos) (gTupK K m t) := by
  subst hK
  refine ⟨fun pins s σ H v u Q I r hw => ?_⟩
  rcases hw with hw | hw
  · exact (pg_tup hc h hn hst).run pins s σ H v u Q I r hw
  · exact (pg_lst hc h hn hst).run pins s σ H v u Q I r hw
def aGTup (k : Nat) (g : List D → Option (List (Nat × D))) : D → Option (List (Nat × D))
  | .tup ds => (match Nat.beq ds.length k with
    | true => g ds
    | false => none)
  | .lst ds => (match Nat.beq ds.length k with
    | true => g ds
    | false => none)
  | _ => none
instance {k : Nat} {t : TGs} {g : List D → Option (List (Nat × D))} [DGs K t g] : DG K (gTupK K k t) (aGTup k g) := ⟨fun W σ H v d us Q a e h => by
  unfold aGTup at e
  split at e
  · split at e
    · rename_i hb
      cases a with
      | tup s a => exact .inl ⟨_, _, rfl, s, by rw [a.length]; exact Nat.eq_of_beq_eq_true hb, DGs.run (g := t) (f := g) W σ H _ _ us Q a e h⟩
    · cases e
  · split at e
    · rename_i hb
      cases a with
      | lst r s a => exact .inr ⟨_, _, rfl, SqL.of s, by rw [a.length]; exact Nat.eq_of_beq_eq_true hb, DGs.run (g := t) (f := g) W σ H _ _ us Q a e h⟩
    · cases e
  · cases e⟩
theorem wipe_set {σ : L2.St} {i : Nat} {v : Option V} : ∀ {vs : List Nat}, i ∈ vs → wipe (σ.set i v) vs = wipe σ vs
  | [], h => by cases h
  | w :: vs, h => by
    show (wipe (σ.set i v) vs).set w none = (wipe σ vs).set w none
    by_cases hi : i ∈ vs
    · rw [wipe_set hi]
    · have e : i = w := by
        rcases List.mem_cons.mp h with z | z
        · exact z
        · exact absurd z hi
      subst e
      have : ∀ us : List Nat, i ∉ us → wipe (σ.set i v) us = (wipe σ us).set i v := fun us => by
        induction us with
        | nil => intro _; rfl
        | cons u us ih =>
          intro hn
          show (wipe (σ.set i v) us).set u none = ((wipe σ us).set u none).set i v
          rw [ih (fun z => hn (List.mem_cons_of_mem _ z)), List.set_comm _ _ (fun z => hn (by rw [z]; exact List.mem_cons_self))]
      rw [this vs hi, List.set_set]
theorem wipe_setAll {vs : List Nat} : ∀ {zs : List (Nat × V)} {σ : L2.St}, (∀ z ∈ zs, z.1 ∈ vs) → wipe (setAll σ zs) vs = wipe σ vs
  | [], _, _ => rfl
  | z :: r, σ, h => by
    show wipe (setAll (σ.set z.1 (some z.2)) r) vs = _
    rw [wipe_setAll fun y hy => h y (List.mem_cons_of_mem _ hy), wipe_set (h z List.mem_cons_self)]
theorem upd_slots {W : Wd} {H : Hp} {p : Nat → Prop} : ∀ {zs : List (Nat × V)} {us : List (Nat × D)}, Upd K W H zs us → (∀ u ∈ us, p u.1) → ∀ z ∈ zs, p z.1
  | _, _, .nil, _, z, h => by cases h
  | _, _, .cons ⟨e, _⟩ r, hu, z, h => by
    rcases List.mem_cons.mp h with rfl | h
    · rw [e]
      exact hu _ List.mem_cons_self
    · exact upd_slots r (fun u hu' => hu u (List.mem_cons_of_mem _ hu')) z h
theorem EnvAt.setAll {W : Wd} {H : Hp} : ∀ {zs : List (Nat × V)} {us : List (Nat × D)} {σ : L2.St} {ρ : Env'}, EnvAt K W H σ ρ → Upd K W H zs us → EnvAt K W H (setAll σ zs) (eSetAll ρ us)
  | _, _, _, _, h, .nil => h
  | _, _, _, _, h, .cons (a := (i, v)) (b := (j, d)) ⟨e, a⟩ r => by
    cases (show i = j from e)
    have := EnvAt.setAll (h.set (i := i) a) r
    exact this
/-! what is walked -/
def Walks (K : PySem.W.Frag) (W : Wd) (J : It) (H : Hp) (ds : List D) : Prop := ∀ (W' : Wd), (∀ a, W'.rs a → ¬ W.rs a → H a = none) → W'.dk = W.dk → ∀ (H2 : Hp) (n2 : Nat), W'.le H H2 → W'.ok K n2 H2 → ∀ i : Nat,
  (∀ d, ds[i]? = some d → J.go i H2 ∧ ∀ x H3, J.yld i H2 x H3 → Same H2 H3 ∧ At K W' H3 x d) ∧ (ds.length ≤ i → J.stop i H2)
abbrev AI := Env' → Nat → (List D → Nat → Prop) → Prop
class DI (K : PySem.W.Frag) (wi : TI) (f : outParam AI) : Prop where
  run : ∀ (W : Wd) (σ : L2.St) (ρ : Env') (n : Nat) (H : Hp) (R : It → Hp → Prop) (Qa : List D → Nat → Prop), (∀ ds n', Qa ds n' → ∀ J H', W.le H H' → W.ok K n' H' → Walks K W J H' ds → R J H') → EnvAt K W H σ ρ → W.ok K n H → f ρ n Qa → wi σ H R
theorem Wd.ok.lk' {W W' : Wd} {H : Hp} {n : Nat} (o : W.ok K n H) (hr : ∀ a, W'.rs a → ¬ W.rs a → H a = none) : W'.lk H := fun a r ob e => by
  by_cases hw : W.rs a
  · exact o.lk a hw ob e
  · rw [hr a r hw] at e
    cases e
def iAny (K : PySem.W.Frag) (tl : TE) : TI := fun σ H R => tl σ H fun x H1 => ∃ a, x = .ref a ∧ (((∃ xs, SqL K H1 a xs) ∧ R (Itl K a) H1) ∨ ((∃ xs, SqT K H1 a xs) ∧ R (Itt K a) H1))
theorem k_iter {X : Cx} {tg l : Expr} {tl : TE} (hK : X.K = K) (hl : PE X l tl) : PI X tg l (iAny K tl) := by
  subst hK
  refine ⟨fun pins s σ H R I h => ?_⟩
  refine thn (hl.run pins s σ H _ I h) fun v s1 ⟨x, H1, I1, r1, q1⟩ => ?_
  obtain ⟨a, e, q1⟩ := q1
  subst e
  cases r1
  rcases q1 with ⟨⟨xs, hq⟩, q⟩ | ⟨⟨xs, hq⟩, q⟩
  · obtain ⟨its, rv, p, hz⟩ := I1.list hq
    refine wpAny_pyIter_list p.isList ?_
    refine ⟨s1.heap.objs.size, [s1.heap.objs.size], _, _, H1, rfl, I1.kept (t' := s1.toks) fun b o e => Heap.get?_push_of_some _ e, turn_list a _, ⟨_, Heap.get?_push_size _ rfl, rfl, rfl⟩, fun b hb => ?_, q⟩
    have e : b = s1.heap.objs.size := by simpa using hb
    subst e
    exact I1.fpOk (Nat.le_refl _) (I1.hok.fresh (Nat.le_refl _))
  · obtain ⟨its, rv, p, hz⟩ := I1.tuple hq
    refine wpAny_pyIter_tuple (show s1.heap.IsTuple a its.toArray from p) ?_
    refine ⟨s1.heap.objs.size, [s1.heap.objs.size], _, _, H1, rfl, I1.kept (t' := s1.toks) fun b o e => Heap.get?_push_of_some _ e, turn_tuple a _, ⟨_, Heap.get?_push_size _ rfl, rfl, rfl⟩, fun b hb => ?_, q⟩
    have e : b = s1.heap.objs.size := by simpa using hb
    subst e
    exact I1.fpOk (Nat.le_refl _) (I1.hok.fresh (Nat.le_refl _))
def aIter (f : AE) : AI := fun ρ n Q => f ρ n fun d n1 => match d with
  | .tup ds => Q ds n1
  | .lst ds => Q ds n1
  | _ => False
instance {tl : TE} {f : AE} [DE K tl f] : DI K (iAny K tl) (aIter f) := ⟨fun W σ ρ n H R Qa hQ hE o h =>
  DE.run (te := tl) (f := f) W σ ρ n H _ _ (fun d n1 h1 H1 x l1 o1 ax => by
    split at h1
    · cases ax with
      | tup s a =>
        refine ⟨_, rfl, .inr ⟨⟨_, s⟩, hQ _ _ h1 _ H1 l1 o1 fun W' hr hd H2 n2 l2 o2 i => ?_⟩⟩
        have s2 := sqt_lk (o1.lk' hr) l2 s
        refine ⟨fun d hd' => ?_, fun hi => ⟨_, s2, by rw [a.length]; exact hi⟩⟩
        obtain ⟨v, e1, e2⟩ := a.get hd'
        refine ⟨⟨_, v, s2, e1⟩, fun x H3 ⟨e3, e4⟩ => ?_⟩
        subst e3
        have := e4 _ s2
        rw [e1] at this
        cases this
        exact ⟨Same.refl _, At.lk (o1.lk' hr) l2 _ (At.ext hr hd _ e2)⟩
    · cases ax with
      | lst r s a =>
        refine ⟨_, rfl, .inl ⟨⟨_, SqL.of s⟩, hQ _ _ h1 _ H1 l1 o1 fun W' hr hd H2 n2 l2 o2 i => ?_⟩⟩
        have s2 : SqL K H2 _ _ := SqL.of (l2 _ _ (fun z => by rw [hr _ z r] at s; cases s) s)
        refine ⟨fun d hd' => ?_, fun hi => ⟨_, s2, by rw [a.length]; exact hi⟩⟩
        obtain ⟨v, e1, e2⟩ := a.get hd'
        refine ⟨⟨_, v, s2, e1⟩, fun x H3 ⟨e3, e4⟩ => ?_⟩
        subst e3
        have := e4 _ s2
        rw [e1] at this
        cases this
        exact ⟨Same.refl _, At.lk (o1.lk' hr) l2 _ (At.ext hr hd _ e2)⟩
    · exact h1.elim) hE o h⟩
def rangeD (lo : Int) : Nat → List D
  | 0 => []
  | k + 1 => .int lo :: rangeD (lo + 1) k
theorem rangeD_length (lo : Int) : ∀ k, (rangeD lo k).length = k
  | 0 => rfl
  | k + 1 => by rw [rangeD, List.length_cons, rangeD_length]
theorem rangeD_get : ∀ {lo : Int} {k i : Nat} {d : D}, (rangeD lo k)[i]? = some d → i < k ∧ d = .int (lo + i)
  | lo, 0, i, d, h => by cases h
  | lo, k + 1, 0, d, h => by
    cases h
    exact ⟨Nat.succ_pos _, by rw [Int.natCast_zero, Int.add_zero]⟩
  | lo, k + 1, i + 1, d, h => by
    obtain ⟨h1, h2⟩ := rangeD_get (lo := lo + 1) (k := k) (i := i) h
    refine ⟨Nat.succ_lt_succ h1, ?_⟩
    rw [h2]
    congr 1
    omega
def aRange1 (g : AA) : AI := fun ρ n Q => g ρ n fun ds n1 => match ds with
  | [.int j] => (-(2 ^ 62) ≤ j ∧ j < 2 ^ 62) ∧ Q (rangeD 0 j.toNat) n1
  | _ => False
def aRange2 (g : AA) : AI := fun ρ n Q => g ρ n fun ds n1 => match ds with
  | [.int i, .int j] => (-(2 ^ 62) ≤ i ∧ i < 2 ^ 62 ∧ -(2 ^ 62) ≤ j ∧ j < 2 ^ 62) ∧ Q (rangeD i (j - i).toNat) n1
  | _ => False
theorem range_walks {W : Wd} {lo : Int} {k : Nat} {H : Hp} : Walks K W (Itr lo k) H (rangeD lo k) := fun W' hr hd H2 n2 l2 o2 i => by
  refine ⟨fun d e => ?_, fun hi => by rw [rangeD_length] at hi; exact hi⟩
  obtain ⟨h1, rfl⟩ := rangeD_get e
  refine ⟨h1, fun x H3 ⟨e3, e4⟩ => ?_⟩
  subst e3 e4
  exact ⟨Same.refl _, .int _⟩
instance {ta : TA} {g : AA} [DA K ta g] : DI K (iRng1 ta) (aRange1 g) := ⟨fun W σ ρ n H R Qa hQ hE o h =>
  DA.run (te := ta) (f := g) W σ ρ n H _ _ (fun ds n1 h1 H1 vs l1 o1 ax => by
    split at h1
    · cases ax with
      | cons a r =>
        cases r
        cases a
        exact ⟨_, rfl, h1.1.1, h1.1.2, hQ _ _ h1.2 _ H1 l1 o1 range_walks⟩
    · exact h1.elim) hE o h⟩
instance {ta : TA} {g : AA} [DA K ta g] : DI K (iRng2 ta) (aRange2 g) := ⟨fun W σ ρ n H R Qa hQ hE o h =>
  DA.run (te := ta) (f := g) W σ ρ n H _ _ (fun ds n1 h1 H1 vs l1 o1 ax => by
    split at h1
    · cases ax with
      | cons a r =>
        cases r with
        | cons b r =>
          cases r
          cases a
          cases b
          exact ⟨_, _, rfl, h1.1, hQ _ _ h1.2 _ H1 l1 o1 range_walks⟩
    · exact h1.elim) hE o h⟩
/-! zip, enumerate -/
def zipD : List D → List D → List D
  | a :: as, b :: bs => .tup [a, b] :: zipD as bs
  | _, _ => []
theorem zipD_get : ∀ {as bs : List D} {i : Nat} {d : D}, (zipD as bs)[i]? = some d → ∃ a b, as[i]? = some a ∧ bs[i]? = some b ∧ d = .tup [a, b]
  | [], _, _, _, h => by cases h
  | _ :: _, [], _, _, h => by cases h
  | a :: as, b :: bs, 0, d, h => by cases h; exact ⟨a, b, rfl, rfl, rfl⟩
  | a :: as, b :: bs, i + 1, d, h => zipD_get (as := as) (bs := bs) (i := i) h
theorem zipD_length : ∀ {as bs : List D}, (zipD as bs).length = min as.length bs.length
  | [], bs => by simp [zipD]
  | _ :: _, [] => by simp [zipD]
  | a :: as, b :: bs => by rw [zipD, List.length_cons, List.length_cons, List.length_cons, zipD_length, Nat.succ_min_succ]
def enumD (k : Nat) : List D → List D
  | [] => []
  | a :: as => .tup [.int k, a] :: enumD (k + 1) as
theorem enumD_get : ∀ {as : List D} {k i : Nat} {d : D}, (enumD k as)[i]? = some d → ∃ a, as[i]? = some a ∧ d = .tup [.int ((k + i : Nat) : Int), a]
  | [], _, _, _, h => by cases h
  | a :: as, k, 0, d, h => by cases h; exact ⟨a, rfl, rfl⟩
  | a :: as, k, i + 1, d, h => by
    obtain ⟨b, h1, h2⟩ := enumD_get (as := as) (k := k + 1) (i := i) h
    exact ⟨b, h1, by rw [h2]; congr 3; omega⟩
theorem enumD_length : ∀ {as : List D} {k : Nat}, (enumD k as).length = as.length
  | [], _ => rfl
  | a :: as, k => by rw [enumD, List.length_cons, List.length_cons, enumD_length]
end

/-! ### the mirror, fourth part: zip, enumerate, for, comprehensions, defs -/
section
variable {K : PySem.W.Frag}
theorem sql_lk {W : Wd} {H H' : Hp} {a : Addr} {xs : List V} (l : W.le H H') (r : ¬ W.rs a) (s : H a = some (.lst xs)) : SqL K H' a xs := SqL.of (l _ _ r s)
def iZipK (K : PySem.W.Frag) (ta : TA) : TI := RZ.iZipA K ta
theorem k_zip {X : Cx} {e e2 : Expr} {ta : TA} {p pos tpos : Pos} {elts : List Expr} {kk : Nat} (hK : X.K = K) (hg : Gl X "zip") (hm : X.mg "zip" = none) (ha : PA X [e, e2] ta)
    (hs : starEach [e, e2] X.env = (false, eval e X.env) :: starEach [e2] X.env := by rfl) (hpl : (backTo pos (starEach [e2] X.env)).any (·.1) = false := by rfl) :
    PI X (.Tuple elts kk tpos) (.Call (.Name "zip" p) [e, e2] [] pos) (iZipK K ta) := hK ▸ RZ.pi_zipA hg hm ha hs hpl
def aZip (g : AA) : AI := fun ρ n Q => g ρ n fun ds n1 => match ds with
  | [.lst as, .lst bs] => Q (zipD as bs) n1
  | [.tup as, .tup bs] => Q (zipD as bs) n1
  | _ => False
instance {ta : TA} {g : AA} [DA K ta g] : DI K (iZipK K ta) (aZip g) := ⟨fun W σ ρ n H R Qa hQ hE o h =>
  DA.run (te := ta) (f := g) W σ ρ n H _ _ (fun ds n1 h1 H1 vs l1 o1 ax => by
    split at h1
    · cases ax with
      | cons a r =>
        cases r with
        | cons b r =>
          cases r
          cases a with
          | lst ra sa a =>
            cases b with
            | lst rb sb b =>
              refine ⟨_, _, _, _, rfl, .inl ⟨SqL.of sa, SqL.of sb, hQ _ _ h1 _ H1 l1 o1 fun W' hr hd H2 n2 l2 o2 i => ?_⟩⟩
              have s2 := sql_lk (K := K) l2 (fun z => by rw [hr _ z ra] at sa; cases sa) sa
              have s3 := sql_lk (K := K) l2 (fun z => by rw [hr _ z rb] at sb; cases sb) sb
              refine ⟨fun d e => ?_, fun hi => ⟨_, _, s2, s3, ?_⟩⟩
              · obtain ⟨x, y, e1, e2, rfl⟩ := zipD_get e
                obtain ⟨v, e1', a1⟩ := a.get e1
                obtain ⟨u, e2', a2⟩ := b.get e2
                refine ⟨⟨_, _, v, u, s2, s3, e1', e2'⟩, fun z H3 ⟨T, x', y', ez, hT, eH, e3, e4⟩ => ?_⟩
                have q1 := e3 _ s2
                have q2 := e4 _ s3
                rw [e1'] at q1
                rw [e2'] at q2
                cases q1
                cases q2
                subst ez eH
                have st : Same H2 (upd H2 T (.tup [v, u])) := same_upd hT
                refine ⟨st, .tup (.inl (.inl upd_same)) (.cons ?_ (.cons ?_ .nil))⟩
                · exact At.le o2 (Wd.le_same st) _ (At.lk (o1.lk' hr) l2 _ (At.ext hr hd _ a1))
                · exact At.le o2 (Wd.le_same st) _ (At.lk (o1.lk' hr) l2 _ (At.ext hr hd _ a2))
              · rw [zipD_length] at hi
                rw [a.length, b.length]
                omega
    · cases ax with
      | cons a r =>
        cases r with
        | cons b r =>
          cases r
          cases a with
          | tup sa a =>
            cases b with
            | tup sb b =>
              refine ⟨_, _, _, _, rfl, .inr ⟨sa, sb, hQ _ _ h1 _ H1 l1 o1 fun W' hr hd H2 n2 l2 o2 i => ?_⟩⟩
              have s2 := sqt_lk (o1.lk' hr) l2 sa
              have s3 := sqt_lk (o1.lk' hr) l2 sb
              refine ⟨fun d e => ?_, fun hi => ⟨_, _, s2, s3, ?_⟩⟩
              · obtain ⟨x, y, e1, e2, rfl⟩ := zipD_get e
                obtain ⟨v, e1', a1⟩ := a.get e1
                obtain ⟨u, e2', a2⟩ := b.get e2
                refine ⟨⟨_, _, v, u, s2, s3, e1', e2'⟩, fun z H3 ⟨T, x', y', ez, hT, eH, e3, e4⟩ => ?_⟩
                have q1 := e3 _ s2
                have q2 := e4 _ s3
                rw [e1'] at q1
                rw [e2'] at q2
                cases q1
                cases q2
                subst ez eH
                have st : Same H2 (upd H2 T (.tup [v, u])) := same_upd hT
                refine ⟨st, .tup (.inl (.inl upd_same)) (.cons ?_ (.cons ?_ .nil))⟩
                · exact At.le o2 (Wd.le_same st) _ (At.lk (o1.lk' hr) l2 _ (At.ext hr hd _ a1))
                · exact At.le o2 (Wd.le_same st) _ (At.lk (o1.lk' hr) l2 _ (At.ext hr hd _ a2))
              · rw [zipD_length] at hi
                rw [a.length, b.length]
                omega
    · exact h1.elim) hE o h⟩
def iEnumK (K : PySem.W.Frag) (ta : TA) : TI := iEnum K ta
theorem k_enum {X : Cx} {e : Expr} {ta : TA} {p pos tpos : Pos} {elts : List Expr} {kk : Nat} (hK : X.K = K) (hg : Gl X "enumerate") (hm : X.mg "enumerate" = none) (ha : PA X [e] ta) (hs : starEach [e] X.env = [(false, eval e X.env)] := by rfl) :
    PI X (.Tuple elts kk tpos) (.Call (.Name "enumerate" p) [e] [] pos) (iEnumK K ta) := hK ▸ pi_enum hg hm ha hs
def aEnum (g : AA) : AI := fun ρ n Q => g ρ n fun ds n1 => match ds with
  | [.lst as] => Q (enumD 0 as) n1
  | _ => False
instance {ta : TA} {g : AA} [DA K ta g] : DI K (iEnumK K ta) (aEnum g) := ⟨fun W σ ρ n H R Qa hQ hE o h =>
  DA.run (te := ta) (f := g) W σ ρ n H _ _ (fun ds n1 h1 H1 vs l1 o1 ax => by
    split at h1
    · cases ax with
      | cons a r =>
        cases r
        cases a with
        | lst ra sa a =>
          refine ⟨_, _, rfl, SqL.of sa, hQ _ _ h1 _ H1 l1 o1 fun W' hr hd H2 n2 l2 o2 i => ?_⟩
          have s2 := sql_lk (K := K) l2 (fun z => by rw [hr _ z ra] at sa; cases sa) sa
          refine ⟨fun d e => ?_, fun hi => ⟨_, s2, by rw [a.length]; rw [enumD_length] at hi; exact hi⟩⟩
          obtain ⟨x, e1, rfl⟩ := enumD_get e
          obtain ⟨v, e1', a1⟩ := a.get e1
          refine ⟨⟨_, v, s2, e1'⟩, fun z H3 ⟨T, x', ez, hT, eH, e3⟩ => ?_⟩
          have q1 := e3 _ s2
          rw [e1'] at q1
          cases q1
          subst ez eH
          have st : Same H2 (upd H2 T (.tup [.int i, v])) := same_upd hT
          refine ⟨st, .tup (.inl (.inl upd_same)) (.cons ?_ (.cons ?_ .nil))⟩
          · rw [Nat.zero_add]
            exact .int _
          · exact At.le o2 (Wd.le_same st) _ (At.lk (o1.lk' hr) l2 _ (At.ext hr hd _ a1))
    · exact h1.elim) hE o h⟩
/-! comprehensions -/
def wipeA (ρ : Env') : List Nat → Env'
  | [] => ρ
  | v :: vs => eSet (wipeA ρ vs) v none
theorem EnvAt.wipe {W : Wd} {H : Hp} {σ : L2.St} {ρ : Env'} (h : EnvAt K W H σ ρ) : ∀ vs : List Nat, EnvAt K W H (L2.wipe σ vs) (wipeA ρ vs)
  | [] => h
  | v :: vs => by
    have ih := EnvAt.wipe h vs
    refine ⟨by show ((L2.wipe σ vs).set v none).length = (eSet (wipeA ρ vs) v none).length; rw [List.length_set, eSet_length]; exact ih.1, fun i d e => ?_⟩
    have e' : eGet (eSet (wipeA ρ vs) v none) i = some d := e
    by_cases hv : v = i
    · subst hv
      cases (eGet_set e').2
    · rw [eGet_ne hv] at e'
      obtain ⟨x, h1, h2⟩ := ih.2 i d e'
      exact ⟨x, by show ((L2.wipe σ vs).set v none)[i]? = _; rw [List.getElem?_set_ne hv]; exact h1, h2⟩
theorem wipe_wipe (σ : L2.St) (vs : List Nat) : wipe (wipe σ vs) vs = wipe σ vs := by
  have : ∀ us : List Nat, (∀ i ∈ us, i ∈ vs) → wipe (wipe σ us) vs = wipe σ vs := fun us => by
    induction us with
    | nil => intro _; rfl
    | cons u us ih =>
      intro h
      show wipe ((wipe σ us).set u none) vs = _
      rw [wipe_set (h u List.mem_cons_self), ih fun i hi => h i (List.mem_cons_of_mem _ hi)]
  exact this vs fun i hi => hi
def aPutC (vs : List Nat) (g : D → Option (List (Nat × D))) (d : D) (ρ : Env') (Q : Env' → Prop) : Prop := match g d with
  | some us => (match us.all fun u => vs.contains u.1 with
    | true => Q (eSetAll ρ us)
    | false => False)
  | none => False
def aLcGo (vs : List Nat) (G : D → Option (List (Nat × D))) (c : AT) (e : AE) (ρ : Env') (Q : D → Nat → Prop) : List D → List D → Nat → Prop
  | acc, [], n => Q (.lst acc) n
  | acc, d :: r, n => aPutC vs G d ρ fun ρ1 => c ρ1 n fun b n2 => aIte b (e ρ1 n2 fun y n3 => aLcGo vs G c e ρ Q (acc ++ [y]) r n3) (aLcGo vs G c e ρ Q acc r n2)
def aLc (I : AI) (G : D → Option (List (Nat × D))) (c : AT) (e : AE) (vs : List Nat) : AE := fun ρ n Q => I ρ n fun ds n1 => ds.length ≤ 1000000 ∧ aLcGo vs G c e (wipeA ρ vs) Q [] ds n1
theorem Wd.le_add {W : Wd} {p : Addr} {xs : HO} {H H1 H2 : Hp} (hp : H p = none) (l : W.le H H1) (l2 : (W.add (p, xs)).le H1 H2) : W.le H H2 := fun a o r e => by
  have ne : a ≠ p := ne_of_none e hp
  refine l2 a o ?_ (l a o r e)
  rintro (z | z)
  · exact r (.inl z)
  · rcases List.mem_cons.mp z with z | z
    · exact ne z
    · exact r (.inr z)
theorem Wd.ok_put {W : Wd} {p : Addr} {ys : HO} {n : Nat} {H : Hp} (hm : Mt ys) (hp : ¬ W.rs p) (hl : H p = none ∨ ∃ xs, H p = some (.lst xs)) (o : W.ok K n H) : (W.add (p, ys)).ok K n (upd H p ys) := by
  refine ⟨fun d b e => ?_, fun q hq => ?_, fun d b e q hq => ?_⟩
  · obtain ⟨c, D, l⟩ := o.deck d b e
    have n1 : p ≠ d := fun z => hp (.inl ⟨d, b, e, .inl z⟩)
    have n2 : p ≠ b := fun z => hp (.inl ⟨d, b, e, .inr z⟩)
    refine ⟨c, ?_, l⟩
    obtain ⟨⟨s, ns, cs, i, k, h1, h2, h3, h4⟩, ne⟩ := D
    refine ⟨⟨s, ns, cs, i, k, ?_, ?_, h3.upd hl, h4⟩, ne⟩
    · rw [upd_ne (Ne.symm n1)]; exact h1
    · rw [upd_ne (Ne.symm n2)]; exact h2
  · rcases List.mem_cons.mp hq with rfl | hq
    · exact ⟨upd_same, hm⟩
    · rw [upd_ne fun z => hp (.inr (List.mem_map.mpr ⟨q, hq, z⟩))]
      exact o.owns q hq
  · rcases List.mem_cons.mp hq with rfl | hq
    · exact ⟨fun z => hp (.inl ⟨d, b, e, .inl z⟩), fun z => hp (.inl ⟨d, b, e, .inr z⟩)⟩
    · exact o.dis d b e q hq
theorem Wd.ok.drop {W : Wd} {q : Addr × HO} {n : Nat} {H : Hp} (o : (W.add q).ok K n H) : W.ok K n H := ⟨o.deck, fun p hp => o.owns p (List.mem_cons_of_mem _ hp), fun d b e p hp => o.dis d b e p (List.mem_cons_of_mem _ hp)⟩
theorem Wd.le_more {W : Wd} {q : Addr × HO} {H H' : Hp} (l : W.le H H') : (W.add q).le H H' := fun a o r e => l a o (fun z => r (by
  rcases z with z | z
  · exact .inl z
  · exact .inr (List.mem_cons_of_mem _ z))) e
theorem Wd.le_own {W : Wd} {p : Addr} {xs : HO} {ob : HO} {H : Hp} : (W.add (p, xs)).le H (upd H p ob) := fun a o r e => by
  rw [upd_ne fun z => r (.inr (by rw [z]; exact List.mem_cons_self))]
  exact e
theorem EnvAt.ext {W W' : Wd} {H : Hp} {σ : L2.St} {ρ : Env'} (hr : ∀ a, W'.rs a → ¬ W.rs a → H a = none) (hd : W'.dk = W.dk) (h : EnvAt K W H σ ρ) : EnvAt K W' H σ ρ := ⟨h.1, fun i d e => let ⟨v, e', a⟩ := h.2 i d e; ⟨v, e', At.ext hr hd d a⟩⟩
theorem EnvAt.lk {W : Wd} {H H' : Hp} {σ : L2.St} {ρ : Env'} (h : EnvAt K W H σ ρ) (o : W.lk H) (l : W.le H H') : EnvAt K W H' σ ρ := ⟨h.1, fun i d e => let ⟨v, e', a⟩ := h.2 i d e; ⟨v, e', At.lk o l d a⟩⟩
theorem Wd.rs_new {W : Wd} {p : Addr} {xs : HO} {H : Hp} (hp : H p = none) : ∀ a, (W.add (p, xs)).rs a → ¬ W.rs a → H a = none := fun a z r => by
  rcases z with z | z
  · exact absurd (.inl z) r
  · rcases List.mem_cons.mp z with z | z
    · have z' : a = p := z
      rw [z']
      exact hp
    · exact absurd (.inr z) r
instance {wi : TI} {g : TG} {tt : TT} {te : TE} {vs : List Nat} {I : AI} {G : D → Option (List (Nat × D))} {c : AT} {e : AE} [DI K wi I] [DG K g G] [DT K tt c] [DE K te e] : DE K (tLc wi g tt te vs) (aLc I G c e vs) := ⟨fun W σ ρ n H Q Qa hQ hE o h => by
  refine DI.run (wi := wi) (f := I) W σ ρ n H _ _ (fun ds n1 h1 J H1 l1 o1 hw Dl hDl => ?_) hE o h
  obtain ⟨hlen, h1⟩ := h1
  have nrs : ¬ W.rs Dl := o1.fresh hDl
  refine ⟨fun i m H' => m = ds.length - i ∧ i ≤ ds.length ∧ ∃ n' us acc, aLcGo vs G c e (wipeA ρ vs) Qa acc (ds.drop i) n' ∧ (W.add (Dl, .lst us)).ok K n' H' ∧ AtAll K (W.add (Dl, .lst us)) H' us acc ∧ W.le H1 H' ∧ us.length ≤ i, ⟨_, rfl, Nat.zero_le _, n1, [], [], h1, Wd.ok_put trivial nrs (.inl hDl) o1, .nil, Wd.le_same (same_upd hDl), Nat.le_refl _⟩, ?_⟩
  rintro i m H2 ⟨rfl, hi, n2, us, acc, h2, o2, a2, l2, hul⟩
  have rn := Wd.rs_new (W := W) (xs := .lst us) hDl
  obtain ⟨w1, w2⟩ := hw (W.add (Dl, .lst us)) rn rfl H2 n2 (Wd.le_more l2) o2 i
  by_cases hlt : i < ds.length
  · rw [List.drop_eq_getElem_cons hlt] at h2
    obtain ⟨hgo, hy⟩ := w1 ds[i] (List.getElem?_eq_getElem hlt)
    refine .inr ⟨hgo, fun H' => ∃ m', m' < ds.length - i ∧ m' = ds.length - (i + 1) ∧ i + 1 ≤ ds.length ∧ ∃ n' us acc, aLcGo vs G c e (wipeA ρ vs) Qa acc (ds.drop (i + 1)) n' ∧ (W.add (Dl, .lst us)).ok K n' H' ∧ AtAll K (W.add (Dl, .lst us)) H' us acc ∧ W.le H1 H' ∧ us.length ≤ i + 1, fun H' q => q, fun x H3 hx => ?_⟩
    obtain ⟨s3, a3⟩ := hy x H3 hx
    have l3 : (W.add (Dl, .lst us)).le H2 H3 := Wd.le_same s3
    have o3 := o2.same s3
    have hE3 : EnvAt K (W.add (Dl, .lst us)) H3 (wipe σ vs) (wipeA ρ vs) := (((hE.le o l1).ext rn rfl).lk (o1.lk' rn) ((Wd.le_more l2).trans l3)).wipe vs
    unfold aLcGo aPutC at h2
    split at h2
    · rename_i xs ex
      split at h2
      · rename_i hc
        refine DG.run (g := g) (f := G) _ (wipe σ vs) H3 x _ xs _ a3 ex fun zs hz => ?_
        have hE4 := hE3.setAll hz
        have hv : ∀ z ∈ zs, z.1 ∈ vs := upd_slots hz fun u hu => List.contains_iff_mem.mp (List.all_eq_true.mp hc u hu)
        refine ⟨by rw [wipe_setAll hv, wipe_wipe], DT.run (te := tt) (f := c) _ _ _ n2 H3 _ _ (fun b n5 h5 H5 l5 o5 => ?_) hE4 o3 h2⟩
        have l25 := l3.trans l5
        cases b with
        | true =>
          rw [if_pos rfl]
          refine DE.run (te := te) (f := e) _ _ _ n5 H5 _ _ (fun y n6 h6 H6 v l6 o6 a6 => ?_) (hE4.le o3 l5) o5 (h5.1 rfl)
          have hD6 : H6 Dl = some (.lst us) := (o6.owns (Dl, .lst us) List.mem_cons_self).1
          have l26 := l25.trans l6
          refine ⟨us, hD6, Nat.lt_of_lt_of_le (show us.length < 1000000 by omega) lim, _, by omega, rfl, hlt, n6, us ++ [v], acc ++ [y], h6, Wd.ok_put trivial nrs (.inr ⟨_, hD6⟩) o6.drop, ?_, Wd.le_add hDl l2 (l26.trans (Wd.le_own (ob := .lst (us ++ [v])))), by rw [List.length_append, List.length_singleton]; omega⟩
          have key : AtAll K (W.add (Dl, .lst us)) H6 (us ++ [v]) (acc ++ [y]) := (AtAll.le o2 l26 _ a2).append (.cons a6 .nil)
          exact AtAll.weak (W := W.add (Dl, .lst us)) (W' := W.add (Dl, .lst (us ++ [v]))) (fun a z => z) rfl _ (AtAll.le o6 (Wd.le_own (ob := .lst (us ++ [v]))) _ key)
        | false =>
          rw [if_neg Bool.false_ne_true]
          exact ⟨_, by omega, rfl, hlt, n5, us, acc, h5.2 rfl, o5, AtAll.le o2 l25 _ a2, Wd.le_add hDl l2 l25, by omega⟩
      · exact h2.elim
    · exact h2.elim
  · have ei : i = ds.length := by omega
    subst ei
    rw [List.drop_length] at h2
    have hD2 : H2 Dl = some (.lst us) := (o2.owns (Dl, .lst us) List.mem_cons_self).1
    exact .inl ⟨w2 (Nat.le_refl _), hQ _ _ h2 H2 _ (l1.trans l2) o2.drop (.lst nrs hD2 (AtAll.weak (fun a z => Wd.rs_add z) rfl _ a2))⟩⟩
/-! reversed copies -/
def tRevK (K : PySem.W.Frag) (te : TE) : TE := tRevL K te
theorem k_rev {X : Cx} {e : Expr} {te : TE} {k : Nat} {p1 p2 p3 pos : Pos} (hK : X.K = K) (he : PE X e te) : PE X (.Subscript e (.Slice none none (some (.UnaryOp .USub (.Constant (.int 1) k p1) p2)) p3) pos) (tRevK K te) := hK ▸ pe_revL he
def aRev (f : AE) : AE := fun ρ n Q => f ρ n fun d n1 => match d with
  | .lst ds => Q (.lst ds.reverse) n1
  | _ => False
instance {te : TE} {f : AE} [DE K te f] : DE K (tRevK K te) (aRev f) := ⟨fun W σ ρ n H Q Qa hQ hE o h =>
  DE.run (te := te) (f := f) W σ ρ n H _ _ (fun d n1 h1 H1 x l1 o1 ax => by
    split at h1
    · cases ax with
      | lst r s a => exact ⟨_, _, rfl, SqL.of s, fun p hp => (hQ.le l1).new o1 h1 hp (.lst (o1.fresh hp) upd_same (AtAll.le o1 (Wd.le_same (same_upd hp)) _ (rev_at a)))⟩
    · exact h1.elim) hE o h⟩
end

/-! ### the mirror, fifth part: statements, defs -/
section
variable {K : PySem.W.Frag}
/-! ### statements: lists (and dicts) that a def builds, at the slots ow -/
def Wd.plus (W : Wd) (U : List (Addr × HO)) : Wd := { W with own := U ++ W.own }
inductive OwAt (K : PySem.W.Frag) (W : Wd) (H : Hp) : HO → D → Prop
  | lst {us : List V} {ds : List D} : AtAll K W H us ds → OwAt K W H (.lst us) (.lst ds)
  | dic {ks : List Key} {us : List V} {ds : List D} : ks.length = us.length → AtAll K W H us ds → OwAt K W H (.dK (ks.zip us)) (.dic ks ds)
structure SOk (K : PySem.W.Frag) (W : Wd) (ow : List Nat) (n : Nat) (H : Hp) (σ : L2.St) (ρ : Env') (U : List (Addr × HO)) : Prop where
  nd : (U.map (·.1)).Nodup
  nr : ∀ u ∈ U, ¬ W.rs u.1
  ok : (W.plus U).ok K n H
  len : σ.length = ρ.length
  env : ∀ i d, i ∉ ow → eGet ρ i = some d → ∃ v, σ[i]? = some (some v) ∧ At K (W.plus U) H v d
  own : ∀ i d, i ∈ ow → eGet ρ i = some d → ∃ u ∈ U, σ[i]? = some (some (.ref u.1)) ∧ OwAt K (W.plus U) H u.2 d
  dst : ∀ i j p, i ∈ ow → j ∈ ow → i ≠ j → σ[i]? = some (some (.ref p)) → σ[j]? = some (some (.ref p)) → eGet ρ i = none ∨ eGet ρ j = none
structure Stp (W : Wd) (U : List (Addr × HO)) (H : Hp) (U' : List (Addr × HO)) (H' : Hp) : Prop where
  le : (W.plus U).le H H'
  new : ∀ a, (W.plus U').rs a → ¬ (W.plus U).rs a → H a = none
  old : ∀ a, (W.plus U).rs a → (W.plus U').rs a
theorem Stp.refl {W : Wd} {U : List (Addr × HO)} {H : Hp} : Stp W U H U H := ⟨Wd.le_refl, fun a h g => absurd h g, fun a h => h⟩
theorem Stp.trans {W : Wd} {U U1 U2 : List (Addr × HO)} {H H1 H2 : Hp} (s : Stp W U H U1 H1) (t : Stp W U1 H1 U2 H2) : Stp W U H U2 H2 := by
  have key : ∀ a o, ¬ (W.plus U).rs a → H a = some o → ¬ (W.plus U1).rs a := fun a o r e z => by
    rw [s.new a z r] at e
    cases e
  refine ⟨fun a o r e => t.le a o (key a o r e) (s.le a o r e), fun a z r => ?_, fun a h => t.old a (s.old a h)⟩
  by_cases h1 : (W.plus U1).rs a
  · exact s.new a h1 r
  · have h2 := t.new a z h1
    cases e : H a with
    | none => rfl
    | some o =>
      rw [s.le a o r e] at h2
      cases h2
theorem Wd.rs_plus {W : Wd} {U : List (Addr × HO)} {a : Addr} : (W.plus U).rs a ↔ a ∈ U.map (·.1) ∨ W.rs a := by
  constructor
  · rintro (h | h)
    · exact .inr (.inl h)
    · have h' : a ∈ (U ++ W.own).map (·.1) := h
      rw [List.map_append] at h'
      rcases List.mem_append.mp h' with h | h
      · exact .inl h
      · exact .inr (.inr h)
  · rintro (h | h | h)
    · refine .inr (show a ∈ (U ++ W.own).map (·.1) from ?_)
      rw [List.map_append]
      exact List.mem_append_left _ h
    · exact .inl h
    · refine .inr (show a ∈ (U ++ W.own).map (·.1) from ?_)
      rw [List.map_append]
      exact List.mem_append_right _ h
section
variable {W : Wd} {ow : List Nat} {n : Nat} {H H1 : Hp} {σ : L2.St} {ρ : Env'} {U : List (Addr × HO)}
theorem wipeA_get : ∀ {ow : List Nat} {i : Nat} {d : D}, eGet (wipeA ρ ow) i = some d → i ∉ ow ∧ eGet ρ i = some d
  | [], i, d, h => ⟨fun z => (by cases z), h⟩
  | w :: ow, i, d, h => by
    have h' : eGet (eSet (wipeA ρ ow) w none) i = some d := h
    by_cases e : w = i
    · subst e
      cases (eGet_set h').2
    · rw [eGet_ne e] at h'
      obtain ⟨h1, h2⟩ := wipeA_get h'
      exact ⟨fun z => (List.mem_cons.mp z).elim (fun q => e q.symm) h1, h2⟩
theorem wipeA_length : ∀ ow : List Nat, (wipeA ρ ow).length = ρ.length
  | [] => rfl
  | w :: ow => by
    show (eSet (wipeA ρ ow) w none).length = _
    rw [eSet_length, wipeA_length ow]
/-- the lists that are built hidden -/
theorem SOk.hid (s : SOk K W ow n H σ ρ U) : EnvAt K (W.plus U) H σ (wipeA ρ ow) := ⟨by rw [wipeA_length]; exact s.len, fun i d e => let ⟨h1, h2⟩ := wipeA_get e; s.env i d h1 h2⟩
theorem SOk.base (s : SOk K W ow n H σ ρ U) : W.ok K n H := ⟨s.ok.deck, fun p hp => s.ok.owns p (List.mem_append_right _ hp), fun d b e p hp => s.ok.dis d b e p (List.mem_append_right _ hp)⟩
/-- .. as plain lists -/
theorem SOk.opn (s : SOk K W ow n H σ ρ U) : EnvAt K W H σ ρ := by
  have hw : ∀ a, W.rs a → (W.plus U).rs a := fun a h => Wd.rs_plus.mpr (.inr h)
  refine ⟨s.len, fun i d e => ?_⟩
  by_cases hi : i ∈ ow
  · obtain ⟨⟨q, ob⟩, hu, e1, a⟩ := s.own i d hi e
    refine ⟨_, e1, ?_⟩
    have h1 := (s.ok.owns _ (List.mem_append_left _ hu)).1
    cases a with
    | lst a => exact .lst (s.nr _ hu) h1 (AtAll.weak hw rfl _ a)
    | dic l a => exact .dic (s.nr _ hu) h1 l (AtAll.weak hw rfl _ a)
  · obtain ⟨v, e1, a⟩ := s.env i d hi e
    exact ⟨v, e1, At.weak hw rfl _ a⟩
theorem OwAt.le {ob : HO} {d : D} (o : W.ok K n H) (l : W.le H H1) (h : OwAt K W H ob d) : OwAt K W H1 ob d := by
  cases h with
  | lst a => exact .lst (AtAll.le o l _ a)
  | dic e a => exact .dic e (AtAll.le o l _ a)
/-- behind what was done with the built ones hidden -/
theorem SOk.le {n1 : Nat} (s : SOk K W ow n H σ ρ U) (l : (W.plus U).le H H1) (o : (W.plus U).ok K n1 H1) : SOk K W ow n1 H1 σ ρ U :=
  ⟨s.nd, s.nr, o, s.len, fun i d h e => let ⟨v, e1, a⟩ := s.env i d h e; ⟨v, e1, At.le s.ok l _ a⟩, fun i d h e => let ⟨u, hu, e1, a⟩ := s.own i d h e; ⟨u, hu, e1, a.le s.ok l⟩, s.dst⟩
/-- behind what was done with them as plain lists -/
theorem SOk.lo {n1 : Nat} (s : SOk K W ow n H σ ρ U) (l : W.le H H1) (o : W.ok K n1 H1) : SOk K W ow n1 H1 σ ρ U := by
  have l' : (W.plus U).le H H1 := fun a ob r e => l a ob (fun z => r (Wd.rs_plus.mpr (.inr z))) e
  refine s.le l' ⟨o.deck, fun p hp => ?_, s.ok.dis⟩
  rcases List.mem_append.mp hp with hp' | hp'
  · obtain ⟨h1, h2⟩ := s.ok.owns p hp
    exact ⟨l _ _ (s.nr p hp') h1, h2⟩
  · exact o.owns p hp'
theorem lo_le (l : W.le H H1) : (W.plus U).le H H1 := fun a ob r e => l a ob (fun z => r (Wd.rs_plus.mpr (.inr z))) e
theorem SOk.set {i : Nat} {v : V} {d : D} (s : SOk K W ow n H σ ρ U) (hi : i ∉ ow) (a : At K (W.plus U) H v d) : SOk K W ow n H (σ.set i (some v)) (eSet ρ i (some d)) U := by
  refine ⟨s.nd, s.nr, s.ok, by rw [List.length_set, eSet_length]; exact s.len, fun j e hj he => ?_, fun j e hj he => ?_, fun j k p hj hk ne h1 h2 => ?_⟩
  · by_cases hij : i = j
    · subst hij
      obtain ⟨hl, he⟩ := eGet_set he
      cases he
      exact ⟨v, by rw [List.getElem?_set_self (by rw [s.len]; exact hl)], a⟩
    · rw [eGet_ne hij] at he
      rw [List.getElem?_set_ne hij]
      exact s.env j e hj he
  · have hij : i ≠ j := fun z => hi (z ▸ hj)
    rw [eGet_ne hij] at he
    rw [List.getElem?_set_ne hij]
    exact s.own j e hj he
  · have hij : i ≠ j := fun z => hi (z ▸ hj)
    have hik : i ≠ k := fun z => hi (z ▸ hk)
    rw [List.getElem?_set_ne hij] at h1
    rw [List.getElem?_set_ne hik] at h2
    rw [eGet_ne hij, eGet_ne hik]
    exact s.dst j k p hj hk ne h1 h2
theorem SOk.setAll : ∀ {zs : List (Nat × V)} {us : List (Nat × D)} {σ : L2.St} {ρ : Env'}, SOk K W ow n H σ ρ U → Upd K (W.plus U) H zs us → (∀ u ∈ us, u.1 ∉ ow) → SOk K W ow n H (R.setAll σ zs) (eSetAll ρ us) U
  | _, _, _, _, s, .nil, _ => s
  | _, _, _, _, s, .cons (a := (i, v)) (b := (j, d)) ⟨e, a⟩ r, h => by
    cases (show i = j from e)
    have := SOk.setAll (s.set (h _ List.mem_cons_self) a) r fun u hu => h u (List.mem_cons_of_mem _ hu)
    exact this
end
structure AEn where
  nx : Env' → Nat → Prop
  rt : D → Nat → Prop
  bk : Env' → Nat → Prop := fun _ _ => False
  ct : Env' → Nat → Prop := fun _ _ => False
  ex : Env' → Addr → List Str → List D → Nat → Prop := fun _ _ _ _ _ => False
/-- an error's fields: its dict at d -/
def XdAt (K : PySem.W.Frag) (W : Wd) (H : Hp) (d : Option Addr) (ns : List Str) (ds : List D) : Prop := At K W H (.ref 0) (.xcp 0 0 d ns ds)
theorem XdAt.any {K : PySem.W.Frag} {W : Wd} {H : Hp} {d : Option Addr} {ns : List Str} {ds : List D} (h : XdAt K W H d ns ds) (a C : Addr) : At K W H (.ref a) (.xcp a C d ns ds) := by
  unfold XdAt at h
  cases h with
  | xcp0 => exact .xcp0
  | xcp1 s e b => exact .xcp1 s e b
def W0 : WX := fun _ _ _ _ => False
/-- what is wanted of an error that is raised: as behind a statement, the error's fields at d -/
def WantsX (K : PySem.W.Frag) (W : Wd) (ow : List Nat) (U : List (Addr × HO)) (H : Hp) (Xa : Env' → Addr → List Str → List D → Nat → Prop) (Wx : WX) : Prop :=
  ∀ ρ' C ns ds n', Xa ρ' C ns ds n' → ∀ U' σ' H' d, Stp W U H U' H' → SOk K W ow n' H' σ' ρ' U' → XdAt K (W.plus U') H' d ns ds → Wx (.ref C) d σ' H'
theorem WantsX.le {W : Wd} {ow : List Nat} {U U1 : List (Addr × HO)} {H H1 : Hp} {Xa : Env' → Addr → List Str → List D → Nat → Prop} {Wx : WX} (h : WantsX K W ow U H Xa Wx) (s : Stp W U H U1 H1) : WantsX K W ow U1 H1 Xa Wx := fun ρ' C ns ds n' q U' σ' H' d l' a x => h ρ' C ns ds n' q U' σ' H' d (s.trans l') a x
def WantsE (K : PySem.W.Frag) (W : Wd) (ow : List Nat) (U : List (Addr × HO)) (H : Hp) (Qa : Env' → Nat → Prop) (Q : L2.St → Hp → Prop) : Prop :=
  ∀ ρ' n', Qa ρ' n' → ∀ U' σ' H', Stp W U H U' H' → SOk K W ow n' H' σ' ρ' U' → Q σ' H'
theorem WantsE.le {W : Wd} {ow : List Nat} {U U1 : List (Addr × HO)} {H H1 : Hp} {Qa : Env' → Nat → Prop} {Q : L2.St → Hp → Prop} (h : WantsE K W ow U H Qa Q) (s : Stp W U H U1 H1) : WantsE K W ow U1 H1 Qa Q := fun ρ' n' q U' σ' H' l' a => h ρ' n' q U' σ' H' (s.trans l') a
/-- what is wanted of what is told: the built ones are plain lists then -/
def WantsR (K : PySem.W.Frag) (W : Wd) (U : List (Addr × HO)) (H : Hp) (Qa : D → Nat → Prop) (Q : VK) : Prop := ∀ d n', Qa d n' → ∀ U1 H1 H' v, Stp W U H U1 H1 → W.le H1 H' → W.ok K n' H' → At K W H' v d → Q v H'
theorem WantsR.le {W : Wd} {U U1 : List (Addr × HO)} {H H1 : Hp} {Qa : D → Nat → Prop} {Q : VK} (h : WantsR K W U H Qa Q) (s : Stp W U H U1 H1) : WantsR K W U1 H1 Qa Q := fun d n' q U' H' H2 v l' l2 o a => h d n' q U' H' H2 v (s.trans l') l2 o a
structure EndsOk (K : PySem.W.Frag) (Wx : WX) (W : Wd) (ow : List Nat) (U : List (Addr × HO)) (H : Hp) (Ea : AEn) (E : Ends) : Prop where
  nx : WantsE K W ow U H Ea.nx E.nx
  rt : WantsR K W U H Ea.rt E.rt
  bk : WantsE K W ow U H Ea.bk E.bk
  ct : WantsE K W ow U H Ea.ct E.ct
  ex : WantsX K W ow U H Ea.ex Wx
theorem EndsOk.le {Wx : WX} {W : Wd} {ow : List Nat} {U U1 : List (Addr × HO)} {H H1 : Hp} {Ea : AEn} {E : Ends} (h : EndsOk K Wx W ow U H Ea E) (l : Stp W U H U1 H1) : EndsOk K Wx W ow U1 H1 Ea E := ⟨h.nx.le l, h.rt.le l, h.bk.le l, h.ct.le l, h.ex.le l⟩
abbrev AS := AEn → Env' → Nat → Prop
class DS (K : PySem.W.Frag) (Wx : WX) (ow : List Nat) (t : TS) (f : outParam AS) : Prop where
  run : ∀ (W : Wd) (U : List (Addr × HO)) (σ : L2.St) (ρ : Env') (n : Nat) (H : Hp) (E : Ends) (Ea : AEn), EndsOk K Wx W ow U H Ea E → SOk K W ow n H σ ρ U → f Ea ρ n → t E σ H
variable {ow : List Nat} {Wx : WX}
def aNext : AS := fun E ρ n => E.nx ρ n
def aSeq (f g : AS) : AS := fun E ρ n => f { E with nx := fun ρ' n' => g E ρ' n' } ρ n
instance : DS K Wx ow tNext aNext := ⟨fun W U σ ρ n H E Ea hD s h => hD.nx _ _ h U σ H Stp.refl s⟩
instance {t u : TS} {f g : AS} [DS K Wx ow t f] [DS K Wx ow u g] : DS K Wx ow (tSeq t u) (aSeq f g) := ⟨fun W U σ ρ n H E Ea hD s h =>
  DS.run (ow := ow) (t := t) (f := f) W U σ ρ n H _ { Ea with nx := fun ρ' n' => g Ea ρ' n' } ⟨fun ρ1 n1 h1 U1 σ1 H1 l1 s1 => DS.run (ow := ow) (t := u) (f := g) W U1 σ1 ρ1 n1 H1 E Ea (hD.le l1) s1 h1, hD.rt, hD.bk, hD.ct, hD.ex⟩ s h⟩
instance : DS K Wx ow tNever (fun _ _ _ => False) := ⟨fun W U σ ρ n H E Ea hD s h => h⟩
def aBrk : AS := fun E ρ n => E.bk ρ n
def aCnt : AS := fun E ρ n => E.ct ρ n
instance : DS K Wx ow tBreak aBrk := ⟨fun W U σ ρ n H E Ea hD s h => hD.bk _ _ h U σ H Stp.refl s⟩
instance : DS K Wx ow tCont aCnt := ⟨fun W U σ ρ n H E Ea hD s h => hD.ct _ _ h U σ H Stp.refl s⟩
theorem Stp.hid {W : Wd} {U : List (Addr × HO)} {H H1 : Hp} (l : (W.plus U).le H H1) : Stp W U H U H1 := ⟨l, fun a h g => absurd h g, fun a h => h⟩
def aDrop (ow : List Nat) (f : AE) : AS := fun E ρ n => f (wipeA ρ ow) n fun _ n1 => E.nx ρ n1
instance {te : TE} {f : AE} [DE K te f] : DS K Wx ow (tDrop te) (aDrop ow f) := ⟨fun W U σ ρ n H E Ea hD s h =>
  DE.run (te := te) (f := f) (W.plus U) σ _ n H _ _ (fun d n1 h1 H1 x l1 o1 ax => hD.nx _ _ h1 U σ H1 (.hid l1) (s.le l1 o1)) s.hid s.ok h⟩
def aRet (f : AE) : AS := fun E ρ n => f ρ n E.rt
instance {te : TE} {f : AE} [DE K te f] : DS K Wx ow (tRet te) (aRet f) := ⟨fun W U σ ρ n H E Ea hD s h => DE.run (te := te) (f := f) W σ ρ n H _ _ (fun d n1 h1 H1 x l1 o1 ax => hD.rt d n1 h1 U H H1 x Stp.refl l1 o1 ax) s.opn s.base h⟩
def aRetN : AS := fun E _ n => E.rt .non n
instance : DS K Wx ow tRetN aRetN := ⟨fun W U σ ρ n H E Ea hD s h => hD.rt _ _ h U H H _ Stp.refl Wd.le_refl s.base .non⟩
def aIfS (c : AT) (f g : AS) : AS := fun E ρ n => c ρ n fun b n1 => aIte b (f E ρ n1) (g E ρ n1)
instance {tc : TT} {t u : TS} {c : AT} {f g : AS} [DT K tc c] [DS K Wx ow t f] [DS K Wx ow u g] : DS K Wx ow (tIfS tc t u) (aIfS c f g) := ⟨fun W U σ ρ n H E Ea hD s h =>
  DT.run (te := tc) (f := c) W σ ρ n H _ _ (fun b n1 h1 H1 l1 o1 => by
    have st : Stp W U H U H1 := .hid (lo_le l1)
    cases b with
    | true => rw [if_pos rfl]; exact DS.run (ow := ow) (t := t) (f := f) W U σ ρ n1 H1 E Ea (hD.le st) (s.lo l1 o1) (h1.1 rfl)
    | false => rw [if_neg Bool.false_ne_true]; exact DS.run (ow := ow) (t := u) (f := g) W U σ ρ n1 H1 E Ea (hD.le st) (s.lo l1 o1) (h1.2 rfl)) s.opn s.base h⟩
/-- what a target stores -/
def aPut (ow : List Nat) (g : D → Option (List (Nat × D))) (d : D) (ρ : Env') (Q : Env' → Prop) : Prop := match g d with
  | some us => (match us.all fun u => !ow.contains u.1 with
    | true => Q (eSetAll ρ us)
    | false => False)
  | none => False
def aAsg (ow : List Nat) (f : AE) (g : D → Option (List (Nat × D))) : AS := fun E ρ n => f (wipeA ρ ow) n fun d n1 => aPut ow g d ρ fun ρ' => E.nx ρ' n1
theorem put_run {W : Wd} {U : List (Addr × HO)} {g : TG} {a : D → Option (List (Nat × D))} [DG K g a] {σ : L2.St} {ρ : Env'} {n : Nat} {H : Hp} {v : V} {d : D} {Qa : Env' → Prop} {Q : L2.St → Hp → Prop} (s : SOk K W ow n H σ ρ U) (ax : At K (W.plus U) H v d) (h : aPut ow a d ρ Qa)
    (hQ : ∀ ρ' σ', Qa ρ' → SOk K W ow n H σ' ρ' U → Q σ' H) : g v σ H Q := by
  unfold aPut at h
  split at h
  · rename_i us e
    split at h
    · rename_i hc
      refine DG.run (g := g) (f := a) (W.plus U) σ H v d us Q ax e fun zs hz => hQ _ _ h (s.setAll hz fun u hu hin => ?_)
      have := List.all_eq_true.mp hc u hu
      rw [List.contains_iff_mem.mpr hin] at this
      cases this
    · exact h.elim
  · exact h.elim
instance {te : TE} {g : TG} {f : AE} {a : D → Option (List (Nat × D))} [DE K te f] [DG K g a] : DS K Wx ow (tAsg te g) (aAsg ow f a) := ⟨fun W U σ ρ n H E Ea hD s h =>
  DE.run (te := te) (f := f) (W.plus U) σ _ n H _ _ (fun d n1 h1 H1 x l1 o1 ax => put_run (g := g) (a := a) (s.le l1 o1) ax h1 fun ρ' σ' q s' => hD.nx _ _ q U σ' H1 (.hid l1) s') s.hid s.ok h⟩
/-- a scalar that is reckoned of the built lists too -/
def tOpen (te : TE) : TE := te
mutual
def D.sc : D → Bool
  | .non => true | .bl _ => true | .int _ => true | .str _ => true | .tup ds => scAll ds
  | _ => false
def scAll : List D → Bool
  | [] => true
  | d :: ds => d.sc && scAll ds
end
mutual
theorem sc_at' {W W' : Wd} {H : Hp} : ∀ (d : D) {v : V}, d.sc = true → At K W H v d → At K W' H v d
  | .non, _, _, h => by cases h; exact .non
  | .bl b, _, _, h => by cases h; exact .bl b
  | .int i, _, _, h => by cases h; exact .int i
  | .str x, _, _, h => by cases h; exact .str x
  | .ty t, _, e, _ => Bool.noConfusion e
  | .cls a, _, e, _ => Bool.noConfusion e
  | .tup ds, _, e, h => by
    cases h with
    | tup s a => exact .tup s (scAll_at ds e a)
  | .lst ds, _, e, _ => Bool.noConfusion e
  | .dic ks ds, _, e, _ => Bool.noConfusion e
  | .ins C ns ds, _, e, _ => Bool.noConfusion e
  | .deck, _, e, _ => Bool.noConfusion e
  | .xcp _ _ _ _ _, _, e, _ => Bool.noConfusion e
theorem scAll_at {W W' : Wd} {H : Hp} : ∀ (ds : List D) {vs : List V}, scAll ds = true → AtAll K W H vs ds → AtAll K W' H vs ds
  | [], _, _, h => by cases h; exact .nil
  | d :: ds, _, e, h => by
    have e' : (d.sc && scAll ds) = true := e
    rw [Bool.and_eq_true] at e'
    cases h with
    | cons a r => exact .cons (sc_at' d e'.1 a) (scAll_at ds e'.2 r)
end
theorem sc_at {W W' : Wd} {H : Hp} {v : V} {d : D} (h : d.sc = true) (a : At K W H v d) : At K W' H v d := sc_at' d h a
def aAsgO (ow : List Nat) (f : AE) (g : D → Option (List (Nat × D))) : AS := fun E ρ n => f ρ n fun d n1 => match d.sc with
  | true => aPut ow g d ρ fun ρ' => E.nx ρ' n1
  | false => False
instance (priority := 1100) {te : TE} {g : TG} {f : AE} {a : D → Option (List (Nat × D))} [DE K te f] [DG K g a] : DS K Wx ow (tAsg (tOpen te) g) (aAsgO ow f a) := ⟨fun W U σ ρ n H E Ea hD s h =>
  DE.run (te := te) (f := f) W σ ρ n H _ _ (fun d n1 h1 H1 x l1 o1 ax => by
    split at h1
    · rename_i hs
      exact put_run (g := g) (a := a) (s.lo l1 o1) (sc_at hs ax) h1 fun ρ' σ' q s' => hD.nx _ _ q U σ' H1 (.hid (lo_le l1)) s'
    · exact h1.elim) s.opn s.base h⟩
theorem k_open {X : Cx} {e : Expr} {te : TE} (h : PE X e te) : PE X e (tOpen te) := h
def aPar (ow : List Nat) (i j : Nat) (g : AA) : AS := fun E ρ n => g (wipeA ρ ow) n fun ds n1 => match ds, ow.contains i || ow.contains j with
  | [d, e], false => E.nx (eSet (eSet ρ i (some d)) j (some e)) n1
  | _, _ => False
instance {i j : Nat} {ta : TA} {g : AA} [DA K ta g] : DS K Wx ow (tPar i j ta) (aPar ow i j g) := ⟨fun W U σ ρ n H E Ea hD s h =>
  DA.run (te := ta) (f := g) (W.plus U) σ _ n H _ _ (fun ds n1 h1 H1 vs l1 o1 ax => by
    split at h1
    · rename_i hc
      rw [Bool.or_eq_false_iff] at hc
      cases ax with
      | cons a r =>
        cases r with
        | cons b r =>
          cases r
          refine ⟨_, _, rfl, hD.nx _ _ h1 U _ H1 (.hid l1) (((s.le l1 o1).set (fun z => ?_) a).set (fun z => ?_) b)⟩
          · rw [List.contains_iff_mem.mpr z] at hc
            cases hc.1
          · rw [List.contains_iff_mem.mpr z] at hc
            cases hc.2
    · exact h1.elim) s.hid s.ok h⟩
def aAug (ow : List Nat) (i : Nat) (f : AE) (r : D → D → Nat → (D → Nat → Prop) → Prop) : AS := fun E ρ n => match eGet ρ i, ow.contains i with
  | some d, false => f (wipeA ρ ow) n fun e n1 => r d e n1 fun x n2 => E.nx (eSet ρ i (some x)) n2
  | _, _ => False
instance {i : Nat} {te : TE} {ti : TIp} {f : AE} {r : D → D → Nat → (D → Nat → Prop) → Prop} [DE K te f] [D2 K ti r] : DS K Wx ow (tAug i te ti) (aAug ow i f r) := ⟨fun W U σ ρ n H E Ea hD s h => by
  unfold aAug at h
  split at h
  · rename_i d e hc
    have hi : i ∉ ow := fun z => by rw [List.contains_iff_mem.mpr z] at hc; cases hc
    obtain ⟨v, e', a⟩ := s.env i d hi e
    refine ⟨v, e', DE.run (te := te) (f := f) (W.plus U) σ _ n H _ _ (fun d1 n1 h1 H1 x l1 o1 ax => ?_) s.hid s.ok h⟩
    exact D2.run (r := ti) (f := r) (W.plus U) n1 H1 v x d d1 _ _ (fun d2 n2 h2 H2 y l2 o2 ay => hD.nx _ _ h2 U _ H2 (.hid (l1.trans l2)) ((s.le (l1.trans l2) o2).set hi ay)) o1 (At.le s.ok l1 _ a) ax h1
  · exact h.elim⟩
/-! while -/
def aWhile (c : AT) (f : AS) : AS := fun E ρ n => ∃ Wv : Nat → Env' → Nat → Prop, (∃ m, Wv m ρ n) ∧ ∀ m ρ n, Wv m ρ n →
  c ρ n fun b n1 => aIte b (f { E with nx := fun ρ' n' => ∃ m', m' < m ∧ Wv m' ρ' n', ct := fun ρ' n' => ∃ m', m' < m ∧ Wv m' ρ' n', bk := E.nx } ρ n1) (E.nx ρ n1)
instance {tc : TT} {tb : TS} {c : AT} {f : AS} [DT K tc c] [DS K Wx ow tb f] : DS K Wx ow (tWhile tc tb) (aWhile c f) := ⟨fun W U σ ρ n H E Ea hD s h => by
  obtain ⟨Wv, ⟨m, w0⟩, turn⟩ := h
  refine ⟨fun m σ' H' => ∃ ρ' n' U', Wv m ρ' n' ∧ SOk K W ow n' H' σ' ρ' U' ∧ Stp W U H U' H', ⟨m, ρ, n, U, w0, s, Stp.refl⟩, ?_⟩
  rintro m σ1 H1 ⟨ρ1, n1, U1, w1, s1, l1⟩
  refine DT.run (te := tc) (f := c) W σ1 ρ1 n1 H1 _ _ (fun b n2 h2 H2 l2 o2 => ?_) s1.opn s1.base (turn m ρ1 n1 w1)
  have st := l1.trans (.hid (lo_le l2))
  cases b with
  | true =>
    rw [if_pos rfl]
    refine ⟨fun σ' H' => ∃ m', m' < m ∧ ∃ ρ' n' U', Wv m' ρ' n' ∧ SOk K W ow n' H' σ' ρ' U' ∧ Stp W U H U' H', fun σ' H' q => q, ?_⟩
    have again : WantsE K W ow U1 H2 (fun ρ' n' => ∃ m', m' < m ∧ Wv m' ρ' n') fun σ' H' => ∃ m', m' < m ∧ ∃ ρ' n' U', Wv m' ρ' n' ∧ SOk K W ow n' H' σ' ρ' U' ∧ Stp W U H U' H' := fun ρ' n' ⟨m', lt, wv⟩ U' σ' H' l' s' => ⟨m', lt, ρ', n', U', wv, s', st.trans l'⟩
    exact DS.run (ow := ow) (t := tb) (f := f) W U1 σ1 ρ1 n2 H2 _ { Ea with nx := fun ρ' n' => ∃ m', m' < m ∧ Wv m' ρ' n', ct := fun ρ' n' => ∃ m', m' < m ∧ Wv m' ρ' n', bk := Ea.nx } ⟨again, hD.rt.le st, hD.nx.le st, again, hD.ex.le st⟩ (s1.lo l2 o2) (h2.1 rfl)
  | false =>
    rw [if_neg Bool.false_ne_true]
    exact hD.nx _ _ (h2.2 rfl) U1 σ1 H2 st (s1.lo l2 o2)⟩
/-! for -/
def aForGo (ow : List Nat) (G : D → Option (List (Nat × D))) (f : AS) (E : AEn) : List D → Env' → Nat → Prop
  | [], ρ, n => E.nx ρ n
  | d :: r, ρ, n => aPut ow G d ρ fun ρ1 => f { E with nx := aForGo ow G f E r, ct := aForGo ow G f E r, bk := E.nx } ρ1 n
def aFor (ow : List Nat) (I : AI) (G : D → Option (List (Nat × D))) (f : AS) : AS := fun E ρ n => I (wipeA ρ ow) n fun ds n1 => aForGo ow G f E ds ρ n1
instance {wi : TI} {g : TG} {tb : TS} {I : AI} {G : D → Option (List (Nat × D))} {f : AS} [DI K wi I] [DG K g G] [DS K Wx ow tb f] : DS K Wx ow (tFor wi g tb) (aFor ow I G f) := ⟨fun W U σ ρ n H E Ea hD s h =>
  DI.run (wi := wi) (f := I) (W.plus U) σ _ n H _ _ (fun ds n1 h1 J H1 l1 o1 hw => by
    refine ⟨fun i m σ' H' => m = ds.length - i ∧ i ≤ ds.length ∧ ∃ ρ' n' U', aForGo ow G f Ea (ds.drop i) ρ' n' ∧ SOk K W ow n' H' σ' ρ' U' ∧ Stp W U H1 U' H', ⟨_, rfl, Nat.zero_le _, ρ, n1, U, h1, s.le l1 o1, Stp.refl⟩, ?_⟩
    rintro i m σ2 H2 ⟨rfl, hi, ρ2, n2, U2, h2, s2, l2⟩
    obtain ⟨w1, w2⟩ := hw (W.plus U2) l2.new rfl H2 n2 (fun a o r e => l2.le a o (fun z => r (l2.old a z)) e) s2.ok i
    by_cases hlt : i < ds.length
    · rw [List.drop_eq_getElem_cons hlt] at h2
      obtain ⟨hgo, hy⟩ := w1 ds[i] (List.getElem?_eq_getElem hlt)
      refine .inr ⟨hgo, fun σ' H' => ∃ m', m' < ds.length - i ∧ m' = ds.length - (i + 1) ∧ i + 1 ≤ ds.length ∧ ∃ ρ' n' U', aForGo ow G f Ea (ds.drop (i + 1)) ρ' n' ∧ SOk K W ow n' H' σ' ρ' U' ∧ Stp W U H1 U' H', fun σ' H' q => q, fun x H3 hx => ?_⟩
      obtain ⟨s3, a3⟩ := hy x H3 hx
      have l3 : (W.plus U2).le H2 H3 := Wd.le_same s3
      refine put_run (g := g) (a := G) (s2.le l3 (s2.ok.same s3)) a3 h2 fun ρ4 σ4 h4 s4 => ?_
      have l14 := l2.trans (.hid l3)
      have again : WantsE K W ow U2 H3 (aForGo ow G f Ea (ds.drop (i + 1))) fun σ' H' => ∃ m', m' < ds.length - i ∧ m' = ds.length - (i + 1) ∧ i + 1 ≤ ds.length ∧ ∃ ρ' n' U', aForGo ow G f Ea (ds.drop (i + 1)) ρ' n' ∧ SOk K W ow n' H' σ' ρ' U' ∧ Stp W U H1 U' H' :=
        fun ρ' n' q U' σ' H' l' s' => ⟨_, by omega, rfl, hlt, ρ', n', U', q, s', l14.trans l'⟩
      have lt := (Stp.hid l1).trans l14
      exact DS.run (ow := ow) (t := tb) (f := f) W U2 σ4 ρ4 n2 H3 _ { Ea with nx := aForGo ow G f Ea (ds.drop (i + 1)), ct := aForGo ow G f Ea (ds.drop (i + 1)), bk := Ea.nx } ⟨again, hD.rt.le lt, hD.nx.le lt, again, hD.ex.le lt⟩ s4 h4
    · have e : i = ds.length := by omega
      subst e
      rw [List.drop_length] at h2
      exact .inl ⟨w2 (Nat.le_refl _), hD.nx _ _ h2 U2 σ2 H2 ((Stp.hid l1).trans l2) s2⟩) s.hid s.ok h⟩
/-! a list is begun, a thing is put at its end -/
def tOwnL (i : Nat) (ta : TA) : TS := tAsg (tLst ta) (gName i)
theorem k_own {X : Cx} {st : Stmt} {i : Nat} {ta : TA} (h : PS X st (tAsg (tLst ta) (gName i))) : PS X st (tOwnL i ta) := h
def aOwnL (ow : List Nat) (i : Nat) (g : AA) : AS := fun E ρ n => g (wipeA ρ ow) n fun ds n1 => match Nat.ble ds.length 1000, ow.contains i with
  | true, true => E.nx (eSet ρ i (some (.lst ds))) n1
  | _, _ => False
theorem SOk.new {W : Wd} {n : Nat} {H : Hp} {σ : L2.St} {ρ : Env'} {U : List (Addr × HO)} {i : Nat} {p : Addr} {us : List V} {ds : List D} (s : SOk K W ow n H σ ρ U) (hi : i ∈ ow) (hp : H p = none) (a : AtAll K (W.plus U) H us ds) :
    Stp W U H ((p, .lst us) :: U) (upd H p (.lst us)) ∧ SOk K W ow n (upd H p (.lst us)) (σ.set i (some (.ref p))) (eSet ρ i (some (.lst ds))) ((p, .lst us) :: U) := by
  have nrs : ¬ (W.plus U).rs p := s.ok.fresh hp
  have rn := Wd.rs_new (W := W.plus U) (xs := .lst us) hp
  have sm : Same H (upd H p (.lst us)) := same_upd hp
  have ho : (W.plus ((p, .lst us) :: U)).ok K n (upd H p (.lst us)) := Wd.ok_put (W := W.plus U) trivial nrs (.inl hp) s.ok
  have lk : (W.plus ((p, .lst us) :: U)).lk H := s.ok.lk' rn
  have le2 : (W.plus ((p, .lst us) :: U)).le H (upd H p (.lst us)) := Wd.le_same sm
  refine ⟨⟨Wd.le_same sm, rn, fun b z => Wd.rs_add z⟩, ⟨?_, ?_, ho, by rw [List.length_set, eSet_length]; exact s.len, ?_, ?_, ?_⟩⟩
  · refine List.nodup_cons.mpr ⟨fun z => nrs (Wd.rs_plus.mpr (.inl z)), s.nd⟩
  · intro u hu
    rcases List.mem_cons.mp hu with rfl | hu
    · exact fun z => nrs (Wd.rs_plus.mpr (.inr z))
    · exact s.nr u hu
  · intro j d hj he
    have hij : i ≠ j := fun z => hj (z ▸ hi)
    rw [eGet_ne hij] at he
    rw [List.getElem?_set_ne hij]
    obtain ⟨v, e1, a1⟩ := s.env j d hj he
    exact ⟨v, e1, At.lk lk le2 _ (At.ext rn rfl _ a1)⟩
  · intro j d hj he
    by_cases hij : i = j
    · subst hij
      obtain ⟨hl, he⟩ := eGet_set he
      cases he
      exact ⟨(p, .lst us), List.mem_cons_self, by rw [List.getElem?_set_self (by rw [s.len]; exact hl)], .lst (AtAll.lk lk le2 _ (AtAll.ext rn rfl _ a))⟩
    · rw [eGet_ne hij] at he
      rw [List.getElem?_set_ne hij]
      obtain ⟨⟨q, ob⟩, hu, e1, a1⟩ := s.own j d hj he
      refine ⟨_, List.mem_cons_of_mem _ hu, e1, ?_⟩
      cases a1 with
      | lst a1 => exact .lst (AtAll.lk lk le2 _ (AtAll.ext rn rfl _ a1))
      | dic l a1 => exact .dic l (AtAll.lk lk le2 _ (AtAll.ext rn rfl _ a1))
  · intro j k q hj hk ne h1 h2
    have fr : ∀ m, m ∈ ow → i ≠ m → σ[m]? = some (some (.ref p)) → eGet ρ m = none := fun m hm _ hσ => by
      cases e : eGet ρ m with
      | none => rfl
      | some d =>
        obtain ⟨u, hu, e1, _⟩ := s.own m d hm e
        rw [hσ] at e1
        have : p = u.1 := V.ref.inj (Option.some.inj (Option.some.inj e1))
        exact absurd (Wd.rs_plus.mpr (.inl (List.mem_map.mpr ⟨u, hu, this.symm⟩))) nrs
    by_cases hij : i = j
    · subst hij
      rw [List.getElem?_set_ne ne] at h2
      by_cases hl : i < σ.length
      · rw [List.getElem?_set_self hl] at h1
        cases h1
        rw [eGet_ne ne]
        exact .inr (fr k hk ne h2)
      · rw [List.getElem?_eq_none (by rw [List.length_set]; omega)] at h1
        cases h1
    · rw [List.getElem?_set_ne hij] at h1
      rw [eGet_ne hij]
      by_cases hik : i = k
      · subst hik
        by_cases hl : i < σ.length
        · rw [List.getElem?_set_self hl] at h2
          cases h2
          exact .inl (fr j hj hij h1)
        · rw [List.getElem?_eq_none (by rw [List.length_set]; omega)] at h2
          cases h2
      · rw [List.getElem?_set_ne hik] at h2
        rw [eGet_ne hik]
        exact s.dst j k q hj hk ne h1 h2
instance {i : Nat} {ta : TA} {g : AA} [DA K ta g] : DS K Wx ow (tOwnL i ta) (aOwnL ow i g) := ⟨fun W U σ ρ n H E Ea hD s h =>
  DA.run (te := ta) (f := g) (W.plus U) σ _ n H _ _ (fun ds n1 h1 H1 vs l1 o1 ax => by
    split at h1
    · rename_i hb hc
      refine ⟨size63 (by rw [ax.length]; exact Nat.le_of_ble_eq_true hb), fun p hp => ?_⟩
      obtain ⟨st, s2⟩ := (s.le l1 o1).new (List.contains_iff_mem.mp hc) hp ax
      exact hD.nx _ _ h1 _ _ _ ((Stp.hid l1).trans st) s2
    · exact h1.elim) s.hid s.ok h⟩
/-- the contents of one built thing change -/
def putO (U : List (Addr × HO)) (p : Addr) (ob : HO) : List (Addr × HO) := U.map fun u => if u.1 = p then (p, ob) else u
theorem putO_fst (U : List (Addr × HO)) (p : Addr) (ob : HO) : (putO U p ob).map (·.1) = U.map (·.1) := by
  unfold putO
  rw [List.map_map]
  refine List.map_congr_left fun u _ => ?_
  show (if u.1 = p then (p, ob) else u).1 = u.1
  split
  · rename_i e; exact e.symm
  · rfl
theorem SOk.put {W : Wd} {n : Nat} {H : Hp} {σ : L2.St} {ρ : Env'} {U : List (Addr × HO)} {i : Nat} {p : Addr} {ob ob' : HO} {d' : D} (s : SOk K W ow n H σ ρ U) (hi : i ∈ ow) (hl : eGet ρ i ≠ none) (hσ : σ[i]? = some (some (.ref p))) (hU : (p, ob) ∈ U) (hob : ∃ xs, ob = .lst xs) (hm : Mt ob') (a : OwAt K (W.plus U) H ob' d') :
    Stp W U H (putO U p ob') (upd H p ob') ∧ SOk K W ow n (upd H p ob') σ (eSet ρ i (some d')) (putO U p ob') := by
  have hfst := putO_fst U p ob'
  have hrs : ∀ b, (W.plus (putO U p ob')).rs b ↔ (W.plus U).rs b := fun b => by rw [Wd.rs_plus, Wd.rs_plus, hfst]
  have hpr : (W.plus U).rs p := Wd.rs_plus.mpr (.inl (List.mem_map.mpr ⟨_, hU, rfl⟩))
  have le1 : (W.plus U).le H (upd H p ob') := fun b o r e => by
    rw [upd_ne fun z => r (by rw [z]; exact hpr)]
    exact e
  obtain ⟨hp1, _⟩ := s.ok.owns (p, ob) (List.mem_append_left _ hU)
  have npw : ¬ W.rs p := s.nr _ hU
  have hdk : ∀ d b, W.dk = some (d, b) → p ≠ d ∧ p ≠ b := fun d b e => s.ok.dis d b e _ (List.mem_append_left _ hU)
  have ok' : (W.plus (putO U p ob')).ok K n (upd H p ob') := by
    refine ⟨fun d b e => ?_, fun q hq => ?_, fun d b e q hq => ?_⟩
    · obtain ⟨c, D, l⟩ := s.ok.deck d b e
      refine ⟨c, ?_, l⟩
      obtain ⟨⟨s', ns, cs, i', k, h1, h2, h3, h4⟩, ne⟩ := D
      obtain ⟨n1, n2⟩ := hdk d b e
      obtain ⟨xs, rfl⟩ := hob
      refine ⟨⟨s', ns, cs, i', k, ?_, ?_, h3.upd (.inr ⟨_, hp1⟩), h4⟩, ne⟩
      · rw [upd_ne (Ne.symm n1)]; exact h1
      · rw [upd_ne (Ne.symm n2)]; exact h2
    · rcases List.mem_append.mp hq with hq | hq
      · obtain ⟨u, hu, e⟩ := List.mem_map.mp hq
        split at e
        · subst e
          exact ⟨upd_same, hm⟩
        · rename_i hne
          subst e
          rw [upd_ne hne]
          exact s.ok.owns u (List.mem_append_left _ hu)
      · have hq1 : q.1 ≠ p := fun z => npw (.inr (List.mem_map.mpr ⟨q, hq, z⟩))
        rw [upd_ne hq1]
        exact s.ok.owns q (List.mem_append_right _ hq)
    · rcases List.mem_append.mp hq with hq | hq
      · have : q.1 ∈ U.map (·.1) := by rw [← hfst]; exact List.mem_map.mpr ⟨q, hq, rfl⟩
        obtain ⟨u, hu, e'⟩ := List.mem_map.mp this
        rw [← e']
        exact s.ok.dis d b e u (List.mem_append_left _ hu)
      · exact s.ok.dis d b e q (List.mem_append_right _ hq)
  have wk : ∀ {v : V} {d : D}, At K (W.plus U) H v d → At K (W.plus (putO U p ob')) (upd H p ob') v d := fun h => At.weak (fun b z => (hrs b).mp z) rfl _ (At.le s.ok le1 _ h)
  have wka : ∀ {vs : List V} {ds : List D}, AtAll K (W.plus U) H vs ds → AtAll K (W.plus (putO U p ob')) (upd H p ob') vs ds := fun h => AtAll.weak (fun b z => (hrs b).mp z) rfl _ (AtAll.le s.ok le1 _ h)
  have wko : ∀ {o : HO} {d : D}, OwAt K (W.plus U) H o d → OwAt K (W.plus (putO U p ob')) (upd H p ob') o d := fun h => by
    cases h with
    | lst h => exact .lst (wka h)
    | dic l h => exact .dic l (wka h)
  refine ⟨⟨le1, fun b z r => absurd ((hrs b).mp z) r, fun b z => (hrs b).mpr z⟩, ⟨by rw [hfst]; exact s.nd, ?_, ok', by rw [eSet_length]; exact s.len, ?_, ?_, ?_⟩⟩
  · intro u hu
    have : u.1 ∈ U.map (·.1) := by rw [← hfst]; exact List.mem_map.mpr ⟨u, hu, rfl⟩
    obtain ⟨w, hw, e⟩ := List.mem_map.mp this
    rw [← e]
    exact s.nr w hw
  · intro j d hj he
    have hij : i ≠ j := fun z => hj (z ▸ hi)
    rw [eGet_ne hij] at he
    obtain ⟨v, e1, a1⟩ := s.env j d hj he
    exact ⟨v, e1, wk a1⟩
  · intro j d hj he
    by_cases hij : i = j
    · subst hij
      cases (eGet_set he).2
      exact ⟨(p, ob'), List.mem_map.mpr ⟨_, hU, by rw [if_pos rfl]⟩, hσ, wko a⟩
    · rw [eGet_ne hij] at he
      obtain ⟨u, hu, e1, a1⟩ := s.own j d hj he
      have hup : u.1 ≠ p := fun z => by
        rw [z] at e1
        rcases s.dst i j p hi hj hij hσ e1 with h | h
        · exact hl h
        · rw [h] at he; cases he
      exact ⟨u, List.mem_map.mpr ⟨u, hu, by rw [if_neg hup]⟩, e1, wko a1⟩
  · intro j k q hj hk ne h1 h2
    rcases s.dst j k q hj hk ne h1 h2 with h | h
    · by_cases hij : i = j
      · subst hij
        exact absurd h hl
      · exact .inl (by rw [eGet_ne hij]; exact h)
    · by_cases hik : i = k
      · subst hik
        exact absurd h hl
      · exact .inr (by rw [eGet_ne hik]; exact h)
def tApp (K : PySem.W.Frag) (i : Nat) (te : TE) : TS := tDrop (tBM K "list" rAppend (tVar i) (tCons te tNil))
theorem k_app {X : Cx} {st : Stmt} {i : Nat} {te : TE} (hK : X.K = K) (h : PS X st (tDrop (tBM X.K "list" rAppend (tVar i) (tCons te tNil)))) : PS X st (tApp K i te) := hK ▸ h
def aApp (ow : List Nat) (i : Nat) (f : AE) : AS := fun E ρ n => match eGet ρ i, ow.contains i with
  | some (.lst ds), true => f (wipeA ρ ow) n fun d n1 => ds.length < 1000000 ∧ E.nx (eSet ρ i (some (.lst (ds ++ [d])))) n1
  | _, _ => False
theorem app_run {W : Wd} {U : List (Addr × HO)} {σ : L2.St} {ρ : Env'} {n : Nat} {H : Hp} {i : Nat} {p : Addr} {v : V} {ds : List D} {d : D} {Q : Hp → Prop} (s : SOk K W ow n H σ ρ U) (hi : i ∈ ow) (he : eGet ρ i = some (.lst ds)) (hl : ds.length < 1000000) (hσ : σ[i]? = some (some (.ref p))) (ax : At K (W.plus U) H v d)
    (hQ : ∀ U' H', Stp W U H U' H' → SOk K W ow n H' σ (eSet ρ i (some (.lst (ds ++ [d])))) U' → Q H') : ∃ l xs y, V.ref p = .ref l ∧ [v] = [y] ∧ H l = some (.lst xs) ∧ xs.length < sizeLine ∧ Q (upd H l (.lst (xs ++ [y]))) := by
  obtain ⟨u, hu, e1, a⟩ := s.own i _ hi he
  rw [hσ] at e1
  have ep : p = u.1 := V.ref.inj (Option.some.inj (Option.some.inj e1))
  subst ep
  obtain ⟨p, ob⟩ := u
  cases a with
  | lst a =>
    rename_i us
    have hp1 := (s.ok.owns _ (List.mem_append_left _ hu)).1
    obtain ⟨st, s2⟩ := s.put hi (by rw [he]; exact fun z => nomatch z) hσ hu ⟨_, rfl⟩ (ob' := .lst (us ++ [v])) trivial (.lst (a.append (.cons ax .nil)))
    exact ⟨_, us, v, rfl, rfl, hp1, Nat.lt_of_lt_of_le (by rw [a.length]; exact hl) lim, hQ _ _ st s2⟩
instance {i : Nat} {te : TE} {f : AE} [DE K te f] : DS K Wx ow (tApp K i te) (aApp ow i f) := ⟨fun W U σ ρ n H E Ea hD s h => by
  unfold aApp at h
  split at h
  · rename_i ds he hc
    have hi := List.contains_iff_mem.mp hc
    obtain ⟨u, hu, e1, a⟩ := s.own i _ hi he
    have hp1 := (s.ok.owns _ (List.mem_append_left _ hu)).1
    refine ⟨_, e1, ?_, DE.run (te := te) (f := f) (W.plus U) σ _ n H _ _ (fun d n1 h1 H1 x l1 o1 ax => ?_) s.hid s.ok h⟩
    · obtain ⟨p, ob⟩ := u
      cases a with
      | lst a => exact .inl ⟨rfl, _, SqL.of hp1⟩
    · exact app_run (s.le l1 o1) hi he h1.1 e1 ax fun U' H' st s' => hD.nx _ _ h1.2 U' σ H' ((Stp.hid l1).trans st) s'
  · exact h.elim⟩
/-! a def -/
def startA : Nat → List D → Env'
  | 0, _ => []
  | k + 1, [] => none :: startA k []
  | k + 1, d :: ds => some d :: startA k ds
theorem startA_none : ∀ {k i : Nat} {d : D}, eGet (startA k []) i = some d → False
  | 0, _, _, h => by cases h
  | k + 1, 0, _, h => by cases h
  | k + 1, i + 1, _, h => startA_none (k := k) (i := i) h
theorem startA_at {W : Wd} {H : Hp} : ∀ {k : Nat} {vs : List V} {ds : List D}, AtAll K W H vs ds → ∀ (i : Nat) (d : D), eGet (startA k ds) i = some d → ∃ v, vs[i]? = some v ∧ At K W H v d
  | 0, _, _, _, _, _, e => by cases e
  | k + 1, _, [], h, i, d, e => (startA_none e).elim
  | k + 1, _, _ :: _, h, 0, d, e => by
    cases h with
    | cons a r => cases e; exact ⟨_, rfl, a⟩
  | k + 1, _, _ :: ds, h, i + 1, d, e => by
    cases h with
    | cons a r => exact startA_at (k := k) r i d e
theorem startA_length : ∀ (k : Nat) (ds : List D), (startA k ds).length = k
  | 0, _ => rfl
  | k + 1, [] => by rw [startA, List.length_cons, startA_length]
  | k + 1, _ :: ds => by rw [startA, List.length_cons, startA_length]
theorem start_at {W : Wd} {H : Hp} {N : List Str} {k : Nat} {vs : List V} {ds : List D} (hk : N.length = k) (hl : ds.length ≤ k) (h : AtAll K W H vs ds) : EnvAt K W H (L2.start N vs) (startA k ds) := by
  unfold L2.start
  have hv := h.length
  refine ⟨by rw [startA_length]; simp; omega, fun i d e => ?_⟩
  obtain ⟨v, e1, a⟩ := startA_at h i d e
  refine ⟨v, ?_, a⟩
  have hi : i < vs.length := (List.getElem?_eq_some_iff.mp e1).1
  rw [List.getElem?_append_left (by rw [List.length_map]; exact hi), List.getElem?_map, e1]
  rfl
def aTop (Q : D → Nat → Prop) : AEn := { nx := fun _ n => Q .non n, rt := Q }
theorem le_start {W : Wd} {U : List (Addr × HO)} {H H' : Hp} (s : Stp W [] H U H') : W.le H H' := s.le
theorem startA_big : ∀ {k i : Nat} {ds : List D}, ds.length ≤ i → eGet (startA k ds) i = none
  | 0, _, _, _ => rfl
  | k + 1, 0, [], _ => rfl
  | k + 1, i + 1, [], h => startA_big (k := k) (i := i) (ds := []) (Nat.zero_le _)
  | k + 1, 0, _ :: _, h => absurd h (Nat.not_succ_le_zero _)
  | k + 1, i + 1, _ :: ds, h => startA_big (k := k) (i := i) (ds := ds) (Nat.le_of_succ_le_succ h)
theorem start_ok {W : Wd} {n : Nat} {H : Hp} {N : List Str} {k : Nat} {vs : List V} {ds : List D} (hk : N.length = k) (hl : ds.length ≤ k) (ho : ∀ i ∈ ow, ds.length ≤ i) (h : AtAll K W H vs ds) (o : W.ok K n H) : SOk K W ow n H (L2.start N vs) (startA k ds) [] := by
  have e := start_at hk hl h
  refine ⟨List.nodup_nil, fun u hu => (by cases hu), o, e.1, fun i d _ he => e.2 i d he, fun i d hi he => ?_, fun i j p hi _ _ _ _ => .inl (startA_big (ho i hi))⟩
  rw [startA_big (ho i hi)] at he
  cases he
theorem fn_mir {P : Program} {w : World} {mg : Str → Option Value} {base : Heap} {x qual : Str} {st : Stmt} {f : Addr} {fd : FuncData} {N ps : List Str} {k : Nat} {A : ASp} (ow : List Nat) (kk : Nat) (hk : N.length = kk) (hp : ps.length ≤ kk) (ho : ∀ i ∈ ow, ps.length ≤ i) (F : Fun K x qual st f fd) (S : FnScope N ps (defScope st))
    (hbody : ∀ (cdv : Value) (Ar : Around) (outer : List Env) (s : Shared) (H : Hp) (E : XK), Room k (Ar.deeper (envOfC qual (defScope st) s.heap.objs.size f cdv)) →
      ∃ (t : TS) (fa : AS), PSs (cxOf CX0 P w K mg base N qual (defScope st) f cdv Ar outer s H E).nox (defBody st) t ∧ DS K W0 ow t fa ∧ ∀ ds n Q, ds.length = ps.length → A ds n Q → fa (aTop Q) (startA kk ds) n) : FnOk P w K mg base CX0 (k + 1) f fd ps (spOf K ps.length A) := by
  refine F.ok S (fun vs H Q E h => ?_) (fun cdv Ar outer s H vs Q E hr h => ?_)
  · obtain ⟨W, n, ds, Qa, a, hl, _⟩ := h
    rw [a.length, hl]
  · obtain ⟨W, n, ds, Qa, a, hl, o, hQ, hA⟩ := h
    obtain ⟨t, fa, h1, h2, h3⟩ := hbody cdv Ar outer s H E hr
    refine ⟨t, h1, DS.run (Wx := W0) (ow := ow) (t := t) (f := fa) W [] (L2.start N vs) (startA kk ds) n H _ (aTop Qa) ⟨fun ρ' n' q U' σ' H' l' s' => hQ _ _ q H' _ (le_start l') s'.base .non, fun d n' q U1 H1 H' v l' l2 o' a' => hQ _ _ q H' v ((le_start l').trans l2) o' a', fun _ _ q => q.elim, fun _ _ q => q.elim, fun _ _ _ _ _ q => q.elim⟩ (start_ok hk (by omega) (fun i hi => by rw [hl]; exact ho i hi) a o) (h3 ds n Qa hl hA)⟩
end

/-! ### sorted -/
abbrev Pt := Int × Int
def lexLe (p q : Pt) : Prop := p.1 < q.1 ∨ (p.1 = q.1 ∧ p.2 ≤ q.2)
def pt (p : Pt) : D := .tup [.int p.1, .int p.2]
section
variable {K : PySem.W.Frag}
open Classical in
noncomputable def kz (zs : List (V × Pt)) (x : V) : Pt := if h : ∃ p, (x, p) ∈ zs then Classical.choose h else (0, 0)
theorem kz_is {zs : List (V × Pt)} {x : V} {p : Pt} (hu : ∀ q, (x, q) ∈ zs → q = p) (hm : (x, p) ∈ zs) : kz zs x = p := by
  unfold kz
  have h : ∃ p, (x, p) ∈ zs := ⟨p, hm⟩
  rw [dif_pos h]
  exact hu _ (Classical.choose_spec h)
def rSrtP (K : PySem.W.Frag) : List V → Hp → VK → Prop := fun vs H Q => ∃ (a : Addr) (zs : List (V × Pt)), vs = [V.ref a] ∧ SqL K H a (zs.map Prod.fst) ∧ (∀ z ∈ zs, ∃ t, z.1 = V.ref t ∧ SqT K H t [.int z.2.1, .int z.2.2]) ∧
  ∀ (ws : List (V × Pt)) (p : Addr), ws.Perm zs → (ws.map Prod.snd).Pairwise lexLe → H p = none → Q (.ref p) (upd H p (.lst (ws.map Prod.fst)))
theorem k_sortP {X : Cx} (hK : X.K = K) : CallR X (.builtin "sorted") (rSrtP K) := by
  subst hK
  intro pins s σ H vs us Q I r h
  obtain ⟨a, zs, rfl, hs, hx, q⟩ := h
  obtain ⟨its, rv, hl, hz⟩ := I.list hs
  obtain ⟨u, rfl, ru⟩ := vals1 r
  obtain rfl : u = Value.ref a := ru
  have hk : ∀ z ∈ zs, kz zs z.1 = z.2 := fun z hm => kz_is (fun p' hq => by
    obtain ⟨t, e, ht⟩ := hx z hm
    obtain ⟨t', e', ht'⟩ := hx _ hq
    rw [e] at e'
    cases e'
    have := I.tuple_inj ht ht'
    simp only [List.cons.injEq, V.int.injEq, and_true] at this
    exact Prod.ext this.1.symm this.2.symm) hm
  have hxs : ∀ x ∈ zs.map Prod.fst, ∃ t, x = V.ref t ∧ SqT X.K H t [.int (kz zs x).1, .int (kz zs x).2] := fun x hm => by
    obtain ⟨z, hz', rfl⟩ := List.mem_map.mp hm
    obtain ⟨t, e, ht⟩ := hx z hz'
    exact ⟨t, e, by rw [hk z hz']; exact ht⟩
  obtain ⟨e1, e2⟩ := refs_back rv fun x m => by
    obtain ⟨t, e, _⟩ := hxs x m
    exact ⟨t, e⟩
  refine SrtO.sorted_pairsO (k := fun u => kz zs (backV u)) hl.isList (by rw [← rv.length]; exact hz) (fun v hv => ?_) fun h' d out h1 h2 kp hd hn => ?_
  · obtain ⟨t, rfl⟩ := e2 v hv
    have hm : V.ref t ∈ zs.map Prod.fst := by rw [e1]; exact List.mem_map.mpr ⟨_, hv, rfl⟩
    obtain ⟨t', e, ht⟩ := hxs _ hm
    cases e
    obtain ⟨its2, r2, ⟨o, ho, hc, n, hd⟩, _⟩ := I.tuple ht
    obtain ⟨u1, u2, rfl, ri, rj⟩ := vals2 r2
    obtain ⟨t1, rfl⟩ := ri
    obtain ⟨t2, rfl⟩ := rj
    exact ⟨t, o, t1, t2, n, rfl, ho, hc, hd⟩
  · have h3 : ∀ u ∈ out, ∃ a, u = Value.ref a := fun u hu => e2 u (h2.perm.mem_iff.mp hu)
    obtain ⟨n, hn⟩ := hn
    have hb : SrtO.Stb (ltP (kz zs)) (out.map backV) (zs.map Prod.fst) := by
      rw [e1]
      exact SrtO.Stb.map (ltP_swo (kz zs)) backV h2
    have hw : ((out.map backV).map fun y => (y, kz zs y)).Perm zs := by
      have e3 : (zs.map Prod.fst).map (fun y => (y, kz zs y)) = zs := by
        rw [List.map_map]
        conv => rhs; rw [← List.map_id zs]
        exact List.map_congr_left fun z hz' => by
          show (z.1, kz zs z.1) = z
          rw [hk z hz']
      have := hb.perm.map fun y => (y, kz zs y)
      rw [e3] at this
      exact this
    have hf : ((out.map backV).map fun y => (y, kz zs y)).map Prod.fst = out.map backV := by
      rw [List.map_map]
      exact List.map_id _
    refine ⟨.ref d, upd H d (.lst (out.map backV)), I.laid (t' := s.toks) kp hd ⟨?_, out, n, vals_back h3, hn⟩, rfl, ?_⟩
    · rw [hb.len]
      exact hz
    · have := q _ d hw ?_ (I.hok.fresh hd)
      · rw [hf] at this
        exact this
      · have hs2 := SrtO.srtd_map (lt := ltP (kz zs)) (f := backV) h1
        rw [List.map_map, List.pairwise_map]
        refine List.Pairwise.imp (fun {a b} h => ?_) hs2
        have := SrtO.lexB_no.mp h
        show lexLe (kz zs a) (kz zs b)
        unfold lexLe
        omega
def aSrtP : List D → Nat → (D → Nat → Prop) → Prop := fun ds n Q => ∃ ps : List Pt, ds = [.lst (ps.map pt)] ∧ ∀ rs : List Pt, rs.Perm ps → rs.Pairwise lexLe → Q (.lst (rs.map pt)) n
theorem pts_zip {W : Wd} {H : Hp} : ∀ {ps : List Pt} {us : List V}, AtAll K W H us (ps.map pt) → ∃ zs : List (V × Pt), zs.map Prod.fst = us ∧ zs.map Prod.snd = ps ∧ ∀ z ∈ zs, (∃ t, z.1 = V.ref t ∧ SqT K H t [.int z.2.1, .int z.2.2]) ∧ At K W H z.1 (pt z.2)
  | [], _, h => by cases h; exact ⟨[], rfl, rfl, fun z hz => by cases hz⟩
  | p :: ps, _, h => by
    cases h with
    | @cons v vs _ _ a r =>
      obtain ⟨zs, h1, h2, h3⟩ := pts_zip r
      refine ⟨(v, p) :: zs, by rw [List.map_cons, h1], by rw [List.map_cons, h2], fun z hz => ?_⟩
      rcases List.mem_cons.mp hz with rfl | hz
      · refine ⟨?_, a⟩
        cases a with
        | tup s a =>
          cases a with
          | cons a b =>
            cases b with
            | cons b c =>
              cases a
              cases b
              cases c
              exact ⟨_, rfl, s⟩
      · exact h3 z hz
theorem zip_at {W : Wd} {H : Hp} : ∀ {ws : List (V × Pt)}, (∀ z ∈ ws, At K W H z.1 (pt z.2)) → AtAll K W H (ws.map Prod.fst) ((ws.map Prod.snd).map pt)
  | [], _ => .nil
  | w :: ws, h => .cons (h w List.mem_cons_self) (zip_at fun z hz => h z (List.mem_cons_of_mem _ hz))
instance : DL K (rSrtP K) aSrtP := ⟨fun W n H xs ds Q Qa hQ o a h => by
  obtain ⟨ps, rfl, h⟩ := h
  cases a with
  | cons a r =>
    cases r
    cases a with
    | @lst l us _ nr s a =>
      obtain ⟨zs, h1, h2, h3⟩ := pts_zip a
      subst h1 h2
      refine ⟨l, zs, rfl, SqL.of s, fun z hz => (h3 z hz).1, fun ws p hp hpw hn => hQ.new o (h (ws.map Prod.snd) (hp.map _) hpw) hn ?_⟩
      exact .lst (o.fresh hn) upd_same (AtAll.le o (Wd.le_same (same_upd hn)) _ (zip_at fun z hz => (h3 z (hp.mem_iff.mp hz)).2))⟩
/-! texts -/
def rSrtS (K : PySem.W.Frag) : List V → Hp → VK → Prop := rSortedS K
theorem k_sortS {X : Cx} (hK : X.K = K) : CallR X (.builtin "sorted") (rSrtS K) := hK ▸ cr_sortedS
end

/-! ### sorted rows: tuples whose first items are texts, no two alike -/
section
open PySem PyProof.Rows Srt SrtO
def ltS (a b : Str) : Bool := decide (a.cps.toList < b.cps.toList)
theorem ltS_swo {α : Type} (k : α → Str) : Swo fun x y => ltS (k x) (k y) := by
  refine ⟨fun x y h => ?_, fun x y z h1 h2 => ?_⟩
  · exact decide_eq_false (List.lt_asymm (of_decide_eq_true h))
  · have a : (k x).cps.toList ≤ (k y).cps.toList := of_decide_eq_false h1
    have b : (k y).cps.toList ≤ (k z).cps.toList := of_decide_eq_false h2
    exact decide_eq_false (List.le_trans a b)
def IsRow (h : Heap) (v : Value) (nm : Str) : Prop := ∃ (a : Addr) (o : Obj) (t : Tok) (r : List Value) (n : Nat), v = .ref a ∧ h.get? a = some o ∧ o.cls = .type "tuple" ∧ o.data = .seq (Value.str nm t :: r).toArray n
theorem IsRow.keeps {h h' : Heap} {v : Value} {nm : Str} (H : IsRow h v nm) (k : ∀ b o, h.get? b = some o → o.cls = .type "tuple" → h'.get? b = some o) : IsRow h' v nm := by
  obtain ⟨a, o, t, r, n, e, ho, hc, hd⟩ := H
  exact ⟨a, o, t, r, n, e, k _ _ ho hc, hc, hd⟩
variable {prog : Program} {w : World} {A : Around} {E : Value → Shared → Prop} {s : Shared}
theorem kat_same {b : Bool} {Q : Bool → Shared → Prop} (h : Q false s) : ∀ (l : List Value) (i : Nat), PySem.W.KatLex prog w A b false Q (l.zip l) i s
  | [], i => PySem.W.kat_nil h
  | v :: l, i => PySem.W.kat_cons (SeqAt.EqAt.same v prog w _ _ (PySem.W.kat_yes (kat_same h l (i + 1))))
theorem row_cmp {vs : List Value} {k : Value → Str} (hp : ∀ v ∈ vs, IsRow s.heap v (k v)) (hd : ∀ v ∈ vs, ∀ u ∈ vs, k v = k u → v = u) : Cmp prog w A s (tuples' true) (fun p => p.1 ∈ vs) (lt2 fun v u => ltS (k v) (k u)) := by
  intro p q hm hm'
  have h1 := hp _ hm
  have h2 := hp _ hm'
  show wpAny (model prog w) A (keyLt' (tuples' true) p.1 q.1) (fun r s' => s' = s ∧ r = ltS (k p.1) (k q.1)) (fun _ _ => False) s
  by_cases e : k p.1 = k q.1
  · have e2 := hd _ hm _ hm' e
    rw [← e2]
    obtain ⟨a, o, t, r, n, e1, ho, hc, hd1⟩ := h1
    generalize k p.1 = nm at *
    rw [e1]
    refine PySem.W.kat_lt ho hd1 ho hd1 ?_
    have e5 : decide ((Value.str nm t :: r).toArray.size < (Value.str nm t :: r).toArray.size) = false := decide_eq_false (Nat.lt_irrefl _)
    rw [e5]
    exact kat_same ⟨rfl, ((ltS_swo id).refl nm).symm⟩ _ 0
  · obtain ⟨a, o, t, r, n, e1, ho, hc, hd1⟩ := h1
    obtain ⟨a', o', t', r', n', e1', ho', hc', hd1'⟩ := h2
    generalize k p.1 = nm at *
    generalize k q.1 = nm' at *
    rw [e1, e1']
    refine PySem.W.kat_lt ho hd1 ho' hd1' ?_
    refine PySem.W.kat_cons (SeqAt.EqAt.str_str nm t nm' t' prog w _ _ ?_)
    have e4 : (nm == nm') = false := by simpa using e
    rw [e4]
    exact PySem.W.kat_no (oneLt_str ⟨rfl, rfl⟩)
theorem row_firsts {h : Heap} : ∀ {vs : List Value}, (∀ v ∈ vs, ∃ nm, IsRow h v nm) → ∃ fs, PySem.W.KatTups h vs fs ∧ fs.length = vs.length ∧ ∀ f ∈ fs, ∃ nm t, f = Value.str nm t
  | [], _ => ⟨[], .nil, rfl, fun f hf => by cases hf⟩
  | v :: vs, H => by
    obtain ⟨fs, h1, h2, h3⟩ := row_firsts (vs := vs) fun u hu => H u (List.mem_cons_of_mem _ hu)
    obtain ⟨nm, a, o, t, r, n, rfl, ho, hc, hd⟩ := H v List.mem_cons_self
    refine ⟨.str nm t :: fs, .cons ho hc hd rfl h1, by rw [List.length_cons, List.length_cons, h2], fun f hf => ?_⟩
    rcases List.mem_cons.mp hf with rfl | hf
    · exact ⟨nm, t, rfl⟩
    · exact h3 f hf
theorem rows_sortable {a : Addr} {vs : List Value} {k : Value → Str} (h0 : 0 < vs.length) (hp : ∀ v ∈ vs, IsRow s.heap v (k v)) (hd : ∀ v ∈ vs, ∀ u ∈ vs, k v = k u → v = u) (ha : ∀ o, s.heap.get? a = some o → o.cls ≠ .type "tuple") : SortableO prog w A s a vs fun v u => ltS (k v) (k u) := by
  intro h' keep
  have hp' : ∀ v ∈ vs, IsRow h' v (k v) := fun v hm => (hp v hm).keeps fun b o e c => keep b o (fun z => by subst z; exact ha o e c) e
  obtain ⟨fs, h1, h2, h3⟩ := row_firsts fun v hm => ⟨_, hp' v hm⟩
  refine ⟨tuples' true, fun Q E hq => ?_, row_cmp hp' hd⟩
  refine PySem.W.kat_kind (T := .type "str") h1 (by omega) (fun f hm => ?_) (by rfl) ?_
  · obtain ⟨x, t, rfl⟩ := h3 f hm
    exact PySem.W.Looks.now
  · have e : (Value.type "str" != Value.type "tuple") = true := by first | decide +kernel | rfl | decide
    rw [e]
    exact hq
theorem sorted_rows {l : Addr} {vs : List Value} {k : Value → Str} {Q : Value → Shared → Prop} (hl : s.heap.IsList l vs.toArray) (hz : vs.length ≤ sizeLine) (hp : ∀ v ∈ vs, IsRow s.heap v (k v)) (hd : ∀ v ∈ vs, ∀ u ∈ vs, k v = k u → v = u)
    (h : ∀ (h' : Heap) (d : Addr) (out : List Value), Srtd (fun v u => ltS (k v) (k u)) out → Stb (fun v u => ltS (k v) (k u)) out vs → (∀ b o, s.heap.get? b = some o → h'.get? b = some o) → s.heap.objs.size ≤ d → (∃ n, h'.get? d = some (seqObj "list" out.toArray n)) → Q (.ref d) { s with heap := h' }) :
    wpAny (model prog w) A (call (.builtin "sorted") [.ref l]) Q E s := by
  refine sorted_ord (ltS_swo k) hl hz (fun h2 h₁ a ha kk => ?_) fun out hs hb => ?_
  · refine rows_sortable (s := { s with heap := h₁ }) (by omega) (fun v hm => (hp v hm).keeps fun b o e _ => (kk b o e).2) hd fun o e => ?_
    have e' : some o = some (seqObj "list" vs.toArray 0) := e.symm.trans ha
    cases e'
    intro c
    exact absurd (Value.type.inj c) (by decide)
  · exact h _ _ out hs hb (fun b o e => sortedAll_old e) (Nat.le_succ _) (sortedAll_at s.heap vs out.toArray)
end
section
variable {K : PySem.W.Frag}
abbrev Rw := Str × List D
def rowT (r : Rw) : D := .tup (.str r.1 :: r.2)
open Classical in
noncomputable def kr (zs : List (V × Rw)) (x : V) : Rw := if h : ∃ p, (x, p) ∈ zs then Classical.choose h else (Str.ofString "", [])
theorem nodup_inj {α β : Type} {f : α → β} : ∀ {l : List α}, (l.map f).Nodup → ∀ x ∈ l, ∀ y ∈ l, f x = f y → x = y
  | [], _, x, hx, _, _, _ => by cases hx
  | a :: l, h, x, hx, y, hy, e => by
    rw [List.map_cons, List.nodup_cons] at h
    rcases List.mem_cons.mp hx with e1 | h1
    · rcases List.mem_cons.mp hy with e2 | h2
      · rw [e1, e2]
      · exact absurd (List.mem_map.mpr ⟨y, h2, by rw [← e, e1]⟩) h.1
    · rcases List.mem_cons.mp hy with e2 | h2
      · exact absurd (List.mem_map.mpr ⟨x, h1, by rw [e, e2]⟩) h.1
      · exact nodup_inj h.2 x h1 y h2 e
def rSrtR (K : PySem.W.Frag) : List V → Hp → VK → Prop := fun vs H Q => ∃ (a : Addr) (zs : List (V × Rw)), vs = [V.ref a] ∧ SqL K H a (zs.map Prod.fst) ∧ (∀ z ∈ zs, ∃ t r, z.1 = V.ref t ∧ SqT K H t (.str z.2.1 :: r)) ∧ (zs.map fun z => z.2.1).Nodup ∧
  ∀ (ws : List (V × Rw)) (p : Addr), ws.Perm zs → ws.Pairwise (fun x y => ltS y.2.1 x.2.1 = false) → H p = none → Q (.ref p) (upd H p (.lst (ws.map Prod.fst)))
theorem k_sortR {X : Cx} (hK : X.K = K) : CallR X (.builtin "sorted") (rSrtR K) := by
  subst hK
  intro pins s σ H vs us Q I r h
  obtain ⟨a, zs, rfl, hs, hx, hnd, q⟩ := h
  obtain ⟨its, rv, hl, hz⟩ := I.list hs
  obtain ⟨u, rfl, ru⟩ := vals1 r
  obtain rfl : u = Value.ref a := ru
  have hk : ∀ z ∈ zs, kr zs z.1 = z.2 := fun z hm => by
    have h : ∃ p, (z.1, p) ∈ zs := ⟨z.2, hm⟩
    unfold kr
    rw [dif_pos h]
    have hq := Classical.choose_spec h
    obtain ⟨t, r, e, ht⟩ := hx z hm
    obtain ⟨t', r', e', ht'⟩ := hx _ hq
    rw [e] at e'
    cases e'
    have := I.tuple_inj ht ht'
    have e2 : z.2.1 = (Classical.choose h).1 := by
      have := (List.cons.inj this).1
      exact V.str.inj this
    have e3 := nodup_inj hnd _ hq z hm e2.symm
    exact congrArg Prod.snd e3
  have hxs : ∀ x ∈ zs.map Prod.fst, ∃ t r, x = V.ref t ∧ SqT X.K H t (.str (kr zs x).1 :: r) := fun x hm => by
    obtain ⟨z, hz', rfl⟩ := List.mem_map.mp hm
    obtain ⟨t, r, e, ht⟩ := hx z hz'
    exact ⟨t, r, e, by rw [hk z hz']; exact ht⟩
  obtain ⟨e1, e2⟩ := refs_back rv fun x m => by
    obtain ⟨t, r, e, _⟩ := hxs x m
    exact ⟨t, e⟩
  refine sorted_rows (k := fun u => (kr zs (backV u)).1) hl.isList (by rw [← rv.length]; exact hz) (fun v hv => ?_) (fun v hv u hu e => ?_) fun h' d out h1 h2 kp hd hn => ?_
  · obtain ⟨t, rfl⟩ := e2 v hv
    have hm : V.ref t ∈ zs.map Prod.fst := by rw [e1]; exact List.mem_map.mpr ⟨_, hv, rfl⟩
    obtain ⟨t', r, e, ht⟩ := hxs _ hm
    cases e
    obtain ⟨its2, r2, ⟨o, ho, hc, n, hd⟩, _⟩ := I.tuple ht
    cases r2 with
    | cons ri rr =>
      obtain ⟨t1, rfl⟩ := ri
      exact ⟨t, o, t1, _, n, rfl, ho, hc, hd⟩
  · obtain ⟨t, rfl⟩ := e2 v hv
    obtain ⟨t', rfl⟩ := e2 u hu
    have hm : V.ref t ∈ zs.map Prod.fst := by rw [e1]; exact List.mem_map.mpr ⟨_, hv, rfl⟩
    have hm' : V.ref t' ∈ zs.map Prod.fst := by rw [e1]; exact List.mem_map.mpr ⟨_, hu, rfl⟩
    obtain ⟨z, hz1, ez⟩ := List.mem_map.mp hm
    obtain ⟨z', hz1', ez'⟩ := List.mem_map.mp hm'
    have e' : (kr zs (V.ref t)).1 = (kr zs (V.ref t')).1 := e
    rw [← ez, ← ez', hk z hz1, hk z' hz1'] at e'
    have e3 := nodup_inj hnd z hz1 z' hz1' e'
    rw [e3, ez'] at ez
    cases ez
    rfl
  · have h3 : ∀ u ∈ out, ∃ a, u = Value.ref a := fun u hu => e2 u (h2.perm.mem_iff.mp hu)
    obtain ⟨n, hn⟩ := hn
    have hb : SrtO.Stb (fun x y => ltS (kr zs x).1 (kr zs y).1) (out.map backV) (zs.map Prod.fst) := by
      rw [e1]
      exact SrtO.Stb.map (ltS_swo fun x => (kr zs x).1) backV h2
    have hw : ((out.map backV).map fun y => (y, kr zs y)).Perm zs := by
      have e3 : (zs.map Prod.fst).map (fun y => (y, kr zs y)) = zs := by
        rw [List.map_map]
        conv => rhs; rw [← List.map_id zs]
        exact List.map_congr_left fun z hz' => by
          show (z.1, kr zs z.1) = z
          rw [hk z hz']
      have := hb.perm.map fun y => (y, kr zs y)
      rw [e3] at this
      exact this
    have hf : ((out.map backV).map fun y => (y, kr zs y)).map Prod.fst = out.map backV := by
      rw [List.map_map]
      exact List.map_id _
    refine ⟨.ref d, upd H d (.lst (out.map backV)), I.laid (t' := s.toks) kp hd ⟨?_, out, n, vals_back h3, hn⟩, rfl, ?_⟩
    · rw [hb.len]
      exact hz
    · have := q _ d hw ?_ (I.hok.fresh hd)
      · rw [hf] at this
        exact this
      · have hs2 := SrtO.srtd_map (lt := fun x y => ltS (kr zs x).1 (kr zs y).1) (f := backV) h1
        rw [List.pairwise_map]
        exact List.Pairwise.imp (fun {a b} h => h) hs2
def aSrtR : List D → Nat → (D → Nat → Prop) → Prop := fun ds n Q => ∃ ps : List Rw, ds = [.lst (ps.map rowT)] ∧ (ps.map Prod.fst).Nodup ∧ ∀ rs : List Rw, rs.Perm ps → rs.Pairwise (fun x y => ltS y.1 x.1 = false) → Q (.lst (rs.map rowT)) n
theorem rws_zip {W : Wd} {H : Hp} : ∀ {ps : List Rw} {us : List V}, AtAll K W H us (ps.map rowT) → ∃ zs : List (V × Rw), zs.map Prod.fst = us ∧ zs.map Prod.snd = ps ∧ ∀ z ∈ zs, (∃ t r, z.1 = V.ref t ∧ SqT K H t (.str z.2.1 :: r)) ∧ At K W H z.1 (rowT z.2)
  | [], _, h => by cases h; exact ⟨[], rfl, rfl, fun z hz => by cases hz⟩
  | p :: ps, _, h => by
    cases h with
    | @cons v vs _ _ a r =>
      obtain ⟨zs, h1, h2, h3⟩ := rws_zip r
      refine ⟨(v, p) :: zs, by rw [List.map_cons, h1], by rw [List.map_cons, h2], fun z hz => ?_⟩
      rcases List.mem_cons.mp hz with rfl | hz
      · refine ⟨?_, a⟩
        cases a with
        | tup s a =>
          cases a with
          | cons a b =>
            cases a
            exact ⟨_, _, rfl, s⟩
      · exact h3 z hz
theorem rzip_at {W : Wd} {H : Hp} : ∀ {ws : List (V × Rw)}, (∀ z ∈ ws, At K W H z.1 (rowT z.2)) → AtAll K W H (ws.map Prod.fst) ((ws.map Prod.snd).map rowT)
  | [], _ => .nil
  | w :: ws, h => .cons (h w List.mem_cons_self) (rzip_at fun z hz => h z (List.mem_cons_of_mem _ hz))
instance : DL K (rSrtR K) aSrtR := ⟨fun W n H xs ds Q Qa hQ o a h => by
  obtain ⟨ps, rfl, hnd, h⟩ := h
  cases a with
  | cons a r =>
    cases r
    cases a with
    | @lst l us _ nr s a =>
      obtain ⟨zs, h1, h2, h3⟩ := rws_zip a
      subst h1 h2
      refine ⟨l, zs, rfl, SqL.of s, fun z hz => (h3 z hz).1, by rw [List.map_map] at hnd; exact hnd, fun ws p hp hpw hn => hQ.new o (h (ws.map Prod.snd) (hp.map _) (List.pairwise_map.mpr hpw)) hn ?_⟩
      exact .lst (o.fresh hn) upd_same (AtAll.le o (Wd.le_same (same_upd hn)) _ (rzip_at fun z hz => (h3 z (hp.mem_iff.mp hz)).2))⟩
end

/-! ### objects in the mirror -/
section
variable {K : PySem.W.Frag}
def aMeth (C : Addr) (m : Str) (k : Nat) (A : ASp) (fa : AE) (g : AA) : AE := fun ρ n Q => fa ρ n fun x n1 => match x with
  | .ins C' ns ds => (C' = C ∧ m ∉ ns) ∧ g ρ n1 fun args n2 => (match Nat.beq (args.length + 1) k with
    | true => A (.ins C' ns ds :: args) n2 Q
    | false => False)
  | _ => False
theorem zip_no {m : Str} : ∀ {ns : List Str} {xs : List V}, m ∉ ns → (ns.zip xs).lookup m = none
  | [], _, _ => rfl
  | _ :: _, [], _ => rfl
  | n :: ns, x :: xs, h => by
    rw [List.zip_cons_cons, List.lookup_cons]
    have : (m == n) = false := beq_eq_false_iff_ne.mpr fun z => h (by rw [z]; exact List.mem_cons_self)
    rw [this]
    exact zip_no fun z => h (List.mem_cons_of_mem _ z)
instance {C : Addr} {m : Str} {k : Nat} {A : ASp} {ta : TE} {t : TA} {fa : AE} {g : AA} [DE K ta fa] [DA K t g] : DE K (tMeth C m (spOf K k A) [] E0 ta t) (aMeth C m k A fa g) := ⟨fun W σ ρ n H Q Qa hQ hE o h =>
  DE.run (te := ta) (f := fa) W σ ρ n H _ _ (fun d n1 h1 H1 x l1 o1 ax => by
    split at h1
    · obtain ⟨⟨rfl, hm⟩, h1⟩ := h1
      cases ax with
      | @ins a _ dx ns xs ds s e b =>
        refine ⟨_, _, _, rfl, s, zip_no hm, DA.run (te := t) (f := g) W σ ρ n1 H1 _ _ (fun args n2 h2 H2 vs l2 o2 av => ?_) (hE.le o l1) o1 h1⟩
        rw [List.append_nil]
        split at h2
        · rename_i hb
          exact ⟨W, n2, _, Qa, .cons (At.le o1 l2 _ (.ins s e b)) av, Nat.eq_of_beq_eq_true hb, o2, hQ.le (l1.trans l2), h2⟩
        · exact h2.elim
    · exact h1.elim) hE o h⟩
/-- a method of an object whose class is one of several -/
inductive Kd where
  | w | f | r
def tDyn (K : PySem.W.Frag) (cls : Kd → Addr) (m : Str) (k : Nat) (A : Kd → ASp) (ta : TE) (t : TA) : TE := fun σ H Q => ∃ kd, tMeth (cls kd) m (spOf K k (A kd)) [] E0 ta t σ H Q
theorem k_dyn {X : Cx} {e : Expr} {cls : Kd → Addr} {m : Str} {k : Nat} {A : Kd → ASp} {ta : TE} {t : TA} (hw : PE X e (tMeth (cls .w) m (spOf K k (A .w)) [] E0 ta t)) (hf : PE X e (tMeth (cls .f) m (spOf K k (A .f)) [] E0 ta t)) (hr : PE X e (tMeth (cls .r) m (spOf K k (A .r)) [] E0 ta t)) : PE X e (tDyn K cls m k A ta t) :=
  ⟨fun pins s σ H Q I ⟨kd, h⟩ => match kd, h with
    | .w, h => hw.run pins s σ H Q I h
    | .f, h => hf.run pins s σ H Q I h
    | .r, h => hr.run pins s σ H Q I h⟩
def aDyn (cls : Kd → Addr) (m : Str) (k : Nat) (A : Kd → ASp) (fa : AE) (g : AA) : AE := fun ρ n Q => ∃ kd, aMeth (cls kd) m k (A kd) fa g ρ n Q
instance {cls : Kd → Addr} {m : Str} {k : Nat} {A : Kd → ASp} {ta : TE} {t : TA} {fa : AE} {g : AA} [DE K ta fa] [DA K t g] : DE K (tDyn K cls m k A ta t) (aDyn cls m k A fa g) := ⟨fun W σ ρ n H Q Qa hQ hE o h => by
  obtain ⟨kd, h⟩ := h
  exact ⟨kd, DE.run (K := K) (te := tMeth (cls kd) m (spOf K k (A kd)) [] E0 ta t) (f := aMeth (cls kd) m k (A kd) fa g) W σ ρ n H Q Qa hQ hE o h⟩⟩
end

/-! ### loops in the mirror -/
section
theorem aFor_ind {ow : List Nat} {G : D → Option (List (Nat × D))} {f : AS} {E : AEn} (I : List D → Env' → Nat → Prop)
    (hs : ∀ d r ρ n, I (d :: r) ρ n → (∀ ρ' n', I r ρ' n' → aForGo ow G f E r ρ' n') → aPut ow G d ρ fun ρ1 => f { E with nx := aForGo ow G f E r, ct := aForGo ow G f E r, bk := E.nx } ρ1 n)
    (hd : ∀ ρ n, I [] ρ n → E.nx ρ n) : ∀ {ds : List D} {ρ : Env'} {n : Nat}, I ds ρ n → aForGo ow G f E ds ρ n
  | [], ρ, n, h => hd ρ n h
  | d :: r, ρ, n, h => hs d r ρ n h fun ρ' n' h' => aFor_ind I hs hd h'
theorem aLc_ind {vs : List Nat} {G : D → Option (List (Nat × D))} {c : AT} {e : AE} {ρ : Env'} {Q : D → Nat → Prop} (I : List D → List D → Nat → Prop)
    (hs : ∀ acc d r n, I acc (d :: r) n → (∀ acc' n', I acc' r n' → aLcGo vs G c e ρ Q acc' r n') → aPutC vs G d ρ fun ρ1 => c ρ1 n fun b n2 => aIte b (e ρ1 n2 fun y n3 => aLcGo vs G c e ρ Q (acc ++ [y]) r n3) (aLcGo vs G c e ρ Q acc r n2))
    (hd : ∀ acc n, I acc [] n → Q (.lst acc) n) : ∀ {acc ds : List D} {n : Nat}, I acc ds n → aLcGo vs G c e ρ Q acc ds n
  | acc, [], n, h => hd acc n h
  | acc, d :: r, n, h => hs acc d r n h fun acc' n' h' => aLc_ind I hs hd h'
theorem rangeD_map (lo : Int) : ∀ k, rangeD lo k = (List.range' 0 k).map fun i => D.int (lo + (i : Nat)) := by
  have : ∀ k s, rangeD (lo + (s : Nat)) k = (List.range' s k).map fun i => D.int (lo + (i : Nat)) := fun k => by
    induction k with
    | zero => intro s; rfl
    | succ k ih =>
      intro s
      rw [List.range'_succ, List.map_cons, rangeD, ← ih (s + 1)]
      congr 2
      omega
  intro k
  have := this k 0
  rw [Int.natCast_zero, Int.add_zero] at this
  exact this
theorem pick_at {α : Type} {xs : List α} {r : Int} (h0 : 0 ≤ r) (h1 : r < xs.length) : ∃ x, x ∈ xs ∧ atI xs r = some x := by
  obtain ⟨k, rfl⟩ := Int.eq_ofNat_of_zero_le h0
  have hk : k < xs.length := by omega
  exact ⟨xs[k], List.getElem_mem hk, atI_nat (List.getElem?_eq_getElem hk)⟩
end

/-! ### zip of any two things that go item by item -/
namespace RX
open PySem
/-- an iterator it over what stands at l: its states, its items -/
structure Src (prog : Program) (w : World) (it l : Addr) (J : Nat → Heap → Prop) (get : Nat → Option Value) : Prop where
  keep : ∀ {k : Nat} {g g' : Heap} {c : Addr}, it ≠ c → l ≠ c → Heap.ExtBut c g g' → J k g → J k g'
  step : ∀ {A : Around} {E : Value → Shared → Prop} {s : Shared} {Q : Value → Shared → Prop} {k : Nat} {x : Value}, J k s.heap → get k = some x → (∀ g, J (k + 1) g → Heap.SameBut it s.heap g → Q x { s with heap := g }) → wpAny (model prog w) A (Builtin.SmallTypes.nextOf (.ref it)) Q E s
  stop : ∀ {A : Around} {E : Value → Shared → Prop} {s : Shared} {Q : Value → Shared → Prop} {k : Nat}, A.handled = none → J k s.heap → get k = none → (∀ g e, Heap.ExtBut it s.heap g → (∃ o, g.get? e = some o ∧ o.cls = .type "StopIteration") → E (.ref e) { s with heap := g }) → wpAny (model prog w) A (Builtin.SmallTypes.nextOf (.ref it)) Q E s
  here : ∀ {k : Nat} {g : Heap}, J k g → ∃ o, g.get? it = some o ∧ ∀ v, o.data ≠ .cell v
theorem srcT {prog : Program} {w : World} {it l : Addr} (hne : l ≠ it) (xs : Array Value) : Src prog w it l (fun k g => g.IsTupleIter it l k ∧ g.IsTuple l xs) (fun k => xs[k]?) where
  keep := fun h1 h2 e j => ⟨j.1.extBut e h1, j.2.extBut e h2⟩
  step := fun j hx q => RZ.nextOf_tuple_item j.1 j.2 hx fun g h1 h2 => q g ⟨h1, j.2.extBut h2.extBut hne⟩ h2
  stop := fun hh j hx q => RZ.nextOf_tuple_end hh j.1 j.2 hx q
  here := fun j => by obtain ⟨o, ho, _, hd⟩ := j.1; exact ⟨o, ho, fun v e => by rw [hd] at e; cases e⟩
theorem srcL {prog : Program} {w : World} {it l : Addr} (hne : l ≠ it) (xs : Array Value) : Src prog w it l (fun k g => g.IsListIter it l k ∧ g.IsList l xs) (fun k => xs[k]?) where
  keep := fun h1 h2 e j => ⟨j.1.extBut e h1, j.2.extBut e h2⟩
  step := fun j hx q => wpAny_nextOf_list_item j.1 j.2 hx fun g h1 h2 => q g ⟨h1, j.2.extBut h2.extBut hne⟩ h2
  stop := fun hh j hx q => wpAny_nextOf_list_end hh j.1 j.2 hx q
  here := fun j => by obtain ⟨o, ho, _, hd⟩ := j.1; exact ⟨o, ho, fun v e => by rw [hd] at e; cases e⟩
section
variable {prog : Program} {w : World} {A : Around} {E : Value → Shared → Prop} {s : Shared} {z TI TO i1 i2 l1 l2 : Addr} {J1 J2 : Nat → Heap → Prop} {g1 g2 : Nat → Option Value}
/-- one more pair -/
theorem zip_item {k : Nat} {x y a b : Value} {Q : Value → Shared → Prop} (D : ZipApart z TI TO i1 i2 l1 l2) (S1 : Src prog w i1 l1 J1 g1) (S2 : Src prog w i2 l2 J2 g2) (zz : IsZip s.heap z TI TO .none) (zi : IsPair s.heap TI (.ref i1) (.ref i2)) (zo : IsPair s.heap TO a b) (j1 : J1 k s.heap) (j2 : J2 k s.heap) (hx : g1 k = some x) (hy : g2 k = some y)
    (q : ∀ g, IsZip g z TI TO (rawInt s.heap.objs.size) → IsPair g TO x y → J1 (k + 1) g → J2 (k + 1) g → IsPair g s.heap.objs.size x y → g.objs.size = s.heap.objs.size + 1 → (∀ c o, c ≠ z → c ≠ TO → c ≠ i1 → c ≠ i2 → s.heap.get? c = some o → g.get? c = some o) → Q (.ref s.heap.objs.size) { s with heap := g }) :
    wpAny (model prog w) A (Builtin.«zip.__next__» ⟨[.ref z], []⟩) (fun fin s' => ∃ v, fin = .done (.ret v) ∧ Q v s') E s := by
  show wpAny _ _ (field (.ref z) 2 >>= _) _ _ _; refine wpAny_bind (wpAny_field zz rfl (x := .bool false) rfl ?_)
  show wpAny _ _ (field (.ref z) 3 >>= _) _ _ _; refine wpAny_bind (wpAny_field zz rfl (x := .ref TI) rfl (wpAny_bind (wpAny_seqItems zi rfl ?_)))
  show wpAny _ _ (Builtin.SmallTypes.ownedTupleIsFree (.ref z) >>= _) _ _ _; refine wpAny_bind ?_; unfold Builtin.SmallTypes.ownedTupleIsFree
  refine wpAny_bind (wpAny_field zz rfl (x := .none) rfl (wpAny_pure ?_)); simp only [if_true]
  refine wpAny_bind (wpAny_rule (wpAny_bind (wpAny_field zz rfl (x := .ref TO) rfl (wpAny_bind (wpAny_setField_rec zz (by simp) fun ha za sa => ?_)))))
  replace za : IsZip ha z TI TO .ellipsis := za
  refine wpAny_bind ?_; simp only [List.zipIdx_cons, List.zipIdx_nil, List.forIn_cons, List.forIn_nil]
  refine wpAny_bind (wpAny_bind (wpAny_onRaise ?_)); show wpAny _ _ (Builtin.SmallTypes.nextOf (.ref i1) >>= _) _ _ _
  refine wpAny_bind (S1.step (s := { s with heap := ha }) (S1.keep D.i1z D.l1z sa.extBut j1) hx fun hb jb sb => wpAny_pure ?_)
  have ob : IsPair hb TO a b := sb.extBut _ _ D.TOi1 (sa.extBut _ _ D.TOz zo)
  refine wpAny_bind (wpAny_seqItems ob rfl (wpAny_bind (wpAny_updateSeq_pair ob fun hc oc sc => ?_)))
  replace oc : IsPair hc TO x b := oc
  refine wpAny_bind (wpAny_letGo (wpAny_pure (wpAny_bind (wpAny_bind (wpAny_onRaise ?_))))); show wpAny _ _ (Builtin.SmallTypes.nextOf (.ref i2) >>= _) _ _ _
  refine wpAny_bind (S2.step (s := { s with heap := hc }) (S2.keep D.TOi2.symm D.l2TO sc.extBut (S2.keep D.i12.symm D.l2i1 sb.extBut (S2.keep D.i2z D.l2z sa.extBut j2))) hy fun hd jd sd => wpAny_pure ?_)
  have od : IsPair hd TO x b := sd.extBut _ _ D.TOi2 oc
  refine wpAny_bind (wpAny_seqItems od rfl (wpAny_bind (wpAny_updateSeq_pair od fun he oe se => ?_)))
  replace oe : IsPair he TO x y := oe
  refine wpAny_bind (wpAny_letGo (wpAny_pure (wpAny_pure (wpAny_bind (wpAny_seqItems oe rfl (wpAny_bind (wpAny_newTuple ?_)))))))
  have size : he.objs.size = s.heap.objs.size := by rw [se.1, sd.1, sc.1, sb.1, sa.1]
  have ze : IsZip he z TI TO .ellipsis := se.extBut _ _ D.TOz.symm (sd.extBut _ _ D.i2z.symm (sc.extBut _ _ D.TOz.symm (sb.extBut _ _ D.i1z.symm za)))
  have ke : ∀ c o, c ≠ z → c ≠ TO → c ≠ i1 → c ≠ i2 → s.heap.get? c = some o → he.get? c = some o := fun c o c1 c2 c3 c4 e => se.extBut _ _ c2 (sd.extBut _ _ c4 (sc.extBut _ _ c2 (sb.extBut _ _ c3 (sa.extBut _ _ c1 e))))
  have ja : J1 (k + 1) he := S1.keep D.TOi1.symm D.l1TO se.extBut (S1.keep D.i12 D.l1i2 sd.extBut (S1.keep D.TOi1.symm D.l1TO sc.extBut jb))
  have jc : J2 (k + 1) he := S2.keep D.TOi2.symm D.l2TO se.extBut jd
  have below : z < he.objs.size := Heap.lt_size ze
  show wpAny _ _ (Builtin.SmallTypes.ownedTupleHandOut (.ref z) (.ref he.objs.size) >>= _) _ _ _; refine wpAny_bind ?_; unfold Builtin.SmallTypes.ownedTupleHandOut
  have zf : IsZip (he.push { cls := .type "tuple", data := .seq #[x, y] }) z TI TO .ellipsis := Heap.get?_push_of_some _ ze
  refine wpAny_bind (wpAny_setField_rec zf (by simp) fun hg zg sg => ?_)
  replace zg : IsZip hg z TI TO (rawInt he.objs.size) := zg
  refine wpAny_setField_rec zg (by simp) fun hh zh sh => ?_
  replace zh : IsZip hh z TI TO (rawInt he.objs.size) := zh
  have grow : Heap.ExtBut z he hh := fun c o c1 e => sh.extBut _ _ c1 (sg.extBut _ _ c1 (Heap.get?_push_of_some _ e))
  have pair : IsPair hh he.objs.size x y := sh.extBut _ _ (Nat.ne_of_gt below) (sg.extBut _ _ (Nat.ne_of_gt below) (Heap.get?_push_size _ rfl))
  have more : hh.objs.size = he.objs.size + 1 := by rw [sh.1, sg.1, Heap.size_push]
  rw [size] at zh pair more
  refine wpAny_pure ⟨_, rfl, ?_⟩; show Q (.ref he.objs.size) _; rw [size]
  exact q hh zh (grow _ _ D.TOz oe) (S1.keep D.i1z D.l1z grow ja) (S2.keep D.i2z D.l2z grow jc) pair more fun c o c1 c2 c3 c4 e => grow c o c1 (ke c o c1 c2 c3 c4 e)
/-- no more -/
theorem zip_end {k : Nat} {a b : Value} {Q : Fin → Shared → Prop} (hn : A.handled = none) (D : ZipApart z TI TO i1 i2 l1 l2) (S1 : Src prog w i1 l1 J1 g1) (S2 : Src prog w i2 l2 J2 g2) (zz : IsZip s.heap z TI TO .none) (zi : IsPair s.heap TI (.ref i1) (.ref i2)) (zo : IsPair s.heap TO a b) (j1 : J1 k s.heap) (j2 : J2 k s.heap) (last : g1 k = none ∨ g2 k = none)
    (q : ∀ g e, (∀ c o, c ≠ z → c ≠ TO → c ≠ i1 → c ≠ i2 → s.heap.get? c = some o → g.get? c = some o) → (∃ o, g.get? e = some o ∧ o.cls = .type "StopIteration") → E (.ref e) { s with heap := g }) :
    wpAny (model prog w) A (Builtin.«zip.__next__» ⟨[.ref z], []⟩) Q E s := by
  show wpAny _ _ (field (.ref z) 2 >>= _) _ _ _; refine wpAny_bind (wpAny_field zz rfl (x := .bool false) rfl ?_)
  show wpAny _ _ (field (.ref z) 3 >>= _) _ _ _; refine wpAny_bind (wpAny_field zz rfl (x := .ref TI) rfl (wpAny_bind (wpAny_seqItems zi rfl ?_)))
  show wpAny _ _ (Builtin.SmallTypes.ownedTupleIsFree (.ref z) >>= _) _ _ _; refine wpAny_bind ?_; unfold Builtin.SmallTypes.ownedTupleIsFree
  refine wpAny_bind (wpAny_field zz rfl (x := .none) rfl (wpAny_pure ?_)); simp only [if_true]
  refine wpAny_bind (wpAny_rule (wpAny_bind (wpAny_field zz rfl (x := .ref TO) rfl (wpAny_bind (wpAny_setField_rec zz (by simp) fun ha za sa => ?_)))))
  replace za : IsZip ha z TI TO .ellipsis := za
  refine wpAny_bind ?_; simp only [List.zipIdx_cons, List.zipIdx_nil, List.forIn_cons, List.forIn_nil]
  refine wpAny_bind (wpAny_bind (wpAny_onRaise ?_)); show wpAny _ _ (Builtin.SmallTypes.nextOf (.ref i1) >>= _) _ _ _
  cases hx : g1 k with
  | none =>
    refine wpAny_bind (S1.stop (s := { s with heap := ha }) hn (S1.keep D.i1z D.l1z sa.extBut j1) hx fun hb e sb ⟨oe, ho, hce⟩ => ?_)
    have zb : IsZip hb z TI TO .ellipsis := sb _ _ D.i1z.symm za
    have ne : e ≠ z := fun x => by subst x; rw [zb] at ho; cases ho; simp at hce
    exact wpAny_setField_rec zb (by simp) fun hc _ sc => q hc e (fun c o c1 _ c3 _ v => sc.extBut _ _ c1 (sb _ _ c3 (sa.extBut _ _ c1 v))) ⟨oe, sc.extBut _ _ ne ho, hce⟩
  | some x =>
    have hy : g2 k = none := last.resolve_left fun h => by rw [hx] at h; cases h
    refine wpAny_bind (S1.step (s := { s with heap := ha }) (S1.keep D.i1z D.l1z sa.extBut j1) hx fun hb jb sb => wpAny_pure ?_)
    have ob : IsPair hb TO a b := sb.extBut _ _ D.TOi1 (sa.extBut _ _ D.TOz zo)
    refine wpAny_bind (wpAny_seqItems ob rfl (wpAny_bind (wpAny_updateSeq_pair ob fun hc oc sc => ?_)))
    refine wpAny_bind (wpAny_letGo (wpAny_pure (wpAny_bind (wpAny_bind (wpAny_onRaise ?_))))); show wpAny _ _ (Builtin.SmallTypes.nextOf (.ref i2) >>= _) _ _ _
    refine wpAny_bind (S2.stop (s := { s with heap := hc }) hn (S2.keep D.TOi2.symm D.l2TO sc.extBut (S2.keep D.i12.symm D.l2i1 sb.extBut (S2.keep D.i2z D.l2z sa.extBut j2))) hy fun hd e sd ⟨oe, ho, hce⟩ => ?_)
    have zd : IsZip hd z TI TO .ellipsis := sd _ _ D.i2z.symm (sc.extBut _ _ D.TOz.symm (sb.extBut _ _ D.i1z.symm za))
    have ne : e ≠ z := fun x => by subst x; rw [zd] at ho; cases ho; simp at hce
    exact wpAny_setField_rec zd (by simp) fun he _ se => q he e (fun c o c1 c2 c3 c4 v => se.extBut _ _ c1 (sd _ _ c4 (sc.extBut _ _ c2 (sb.extBut _ _ c3 (sa.extBut _ _ c1 v))))) ⟨oe, se.extBut _ _ ne ho, hce⟩
/-- by pyNext -/
theorem next_item {k : Nat} {x y a b : Value} {Q : Option Value → Shared → Prop} (D : ZipApart z TI TO i1 i2 l1 l2) (S1 : Src prog w i1 l1 J1 g1) (S2 : Src prog w i2 l2 J2 g2) (zz : IsZip s.heap z TI TO .none) (zi : IsPair s.heap TI (.ref i1) (.ref i2)) (zo : IsPair s.heap TO a b) (j1 : J1 k s.heap) (j2 : J2 k s.heap) (hx : g1 k = some x) (hy : g2 k = some y)
    (q : ∀ g, IsZip g z TI TO (rawInt s.heap.objs.size) → IsPair g TO x y → J1 (k + 1) g → J2 (k + 1) g → IsPair g s.heap.objs.size x y → g.objs.size = s.heap.objs.size + 1 → (∀ c o, c ≠ z → c ≠ TO → c ≠ i1 → c ≠ i2 → s.heap.get? c = some o → g.get? c = some o) → Q (some (.ref s.heap.objs.size)) { s with heap := g }) :
    wpAny (model prog w) A (pyNext (.ref z)) Q E s := by
  have ty : s.TypeIs (.ref z) "zip" := ⟨_, zz, rfl⟩
  unfold pyNext
  refine wpAny_bind (wpAny_attempt (wpAny_callSpecial?_slot (name := Str.ofString "__next__") ty F.slot_zip_next (wpAny_call_entry F.slot_zip_next ty F.entry_zip_next (zip_item D S1 S2 zz zi zo j1 j2 hx hy fun g b1 b2 b3 b4 b5 b6 b7 => ?_) (F.args_zip_next_1 _))))
  exact wpAny_pure (q g b1 b2 b3 b4 b5 b6 b7)
theorem next_end {k : Nat} {a b : Value} {Q : Option Value → Shared → Prop} (hn : A.handled = none) (D : ZipApart z TI TO i1 i2 l1 l2) (S1 : Src prog w i1 l1 J1 g1) (S2 : Src prog w i2 l2 J2 g2) (zz : IsZip s.heap z TI TO .none) (zi : IsPair s.heap TI (.ref i1) (.ref i2)) (zo : IsPair s.heap TO a b) (j1 : J1 k s.heap) (j2 : J2 k s.heap) (last : g1 k = none ∨ g2 k = none)
    (q : ∀ g, (∀ c o, c ≠ z → c ≠ TO → c ≠ i1 → c ≠ i2 → s.heap.get? c = some o → g.get? c = some o) → Q none { s with heap := g }) : wpAny (model prog w) A (pyNext (.ref z)) Q E s := by
  have ty : s.TypeIs (.ref z) "zip" := ⟨_, zz, rfl⟩
  unfold pyNext
  refine wpAny_bind (wpAny_attempt (wpAny_callSpecial?_slot (name := Str.ofString "__next__") ty F.slot_zip_next (wpAny_call_entry F.slot_zip_next ty F.entry_zip_next (zip_end hn D S1 S2 zz zi zo j1 j2 last fun g e kp ⟨o, ho, hc⟩ => ?_) (F.args_zip_next_1 _))))
  exact wpAny_bind (wpAny_isInstance (T := "StopIteration") (b := true) ⟨o, ho, hc⟩ isSubtype_stop (wpAny_pure (q _ kp)))
end
/-! zip(a tuple, a list) -/
abbrev mH (h : Heap) (l1 l2 : Addr) : Heap := (((h.push { cls := .type "tuple_iterator", data := .fields #[.ref l1, .int 0 0] }).push { cls := .type "list_iterator", data := .fields #[.ref l2, .int 0 0] }).push { cls := .type "tuple", data := .seq #[.ref h.objs.size, .ref (h.objs.size + 1)] }).push { cls := .type "tuple", data := .seq #[.none, .none] }
abbrev mZ (h : Heap) (l1 l2 : Addr) : Heap := (mH h l1 l2).push { cls := .type "zip", data := .fields #[.none, .bool false, .bool false, .ref (h.objs.size + 2), .ref (h.objs.size + 3)] }
theorem new_zipM (l1 l2 : Addr) (xs ys : Array Value) : Meets (Builtin.«zip.__new__» ⟨[.type "zip", .ref l1, .ref l2], []⟩) (fun _ R s => s.heap.IsTuple l1 xs ∧ s.heap.IsList l2 ys ∧ R (.ok (.ret (.ref (s.heap.objs.size + 4)))) { s with heap := mZ s.heap l1 l2 }) :=
  .of_wp fun prog w A R s h => by
    obtain ⟨hp, g, d, tk, os⟩ := s
    obtain ⟨t1, t2, h⟩ := h
    have sub := sub_zip
    have u1 : Heap.IsTuple (Shared.heap ⟨hp, g, d, tk, os⟩) l1 xs := t1
    have u2 : Heap.IsList (Shared.heap ⟨hp.push { cls := .type "tuple_iterator", data := .fields #[.ref l1, .int 0 0] }, g, d, tk, os⟩) l2 ys := Heap.IsList.push t2 _
    wp_walk using wpAny_pyIter_tuple u1, wpAny_pyIter_list u2
    refine ⟨_, rfl, ?_⟩
    simp only [Heap.size_push] at h ⊢
    exact h
theorem call_zipM {prog : Program} {w : World} {A : Around} {E : Value → Shared → Prop} {s : Shared} {l1 l2 : Addr} {xs ys : Array Value} {Q : Value → Shared → Prop} (t1 : s.heap.IsTuple l1 xs) (t2 : s.heap.IsList l2 ys)
    (h : ∀ g, IsZip g (s.heap.objs.size + 4) (s.heap.objs.size + 2) (s.heap.objs.size + 3) .none → IsPair g (s.heap.objs.size + 2) (.ref s.heap.objs.size) (.ref (s.heap.objs.size + 1)) → IsPair g (s.heap.objs.size + 3) .none .none → g.IsTupleIter s.heap.objs.size l1 0 → g.IsListIter (s.heap.objs.size + 1) l2 0 → (∀ c o, s.heap.get? c = some o → g.get? c = some o) → Q (.ref (s.heap.objs.size + 4)) { s with heap := g }) :
    wpAny (model prog w) A (call (.type "zip") [.ref l1, .ref l2]) Q E s := by
  refine callType_new F.called_zip (by decide) (F.typeCall_zip_2 _ _) (F.newCall_zip_2 _ _) (fun obj => F.args_object_init_3 obj _ _) F.entry_zip_new (new_zipM l1 l2 xs ys) ⟨t1, t2, ?_⟩
  have up : ∀ (g : Heap) (o : Obj) (c : Addr) (o' : Obj), g.get? c = some o' → (g.push o).get? c = some o' := fun g o c o' e => Heap.get?_push_of_some _ e
  have at_ : ∀ (g : Heap) (o : Obj) (c : Addr), g.objs.size = c → o.isFreed = false → (g.push o).get? c = some o := fun g o c e f => by
    subst e
    exact Heap.get?_push_size _ f
  have zz : IsZip (mZ s.heap l1 l2) (s.heap.objs.size + 4) (s.heap.objs.size + 2) (s.heap.objs.size + 3) .none := at_ _ _ _ (by simp only [Heap.size_push]) rfl
  have w1 : (mZ s.heap l1 l2).get? s.heap.objs.size = some { cls := .type "tuple_iterator", data := .fields #[.ref l1, .int 0 0] } := up _ _ _ _ (up _ _ _ _ (up _ _ _ _ (up _ _ _ _ (at_ _ _ _ rfl rfl))))
  have w2 : (mZ s.heap l1 l2).get? (s.heap.objs.size + 1) = some { cls := .type "list_iterator", data := .fields #[.ref l2, .int 0 0] } := up _ _ _ _ (up _ _ _ _ (up _ _ _ _ (at_ _ _ _ (by simp only [Heap.size_push]) rfl)))
  refine ⟨⟨_, zz, rfl⟩, h _ zz ?_ ?_ ⟨_, w1, rfl, rfl⟩ ⟨_, w2, rfl, rfl⟩ fun c o e => up _ _ _ _ (up _ _ _ _ (up _ _ _ _ (up _ _ _ _ (up _ _ _ _ e))))⟩
  · exact up _ _ _ _ (up _ _ _ _ (at_ _ _ _ (by simp only [Heap.size_push]) rfl))
  · exact up _ _ _ _ (at_ _ _ _ (by simp only [Heap.size_push]) rfl)
end RX
namespace RX
open PySem PySem.Spec PyProof.Rows L2
/-- a tuple and a list, item by item, in new pairs -/
def ItzM (K : PySem.W.Frag) (a b : Addr) : It :=
  ⟨fun i H => ∃ (xs ys : List V) (x y : V), SqT K H a xs ∧ SqL K H b ys ∧ xs[i]? = some x ∧ ys[i]? = some y,
   fun i H v H' => ∃ T x y, v = .ref T ∧ H T = none ∧ H' = upd H T (.tup [x, y]) ∧ (∀ xs, SqT K H a xs → xs[i]? = some x) ∧ ∀ ys, SqL K H b ys → ys[i]? = some y,
   fun i H => ∃ xs ys : List V, SqT K H a xs ∧ SqL K H b ys ∧ (xs.length ≤ i ∨ ys.length ≤ i)⟩
theorem turnM {P : Program} {w : World} {K : PySem.W.Frag} {elts : List Expr} {kk : Nat} {tpos : Pos} {a b z TI TO i1 i2 : Addr} (D : ZipApart z TI TO i1 i2 a b) :
    Turn P w K (.Tuple elts kk tpos) (ItzM K a b) [z, TI, TO, i1, i2] z (fun i h => IsZip h z TI TO .none ∧ IsPair h TI (.ref i1) (.ref i2) ∧ (∃ x y, IsPair h TO x y) ∧ h.IsTupleIter i1 a i ∧ h.IsListIter i2 b i) where
  mem := List.mem_cons_self
  obj := fun i h ⟨hz, hi, ⟨x, y, ho⟩, ⟨o1, e1, _, d1⟩, ⟨o2, e2, _, d2⟩⟩ c hc => by
    simp only [List.mem_cons, List.not_mem_nil, or_false] at hc
    rcases hc with rfl | rfl | rfl | rfl | rfl
    · exact ⟨_, hz, fun v e => nomatch e⟩
    · exact ⟨_, hi, fun v e => nomatch e⟩
    · exact ⟨_, ho, fun v e => nomatch e⟩
    · exact ⟨o1, e1, fun v e => by rw [d1] at e; cases e⟩
    · exact ⟨o2, e2, fun v e => by rw [d2] at e; cases e⟩
  keep := fun i h h' ⟨hz, hi, ⟨x, y, ho⟩, t1, t2⟩ k =>
    ⟨k z (by simp) _ hz, k TI (by simp) _ hi, ⟨x, y, k TO (by simp) _ ho⟩, t1.at fun o e => k i1 (by simp) o e, t2.at fun o e => k i2 (by simp) o e⟩
  item := by
    intro X hP hw hK hc i pins s σ H E I fp ⟨hz, hi, ⟨x0, y0, ho⟩, t1, t2⟩ ⟨xs, ys, x, y, qx, qy, ex, ey⟩
    subst hP hw hK
    obtain ⟨its, rv, pa, _⟩ := I.tuple qx
    obtain ⟨its2, rv2, pb, _⟩ := I.list qy
    obtain ⟨u, eu, ru⟩ := rv.get ex
    obtain ⟨u2, eu2, ru2⟩ := rv2.get ey
    have low : z < s.heap.objs.size := Heap.lt_size hz
    refine next_item D (srcT D.l1i1 its.toArray) (srcL D.l2i2 its2.toArray) hz hi ho ⟨t1, pa⟩ ⟨t2, pb.isList⟩ (x := u) (y := u2) (by simpa using eu) (by simpa using eu2) fun g zg og j1 j2 pg _ kp => ?_
    refine ⟨_, rfl, wpAny_letOwnedTupleGo_zip (s := { s with heap := g }) zg fun g2 zg2 sb => ?_⟩
    have pg2 : g2.get? s.heap.objs.size = some { cls := .type "tuple", data := .seq #[u, u2] } := (sb.2 _ (Nat.ne_of_gt low)).trans pg
    have made : ObjOk X.prog X.w (upd H s.heap.objs.size (.tup [x, y])) g2 s.heap.objs.size (.tup [x, y]) := ⟨(by decide : 2 ≤ sizeLine), [u, u2], .cons ru (.cons ru2 .nil), ⟨_, pg2, rfl, _, rfl⟩⟩
    have I2 : Inv X pins σ (upd H s.heap.objs.size (.tup [x, y])) { s with heap := g2 } := I.turnedNew (t' := s.toks) (ch := [z, TI, TO, i1, i2]) (fun c o nb e => by
      simp only [List.mem_cons, List.not_mem_nil, or_false, not_or] at nb
      exact (sb.2 c nb.1).trans (kp c o nb.1 nb.2.2.1 nb.2.2.2.1 nb.2.2.2.2 e)) fp (Nat.le_refl _) made
    refine ⟨.ref s.heap.objs.size, _, I2, rfl, ⟨_, x, y, rfl, I.hok.fresh (Nat.le_refl _), rfl, fun l hl => by rw [I.tuple_inj hl qx]; exact ex, fun l hl => by rw [I.list_inj hl qy]; exact ey⟩, ⟨zg2, (sb.2 _ D.TIz).trans (kp _ _ D.TIz D.TITO D.TIi1 D.TIi2 hi), ⟨u, u2, (sb.2 _ D.TOz).trans og⟩, j1.1.at fun o e => (sb.2 _ D.i1z).trans e, j2.1.at fun o e => (sb.2 _ D.i2z).trans e⟩, fun c hcm => ?_⟩
    have lt : c < s.heap.objs.size := by
      have old := hcm
      simp only [List.mem_cons, List.not_mem_nil, or_false] at hcm
      rcases hcm with rfl | rfl | rfl | rfl | rfl
      · exact low
      · exact Heap.lt_size hi
      · exact Heap.lt_size ho
      · exact let ⟨_, e, _⟩ := t1; Heap.lt_size e
      · exact let ⟨_, e, _⟩ := t2; Heap.lt_size e
    rw [upd_ne (Nat.ne_of_lt lt)]
    exact (fp c hcm).1
  done := by
    intro X hP hw hK hc i pins s σ H E I fp ⟨hz, hi, ⟨x0, y0, ho⟩, t1, t2⟩ ⟨xs, ys, qx, qy, last⟩
    subst hP hw hK
    obtain ⟨its, rv, pa, _⟩ := I.tuple qx
    obtain ⟨its2, rv2, pb, _⟩ := I.list qy
    have len1 := rv.length
    have len2 := rv2.length
    refine next_end (I.ok.hd hc) D (srcT D.l1i1 its.toArray) (srcL D.l2i2 its2.toArray) hz hi ho ⟨t1, pa⟩ ⟨t2, pb.isList⟩ (last.imp (fun h => by simp; omega) fun h => by simp; omega) fun g kp => ⟨rfl, I.turnedL (t' := s.toks) (ch := [z, TI, TO, i1, i2]) (fun c o nb e => ?_) fp⟩
    simp only [List.mem_cons, List.not_mem_nil, or_false, not_or] at nb
    exact kp c o nb.1 nb.2.2.1 nb.2.2.2.1 nb.2.2.2.2 e
  self := fun A i s Q E st h => wpAny_pyIter_zip st.1 h
def iZipM (K : PySem.W.Frag) (ta : TA) : TI := fun σ H R => ta σ H fun vs H1 => ∃ a b xs ys, vs = [.ref a, .ref b] ∧ SqT K H1 a xs ∧ SqL K H1 b ys ∧ R (ItzM K a b) H1
theorem pi_zipM {X : Cx} {e e2 : Expr} {ta : TA} {p pos tpos : Pos} {elts : List Expr} {kk : Nat} (hg : Gl X "zip") (hm : X.mg "zip" = none) (ha : PA X [e, e2] ta) (hs : starEach [e, e2] X.env = (false, eval e X.env) :: starEach [e2] X.env := by rfl) (hpl : (backTo pos (starEach [e2] X.env)).any (·.1) = false := by rfl) :
    PI X (.Tuple elts kk tpos) (.Call (.Name "zip" p) [e, e2] [] pos) (iZipM X.K ta) := by
  refine ⟨fun pins s σ H R I h => Call_ (ld_blt I hg hm PyProof.Rows.boot_zip (PyProof.Rows.callWith_type1 (thn (ha.run pos pins s σ H _ I h) fun us s1 ⟨vs, H1, I1, r1, a, b, xs, ys, ev, qx, qy, q⟩ => ?_) hs hpl))⟩
  subst ev
  cases r1 with
  | cons ra rr =>
  cases rr with
  | cons rb rr =>
  cases rr
  cases ra
  cases rb
  obtain ⟨its, rv, pa, _⟩ := I1.tuple qx
  obtain ⟨its2, rv2, pb, _⟩ := I1.list qy
  obtain ⟨oa, ea, _⟩ := id pa
  refine call_zipM (show s1.heap.IsTuple a its.toArray from pa) pb.isList fun g hz hi ho t1 t2 kp => wpAny_pyIter_zip hz ⟨s1.heap.objs.size + 4, [s1.heap.objs.size + 4, s1.heap.objs.size + 2, s1.heap.objs.size + 3, s1.heap.objs.size, s1.heap.objs.size + 1], _, _, H1, rfl, I1.kept (t' := s1.toks) kp, turnM (PySem.W.ktu_apart s1.heap.objs.size a b (Heap.lt_size ea) pb.lt), ⟨hz, hi, ⟨_, _, ho⟩, t1, t2⟩, fun c hcm => ?_, q⟩
  have up : s1.heap.objs.size ≤ c := by
    simp only [List.mem_cons, List.not_mem_nil, or_false] at hcm
    rcases hcm with rfl | rfl | rfl | rfl | rfl <;> first | exact Nat.le_add_right _ _ | exact Nat.le_refl _
  exact I1.fpOk up (I1.hok.fresh up)
end RX

/-! ### enumerate of a tuple -/
namespace RX
open PySem
section
variable {prog : Program} {w : World} {A : Around} {E : Value → Shared → Prop} {s : Shared} {e it l : Addr} {J : Nat → Heap → Prop} {get : Nat → Option Value}
theorem enum_item {k : Nat} {x old : Value} {Q : Value → Shared → Prop} (S : Src prog w it l J get) (ee : IsEnum s.heap e it k old) (j : J k s.heap) (hx : get k = some x) (n1 : e ≠ it) (n2 : l ≠ e)
    (q : ∀ g, IsEnumOut g e it ((k : Int) + 1) x s.heap.objs.size → J (k + 1) g → g.get? s.heap.objs.size = some { cls := .type "tuple", data := .seq #[.int k s.toks, x] } → (∀ b o, b ≠ e → b ≠ it → s.heap.get? b = some o → g.get? b = some o) → Q (.ref s.heap.objs.size) { s with heap := g, toks := s.toks + 1 }) :
    wpAny (model prog w) A (Builtin.«enumerate.__next__» ⟨[.ref e], []⟩) (fun fin s' => ∃ v, fin = .done (.ret v) ∧ Q v s') E s := by
  obtain ⟨hp, gn, dp, tk, os⟩ := s
  show wpAny _ _ (field (.ref e) 2 >>= _) _ _ _; refine wpAny_bind (wpAny_field ee rfl (x := .ref it) rfl (wpAny_bind (S.step (s := ⟨hp, gn, dp, tk, os⟩) j hx fun ha ja sa => ?_)))
  replace sa : Heap.SameBut it hp ha := sa
  have ea : IsEnum ha e it k old := (sa.2 e n1).trans ee
  show wpAny _ _ (field (.ref e) 3 >>= _) _ _ ⟨ha, gn, dp, tk, os⟩; refine wpAny_bind (wpAny_field ea rfl (x := rawInt k) rfl ?_)
  show wpAny _ _ (field (.ref e) 4 >>= _) _ _ ⟨ha, gn, dp, tk, os⟩; refine wpAny_bind (wpAny_field ea rfl (x := .none) rfl ?_)
  show wpAny _ _ (mkInt k >>= _) _ _ ⟨ha, gn, dp, tk, os⟩; refine wpAny_bind (wpAny_mkInt ?_)
  show wpAny _ _ (setField (.ref e) 3 (rawInt ((k : Int) + 1)) >>= _) _ _ ⟨ha, gn, dp, tk + 1, os⟩; refine wpAny_bind (wpAny_setField_rec ea (by simp) fun hb eb sb => ?_)
  replace sb : Heap.SameBut e ha hb := sb
  replace eb : IsEnum hb e it ((k : Int) + 1) old := eb
  show wpAny _ _ (setField (.ref e) 4 .none >>= _) _ _ ⟨hb, gn, dp, tk + 1, os⟩; refine wpAny_bind (wpAny_setField_rec eb (by simp) fun hc ec sc => ?_)
  replace sc : Heap.SameBut e hb hc := sc
  replace ec : IsEnum hc e it ((k : Int) + 1) old := ec
  show wpAny _ _ (newTuple [.int k tk, x] >>= _) _ _ ⟨hc, gn, dp, tk + 1, os⟩; refine wpAny_bind (wpAny_newTuple ?_)
  have size : hc.objs.size = hp.objs.size := by rw [sc.1, sb.1, sa.1]
  have low : e < hp.objs.size := Heap.lt_size ee
  have kc : ∀ b o, b ≠ e → b ≠ it → hp.get? b = some o → hc.get? b = some o := fun b o c1 c2 v => sc.extBut b o c1 (sb.extBut b o c1 (sa.extBut b o c2 v))
  have jc : J (k + 1) hc := S.keep n1.symm n2 sc.extBut (S.keep n1.symm n2 sb.extBut ja)
  obtain ⟨hd, ehd⟩ : ∃ hd, hd = hc.push { cls := .type "tuple", data := .seq #[.int k tk, x] } := ⟨_, rfl⟩
  have gd : Heap.ExtBut e hc hd := fun b o _ v => by rw [ehd]; exact Heap.get?_push_of_some _ v
  have ed : IsEnum hd e it ((k : Int) + 1) old := by rw [ehd]; exact Heap.get?_push_of_some _ ec
  have td : hd.get? hp.objs.size = some { cls := .type "tuple", data := .seq #[.int k tk, x] } := by rw [ehd, ← size]; exact Heap.get?_push_size _ rfl
  have jd : J (k + 1) hd := S.keep n1.symm n2 gd jc
  have kd : ∀ b o, b ≠ e → b ≠ it → hp.get? b = some o → hd.get? b = some o := fun b o c1 c2 v => gd b o c1 (kc b o c1 c2 v)
  rw [← ehd, size]
  show wpAny _ _ (Builtin.SmallTypes.ownedTupleIsFree (.ref e) >>= _) _ _ ⟨hd, gn, dp, tk + 1, os⟩; refine wpAny_bind ?_; unfold Builtin.SmallTypes.ownedTupleIsFree
  refine wpAny_bind (wpAny_field ed rfl (x := .none) rfl (wpAny_pure ?_)); simp only [if_true]
  refine wpAny_bind (wpAny_rule (wpAny_bind (wpAny_field ed rfl (x := old) rfl (wpAny_bind (wpAny_setField_rec ed (by simp) fun hf ef sf => ?_)))))
  replace sf : Heap.SameBut e hd hf := sf
  replace ef : IsEnum hf e it ((k : Int) + 1) x := ef
  show wpAny _ _ (Builtin.SmallTypes.ownedTupleHandOut (.ref e) (.ref hp.objs.size) >>= _) _ _ ⟨hf, gn, dp, tk + 1, os⟩; refine wpAny_bind ?_; unfold Builtin.SmallTypes.ownedTupleHandOut
  refine wpAny_bind (wpAny_setField_rec ef (by simp) fun hg eg sg => ?_)
  replace sg : Heap.SameBut e hf hg := sg
  replace eg : IsEnumOut hg e it ((k : Int) + 1) x hp.objs.size := eg
  refine wpAny_setField_rec eg (by simp) fun hh eh sh => ?_
  replace sh : Heap.SameBut e hg hh := sh
  replace eh : IsEnumOut hh e it ((k : Int) + 1) x hp.objs.size := eh
  have all : Heap.ExtBut e hd hh := fun b o c v => sh.extBut b o c (sg.extBut b o c (sf.extBut b o c v))
  exact wpAny_bind (wpAny_letGo (wpAny_pure ⟨_, rfl, q hh eh (S.keep n1.symm n2 all jd) (all _ _ (Nat.ne_of_gt low) td) fun b o c1 c2 v => all b o c1 (kd b o c1 c2 v)⟩))
theorem enum_next {k : Nat} {x old : Value} {Q : Option Value → Shared → Prop} (S : Src prog w it l J get) (ee : IsEnum s.heap e it k old) (j : J k s.heap) (hx : get k = some x) (n1 : e ≠ it) (n2 : l ≠ e)
    (q : ∀ g, IsEnumOut g e it ((k : Int) + 1) x s.heap.objs.size → J (k + 1) g → g.get? s.heap.objs.size = some { cls := .type "tuple", data := .seq #[.int k s.toks, x] } → (∀ b o, b ≠ e → b ≠ it → s.heap.get? b = some o → g.get? b = some o) → Q (some (.ref s.heap.objs.size)) { s with heap := g, toks := s.toks + 1 }) :
    wpAny (model prog w) A (pyNext (.ref e)) Q E s := by
  have ty : s.TypeIs (.ref e) "enumerate" := ⟨_, ee, rfl⟩
  unfold pyNext
  refine wpAny_bind (wpAny_attempt (wpAny_callSpecial?_slot (name := Str.ofString "__next__") ty F.slot_enumerate_next (wpAny_call_entry F.slot_enumerate_next ty F.entry_enumerate_next (enum_item S ee j hx n1 n2 fun g b1 b2 b3 b4 => ?_) (F.args_enumerate_next_1 _))))
  exact wpAny_pure (q g b1 b2 b3 b4)
theorem enum_end {k : Nat} {old : Value} {Q : Option Value → Shared → Prop} (hn : A.handled = none) (S : Src prog w it l J get) (ee : IsEnum s.heap e it k old) (j : J k s.heap) (hx : get k = none) (q : ∀ g, Heap.ExtBut it s.heap g → Q none { s with heap := g }) : wpAny (model prog w) A (pyNext (.ref e)) Q E s := by
  have ty : s.TypeIs (.ref e) "enumerate" := ⟨_, ee, rfl⟩
  unfold pyNext
  refine wpAny_bind (wpAny_attempt (wpAny_callSpecial?_slot (name := Str.ofString "__next__") ty F.slot_enumerate_next (wpAny_call_entry F.slot_enumerate_next ty F.entry_enumerate_next ?_ (F.args_enumerate_next_1 _))))
  show wpAny _ _ (field (.ref e) 2 >>= _) _ _ _; refine wpAny_bind (wpAny_field ee rfl (x := .ref it) rfl (wpAny_bind (S.stop (A := A.in1) (s := s) hn j hx fun g v ev ⟨o, ho, hc⟩ => ?_)))
  exact wpAny_bind (wpAny_isInstance (T := "StopIteration") (b := true) ⟨o, ho, hc⟩ isSubtype_stop (wpAny_pure (q _ ev)))
end
abbrev eT (h : Heap) (l : Addr) : Heap := (h.push { cls := .type "tuple_iterator", data := .fields #[.ref l, .int 0 0] }).push { cls := .type "enumerate", data := .fields #[.none, .bool false, .ref h.objs.size, rawInt 0, .none, .none] }
theorem new_enumT (l : Addr) (xs : Array Value) : Meets (Builtin.«enumerate.__new__» ⟨[.type "enumerate", .ref l], []⟩) (fun _ R s => s.heap.IsTuple l xs ∧ R (.ok (.ret (.ref (s.heap.objs.size + 1)))) { s with heap := eT s.heap l }) :=
  .of_wp fun prog w A R s h => by
    obtain ⟨hp, g, d, tk, os⟩ := s
    obtain ⟨t1, h⟩ := h
    have sub := sub_enumerate
    have u1 : Heap.IsTuple (Shared.heap ⟨hp, g, d, tk, os⟩) l xs := t1
    wp_walk using wpAny_pyIter_tuple u1
    refine wpAny_stack_any fun st => wpAny_pure ?_
    split
    · rename_i c _ _ _ _ _
      cases (c == Value.type "enumerate") <;> (wp_walk using wpAny_pyIter_tuple u1; refine ⟨_, rfl, ?_⟩; simp only [Heap.size_push] at h ⊢; exact h)
    · wp_walk using wpAny_pyIter_tuple u1
      refine ⟨_, rfl, ?_⟩
      simp only [Heap.size_push] at h ⊢
      exact h
theorem call_enumT {prog : Program} {w : World} {A : Around} {E : Value → Shared → Prop} {s : Shared} {l : Addr} {xs : Array Value} {Q : Value → Shared → Prop} (t1 : s.heap.IsTuple l xs)
    (h : ∀ g, IsEnum g (s.heap.objs.size + 1) s.heap.objs.size 0 .none → g.IsTupleIter s.heap.objs.size l 0 → (∀ b o, s.heap.get? b = some o → g.get? b = some o) → Q (.ref (s.heap.objs.size + 1)) { s with heap := g }) :
    wpAny (model prog w) A (call (.type "enumerate") [.ref l]) Q E s := by
  refine callType_new F.called_enumerate (by decide) (F.typeCall_enumerate_1 _) (F.newCall_enumerate_1 _) (fun obj => F.args_object_init_2 obj _) F.entry_enumerate_new (new_enumT l xs) ⟨t1, ?_⟩
  have up : ∀ (g : Heap) (o : Obj) (c : Addr) (o' : Obj), g.get? c = some o' → (g.push o).get? c = some o' := fun g o c o' e => Heap.get?_push_of_some _ e
  have at_ : ∀ (g : Heap) (o : Obj) (c : Addr), g.objs.size = c → o.isFreed = false → (g.push o).get? c = some o := fun g o c e f => by
    subst e
    exact Heap.get?_push_size _ f
  have ee : IsEnum (eT s.heap l) (s.heap.objs.size + 1) s.heap.objs.size 0 .none := at_ _ _ _ (by simp only [Heap.size_push]) rfl
  have w1 : (eT s.heap l).get? s.heap.objs.size = some { cls := .type "tuple_iterator", data := .fields #[.ref l, .int 0 0] } := up _ _ _ _ (at_ _ _ _ rfl rfl)
  exact ⟨⟨_, ee, rfl⟩, h _ ee ⟨_, w1, rfl, rfl⟩ fun c o e => up _ _ _ _ (up _ _ _ _ e)⟩
end RX
namespace RX
open PySem PySem.Spec PyProof.Rows L2
/-- a tuple's items with their places, in new pairs -/
def IteT (K : PySem.W.Frag) (a : Addr) : It :=
  ⟨fun i H => ∃ (xs : List V) (x : V), SqT K H a xs ∧ xs[i]? = some x,
   fun i H v H' => ∃ T x, v = .ref T ∧ H T = none ∧ H' = upd H T (.tup [.int (i : Nat), x]) ∧ ∀ xs, SqT K H a xs → xs[i]? = some x,
   fun i H => ∃ xs : List V, SqT K H a xs ∧ xs.length ≤ i⟩
theorem turnE {P : Program} {w : World} {K : PySem.W.Frag} {elts : List Expr} {kk : Nat} {tpos : Pos} (a e it : Addr) :
    Turn P w K (.Tuple elts kk tpos) (IteT K a) [e, it] e (fun i h => (∃ old, IsEnum h e it ((i : Nat) : Int) old) ∧ h.IsTupleIter it a i ∧ e ≠ it ∧ a ≠ e ∧ a ≠ it) where
  mem := List.mem_cons_self
  obj := fun i h ⟨⟨old, he⟩, ⟨o, ho, _, hd⟩, _⟩ b hb => by
    simp only [List.mem_cons, List.not_mem_nil, or_false] at hb
    rcases hb with rfl | rfl
    · exact ⟨_, he, fun v z => nomatch z⟩
    · exact ⟨o, ho, fun v z => by rw [hd] at z; cases z⟩
  keep := fun i h h' ⟨⟨old, he⟩, t1, ne⟩ k => ⟨⟨old, k e (by simp) _ he⟩, t1.at fun o z => k it (by simp) o z, ne⟩
  item := by
    intro X hP hw hK hc i pins s σ H E I fp ⟨⟨old, he⟩, t1, n1, n2, n3⟩ ⟨xs, x, qx, ex⟩
    subst hP hw hK
    obtain ⟨its, rv, pa, _⟩ := I.tuple qx
    obtain ⟨u, eu, ru⟩ := rv.get ex
    have low : e < s.heap.objs.size := Heap.lt_size he
    have low2 : it < s.heap.objs.size := let ⟨_, z, _⟩ := t1; Heap.lt_size z
    refine enum_next (srcT n3 its.toArray) he ⟨t1, pa⟩ (x := u) (by simpa using eu) n1 n2 fun g eg jg tg kp => ?_
    refine ⟨_, rfl, wpAny_letOwnedTupleGo_enum (s := { s with heap := g, toks := s.toks + 1 }) eg fun g2 eg2 sb => ?_⟩
    have tg2 : g2.get? s.heap.objs.size = some { cls := .type "tuple", data := .seq #[.int i s.toks, u] } := (sb.2 _ (Nat.ne_of_gt low)).trans tg
    have made : ObjOk X.prog X.w (upd H s.heap.objs.size (.tup [.int (i : Nat), x])) g2 s.heap.objs.size (.tup [.int (i : Nat), x]) := ⟨(by decide : 2 ≤ sizeLine), [.int i s.toks, u], .cons ⟨_, rfl⟩ (.cons ru .nil), ⟨_, tg2, rfl, _, rfl⟩⟩
    have I2 : Inv X pins σ (upd H s.heap.objs.size (.tup [.int (i : Nat), x])) { s with heap := g2, toks := s.toks + 1 } := I.turnedNew (ch := [e, it]) (fun b o nb z => by
      simp only [List.mem_cons, List.not_mem_nil, or_false, not_or] at nb
      exact (sb.2 b nb.1).trans (kp b o nb.1 nb.2 z)) fp (Nat.le_refl _) made
    refine ⟨.ref s.heap.objs.size, _, I2, rfl, ⟨_, x, rfl, I.hok.fresh (Nat.le_refl _), rfl, fun l hl => by rw [I.tuple_inj hl qx]; exact ex⟩, ⟨⟨u, ?_⟩, jg.1.at fun o z => (sb.2 it n1.symm).trans z, n1, n2, n3⟩, fun b hb => ?_⟩
    · rw [show ((i + 1 : Nat) : Int) = (i : Int) + 1 by omega]
      exact eg2
    · have lt : b < s.heap.objs.size := by
        have old := hb
        simp only [List.mem_cons, List.not_mem_nil, or_false] at old
        rcases old with rfl | rfl
        · exact low
        · exact low2
      rw [upd_ne (Nat.ne_of_lt lt)]
      exact (fp b hb).1
  done := by
    intro X hP hw hK hc i pins s σ H E I fp ⟨⟨old, he⟩, t1, n1, n2, n3⟩ ⟨xs, qx, last⟩
    subst hP hw hK
    obtain ⟨its, rv, pa, _⟩ := I.tuple qx
    obtain ⟨f0, f1, f2, f3, f4, f5⟩ := fp it (by simp)
    have len := rv.length
    exact enum_end (I.ok.hd hc) (srcT n3 its.toArray) he ⟨t1, pa⟩ (by simp; omega) fun g ev => ⟨rfl, I.turned (t' := s.toks) (fun b o nb z => ev b o nb z) f0 f1 f3 f4 f5⟩
  self := fun A i s Q E ⟨⟨_, he⟩, _⟩ h => wpAny_pyIter_enum he h
def iEnumT (K : PySem.W.Frag) (ta : TA) : TI := fun σ H R => ta σ H fun vs H1 => ∃ a xs, vs = [.ref a] ∧ SqT K H1 a xs ∧ R (IteT K a) H1
theorem pi_enumT {X : Cx} {e : Expr} {ta : TA} {p pos tpos : Pos} {elts : List Expr} {kk : Nat} (hg : Gl X "enumerate") (hm : X.mg "enumerate" = none) (ha : PA X [e] ta) (hs : starEach [e] X.env = [(false, eval e X.env)] := by rfl) :
    PI X (.Tuple elts kk tpos) (.Call (.Name "enumerate" p) [e] [] pos) (iEnumT X.K ta) := by
  refine ⟨fun pins s σ H R I h => Call_ (ld_blt I hg hm boot_enumerate (PyProof.Rows.callWith_type1 (thn (ha.run pos pins s σ H _ I h) fun us s1 ⟨vs, H1, I1, r1, a, xs, ev, qx, q⟩ => ?_) hs rfl))⟩
  subst ev
  cases r1 with
  | cons ra rr =>
  cases rr
  cases ra
  obtain ⟨its, rv, pa, _⟩ := I1.tuple qx
  obtain ⟨oa, ea, _⟩ := id pa
  have low := Heap.lt_size ea
  refine call_enumT (show s1.heap.IsTuple a its.toArray from pa) fun g he t1 kp => wpAny_pyIter_enum he ⟨s1.heap.objs.size + 1, [s1.heap.objs.size + 1, s1.heap.objs.size], _, _, H1, rfl, I1.kept (t' := s1.toks) kp, turnE a (s1.heap.objs.size + 1) s1.heap.objs.size, ⟨⟨.none, he⟩, t1, Nat.succ_ne_self _, Nat.ne_of_lt (Nat.lt_succ_of_lt low), Nat.ne_of_lt low⟩, fun b hb => ?_, q⟩
  have up : s1.heap.objs.size ≤ b := by
    simp only [List.mem_cons, List.not_mem_nil, or_false] at hb
    rcases hb with rfl | rfl <;> first | exact Nat.le_add_right _ _ | exact Nat.le_refl _
  exact I1.fpOk up (I1.hok.fresh up)
end RX

section
variable {K : PySem.W.Frag}
def iEnumTK (K : PySem.W.Frag) (ta : TA) : TI := RX.iEnumT K ta
theorem k_enumT {X : Cx} {e : Expr} {ta : TA} {p pos tpos : Pos} {elts : List Expr} {kk : Nat} (hK : X.K = K) (hg : Gl X "enumerate") (hm : X.mg "enumerate" = none) (ha : PA X [e] ta) (hs : starEach [e] X.env = [(false, eval e X.env)] := by rfl) :
    PI X (.Tuple elts kk tpos) (.Call (.Name "enumerate" p) [e] [] pos) (iEnumTK K ta) := hK ▸ RX.pi_enumT hg hm ha hs
def aEnumT (g : AA) : AI := fun ρ n Q => g ρ n fun ds n1 => match ds with
  | [.tup as] => Q (enumD 0 as) n1
  | _ => False
instance {ta : TA} {g : AA} [DA K ta g] : DI K (iEnumTK K ta) (aEnumT g) := ⟨fun W σ ρ n H R Qa hQ hE o h =>
  DA.run (te := ta) (f := g) W σ ρ n H _ _ (fun ds n1 h1 H1 vs l1 o1 ax => by
    split at h1
    · cases ax with
      | cons a r =>
        cases r
        cases a with
        | tup sa a =>
          refine ⟨_, _, rfl, sa, hQ _ _ h1 _ H1 l1 o1 fun W' hr hd H2 n2 l2 o2 i => ?_⟩
          have s2 := sqt_lk (o1.lk' hr) l2 sa
          refine ⟨fun d e => ?_, fun hi => ⟨_, s2, by rw [a.length]; rw [enumD_length] at hi; exact hi⟩⟩
          obtain ⟨x, e1, rfl⟩ := enumD_get e
          obtain ⟨v, e1', a1⟩ := a.get e1
          refine ⟨⟨_, v, s2, e1'⟩, fun z H3 ⟨T, x', ez, hT, eH, e3⟩ => ?_⟩
          have q1 := e3 _ s2
          rw [e1'] at q1
          cases q1
          subst ez eH
          have st : Same H2 (upd H2 T (.tup [.int i, v])) := same_upd hT
          refine ⟨st, .tup (.inl (.inl upd_same)) (.cons ?_ (.cons ?_ .nil))⟩
          · rw [Nat.zero_add]
            exact .int _
          · exact At.le o2 (Wd.le_same st) _ (At.lk (o1.lk' hr) l2 _ (At.ext hr hd _ a1))
    · exact h1.elim) hE o h⟩
end

/-! ### defs with a default -/
section
variable {K : PySem.W.Frag}
theorem fn_mirD {P : Program} {w : World} {mg : Str → Option Value} {base : Heap} {x qual : Str} {st : Stmt} {f : Addr} {fd : FuncData} {dvs : List V} {kws : List (Str × V)} {N ps : List Str} {k : Nat} {A : ASp} (ow : List Nat) (kk : Nat) (hk : N.length = kk) (hp : ps.length ≤ kk) (ho : ∀ i ∈ ow, ps.length ≤ i) (F : FunD K x qual (defArgs st) (defBody st) (defScope st) dvs kws f fd) (S : FnScope N ps (defScope st))
    (hbody : ∀ (cdv : Value) (Ar : Around) (outer : List Env) (s : Shared) (H : Hp) (E : XK), Room k (Ar.deeper (envOfC qual (defScope st) s.heap.objs.size f cdv)) →
      ∃ (t : TS) (fa : AS), PSs (cxOf CX0 P w K mg base N qual (defScope st) f cdv Ar outer s H E) (defBody st) t ∧ DS K W0 ow t fa ∧ ∀ ds n Q, ds.length = ps.length → A ds n Q → fa (aTop Q) (startA kk ds) n) : FnOk P w K mg base CX0 (k + 1) f fd ps (spOf K ps.length A) := by
  refine F.ok S (fun vs H Q E h => ?_) (fun cdv Ar outer s H vs Q E hr h => ?_)
  · obtain ⟨W, n, ds, Qa, a, hl, _⟩ := h
    rw [a.length, hl]
  · obtain ⟨W, n, ds, Qa, a, hl, o, hQ, hA⟩ := h
    obtain ⟨t, fa, h1, h2, h3⟩ := hbody cdv Ar outer s H E hr
    refine ⟨t, h1, DS.run (Wx := W0) (ow := ow) (t := t) (f := fa) W [] (L2.start N vs) (startA kk ds) n H _ (aTop Qa) ⟨fun ρ' n' q U' σ' H' l' s' => hQ _ _ q H' _ (le_start l') s'.base .non, fun d n' q U1 H1 H' v l' l2 o' a' => hQ _ _ q H' v ((le_start l').trans l2) o' a', fun _ _ q => q.elim, fun _ _ q => q.elim, fun _ _ _ _ _ q => q.elim⟩ (start_ok hk (by omega) (fun i hi => by rw [hl]; exact ho i hi) a o) (h3 ds n Qa hl hA)⟩
def aCallD (k : Nat) (A : ASp) (d : D) (g : AA) : AE := fun ρ n Q => g ρ n fun ds n1 => match Nat.beq (ds.length + 1) k with
  | true => A (ds ++ [d]) n1 Q
  | false => False
instance {k : Nat} {A : ASp} {E : XK} {ta : TA} {g : AA} {a : Addr} {d : D} [DA K ta g] [Kon K a d] : DE K (tCall (spOf K k A) [V.ref a] E ta) (aCallD k A d g) := ⟨fun W σ ρ n H Q Qa hQ hE o h =>
  DA.run (te := ta) (f := g) W σ ρ n H _ _ (fun ds n1 h1 H1 xs l1 o1 ax => by
    split at h1
    · rename_i e
      exact ⟨W, n1, ds ++ [d], Qa, ax.append (.cons (Kon.at_ W H1) .nil), by rw [List.length_append]; exact Nat.eq_of_beq_eq_true e, o1, hQ.le l1, h1⟩
    · exact h1.elim) hE o h⟩
end

/-! ### list(zip(a, b)) of two tuples -/
section
open PySem
open PySem.Sem (wp)
variable {prog : Program} {w : World} {A : Around} {E : Value → Shared → Prop} {s : Shared}
/-- a zip whose first pair is held -/
abbrev IsZipH (h : Heap) (z TI TO T0 : Addr) (b : Bool) : Prop :=
  h.get? z = some { cls := .type "zip", dict := none, data := .fields #[rawInt T0, .bool b, .bool false, .ref TI, .ref TO], slots := #[] }
theorem wpAny_alive {M : Model} {a : Addr} {Q : Option Obj → Shared → Prop} (h : Q (s.heap.get? a) s) : wpAny M A (loadIfAlive a) Q E s := fun Γ p hΓ => by
  unfold loadIfAlive
  rw [Sem.wp_loadIfAlive]
  exact h
theorem owned_held {z TI TO T0 : Addr} {b : Bool} {oT : Obj} {Q : Bool → Shared → Prop} (hz : IsZipH s.heap z TI TO T0 b) (hT : s.heap.get? T0 = some oT)
    (hQ : ∀ h', IsZipH h' z TI TO T0 true → Heap.SameBut z s.heap h' → Q false { s with heap := h' }) : wpAny (model prog w) A (Builtin.SmallTypes.ownedTupleIsFree (.ref z)) Q E s := by
  unfold Builtin.SmallTypes.ownedTupleIsFree
  refine wpAny_bind (wpAny_field hz rfl (x := rawInt T0) rfl ?_)
  show wpAny _ _ (loadIfAlive (Int.toNat (T0 : Int)) >>= _) _ _ _
  refine wpAny_bind (wpAny_alive ?_)
  rw [Int.toNat_natCast, hT]
  show wpAny _ _ (field (.ref z) 1 >>= _) _ _ _
  refine wpAny_bind (wpAny_field hz rfl (x := .bool b) rfl ?_)
  cases b with
  | true =>
    exact wpAny_pure (hQ s.heap hz (Heap.SameBut.refl ..))
  | false =>
    show wpAny _ _ (setField (.ref z) 1 (.bool true) >>= _) _ _ _
    refine wpAny_bind (wpAny_setField_rec hz (by simp) fun h1 hz1 hs1 => wpAny_pure ?_)
    exact hQ h1 hz1 hs1
theorem zipH_item {z TI TO i1 i2 l1 l2 T0 : Addr} {k1 k2 : Nat} {xs ys : Array Value} {x y : Value} {bb : Bool} {oT : Obj} {Q : Value → Shared → Prop} (D : ZipApart z TI TO i1 i2 l1 l2)
    (hz : IsZipH s.heap z TI TO T0 bb) (hT0 : s.heap.get? T0 = some oT) (hTI : IsPair s.heap TI (.ref i1) (.ref i2))
    (h1 : s.heap.IsTupleIter i1 l1 k1) (h2 : s.heap.IsTupleIter i2 l2 k2) (hl1 : s.heap.IsTuple l1 xs) (hl2 : s.heap.IsTuple l2 ys) (hx : xs[k1]? = some x) (hy : ys[k2]? = some y)
    (hQ : ∀ h', IsZipH h' z TI TO T0 true → h'.IsTupleIter i1 l1 (k1 + 1) → h'.IsTupleIter i2 l2 (k2 + 1) → IsPair h' s.heap.objs.size x y →
      (∀ c o, c ≠ z → c ≠ i1 → c ≠ i2 → s.heap.get? c = some o → h'.get? c = some o) → Q (.ref s.heap.objs.size) { s with heap := h' }) :
    wpAny (model prog w) A (Builtin.«zip.__next__» ⟨[.ref z], []⟩) (fun fin s' => ∃ v, fin = .done (.ret v) ∧ Q v s') E s := by
  show wpAny _ _ (field (.ref z) 2 >>= _) _ _ _
  refine wpAny_bind (wpAny_field hz rfl (x := .bool false) rfl ?_)
  show wpAny _ _ (field (.ref z) 3 >>= _) _ _ _
  refine wpAny_bind (wpAny_field hz rfl (x := .ref TI) rfl ?_)
  refine wpAny_bind (wpAny_seqItems hTI rfl ?_)
  show wpAny _ _ (Builtin.SmallTypes.ownedTupleIsFree (.ref z) >>= _) _ _ _
  refine wpAny_bind (owned_held hz hT0 fun h₁ hz₁ hs₁ => ?_)
  simp only [Bool.false_eq_true, if_false]
  refine wpAny_bind ?_
  rw [show (#[Value.ref i1, Value.ref i2] : Array Value) = [Value.ref i1, Value.ref i2].toArray from rfl, List.forIn_toArray]
  simp only [List.forIn_cons, List.forIn_nil]
  refine wpAny_bind (wpAny_bind (wpAny_holding ?_))
  show wpAny _ _ (Builtin.SmallTypes.nextOf (.ref i1) >>= _) _ _ _
  refine wpAny_bind (RZ.nextOf_tuple_item (h1.extBut hs₁.extBut D.i1z) (hl1.extBut hs₁.extBut D.l1z) hx fun h₂ h1₂ hs₂ => wpAny_pure (wpAny_pure ?_))
  show wpAny _ _ (_ >>= _) _ _ _
  refine wpAny_bind (wpAny_bind (wpAny_holding ?_))
  show wpAny _ _ (Builtin.SmallTypes.nextOf (.ref i2) >>= _) _ _ _
  refine wpAny_bind (RZ.nextOf_tuple_item ((h2.extBut hs₁.extBut D.i2z).extBut hs₂.extBut D.i12.symm) ((hl2.extBut hs₁.extBut D.l2z).extBut hs₂.extBut D.l2i1) hy fun h₃ h2₃ hs₃ => wpAny_pure (wpAny_pure (wpAny_pure ?_)))
  show wpAny _ _ (newTuple [x, y] >>= _) _ _ _
  refine wpAny_bind (wpAny_newTuple (wpAny_pure ⟨_, rfl, ?_⟩))
  have hsz : h₃.objs.size = s.heap.objs.size := by rw [hs₃.1, hs₂.1, hs₁.1]
  have hz₃ : IsZipH h₃ z TI TO T0 true := hs₃.extBut _ _ D.i2z.symm (hs₂.extBut _ _ D.i1z.symm hz₁)
  have up : ∀ c o, h₃.get? c = some o → (h₃.push { cls := .type "tuple", data := .seq #[x, y] }).get? c = some o := fun c o e => Heap.get?_push_of_some _ e
  show Q (.ref h₃.objs.size) _
  rw [hsz]
  refine hQ _ (up _ _ hz₃) ((h1₂.extBut hs₃.extBut D.i12).at fun o e => up _ o e) (h2₃.at fun o e => up _ o e) ?_ fun c o c1 c2 c3 e => up _ _ (hs₃.extBut _ _ c3 (hs₂.extBut _ _ c2 (hs₁.extBut _ _ c1 e)))
  rw [← hsz]
  exact Heap.get?_push_size _ rfl
theorem zipH_end {z TI TO i1 i2 l1 l2 T0 : Addr} {k1 : Nat} {xs : Array Value} {bb : Bool} {oT : Obj} {Q : Fin → Shared → Prop} (hh : A.handled = none) (D : ZipApart z TI TO i1 i2 l1 l2)
    (hz : IsZipH s.heap z TI TO T0 bb) (hT0 : s.heap.get? T0 = some oT) (hTI : IsPair s.heap TI (.ref i1) (.ref i2))
    (h1 : s.heap.IsTupleIter i1 l1 k1) (hl1 : s.heap.IsTuple l1 xs) (hend : xs[k1]? = none)
    (hE : ∀ h' e, (∀ c o, c ≠ z → c ≠ i1 → s.heap.get? c = some o → h'.get? c = some o) → (∃ o, h'.get? e = some o ∧ o.cls = .type "StopIteration") → E (.ref e) { s with heap := h' }) :
    wpAny (model prog w) A (Builtin.«zip.__next__» ⟨[.ref z], []⟩) Q E s := by
  show wpAny _ _ (field (.ref z) 2 >>= _) _ _ _
  refine wpAny_bind (wpAny_field hz rfl (x := .bool false) rfl ?_)
  show wpAny _ _ (field (.ref z) 3 >>= _) _ _ _
  refine wpAny_bind (wpAny_field hz rfl (x := .ref TI) rfl ?_)
  refine wpAny_bind (wpAny_seqItems hTI rfl ?_)
  show wpAny _ _ (Builtin.SmallTypes.ownedTupleIsFree (.ref z) >>= _) _ _ _
  refine wpAny_bind (owned_held hz hT0 fun h₁ hz₁ hs₁ => ?_)
  simp only [Bool.false_eq_true, if_false]
  refine wpAny_bind ?_
  rw [show (#[Value.ref i1, Value.ref i2] : Array Value) = [Value.ref i1, Value.ref i2].toArray from rfl, List.forIn_toArray]
  simp only [List.forIn_cons, List.forIn_nil]
  refine wpAny_bind (wpAny_bind (wpAny_holding ?_))
  show wpAny _ _ (Builtin.SmallTypes.nextOf (.ref i1) >>= _) _ _ _
  refine wpAny_bind (RZ.nextOf_tuple_end hh (h1.extBut hs₁.extBut D.i1z) (hl1.extBut hs₁.extBut D.l1z) hend fun h₂ e hs₂ he => ?_)
  exact hE h₂ e (fun c o c1 c3 x => hs₂ _ _ c3 (hs₁.extBut _ _ c1 x)) he
theorem next_zipH_item {z TI TO i1 i2 l1 l2 T0 : Addr} {k1 k2 : Nat} {xs ys : Array Value} {x y : Value} {bb : Bool} {oT : Obj} {Q : Option Value → Shared → Prop} (D : ZipApart z TI TO i1 i2 l1 l2)
    (hz : IsZipH s.heap z TI TO T0 bb) (hT0 : s.heap.get? T0 = some oT) (hTI : IsPair s.heap TI (.ref i1) (.ref i2))
    (h1 : s.heap.IsTupleIter i1 l1 k1) (h2 : s.heap.IsTupleIter i2 l2 k2) (hl1 : s.heap.IsTuple l1 xs) (hl2 : s.heap.IsTuple l2 ys) (hx : xs[k1]? = some x) (hy : ys[k2]? = some y)
    (hQ : ∀ h', IsZipH h' z TI TO T0 true → h'.IsTupleIter i1 l1 (k1 + 1) → h'.IsTupleIter i2 l2 (k2 + 1) → IsPair h' s.heap.objs.size x y →
      (∀ c o, c ≠ z → c ≠ i1 → c ≠ i2 → s.heap.get? c = some o → h'.get? c = some o) → Q (some (.ref s.heap.objs.size)) { s with heap := h' }) :
    wpAny (model prog w) A (pyNext (.ref z)) Q E s := by
  have hT : s.TypeIs (.ref z) "zip" := ⟨_, hz, rfl⟩
  unfold pyNext
  exact wpAny_bind (wpAny_attempt (wpAny_callSpecial?_slot (name := Str.ofString "__next__") hT F.slot_zip_next
    (wpAny_call_entry F.slot_zip_next hT F.entry_zip_next
      (zipH_item D hz hT0 hTI h1 h2 hl1 hl2 hx hy fun h' a1 a2 a3 a4 a5 => wpAny_pure (hQ h' a1 a2 a3 a4 a5)) (F.args_zip_next_1 _))))
theorem next_zipH_end {z TI TO i1 i2 l1 l2 T0 : Addr} {k1 : Nat} {xs : Array Value} {bb : Bool} {oT : Obj} {Q : Option Value → Shared → Prop} (hh : A.handled = none) (D : ZipApart z TI TO i1 i2 l1 l2)
    (hz : IsZipH s.heap z TI TO T0 bb) (hT0 : s.heap.get? T0 = some oT) (hTI : IsPair s.heap TI (.ref i1) (.ref i2))
    (h1 : s.heap.IsTupleIter i1 l1 k1) (hl1 : s.heap.IsTuple l1 xs) (hend : xs[k1]? = none)
    (hQ : ∀ h', (∀ c o, c ≠ z → c ≠ i1 → s.heap.get? c = some o → h'.get? c = some o) → Q none { s with heap := h' }) : wpAny (model prog w) A (pyNext (.ref z)) Q E s := by
  have hT : s.TypeIs (.ref z) "zip" := ⟨_, hz, rfl⟩
  unfold pyNext
  refine wpAny_bind (wpAny_attempt (wpAny_callSpecial?_slot (name := Str.ofString "__next__") hT F.slot_zip_next
    (wpAny_call_entry F.slot_zip_next hT F.entry_zip_next (zipH_end hh D hz hT0 hTI h1 hl1 hend fun h' e hk he => ?_) (F.args_zip_next_1 _))))
  obtain ⟨o, ho, hc⟩ := he
  refine wpAny_bind (wpAny_isInstance (T := "StopIteration") (b := true) ⟨o, ho, hc⟩ isSubtype_stop ?_)
  exact wpAny_pure (hQ _ hk)
theorem zip_no_len : typeLookup (.type "zip") "__len__" = pure none := by rw [typeLookup_type, builtinLookup_eq_fast]; kernel_rfl
theorem zip_no_hint : typeLookup (.type "zip") "__length_hint__" = pure none := by rw [typeLookup_type, builtinLookup_eq_fast]; kernel_rfl
end

/-- pairs, laid -/
def PairsAt (H : Hp) (xs ys : List V) (ts : List Addr) : Prop := ∀ (i : Nat) (t : Addr), ts[i]? = some t → ∃ x y, xs[i]? = some x ∧ ys[i]? = some y ∧ H t = some (.tup [x, y])
section
open PySem
variable {X : Cx} {pins : List (Addr × Obj)} {σ : L2.St}
def ZSt (h : Heap) (z TI TO : Addr) (ts : List Addr) : Prop := (ts = [] ∧ IsZip h z TI TO .none ∧ ∃ x y, IsPair h TO x y) ∨ ∃ T0 r b, ts = T0 :: r ∧ IsZipH h z TI TO T0 b
theorem zip_loop {A : Around} {a b z TI TO i1 i2 S : Addr} {xs ys : List V} {res : Value} {Rr : Result → Shared → Prop} {H0 : Hp} (hh : A.handled = none) (D : ZipApart z TI TO i1 i2 a b) (hS0 : H0 S = none)
    (hlen : xs.length = ys.length) (hsz : xs.length ≤ 1000000) :
    ∀ (k : Nat) (s : Shared) (H : Hp) (ts : List Addr), xs.length - ts.length = k → ts.length ≤ xs.length → Inv X pins σ H s → ZSt s.heap z TI TO ts → IsPair s.heap TI (.ref i1) (.ref i2) →
      s.heap.IsTupleIter i1 a ts.length → s.heap.IsTupleIter i2 b ts.length → SqT X.K H a xs → SqT X.K H b ys → H S = some (.lst (ts.map V.ref)) → PairsAt H xs ys ts → (∀ c o, H0 c = some o → H c = some o) →
      (∀ c ∈ [z, TI, TO, i1, i2], FpOk X pins H c) → (∀ c ∈ [z, TI, TO, i1, i2], c < s.heap.objs.size) →
      (∀ s' H' ts', Inv X pins σ H' s' → (∀ c o, H0 c = some o → H' c = some o) → H' S = some (.lst (ts'.map V.ref)) → ts'.length = xs.length → PairsAt H' xs ys ts' → Rr (.ok (.ret res)) s') →
      codeAny (model X.prog X.w) A (.builtin "list.extend.loop" ⟨[.ref S, .ref z, res], []⟩) Rr s := by
  intro k
  induction k with
  | zero =>
    intro s H ts hk hi I hz hTI h1 h2 qa qb hS hP hold hf hbd hR
    have hin : ts.length = xs.length := by omega
    obtain ⟨its, rv, p, _⟩ := I.tuple qa
    obtain ⟨its2, rv2, p2, _⟩ := I.tuple qb
    have hend : its.toArray[ts.length]? = none := by
      have := rv.length
      simp
      omega
    refine codeAny_builtin F.entry_extend_loop ?_
    rw [Around.under_plainId F.plain_extend_loop _]
    show wpAny _ A.in1 (pyNext (.ref z) >>= _) _ _ s
    refine wpAny_bind ?_
    have fin : ∀ h' : Heap, (∀ c o, c ≠ z → c ≠ TO → c ≠ i1 → c ≠ i2 → s.heap.get? c = some o → h'.get? c = some o) → Rr (.ok (.ret res)) { s with heap := h' } := fun h' hk' =>
      hR _ H ts (I.turnedL (t' := s.toks) (ch := [z, TI, TO, i1, i2]) (fun c o hb q => hk' c o (fun e => hb (by simp [e])) (fun e => hb (by simp [e])) (fun e => hb (by simp [e])) (fun e => hb (by simp [e])) q) hf) hold hS hin hP
    rcases hz with ⟨_, hz, x0, y0, hTO⟩ | ⟨T0, r, bb, rfl, hz⟩
    · exact RZ.pyNext_zipT_end (show A.in1.handled = none from hh) D hz hTI hTO h1 h2 p p2 (.inl hend) fun h' hk' => wpAny_pure (fin h' hk')
    · obtain ⟨x, y, _, _, hT0⟩ := hP 0 T0 rfl
      obtain ⟨_, its0, _, ⟨oT, hoT, _⟩⟩ : ObjOk X.prog X.w H s.heap T0 (.tup [x, y]) := I.hok T0 _ hT0
      exact next_zipH_end (show A.in1.handled = none from hh) D hz hoT hTI h1 p hend fun h' hk' => wpAny_pure (fin h' fun c o c1 _ c3 _ e => hk' c o c1 c3 e)
  | succ k ih =>
    intro s H ts hk hi I hz hTI h1 h2 qa qb hS hP hold hf hbd hR
    have hlt : ts.length < xs.length := by omega
    obtain ⟨its, rv, p, _⟩ := I.tuple qa
    obtain ⟨its2, rv2, p2, _⟩ := I.tuple qb
    have hx : xs[ts.length]? = some xs[ts.length] := List.getElem?_eq_getElem hlt
    have hlt2 : ts.length < ys.length := by omega
    have hy : ys[ts.length]? = some ys[ts.length] := List.getElem?_eq_getElem hlt2
    generalize xs[ts.length] = x at hx
    generalize ys[ts.length] = y at hy
    obtain ⟨u, hu, ru⟩ := rv.get hx
    obtain ⟨u2, hu2, ru2⟩ := rv2.get hy
    refine codeAny_builtin F.entry_extend_loop ?_
    rw [Around.under_plainId F.plain_extend_loop _]
    show wpAny _ A.in1 (pyNext (.ref z) >>= _) _ _ s
    refine wpAny_bind ?_
    have fin : ∀ h' : Heap, ZSt h' z TI TO (ts ++ [s.heap.objs.size]) → h'.IsTupleIter i1 a (ts.length + 1) → h'.IsTupleIter i2 b (ts.length + 1) → IsPair h' s.heap.objs.size u u2 →
        (∀ c o, c ≠ z → c ≠ TO → c ≠ i1 → c ≠ i2 → s.heap.get? c = some o → h'.get? c = some o) →
        wpAny (model X.prog X.w) A.in1 (updateSeq S (·.push (.ref s.heap.objs.size)) >>= fun _ => again (.builtin "list.extend.loop" ⟨[.ref S, .ref z, res], []⟩))
          (fun fin s' => match fin with | .done f => Rr (.ok f) s' | .again c' => c'.quiet = true ∧ codeAny (model X.prog X.w) A c' Rr s') (fun e s' => Rr (.error e) s') { s with heap := h' } := fun h' hz' h1' h2' hT hk' => by
      have hTI' : IsPair h' TI (.ref i1) (.ref i2) := hk' TI _ D.TIz D.TITO D.TIi1 D.TIi2 hTI
      have new : ObjOk X.prog X.w (upd H s.heap.objs.size (.tup [x, y])) h' s.heap.objs.size (.tup [x, y]) :=
        ⟨by show 2 ≤ sizeLine; decide, [u, u2], .cons ru (.cons ru2 .nil), ⟨_, hT, rfl, _, rfl⟩⟩
      have I1 : Inv X pins σ (upd H s.heap.objs.size (.tup [x, y])) { s with heap := h' } :=
        I.turnedNew (t' := s.toks) (ch := [z, TI, TO, i1, i2]) (fun c o hb q => hk' c o (fun e => hb (by simp [e])) (fun e => hb (by simp [e])) (fun e => hb (by simp [e])) (fun e => hb (by simp [e])) q) hf (Nat.le_refl _) new
      have fr : H s.heap.objs.size = none := I.hok.fresh (Nat.le_refl _)
      have sm : ∀ c o, H c = some o → upd H s.heap.objs.size (.tup [x, y]) c = some o := fun c o e => by
        rw [upd_ne (ne_of_none e fr)]
        exact e
      have hS1 := sm S _ hS
      obtain ⟨hz1, itsS, nS, rvS, eS⟩ : ObjOk X.prog X.w _ h' S (.lst (ts.map V.ref)) := I1.hok S _ hS1
      have lS : itsS.length = ts.length := by
        have := rvS.length
        simp at this
        omega
      have line := sizeLine_eq
      refine wpAny_bind (wpAny_updateSeq (s := { s with heap := h' }) eS rfl (wpAny_pure ⟨plainId_quiet F.plain_extend_loop _, ?_⟩) (by simp; omega) (by simp; omega))
      have eS2 := Heap.get?_update_self (Obj.mapSeq (·.push (Value.ref s.heap.objs.size))) eS rfl
      have I2 : Inv X pins σ (upd (upd H s.heap.objs.size (.tup [x, y])) S (.lst ((ts ++ [s.heap.objs.size]).map V.ref))) { s with heap := h'.update S (Obj.mapSeq (·.push (Value.ref s.heap.objs.size))) } :=
        I1.write (x := S) (e := S) (t' := s.toks) (by rw [hS1]; trivial) (.inl rfl) (fun c o hc e => (Heap.get?_update_other _ _ (Ne.symm hc)).trans e) ⟨_, eS2⟩ ⟨by rw [List.length_map, List.length_append]; simp; omega, itsS ++ [.ref s.heap.objs.size], _, by
            rw [List.map_append]
            exact rvS.append (.cons rfl .nil), by
            rw [eS2]
            simp [Obj.mapSeq]
            rfl⟩
      have nS' : ∀ c, H c = none → c ≠ S := fun c e e' => by
        rw [e', hS] at e
        cases e
      have oth : ∀ c o, c ≠ S → h'.get? c = some o → (h'.update S (Obj.mapSeq (·.push (Value.ref s.heap.objs.size)))).get? c = some o := fun c o hc e => (Heap.get?_update_other _ _ (Ne.symm hc)).trans e
      have up : ∀ c o, c ≠ S → H c = some o → upd (upd H s.heap.objs.size (.tup [x, y])) S (.lst ((ts ++ [s.heap.objs.size]).map V.ref)) c = some o := fun c o hc e => by
        rw [upd_ne hc]
        exact sm c o e
      have nz := fun c hc => nS' c (hf c hc).1
      have TS : s.heap.objs.size ≠ S := nS' _ fr
      refine ih _ _ (ts ++ [s.heap.objs.size]) (by rw [List.length_append]; simp; omega) (by rw [List.length_append]; simp; omega) I2 ?_ (oth _ _ (nz TI (by simp)) hTI') ?_ ?_ ?_ ?_ (by rw [upd_same]) ?_ ?_ ?_ ?_ hR
      · rcases hz' with ⟨e, _⟩ | ⟨T0, r, bb, e, hz'⟩
        · simp at e
        · exact .inr ⟨T0, r, bb, e, oth _ _ (nz z (by simp)) hz'⟩
      · rw [List.length_append]
        exact h1'.at fun o e => oth _ o (nz i1 (by simp)) e
      · rw [List.length_append]
        exact h2'.at fun o e => oth _ o (nz i2 (by simp)) e
      · rcases qa with (g | ⟨ob, g⟩) | g
        · exact .inl (.inl (up _ _ (fun e => by rw [e, hS] at g; cases g) g))
        · exact .inl (.inr ⟨ob, up _ _ (fun e => by rw [e, hS] at g; cases g) g⟩)
        · exact .inr g
      · rcases qb with (g | ⟨ob, g⟩) | g
        · exact .inl (.inl (up _ _ (fun e => by rw [e, hS] at g; cases g) g))
        · exact .inl (.inr ⟨ob, up _ _ (fun e => by rw [e, hS] at g; cases g) g⟩)
        · exact .inr g
      · intro i t e
        by_cases hi' : i < ts.length
        · rw [List.getElem?_append_left hi'] at e
          obtain ⟨x', y', e1, e2, e3⟩ := hP i t e
          exact ⟨x', y', e1, e2, up _ _ (fun e' => by rw [e', hS] at e3; cases e3) e3⟩
        · have hi2 : i = ts.length := by
            have := (List.getElem?_eq_some_iff.mp e).1
            simp at this
            omega
          subst hi2
          have : t = s.heap.objs.size := by
            rw [List.getElem?_append_right (Nat.le_refl _)] at e
            simpa using e.symm
          subst this
          exact ⟨x, y, hx, hy, by rw [upd_ne TS, upd_same]⟩
      · intro c o e
        refine up c o (fun e' => ?_) (hold c o e)
        rw [e', hS0] at e
        cases e
      · intro c hc
        obtain ⟨g1, g2⟩ := hf c hc
        refine ⟨?_, g2⟩
        rw [upd_ne (nz c hc), upd_ne (Nat.ne_of_lt (hbd c hc))]
        exact g1
      · intro c hc
        exact Nat.lt_trans (hbd c hc) (Heap.lt_size (oth _ _ TS hT))
    rcases hz with ⟨rfl, hz, x0, y0, hTO⟩ | ⟨T0, r, bb, rfl, hz⟩
    · exact RZ.pyNext_zipT_item D hz hTI hTO h1 h2 p p2 (x := u) (y := u2) (by simpa using hu) (by simpa using hu2) fun h' z' TO' h1' h2' hT hsz' hk' => fin h' (.inr ⟨_, [], false, rfl, z'⟩) h1' h2' hT hk'
    · obtain ⟨x', y', _, _, hT0⟩ := hP 0 T0 rfl
      obtain ⟨_, its0, _, ⟨oT, hoT, _⟩⟩ : ObjOk X.prog X.w H s.heap T0 (.tup [x', y']) := I.hok T0 _ hT0
      exact next_zipH_item D hz hoT hTI h1 h2 p p2 (x := u) (y := u2) (by simpa using hu) (by simpa using hu2) fun h' z' h1' h2' hT hk' => fin h' (.inr ⟨T0, r ++ [s.heap.objs.size], true, rfl, z'⟩) h1' h2' hT fun c o c1 _ c3 c4 e => hk' c o c1 c3 c4 e
/-- the call list(z) of a zip at its start -/
theorem call_list_zip {A : Around} {a b z TI TO i1 i2 : Addr} {xs ys : List V} {Q : Value → Shared → Prop} {E : Value → Shared → Prop} {s : Shared} {H : Hp} (hh : A.handled = none) (D : ZipApart z TI TO i1 i2 a b)
    (hlen : xs.length = ys.length) (hsz : xs.length ≤ 1000000) (I : Inv X pins σ H s) (hz : IsZip s.heap z TI TO .none) (hTI : IsPair s.heap TI (.ref i1) (.ref i2)) (hTO : ∃ x y, IsPair s.heap TO x y)
    (h1 : s.heap.IsTupleIter i1 a 0) (h2 : s.heap.IsTupleIter i2 b 0) (qa : SqT X.K H a xs) (qb : SqT X.K H b ys) (hf : ∀ c ∈ [z, TI, TO, i1, i2], FpOk X pins H c) (hbd : ∀ c ∈ [z, TI, TO, i1, i2], c < s.heap.objs.size)
    (hQ : ∀ s' H' ts S, Inv X pins σ H' s' → H S = none → (∀ c o, H c = some o → H' c = some o) → H' S = some (.lst (ts.map V.ref)) → ts.length = xs.length → PairsAt H' xs ys ts → Q (.ref S) s') :
    wpAny (model X.prog X.w) A (call (.type "list") [.ref z]) Q E s := by
  refine callType_codes (Q₁ := fun obj s₁ => obj = .ref s.heap.objs.size ∧ s₁ = { s with heap := s.heap.push { cls := .type "list", data := .seq #[] } }) F.called_list (F.typeCall_list_1 _) F.entry_list_init
    (code_list_new _ ⟨rfl, rfl⟩) fun obj s₁ h₁ => ?_
  obtain ⟨rfl, rfl⟩ := h₁
  have hS : (s.heap.push { cls := .type "list", data := .seq #[] }).get? s.heap.objs.size = some { cls := .type "list", data := .seq #[] } := Heap.get?_push_size _ rfl
  refine ⟨⟨_, hS, rfl⟩, F.args_list_init_2 _ _, ?_⟩
  obtain ⟨S, hSd⟩ : ∃ S, S = s.heap.objs.size := ⟨_, rfl⟩
  rw [← hSd] at hS ⊢
  have fr : H S = none := I.hok.fresh (Nat.le_of_eq hSd.symm)
  have k0 : ∀ c o, s.heap.get? c = some o → (s.heap.push { cls := .type "list", data := .seq #[] }).get? c = some o := fun c o e => Heap.get?_push_of_some _ e
  have nS : ∀ c o, s.heap.get? c = some o → c ≠ S := fun c o e => Nat.ne_of_lt (Nat.lt_of_lt_of_eq (Heap.lt_size e) hSd.symm)
  have hSz : S ≠ z := Nat.ne_of_gt (Nat.lt_of_lt_of_eq (hbd z (by simp)) hSd.symm)
  generalize s.heap.push { cls := .type "list", data := .seq #[] } = g0 at hS k0 ⊢
  show wpAny _ A.in1.in1 (do let old ← Builtin.List.listItems (.ref S); Builtin.List.listUpdate (.ref S) (fun _ => #[]); letGo old.toList.reverse; Builtin.List.listExtendWith (.ref S) (.ref z) .none) _ _ _
  refine wpAny_bind ?_
  unfold Builtin.List.listItems
  refine wpAny_bind (wpAny_seqItems (s := { s with heap := g0 }) hS rfl (wpAny_pure ?_))
  show wpAny _ A.in1.in1 (updateSeq S (fun _ => #[]) >>= fun _ => letGo (#[] : Array Value).toList.reverse >>= fun _ => Builtin.List.listExtendWith (.ref S) (.ref z) .none) _ _ _
  refine wpAny_bind (wpAny_updateSeq (s := { s with heap := g0 }) hS rfl ?_)
  have hS₂ := Heap.get?_update_self (Obj.mapSeq (fun _ => (#[] : Array Value))) hS rfl
  have oth : ∀ c o, s.heap.get? c = some o → (g0.update S (Obj.mapSeq (fun _ => (#[] : Array Value)))).get? c = some o := fun c o e => (Heap.get?_update_other _ _ (Ne.symm (nS c o e))).trans (k0 c o e)
  generalize g0.update S (Obj.mapSeq (fun _ => (#[] : Array Value))) = g1 at hS₂ oth ⊢
  refine wpAny_bind (wpAny_letGo ?_)
  have hT : ({ s with heap := g1 } : Shared).TypeIs (.ref z) "zip" := ⟨_, oth _ _ hz, rfl⟩
  unfold Builtin.List.listExtendWith
  refine wpAny_bind (wpAny_typeOf hT ?_)
  have e1 : Builtin.List.listSameRef (.ref S) (.ref z) = false := by simp [Builtin.List.listSameRef, hSz]
  have e2 : (Value.type "zip" == Value.type "list") = false := by decide
  have e3 : (Value.type "zip" == Value.type "tuple") = false := by decide
  simp only [e1, e2, e3, Bool.or_false, Bool.false_eq_true, if_false]
  refine wpAny_bind (wpAny_pyIter_zip (s := { s with heap := g1 }) (oth _ _ hz) ?_)
  refine wpAny_bind (wpAny_holding ?_)
  unfold Builtin.List.listLengthHint
  refine wpAny_bind (wpAny_specialOf hT zip_no_len ?_)
  show wpAny _ A.in1.in1 (specialOf (Value.ref z) (Str.ofString "__length_hint__") >>= _) _ _ _
  refine wpAny_bind (wpAny_specialOf hT zip_no_hint ?_)
  refine wpAny_pure ?_
  show wpAny _ A.in1.in1 (rule "list.extend.makes-room" >>= fun _ => Builtin.List.listTouch (.ref S) >>= fun _ =>
    again (.builtin "list.extend.loop" ⟨[.ref S, .ref z, .none], []⟩)) _ _ _
  refine wpAny_bind (wpAny_rule ?_)
  refine wpAny_bind ?_
  show wpAny _ A.in1.in1 (updateSeq S (·.push .none) >>= fun _ => updateSeq S (·.pop)) _ _ _
  refine wpAny_bind (wpAny_updateSeq (s := { s with heap := g1 }) hS₂ rfl ?_)
  have hS₃ := Heap.get?_update_self (Obj.mapSeq (·.push Value.none)) hS₂ rfl
  refine wpAny_updateSeq (hz := by seq_fits) (s := { s with heap := g1.update S (Obj.mapSeq (·.push Value.none)) }) hS₃ rfl ?_
  have hS₄ := Heap.get?_update_self (Obj.mapSeq (·.pop)) hS₃ rfl
  have oth2 : ∀ c o, s.heap.get? c = some o → ((g1.update S (Obj.mapSeq (·.push Value.none))).update S (Obj.mapSeq (·.pop))).get? c = some o :=
    fun c o e => (Heap.get?_update_other _ _ (Ne.symm (nS c o e))).trans ((Heap.get?_update_other _ _ (Ne.symm (nS c o e))).trans (oth c o e))
  generalize (g1.update S (Obj.mapSeq (·.push Value.none))).update S (Obj.mapSeq (·.pop)) = g2 at hS₄ oth2 ⊢
  have I2 : Inv X pins σ (upd H S (.lst [])) { s with heap := g2 } := I.laid (t' := s.toks) oth2 (Nat.le_of_eq hSd.symm) (show ObjOk X.prog X.w _ g2 _ (.lst []) from ⟨Nat.zero_le _, [], _, .nil, hS₄⟩)
  have sm : ∀ c o, H c = some o → upd H S (.lst []) c = some o := fun c o e => by
    rw [upd_ne (ne_of_none e fr)]
    exact e
  refine wpAny_pure ⟨plainId_quiet F.plain_extend_loop _, zip_loop (A := A.in1) (H0 := H) (X := X) (pins := pins) (σ := σ) hh D fr hlen hsz _ _ (upd H S (.lst [])) [] rfl (Nat.zero_le _) I2 (.inl ⟨rfl, oth2 _ _ hz, let ⟨x, y, e⟩ := hTO; ⟨x, y, oth2 _ _ e⟩⟩) (oth2 _ _ hTI) (h1.at fun o e => oth2 _ o e) (h2.at fun o e => oth2 _ o e) ?_ ?_ (by rw [upd_same]; rfl) (fun i t e => by cases e) sm ?_ ?_ fun s' H' ts' I' k' q' l' p' => ⟨rfl, hQ s' H' ts' S I' fr k' q' l' p'⟩⟩
  · rcases qa with (g | ⟨ob, g⟩) | g
    · exact .inl (.inl (sm _ _ g))
    · exact .inl (.inr ⟨ob, sm _ _ g⟩)
    · exact .inr g
  · rcases qb with (g | ⟨ob, g⟩) | g
    · exact .inl (.inl (sm _ _ g))
    · exact .inl (.inr ⟨ob, sm _ _ g⟩)
    · exact .inr g
  · intro c hc
    obtain ⟨q1, q2⟩ := hf c hc
    refine ⟨?_, q2⟩
    rw [upd_ne (Nat.ne_of_lt (Nat.lt_of_lt_of_eq (hbd c hc) hSd.symm))]
    exact q1
  · intro c hc
    exact Nat.lt_trans (Nat.lt_of_lt_of_eq (hbd c hc) hSd.symm) (Heap.lt_size hS₄)
/-- list(zip(a, b)) of two tuples of one length -/
def tLZip (K : PySem.W.Frag) (ta : TA) : TE := fun σ H Q => ta σ H fun vs H1 => ∃ a b xs ys, vs = [.ref a, .ref b] ∧ SqT K H1 a xs ∧ SqT K H1 b ys ∧ xs.length = ys.length ∧ xs.length ≤ 1000000 ∧
  ∀ H' ts S, H1 S = none → (∀ c o, H1 c = some o → H' c = some o) → H' S = some (.lst (ts.map V.ref)) → ts.length = xs.length → PairsAt H' xs ys ts → Q (.ref S) H'
theorem k_lzip {K : PySem.W.Frag} {e e2 : Expr} {ta : TA} {p p0 pos pos0 : Pos} (hK : X.K = K) (hc : X.calm = true) (hg0 : Gl X "list") (hm0 : X.mg "list" = none) (hg : Gl X "zip") (hm : X.mg "zip" = none) (ha : PA X [e, e2] ta)
    (hs : starEach [e, e2] X.env = (false, eval e X.env) :: starEach [e2] X.env := by rfl) (hpl : (backTo pos (starEach [e2] X.env)).any (·.1) = false := by rfl)
    (hs0 : starEach [Expr.Call (.Name "zip" p) [e, e2] [] pos] X.env = (false, eval (Expr.Call (.Name "zip" p) [e, e2] [] pos) X.env) :: starEach [] X.env := by rfl) :
    PE X (.Call (.Name "list" p0) [.Call (.Name "zip" p) [e, e2] [] pos] [] pos0) (tLZip K ta) := by
  subst hK
  refine ⟨fun pins s σ H Q I h => ?_⟩
  refine Call_ (ld_blt I hg0 hm0 PyProof.Rows.boot_list (PyProof.Rows.callWith_type1 ?_ hs0 rfl))
  rw [hs0]
  show wpAny _ _ (spliced ((false, _) :: backTo pos0 (starEach [] X.env))) _ _ s
  refine Calls.spliced_cons ?_
  refine Call_ (ld_blt I hg hm PyProof.Rows.boot_zip (PyProof.Rows.callWith_type1 (thn (ha.run pos pins s σ H _ I h) fun us s1 ⟨vs, H1, I1, r1, q1⟩ => ?_) hs hpl))
  obtain ⟨a, b, xs, ys, ex, qa, qb, hlen, hsz, q⟩ := q1
  subst ex
  cases r1 with
  | cons r rr =>
    cases rr with
    | cons r' rr =>
      cases rr
      cases r
      cases r'
      obtain ⟨its, rv, p1, _⟩ := I1.tuple qa
      obtain ⟨its2, rv2, p2, _⟩ := I1.tuple qb
      obtain ⟨o1, ho1, _⟩ := id p1
      obtain ⟨o2, ho2, _⟩ := id p2
      refine RZ.call_zipT (show s1.heap.IsTuple a its.toArray from p1) (show s1.heap.IsTuple b its2.toArray from p2) fun h' hz hTI hTO h1 h2 hsz' hk => ?_
      have I2 : Inv X pins σ H1 { s1 with heap := h' } := I1.kept (t' := s1.toks) hk
      have five : ∀ c, c ∈ [s1.heap.objs.size + 4, s1.heap.objs.size + 2, s1.heap.objs.size + 3, s1.heap.objs.size, s1.heap.objs.size + 1] → s1.heap.objs.size ≤ c ∧ c < s1.heap.objs.size + 5 := fun c hcm => by
        have e' : c = s1.heap.objs.size + 4 ∨ c = s1.heap.objs.size + 2 ∨ c = s1.heap.objs.size + 3 ∨ c = s1.heap.objs.size ∨ c = s1.heap.objs.size + 1 := by simpa using hcm
        omega
      refine Calls.spliced_nil ?_
      refine call_list_zip (X := X) (pins := pins) (σ := σ) (I2.ok.hd hc) (PySem.W.ktu_apart s1.heap.objs.size a b (Heap.lt_size ho1) (Heap.lt_size ho2)) hlen hsz I2 hz hTI ⟨_, _, hTO⟩ h1 h2 qa qb (fun c hcm => I1.fpOk (five c hcm).1 (I1.hok.fresh (five c hcm).1)) (fun c hcm => by
        show c < h'.objs.size
        rw [hsz']
        exact (five c hcm).2) fun s' H' ts S I' hS k' q' l' p' => ⟨.ref S, H', I', rfl, q H' ts S hS k' q' l' p'⟩
end
section
variable {K : PySem.W.Frag}
theorem pairs_at {W : Wd} {H : Hp} : ∀ (ts : List Addr) (xs ys : List V) (as bs : List D), AtAll K W H xs as → AtAll K W H ys bs → xs.length = ys.length → ts.length = xs.length → PairsAt H xs ys ts → AtAll K W H (ts.map V.ref) (zipD as bs)
  | [], xs, ys, as, bs, ha, hb, hl, ht, hp => by
    cases xs with
    | nil =>
      cases ha
      exact .nil
    | cons x xs => cases ht
  | t :: ts, xs, ys, as, bs, ha, hb, hl, ht, hp => by
    cases xs with
    | nil => cases ht
    | cons x xs =>
      cases ys with
      | nil => cases hl
      | cons y ys =>
        cases ha with
        | cons a1 a2 =>
          cases hb with
          | cons b1 b2 =>
            obtain ⟨x', y', e1, e2, e3⟩ := hp 0 t rfl
            cases e1
            cases e2
            exact .cons (.tup (SqT.of e3) (.cons a1 (.cons b1 .nil))) (pairs_at ts xs ys _ _ a2 b2 (Nat.succ.inj hl) (Nat.succ.inj ht) fun i t' e => hp (i + 1) t' e)
def aLZip (g : AA) : AE := fun ρ n Q => g ρ n fun ds n1 => match ds with
  | [.tup as, .tup bs] => as.length = bs.length ∧ as.length ≤ 1000000 ∧ Q (.lst (zipD as bs)) n1
  | _ => False
instance {ta : TA} {g : AA} [DA K ta g] : DE K (tLZip K ta) (aLZip g) := ⟨fun W σ ρ n H Q Qa hQ hE o h =>
  DA.run (te := ta) (f := g) W σ ρ n H _ _ (fun ds n1 h1 H1 vs l1 o1 ax => by
    split at h1
    · obtain ⟨e1, e2, h1⟩ := h1
      cases ax with
      | cons a r =>
        cases r with
        | cons b r =>
          cases r
          cases a with
          | tup sa aa =>
            cases b with
            | tup sb ab =>
              have la := aa.length
              have lb := ab.length
              refine ⟨_, _, _, _, rfl, sa, sb, by omega, by omega, fun H' ts S hS k' q' l' p' => ?_⟩
              have sm : Same H1 H' := k'
              exact hQ _ _ h1 H' _ (l1.trans (Wd.le_same sm)) (o1.same sm) (.lst (o1.fresh hS) q' (pairs_at ts _ _ _ _ (AtAll.le o1 (Wd.le_same sm) _ aa) (AtAll.le o1 (Wd.le_same sm) _ ab) (by omega) l' p'))
    · exact h1.elim) hE o h⟩
end

/-! ### dict comprehensions, places of dicts, comprehensions of two fors -/
section
variable {K : PySem.W.Frag}
def keyD : D → Option Key
  | .int i => some (.inl i)
  | .str x => some (.inr x)
  | _ => none
theorem key_at {W : Wd} {H : Hp} {v : V} {d : D} {k : Key} (a : At K W H v d) (e : keyD d = some k) : v = kV k := by
  cases a <;> first
    | (cases e; rfl)
    | cases e
theorem Sc.updD {H : Hp} {s b : Addr} {ns : List Int} {u : HO} (h : Sc K H s ns) (hb : H b = none ∨ ∃ kvs, H b = some (.dK kvs)) : Sc K (L2.upd H b u) s ns := by
  rcases h with ⟨o, h⟩ | h
  · refine .inl ⟨o, ?_⟩
    have n : s ≠ b := fun e => by
      subst e
      rcases hb with e | ⟨xs, e⟩ <;> rw [e] at h <;> cases h
    rw [upd_ne n]
    exact h
  · exact .inr h
theorem Wd.ok_putD {W : Wd} {p : Addr} {ys : HO} {n : Nat} {H : Hp} (hm : Mt ys) (hp : ¬ W.rs p) (hl : H p = none ∨ ∃ kvs, H p = some (.dK kvs)) (o : W.ok K n H) : (W.add (p, ys)).ok K n (upd H p ys) := by
  refine ⟨fun d b e => ?_, fun q hq => ?_, fun d b e q hq => ?_⟩
  · obtain ⟨c, D, l⟩ := o.deck d b e
    have n1 : p ≠ d := fun z => hp (.inl ⟨d, b, e, .inl z⟩)
    have n2 : p ≠ b := fun z => hp (.inl ⟨d, b, e, .inr z⟩)
    refine ⟨c, ?_, l⟩
    obtain ⟨⟨s, ns, cs, i, k, h1, h2, h3, h4⟩, ne⟩ := D
    refine ⟨⟨s, ns, cs, i, k, ?_, ?_, h3.updD hl, h4⟩, ne⟩
    · rw [upd_ne (Ne.symm n1)]; exact h1
    · rw [upd_ne (Ne.symm n2)]; exact h2
  · rcases List.mem_cons.mp hq with rfl | hq
    · exact ⟨upd_same, hm⟩
    · rw [upd_ne fun z => hp (.inr (List.mem_map.mpr ⟨q, hq, z⟩))]
      exact o.owns q hq
  · rcases List.mem_cons.mp hq with rfl | hq
    · exact ⟨fun z => hp (.inl ⟨d, b, e, .inl z⟩), fun z => hp (.inl ⟨d, b, e, .inr z⟩)⟩
    · exact o.dis d b e q hq
def aDcGo (vs : List Nat) (G : D → Option (List (Nat × D))) (c : AT) (fk fv : AE) (ρ : Env') (Q : D → Nat → Prop) : List Key → List D → List D → Nat → Prop
  | ks, acc, [], n => Q (.dic ks acc) n
  | ks, acc, d :: r, n => aPutC vs G d ρ fun ρ1 => c ρ1 n fun b n2 => aIte b (fk ρ1 n2 fun k n3 => fv ρ1 n3 fun y n4 => ∃ kk, keyD k = some kk ∧ kk ∉ ks ∧ aDcGo vs G c fk fv ρ Q (ks ++ [kk]) (acc ++ [y]) r n4) (aDcGo vs G c fk fv ρ Q ks acc r n2)
def aDc (I : AI) (G : D → Option (List (Nat × D))) (c : AT) (fk fv : AE) (vs : List Nat) : AE := fun ρ n Q => I ρ n fun ds n1 => ds.length ≤ 1000000 ∧ aDcGo vs G c fk fv (wipeA ρ vs) Q [] [] ds n1
theorem putK_new {ks : List Key} {us : List V} {k : Key} {v : V} (hk : k ∉ ks) (hl : ks.length = us.length) : putK (ks.zip us) k v = (ks ++ [k]).zip (us ++ [v]) := by
  unfold putK
  have : ((ks.zip us).any fun kv => decide (kv.1 = k)) = false := by
    rw [List.any_eq_false]
    intro p hp hd
    exact hk (by rw [← of_decide_eq_true hd]; exact (List.of_mem_zip hp).1)
  rw [this, if_neg Bool.false_ne_true, List.zip_append hl]
  rfl
theorem valV_zip {W : Wd} {H : Hp} {k : Key} : ∀ {ks : List Key} {us : List V} {ds : List D} {i : Nat} {d : D}, AtAll K W H us ds → ks.Nodup → ks[i]? = some k → ds[i]? = some d → ∃ v, valV (ks.zip us) k = some v ∧ At K W H v d
  | [], _, _, i, _, _, _, e, _ => by cases e
  | _ :: _, _, [], i, _, _, _, _, e => by cases e
  | x :: ks, _, d :: ds, 0, d', h, nd, e1, e2 => by
    cases h with
    | @cons v vs _ _ a r =>
      cases e1
      cases e2
      exact ⟨v, valV_pos rfl, a⟩
  | x :: ks, _, d :: ds, i + 1, d', h, nd, e1, e2 => by
    cases h with
    | @cons v vs _ _ a r =>
      rw [List.nodup_cons] at nd
      have e1' : ks[i]? = some k := e1
      have ne : ¬ x = k := fun z => nd.1 (by rw [z]; exact List.mem_of_getElem? e1')
      obtain ⟨v', h1, h2⟩ := valV_zip (ks := ks) (ds := ds) (i := i) r nd.2 e1' e2
      exact ⟨v', by rw [List.zip_cons_cons, valV_neg ne]; exact h1, h2⟩
instance {wi : TI} {g : TG} {tt : TT} {tk tv : TE} {vs : List Nat} {I : AI} {G : D → Option (List (Nat × D))} {c : AT} {fk fv : AE} [DI K wi I] [DG K g G] [DT K tt c] [DE K tk fk] [DE K tv fv] : DE K (tDc wi g tt tk tv vs) (aDc I G c fk fv vs) := ⟨fun W σ ρ n H Q Qa hQ hE o h => by
  refine DI.run (wi := wi) (f := I) W σ ρ n H _ _ (fun ds n1 h1 J H1 l1 o1 hw Dl hDl => ?_) hE o h
  obtain ⟨hlen, h1⟩ := h1
  have nrs : ¬ W.rs Dl := o1.fresh hDl
  refine ⟨fun i m H' => m = ds.length - i ∧ i ≤ ds.length ∧ ∃ n' us ks acc, aDcGo vs G c fk fv (wipeA ρ vs) Qa ks acc (ds.drop i) n' ∧ (W.add (Dl, .dK (ks.zip us))).ok K n' H' ∧ AtAll K (W.add (Dl, .dK (ks.zip us))) H' us acc ∧ W.le H1 H' ∧ us.length ≤ i ∧ ks.length = us.length, ⟨_, rfl, Nat.zero_le _, n1, [], [], [], h1, Wd.ok_putD trivial nrs (.inl hDl) o1, .nil, Wd.le_same (same_upd hDl), Nat.le_refl _, rfl⟩, ?_⟩
  rintro i m H2 ⟨rfl, hi, n2, us, ks, acc, h2, o2, a2, l2, hul, hkl⟩
  have rn := Wd.rs_new (W := W) (xs := .dK (ks.zip us)) hDl
  obtain ⟨w1, w2⟩ := hw (W.add (Dl, .dK (ks.zip us))) rn rfl H2 n2 (Wd.le_more l2) o2 i
  by_cases hlt : i < ds.length
  · rw [List.drop_eq_getElem_cons hlt] at h2
    obtain ⟨hgo, hy⟩ := w1 ds[i] (List.getElem?_eq_getElem hlt)
    refine .inr ⟨hgo, fun H' => ∃ m', m' < ds.length - i ∧ m' = ds.length - (i + 1) ∧ i + 1 ≤ ds.length ∧ ∃ n' us ks acc, aDcGo vs G c fk fv (wipeA ρ vs) Qa ks acc (ds.drop (i + 1)) n' ∧ (W.add (Dl, .dK (ks.zip us))).ok K n' H' ∧ AtAll K (W.add (Dl, .dK (ks.zip us))) H' us acc ∧ W.le H1 H' ∧ us.length ≤ i + 1 ∧ ks.length = us.length, fun H' q => q, fun x H3 hx => ?_⟩
    obtain ⟨s3, a3⟩ := hy x H3 hx
    have l3 : (W.add (Dl, .dK (ks.zip us))).le H2 H3 := Wd.le_same s3
    have o3 := o2.same s3
    have hE3 : EnvAt K (W.add (Dl, .dK (ks.zip us))) H3 (wipe σ vs) (wipeA ρ vs) := (((hE.le o l1).ext rn rfl).lk (o1.lk' rn) ((Wd.le_more l2).trans l3)).wipe vs
    unfold aDcGo aPutC at h2
    split at h2
    · rename_i xs ex
      split at h2
      · rename_i hc
        refine DG.run (g := g) (f := G) _ (wipe σ vs) H3 x _ xs _ a3 ex fun zs hz => ?_
        have hE4 := hE3.setAll hz
        have hv : ∀ z ∈ zs, z.1 ∈ vs := upd_slots hz fun u hu => List.contains_iff_mem.mp (List.all_eq_true.mp hc u hu)
        refine ⟨by rw [wipe_setAll hv, wipe_wipe], DT.run (te := tt) (f := c) _ _ _ n2 H3 _ _ (fun b n5 h5 H5 l5 o5 => ?_) hE4 o3 h2⟩
        have l25 := l3.trans l5
        cases b with
        | true =>
          rw [if_pos rfl]
          refine DE.run (te := tk) (f := fk) _ _ _ n5 H5 _ _ (fun y n6 h6 H6 v l6 o6 a6 => ?_) (hE4.le o3 l5) o5 (h5.1 rfl)
          refine DE.run (te := tv) (f := fv) _ _ _ n6 H6 _ _ (fun y' n7 h7 H7 v' l7 o7 a7 => ?_) (hE4.le o3 (l5.trans l6)) o6 h6
          obtain ⟨kk, hkk, hnew, h7⟩ := h7
          have hD7 : H7 Dl = some (.dK (ks.zip us)) := (o7.owns (Dl, .dK (ks.zip us)) List.mem_cons_self).1
          have l27 := l25.trans (l6.trans l7)
          refine ⟨ks.zip us, kk, key_at a6 hkk, hD7, Nat.lt_of_lt_of_le (show (ks.zip us).length < 1000000 by rw [List.length_zip]; omega) lim, ?_⟩
          rw [putK_new hnew hkl]
          refine ⟨_, by omega, rfl, hlt, n7, us ++ [v'], ks ++ [kk], acc ++ [y'], h7, Wd.ok_putD trivial nrs (.inr ⟨_, hD7⟩) o7.drop, ?_, Wd.le_add hDl l2 (l27.trans (Wd.le_own (ob := .dK ((ks ++ [kk]).zip (us ++ [v']))))), by rw [List.length_append, List.length_singleton]; omega, by rw [List.length_append, List.length_append, List.length_singleton, List.length_singleton, hkl]⟩
          have key : AtAll K (W.add (Dl, .dK (ks.zip us))) H7 (us ++ [v']) (acc ++ [y']) := (AtAll.le o2 l27 _ a2).append (.cons a7 .nil)
          exact AtAll.weak (W := W.add (Dl, .dK (ks.zip us))) (W' := W.add (Dl, .dK ((ks ++ [kk]).zip (us ++ [v'])))) (fun a z => z) rfl _ (AtAll.le o7 (Wd.le_own (ob := .dK ((ks ++ [kk]).zip (us ++ [v'])))) _ key)
        | false =>
          rw [if_neg Bool.false_ne_true]
          exact ⟨_, by omega, rfl, hlt, n5, us, ks, acc, h5.2 rfl, o5, AtAll.le o2 l25 _ a2, Wd.le_add hDl l2 l25, by omega, hkl⟩
      · exact h2.elim
    · exact h2.elim
  · have ei : i = ds.length := by omega
    subst ei
    rw [List.drop_length] at h2
    have hD2 : H2 Dl = some (.dK (ks.zip us)) := (o2.owns (Dl, .dK (ks.zip us)) List.mem_cons_self).1
    exact .inl ⟨w2 (Nat.le_refl _), hQ _ _ h2 H2 _ (l1.trans l2) o2.drop (.dic nrs hD2 hkl (AtAll.weak (fun a z => Wd.rs_add z) rfl _ a2))⟩⟩
theorem aDc_ind {vs : List Nat} {G : D → Option (List (Nat × D))} {c : AT} {fk fv : AE} {ρ : Env'} {Q : D → Nat → Prop} (I : List Key → List D → List D → Nat → Prop)
    (hs : ∀ ks acc d r n, I ks acc (d :: r) n → (∀ ks' acc' n', I ks' acc' r n' → aDcGo vs G c fk fv ρ Q ks' acc' r n') → aPutC vs G d ρ fun ρ1 => c ρ1 n fun b n2 => aIte b (fk ρ1 n2 fun k n3 => fv ρ1 n3 fun y n4 => ∃ kk, keyD k = some kk ∧ kk ∉ ks ∧ aDcGo vs G c fk fv ρ Q (ks ++ [kk]) (acc ++ [y]) r n4) (aDcGo vs G c fk fv ρ Q ks acc r n2))
    (hd : ∀ ks acc n, I ks acc [] n → Q (.dic ks acc) n) : ∀ {ks : List Key} {acc ds : List D} {n : Nat}, I ks acc ds n → aDcGo vs G c fk fv ρ Q ks acc ds n
  | ks, acc, [], n, h => hd ks acc n h
  | ks, acc, d :: r, n, h => hs ks acc d r n h fun ks' acc' n' h' => aDc_ind I hs hd h'
/-! a place in a dict -/
def aDGet (fa fb : AE) : AE := fun ρ n Q => fa ρ n fun d n1 => fb ρ n1 fun e n2 => ∃ (ks : List Key) (ds : List D) (k : Key) (i : Nat) (y : D), d = .dic ks ds ∧ keyD e = some k ∧ ks.Nodup ∧ ks[i]? = some k ∧ ds[i]? = some y ∧ Q y n2
instance {ta tb : TE} {fa fb : AE} [DE K ta fa] [DE K tb fb] : DE K (tDGet ta tb) (aDGet fa fb) := ⟨fun W σ ρ n H Q Qa hQ hE o h =>
  DE.run (te := ta) (f := fa) W σ ρ n H _ _ (fun d n1 h1 H1 x l1 o1 ax => DE.run (te := tb) (f := fb) W σ ρ n1 H1 _ _ (fun e n2 h2 H2 y l2 o2 ay => by
    obtain ⟨ks, ds, k, i, z, rfl, hk, nd, e1, e2, q⟩ := h2
    have ax2 := At.le o1 l2 _ ax
    cases ax2 with
    | dic r s hl a =>
      obtain ⟨v, hv, av⟩ := valV_zip a nd e1 e2
      rw [key_at ay hk]
      exact ⟨_, v, rfl, hv ▸ DGet.k s, ((hQ.le l1).le l2).now o2 q av⟩) (hE.le o l1) o1 h1) hE o h⟩
theorem k_dget {X : Cx} {o i : Expr} {td ty : TE} {pos : Pos} (hu : X.A.units + 64 < cLine) (ho : PE X o td) (hi : PE X i ty) (hs : NoSl i) : PE X (.Subscript o i pos) (tDGet td ty) := pe_dget (by omega) ho hi hs
/-! comprehensions of two fors -/
def aLcIn (vs1 : List Nat) (G1 : D → Option (List (Nat × D))) (c1 : AT) (e : AE) (ρ : Env') (Kn : List D → Nat → Prop) : List D → List D → Nat → Prop
  | acc, [], n => Kn acc n
  | acc, d :: r, n => aPutC vs1 G1 d ρ fun ρ1 => c1 ρ1 n fun b n2 => aIte b (e ρ1 n2 fun y n3 => aLcIn vs1 G1 c1 e ρ Kn (acc ++ [y]) r n3) (aLcIn vs1 G1 c1 e ρ Kn acc r n2)
def aLc2Go (vs : List Nat) (G : D → Option (List (Nat × D))) (c : AT) (I1 : AI) (vs1 : List Nat) (G1 : D → Option (List (Nat × D))) (c1 : AT) (e : AE) (ρ : Env') (Q : D → Nat → Prop) : List D → List D → Nat → Prop
  | acc, [], n => Q (.lst acc) n
  | acc, d :: r, n => aPutC vs G d ρ fun ρ1 => c ρ1 n fun b n2 => aIte b (I1 ρ1 n2 fun es n3 => acc.length + es.length ≤ 1000000 ∧ aLcIn vs1 G1 c1 e (wipeA ρ1 vs1) (fun acc' n4 => aLc2Go vs G c I1 vs1 G1 c1 e ρ Q acc' r n4) acc es n3) (aLc2Go vs G c I1 vs1 G1 c1 e ρ Q acc r n2)
def aLc2 (I : AI) (G : D → Option (List (Nat × D))) (c : AT) (I1 : AI) (G1 : D → Option (List (Nat × D))) (c1 : AT) (e : AE) (vs vs1 : List Nat) : AE := fun ρ n Q => I ρ n fun ds n1 => ds.length ≤ 1000000 ∧ aLc2Go vs G c I1 vs1 G1 c1 e (wipeA ρ vs) Q [] ds n1
/-- the inner loop -/
theorem lc_in {wi1 : TI} {g1 : TG} {tt1 : TT} {te : TE} {vs1 : List Nat} {I1 : AI} {G1 : D → Option (List (Nat × D))} {c1 : AT} {e : AE} [DI K wi1 I1] [DG K g1 G1] [DT K tt1 c1] [DE K te e]
    {W : Wd} {Dl : Addr} {us : List V} {acc : List D} {σ2 : L2.St} {ρ1 : Env'} {n : Nat} {H3 : Hp} {Nx : Hp → Prop} {Kn : List D → Nat → Prop} (nrs : ¬ W.rs Dl) (o3 : (W.add (Dl, .lst us)).ok K n H3) (hE : EnvAt K (W.add (Dl, .lst us)) H3 σ2 ρ1) (a3 : AtAll K (W.add (Dl, .lst us)) H3 us acc)
    (hN : ∀ us' acc' n' H', Kn acc' n' → (W.add (Dl, .lst us')).ok K n' H' → AtAll K (W.add (Dl, .lst us')) H' us' acc' → (W.add (Dl, .lst us)).le H3 H' → Nx H')
    (h : I1 ρ1 n fun es n3 => acc.length + es.length ≤ 1000000 ∧ aLcIn vs1 G1 c1 e (wipeA ρ1 vs1) Kn acc es n3) :
    wi1 σ2 H3 fun J1 H4 => ∃ W1 : Nat → Nat → Hp → Prop, (∃ m, W1 0 m H4) ∧ ∀ j k H, W1 j k H →
      (J1.stop j H ∧ Nx H) ∨ (J1.go j H ∧ ∃ Nx1 : Hp → Prop, (∀ H', Nx1 H' → ∃ k', k' < k ∧ W1 (j + 1) k' H') ∧ ∀ x H', J1.yld j H x H' → g1 x (wipe σ2 vs1) H' fun σ3 H5 => wipe σ3 vs1 = wipe σ2 vs1 ∧ tt1 σ3 H5 fun b H6 =>
        if b = true then te σ3 H6 fun y H7 => ∃ acc, H7 Dl = some (.lst acc) ∧ acc.length < sizeLine ∧ Nx1 (upd H7 Dl (.lst (acc ++ [y]))) else Nx1 H6) := by
  refine DI.run (wi := wi1) (f := I1) _ σ2 ρ1 n H3 _ _ (fun es n4 h4 J H4 l4 o4 hw => ?_) hE o3 h
  obtain ⟨hlen, h4⟩ := h4
  refine ⟨fun j k H' => k = es.length - j ∧ j ≤ es.length ∧ ∃ n' us' acc', aLcIn vs1 G1 c1 e (wipeA ρ1 vs1) Kn acc' (es.drop j) n' ∧ (W.add (Dl, .lst us')).ok K n' H' ∧ AtAll K (W.add (Dl, .lst us')) H' us' acc' ∧ (W.add (Dl, .lst us)).le H4 H' ∧ acc'.length + (es.length - j) ≤ 1000000, ⟨_, rfl, Nat.zero_le _, n4, us, acc, h4, o4, AtAll.le o3 l4 _ a3, Wd.le_refl, by omega⟩, ?_⟩
  rintro j k H5 ⟨rfl, hj, n5, us5, acc5, h5, o5, a5, l5, hul⟩
  have l5' : (W.add (Dl, .lst us5)).le H4 H5 := l5
  obtain ⟨w1, w2⟩ := hw (W.add (Dl, .lst us5)) (fun a z r => absurd z r) rfl H5 n5 l5' o5 j
  by_cases hlt : j < es.length
  · rw [List.drop_eq_getElem_cons hlt] at h5
    obtain ⟨hgo, hy⟩ := w1 es[j] (List.getElem?_eq_getElem hlt)
    refine .inr ⟨hgo, fun H' => ∃ k', k' < es.length - j ∧ k' = es.length - (j + 1) ∧ j + 1 ≤ es.length ∧ ∃ n' us' acc', aLcIn vs1 G1 c1 e (wipeA ρ1 vs1) Kn acc' (es.drop (j + 1)) n' ∧ (W.add (Dl, .lst us')).ok K n' H' ∧ AtAll K (W.add (Dl, .lst us')) H' us' acc' ∧ (W.add (Dl, .lst us)).le H4 H' ∧ acc'.length + (es.length - (j + 1)) ≤ 1000000, fun H' q => q, fun x H6 hx => ?_⟩
    obtain ⟨s6, a6⟩ := hy x H6 hx
    have l6 : (W.add (Dl, .lst us5)).le H5 H6 := Wd.le_same s6
    have o6 := o5.same s6
    have hE4 : EnvAt K (W.add (Dl, .lst us5)) H6 σ2 ρ1 := ⟨hE.1, fun i d e => let ⟨v, e', a⟩ := (hE.le o3 ((l4.trans l5).trans l6)).2 i d e; ⟨v, e', At.weak (W := W.add (Dl, .lst us)) (W' := W.add (Dl, .lst us5)) (fun a z => z) rfl _ a⟩⟩
    have hE6 := hE4.wipe vs1
    unfold aLcIn aPutC at h5
    split at h5
    · rename_i xs ex
      split at h5
      · rename_i hc
        refine DG.run (g := g1) (f := G1) _ (wipe σ2 vs1) H6 x _ xs _ a6 ex fun zs hz => ?_
        have hE7 := hE6.setAll hz
        have hv : ∀ z ∈ zs, z.1 ∈ vs1 := upd_slots hz fun u hu => List.contains_iff_mem.mp (List.all_eq_true.mp hc u hu)
        refine ⟨by rw [wipe_setAll hv, wipe_wipe], DT.run (te := tt1) (f := c1) _ _ _ n5 H6 _ _ (fun b n7 h7 H7 l7 o7 => ?_) hE7 o6 h5⟩
        have l57 := l6.trans l7
        cases b with
        | true =>
          rw [if_pos rfl]
          refine DE.run (te := te) (f := e) _ _ _ n7 H7 _ _ (fun y n8 h8 H8 v l8 o8 a8 => ?_) (hE7.le o6 l7) o7 (h7.1 rfl)
          have hD8 : H8 Dl = some (.lst us5) := (o8.owns (Dl, .lst us5) List.mem_cons_self).1
          have l58 := l57.trans l8
          have hul5 := a5.length
          refine ⟨us5, hD8, Nat.lt_of_lt_of_le (show us5.length < 1000000 by omega) lim, _, by omega, rfl, hlt, n8, us5 ++ [v], acc5 ++ [y], h8, Wd.ok_put trivial nrs (.inr ⟨_, hD8⟩) o8.drop, ?_, (l5.trans l58).trans (Wd.le_own (ob := .lst (us5 ++ [v]))), by rw [List.length_append, List.length_singleton]; omega⟩
          have key : AtAll K (W.add (Dl, .lst us5)) H8 (us5 ++ [v]) (acc5 ++ [y]) := (AtAll.le o5 l58 _ a5).append (.cons a8 .nil)
          exact AtAll.weak (W := W.add (Dl, .lst us5)) (W' := W.add (Dl, .lst (us5 ++ [v]))) (fun a z => z) rfl _ (AtAll.le o8 (Wd.le_own (ob := .lst (us5 ++ [v]))) _ key)
        | false =>
          rw [if_neg Bool.false_ne_true]
          exact ⟨_, by omega, rfl, hlt, n7, us5, acc5, h7.2 rfl, o7, AtAll.le o5 l57 _ a5, l5.trans l57, by omega⟩
      · exact h5.elim
    · exact h5.elim
  · have ej : j = es.length := by omega
    subst ej
    rw [List.drop_length] at h5
    exact .inl ⟨w2 (Nat.le_refl _), hN us5 acc5 n5 H5 h5 o5 a5 (l4.trans l5)⟩
instance {wi wi1 : TI} {g g1 : TG} {tt tt1 : TT} {te : TE} {vs vs1 : List Nat} {I I1 : AI} {G G1 : D → Option (List (Nat × D))} {c c1 : AT} {e : AE} [DI K wi I] [DG K g G] [DT K tt c] [DI K wi1 I1] [DG K g1 G1] [DT K tt1 c1] [DE K te e] : DE K (tLc2 wi g tt wi1 g1 tt1 te vs vs1) (aLc2 I G c I1 G1 c1 e vs vs1) := ⟨fun W σ ρ n H Q Qa hQ hE o h => by
  refine DI.run (wi := wi) (f := I) W σ ρ n H _ _ (fun ds n1 h1 J H1 l1 o1 hw Dl hDl => ?_) hE o h
  obtain ⟨hlen, h1⟩ := h1
  have nrs : ¬ W.rs Dl := o1.fresh hDl
  refine ⟨fun i m H' => m = ds.length - i ∧ i ≤ ds.length ∧ ∃ n' us acc, aLc2Go vs G c I1 vs1 G1 c1 e (wipeA ρ vs) Qa acc (ds.drop i) n' ∧ (W.add (Dl, .lst us)).ok K n' H' ∧ AtAll K (W.add (Dl, .lst us)) H' us acc ∧ W.le H1 H', ⟨_, rfl, Nat.zero_le _, n1, [], [], h1, Wd.ok_put trivial nrs (.inl hDl) o1, .nil, Wd.le_same (same_upd hDl)⟩, ?_⟩
  rintro i m H2 ⟨rfl, hi, n2, us, acc, h2, o2, a2, l2⟩
  have rn := Wd.rs_new (W := W) (xs := .lst us) hDl
  obtain ⟨w1, w2⟩ := hw (W.add (Dl, .lst us)) rn rfl H2 n2 (Wd.le_more l2) o2 i
  by_cases hlt : i < ds.length
  · rw [List.drop_eq_getElem_cons hlt] at h2
    obtain ⟨hgo, hy⟩ := w1 ds[i] (List.getElem?_eq_getElem hlt)
    refine .inr ⟨hgo, fun H' => ∃ m', m' < ds.length - i ∧ m' = ds.length - (i + 1) ∧ i + 1 ≤ ds.length ∧ ∃ n' us acc, aLc2Go vs G c I1 vs1 G1 c1 e (wipeA ρ vs) Qa acc (ds.drop (i + 1)) n' ∧ (W.add (Dl, .lst us)).ok K n' H' ∧ AtAll K (W.add (Dl, .lst us)) H' us acc ∧ W.le H1 H', fun H' q => q, fun x H3 hx => ?_⟩
    obtain ⟨s3, a3⟩ := hy x H3 hx
    have l3 : (W.add (Dl, .lst us)).le H2 H3 := Wd.le_same s3
    have o3 := o2.same s3
    have hE3 : EnvAt K (W.add (Dl, .lst us)) H3 (wipe σ vs) (wipeA ρ vs) := (((hE.le o l1).ext rn rfl).lk (o1.lk' rn) ((Wd.le_more l2).trans l3)).wipe vs
    unfold aLc2Go aPutC at h2
    split at h2
    · rename_i xs ex
      split at h2
      · rename_i hc
        refine DG.run (g := g) (f := G) _ (wipe σ vs) H3 x _ xs _ a3 ex fun zs hz => ?_
        have hE4 := hE3.setAll hz
        have hv : ∀ z ∈ zs, z.1 ∈ vs := upd_slots hz fun u hu => List.contains_iff_mem.mp (List.all_eq_true.mp hc u hu)
        refine ⟨by rw [wipe_setAll hv, wipe_wipe], DT.run (te := tt) (f := c) _ _ _ n2 H3 _ _ (fun b n5 h5 H5 l5 o5 => ?_) hE4 o3 h2⟩
        have l25 := l3.trans l5
        cases b with
        | true =>
          rw [if_pos rfl]
          refine lc_in (wi1 := wi1) (g1 := g1) (tt1 := tt1) (te := te) (I1 := I1) (G1 := G1) (c1 := c1) (e := e) nrs o5 (hE4.le o3 l5) (AtAll.le o2 l25 _ a2) (fun us' acc' n' H' hk o' a' l' => ?_) (h5.1 rfl)
          exact ⟨_, by omega, rfl, hlt, n', us', acc', hk, o', a', Wd.le_add hDl l2 (l25.trans l')⟩
        | false =>
          rw [if_neg Bool.false_ne_true]
          exact ⟨_, by omega, rfl, hlt, n5, us, acc, h5.2 rfl, o5, AtAll.le o2 l25 _ a2, Wd.le_add hDl l2 l25⟩
      · exact h2.elim
    · exact h2.elim
  · have ei : i = ds.length := by omega
    subst ei
    rw [List.drop_length] at h2
    have hD2 : H2 Dl = some (.lst us) := (o2.owns (Dl, .lst us) List.mem_cons_self).1
    exact .inl ⟨w2 (Nat.le_refl _), hQ _ _ h2 H2 _ (l1.trans l2) o2.drop (.lst nrs hD2 (AtAll.weak (fun a z => Wd.rs_add z) rfl _ a2))⟩⟩
end
/-! a list some times over; truths that are the same -/
section
variable {K : PySem.W.Frag}
def aRep : D → D → Nat → (D → Nat → Prop) → Prop
  | .lst ds, .int k, n, Q => (0 ≤ k ∧ k ≤ 1000 ∧ ds.length ≤ 1000) ∧ Q (.lst (List.replicate k.toNat ds).flatten) n
  | _, _, _, _ => False
theorem rep_at {W : Wd} {H : Hp} {vs : List V} {ds : List D} (h : AtAll K W H vs ds) : ∀ k : Nat, AtAll K W H (List.replicate k vs).flatten (List.replicate k ds).flatten
  | 0 => .nil
  | k + 1 => by
    rw [List.replicate_succ, List.replicate_succ, List.flatten_cons, List.flatten_cons]
    exact h.append (rep_at h k)
instance : D2 K rRep aRep := ⟨fun W n H x y d e Q Qa hQ o ax ay h => by
  unfold aRep at h
  split at h
  · rename_i ds k
    obtain ⟨⟨h1, h2, h3⟩, h⟩ := h
    cases ay
    cases ax with
    | lst r s a =>
      refine ⟨_, k, _, rfl, rfl, s, by omega, by omega, ?_, fun p hp => hQ.new o h hp ?_⟩
      · rw [a.length]
        have : ds.length * k.toNat ≤ 1000 * 1000 := Nat.mul_le_mul h3 (by omega)
        exact Nat.le_trans this lim
      · exact .lst (o.fresh hp) upd_same (rep_at (AtAll.le o (Wd.le_same (same_upd hp)) _ a) _)
  · exact h.elim⟩
def aIsB (f : Bool → Bool) : D → D → Nat → (D → Nat → Prop) → Prop
  | .bl a, .bl b, n, Q => Q (.bl (f (decide (a = b)))) n
  | _, _, _, _ => False
def rIsBK : R2 := fun x y H Q => ∃ a b : Bool, x = .bl a ∧ y = .bl b ∧ Q (.bl (decide (a = b))) H
def rNotBK : R2 := fun x y H Q => ∃ a b : Bool, x = .bl a ∧ y = .bl b ∧ Q (.bl (!decide (a = b))) H
theorem k_isB {X : Cx} : OpR X (compareOp .Is) rIsBK := op_isBl
theorem k_notB {X : Cx} : OpR X (compareOp .IsNot) rNotBK := op_notBl
instance : D2 K rIsBK (aIsB id) := ⟨fun W n H x y d e Q Qa hQ o ax ay h => by
  unfold aIsB at h
  split at h
  · cases ax
    cases ay
    exact ⟨_, _, rfl, rfl, hQ.now o h (.bl _)⟩
  · exact h.elim⟩
instance : D2 K rNotBK (aIsB not) := ⟨fun W n H x y d e Q Qa hQ o ax ay h => by
  unfold aIsB at h
  split at h
  · cases ax
    cases ay
    exact ⟨_, _, rfl, rfl, hQ.now o h (.bl _)⟩
  · exact h.elim⟩
end

section
variable {P : Program} {w : World} {K : PySem.W.Frag} {mg : Str → Option Value} {base : Heap} {A : Ad}
/-! CUT -/
end
/-! ### name = {k: v for ..} on one line, the name a local -/
section
theorem sw_dc {kx vx : Expr} {gs : List Comprehension} {scope : Scope} {pos py : Pos} {y : Str} {l : Nat} {env : Env} (hk : env.scope.kind = .function) (hy : env.scope.names.lookup y = some .local) (hl : (py.line == pos.line) = true)
    (ha : (scope.names.any fun (n, k) => n == y && (k == .local || k == .cell)) = false) : swapsWith (.DictComp kx vx gs scope pos) (some (.Name y py)) l env = pure true := by
  have ky : env.kindOf y = some .local := hy
  have hb : env.blockKind = .function := by unfold Env.blockKind; rw [hk]; rfl
  unfold swapsWith
  simp only [hb, ky, ha, Expr.pos, hl]
  rfl
theorem ps_setDc {X : Cx} {i : Nat} {y : Str} {py : Pos} {kx vx tg iter : Expr} {ifs : List Expr} {scope : Scope} {own : List (Str × Nat)} {pos spos : Pos} {wi : TI} {g : TG} {tt : TT} {tk tv : TE} (hc : X.calm = true) (hN : X.N.Nodup) (hy : X.N[i]? = some y) (hyl : X.env.scope.names.lookup y = some .local)
    (hsw : swapsWith (.DictComp kx vx [⟨tg, iter, ifs, 0⟩] scope pos) (some (.Name y py)) spos.line X.env = pure true) (hi : PI X tg iter wi) (ok : BlkOk X.N X.env.scope scope own)
    (hg : ∀ (s : Shared) (H : Hp) (C : Addr) (cl : List (Str × Addr)) (fp : List Addr), PG (X.blk s H scope (compEnvC scope cl C X.env) fp) tg g) (ht : ∀ (s : Shared) (H : Hp) (C : Addr) (cl : List (Str × Addr)) (fp : List Addr), PTs (X.blk s H scope (compEnvC scope cl C X.env) fp) ifs tt)
    (hk : ∀ (s : Shared) (H : Hp) (C : Addr) (cl : List (Str × Addr)) (fp : List Addr), PE (X.blk s H scope (compEnvC scope cl C X.env) fp) kx tk)
    (he : ∀ (s : Shared) (H : Hp) (C : Addr) (cl : List (Str × Addr)) (fp : List Addr), PE (X.blk s H scope (compEnvC scope cl C X.env) fp) vx tv) (hs : ∀ x, foldedSetIterable iter X.env x = pure x := by intro _; rfl) :
    PS X (.Assign [.Name y py] (.DictComp kx vx [⟨tg, iter, ifs, 0⟩] scope pos) spos) (tAsg (tDc wi g tt tk tv (own.map (·.2))) (gName i)) := by
  refine ⟨fun pins s σ H D I h => ?_⟩
  rw [exec_Assign_Name_used _ _ _ _ hsw]
  refine wpAny_bind (wpAny_standAt (wpAny_bind ?_))
  show wpAny _ X.A (do let _ ← comprehension (.DictComp kx vx [⟨tg, iter, ifs, 0⟩] scope pos) scope X.env (firstIterPos [⟨tg, iter, ifs, 0⟩] pos) newDict false (eval iter X.env) (some (assign (.Name y py) X.env))) _ _ s
  have h : tDc wi g tt tk tv (own.map (·.2)) σ H (fun x H1 => gName i x σ H1 D.nx) := h
  refine wpAny_bind (thn (dc_core (Qf := fun _ s' => SP X pins D .next s') hc hN I hi ok hg ht hk he hs h fun L C s' m H' I' q hn f => ?_) fun _ s' hq => wpAny_pure (wpAny_pure hq))
  show wpAny _ _ (assign (.Name y py) X.env (.ref L)) _ _ _
  refine wpAny_assign_Name (store_ok2 (v := V.ref L) I' hN hy (.inl hyl) rfl (fun s2 I2 ⟨a, sb, ha⟩ => ?_) (.inr hyl))
  obtain ⟨f0, f1, f2, f3, f4, f5⟩ := f
  have haC : C ≠ a := by
    rcases ha with z | z
    · rw [z]; exact f1
    · exact fun e => f4 y a z e.symm
  refine ⟨m, hn.sameBut sb haC, fun h3 sb3 => ?_⟩
  exact ⟨_, H', I2.turned (t' := s2.toks) (fun b o hb e => (sb3.2 b hb).trans e) f0 f1 f3 f4 f5, q⟩
end

/-! ### a dict of new lists, built on by parts[key].append(..) in a loop -/
section
variable {K : PySem.W.Frag} {Wx : WX}
def aNilL : AE := fun _ n Q => Q (.lst []) n
def refs (as : List Addr) : List V := as.map V.ref
theorem refs_snoc (as : List Addr) (p : Addr) : refs (as ++ [p]) = refs as ++ [.ref p] := by
  unfold refs
  rw [List.map_append]
  rfl
theorem refs_len (as : List Addr) : (refs as).length = as.length := List.length_map _
theorem nd_inj {l : List Addr} (nd : l.Nodup) {j m : Nat} {a : Addr} (h1 : l[j]? = some a) (h2 : l[m]? = some a) : j = m := by
  obtain ⟨q1, q2⟩ := List.getElem?_eq_some_iff.mp h1
  obtain ⟨q3, q4⟩ := List.getElem?_eq_some_iff.mp h2
  rcases Nat.lt_trichotomy j m with g | g | g
  · exact absurd (q2.trans q4.symm) (List.pairwise_iff_getElem.mp nd j m q1 q3 g)
  · exact g
  · exact absurd (q4.trans q2.symm) (List.pairwise_iff_getElem.mp nd m j q3 q1 g)
/-- the dict, its lists all new and apart -/
theorem dcl_run {wi : TI} {g : TG} {tt : TT} {tk : TE} {vs : List Nat} {I : AI} {G : D → Option (List (Nat × D))} {c : AT} {fk : AE} [DI K wi I] [DG K g G] [DT K tt c] [DE K tk fk] (W : Wd) (σ : L2.St) (ρ : Env') (n : Nat) (H : Hp) (Q : VK) (Qa : D → Nat → Prop)
    (hQ : ∀ (ks : List Key) (as : List Addr) (n' : Nat) (H' : Hp) (Dl : Addr), Qa (.dic ks (as.map fun _ => .lst [])) n' → W.le H H' → W.ok K n' H' → ks.length = as.length → as.Nodup → H Dl = none → H' Dl = some (.dK (ks.zip (refs as))) → (∀ a ∈ as, H a = none ∧ H' a = some (.lst [])) → Q (.ref Dl) H')
    (hE : EnvAt K W H σ ρ) (o : W.ok K n H) (h : aDc I G c fk aNilL vs ρ n Qa) : tDc wi g tt tk (tLst tNil) vs σ H Q := by
  refine DI.run (wi := wi) (f := I) W σ ρ n H _ _ (fun ds n1 h1 J H1 l1 o1 hw Dl hDl => ?_) hE o h
  obtain ⟨hlen, h1⟩ := h1
  have nrs : ¬ W.rs Dl := o1.fresh hDl
  refine ⟨fun i m H' => m = ds.length - i ∧ i ≤ ds.length ∧ ∃ n' as ks, aDcGo vs G c fk aNilL (wipeA ρ vs) Qa ks (as.map fun _ => .lst []) (ds.drop i) n' ∧ (W.add (Dl, .dK (ks.zip (refs as)))).ok K n' H' ∧ (∀ a ∈ as, H1 a = none ∧ a ≠ Dl ∧ H' a = some (.lst [])) ∧ as.Nodup ∧ W.le H1 H' ∧ as.length ≤ i ∧ ks.length = as.length, ⟨_, rfl, Nat.zero_le _, n1, [], [], h1, Wd.ok_putD trivial nrs (.inl hDl) o1, (fun a ha => by cases ha), List.nodup_nil, Wd.le_same (same_upd hDl), Nat.le_refl _, rfl⟩, ?_⟩
  rintro i m H2 ⟨rfl, hi, n2, as, ks, h2, o2, a2, nd2, l2, hul, hkl⟩
  have rn := Wd.rs_new (W := W) (xs := .dK (ks.zip (refs as))) hDl
  obtain ⟨w1, w2⟩ := hw (W.add (Dl, .dK (ks.zip (refs as)))) rn rfl H2 n2 (Wd.le_more l2) o2 i
  by_cases hlt : i < ds.length
  · rw [List.drop_eq_getElem_cons hlt] at h2
    obtain ⟨hgo, hy⟩ := w1 ds[i] (List.getElem?_eq_getElem hlt)
    refine .inr ⟨hgo, fun H' => ∃ m', m' < ds.length - i ∧ m' = ds.length - (i + 1) ∧ i + 1 ≤ ds.length ∧ ∃ n' as ks, aDcGo vs G c fk aNilL (wipeA ρ vs) Qa ks (as.map fun _ => .lst []) (ds.drop (i + 1)) n' ∧ (W.add (Dl, .dK (ks.zip (refs as)))).ok K n' H' ∧ (∀ a ∈ as, H1 a = none ∧ a ≠ Dl ∧ H' a = some (.lst [])) ∧ as.Nodup ∧ W.le H1 H' ∧ as.length ≤ i + 1 ∧ ks.length = as.length, fun H' q => q, fun x H3 hx => ?_⟩
    obtain ⟨s3, a3⟩ := hy x H3 hx
    have l3 : (W.add (Dl, .dK (ks.zip (refs as)))).le H2 H3 := Wd.le_same s3
    have o3 := o2.same s3
    have hE3 : EnvAt K (W.add (Dl, .dK (ks.zip (refs as)))) H3 (wipe σ vs) (wipeA ρ vs) := (((hE.le o l1).ext rn rfl).lk (o1.lk' rn) ((Wd.le_more l2).trans l3)).wipe vs
    have nra : ∀ a ∈ as, ¬ (W.add (Dl, .dK (ks.zip (refs as)))).rs a := fun a ha z => by
      obtain ⟨g1, g2, g3⟩ := a2 a ha
      rcases z with z | z
      · exact o1.fresh g1 (.inl z)
      · have z' : a ∈ Dl :: W.own.map (·.1) := z
        rcases List.mem_cons.mp z' with z | z
        · exact g2 z
        · exact o1.fresh g1 (.inr z)
    unfold aDcGo aPutC at h2
    split at h2
    · rename_i xs ex
      split at h2
      · rename_i hc
        refine DG.run (g := g) (f := G) _ (wipe σ vs) H3 x _ xs _ a3 ex fun zs hz => ?_
        have hE4 := hE3.setAll hz
        have hv : ∀ z ∈ zs, z.1 ∈ vs := upd_slots hz fun u hu => List.contains_iff_mem.mp (List.all_eq_true.mp hc u hu)
        refine ⟨by rw [wipe_setAll hv, wipe_wipe], DT.run (te := tt) (f := c) _ _ _ n2 H3 _ _ (fun b n5 h5 H5 l5 o5 => ?_) hE4 o3 h2⟩
        have l25 := l3.trans l5
        cases b with
        | true =>
          rw [if_pos rfl]
          refine DE.run (te := tk) (f := fk) _ _ _ n5 H5 _ _ (fun y n6 h6 H6 v l6 o6 a6 => ?_) (hE4.le o3 l5) o5 (h5.1 rfl)
          obtain ⟨kk, hkk, hnew, h7⟩ := h6
          have l26 := l25.trans l6
          have hD6 : H6 Dl = some (.dK (ks.zip (refs as))) := (o6.owns (Dl, .dK (ks.zip (refs as))) List.mem_cons_self).1
          refine ⟨Nat.zero_le _, fun p hp => ?_⟩
          have npD : p ≠ Dl := fun z => by rw [z, hD6] at hp; cases hp
          have np1 : H1 p = none := by
            cases e0 : H1 p with
            | none => rfl
            | some ob =>
              have nr6 : ¬ W.rs p := fun z => o6.fresh hp (Wd.rs_add z)
              have e2 := l2 p ob nr6 e0
              have e6 := l26 p ob (o6.fresh hp) e2
              rw [e6] at hp
              cases hp
          have s7 : Same H6 (upd H6 p (.lst [])) := same_upd hp
          have hD7 : upd H6 p (.lst []) Dl = some (.dK (ks.zip (refs as))) := by rw [upd_ne (Ne.symm npD)]; exact hD6
          have o7 := o6.same s7
          have hzl : (ks.zip (refs as)).length ≤ i := by rw [List.length_zip, refs_len]; omega
          refine ⟨ks.zip (refs as), kk, key_at a6 hkk, hD7, Nat.lt_of_lt_of_le (show (ks.zip (refs as)).length < 1000000 by omega) lim, ?_⟩
          rw [putK_new hnew (by rw [refs_len]; exact hkl)]
          have ez : (ks ++ [kk]).zip (refs as ++ [V.ref p]) = (ks ++ [kk]).zip (refs (as ++ [p])) := by rw [refs_snoc]
          rw [ez]
          refine ⟨_, by omega, rfl, hlt, n6, as ++ [p], ks ++ [kk], by rw [List.map_append]; exact h7, Wd.ok_putD trivial nrs (.inr ⟨_, hD7⟩) o7.drop, fun a ha => ?_, ?_, Wd.le_add hDl l2 ((l26.trans (Wd.le_same s7)).trans (Wd.le_own (ob := .dK ((ks ++ [kk]).zip (refs (as ++ [p])))))), by rw [List.length_append, List.length_singleton]; omega, by rw [List.length_append, List.length_append, List.length_singleton, List.length_singleton, hkl]⟩
          · rcases List.mem_append.mp ha with ha | ha
            · obtain ⟨g1, g2, g3⟩ := a2 a ha
              refine ⟨g1, g2, ?_⟩
              rw [upd_ne g2]
              exact s7 a _ (l26 a _ (nra a ha) g3)
            · rw [List.mem_singleton.mp ha]
              refine ⟨np1, npD, ?_⟩
              rw [upd_ne npD]
              exact upd_same
          · refine List.nodup_append.mpr ⟨nd2, by simp, fun a ha b hb z => ?_⟩
            rw [List.mem_singleton.mp hb] at z
            subst z
            have := l26 a _ (nra a ha) (a2 a ha).2.2
            rw [hp] at this
            cases this
        | false =>
          rw [if_neg Bool.false_ne_true]
          exact ⟨_, by omega, rfl, hlt, n5, as, ks, h5.2 rfl, o5, fun a ha => ⟨(a2 a ha).1, (a2 a ha).2.1, l25 a _ (nra a ha) (a2 a ha).2.2⟩, nd2, Wd.le_add hDl l2 l25, by omega, hkl⟩
      · exact h2.elim
    · exact h2.elim
  · have ei : i = ds.length := by omega
    subst ei
    rw [List.drop_length] at h2
    have hD2 : H2 Dl = some (.dK (ks.zip (refs as))) := (o2.owns (Dl, .dK (ks.zip (refs as))) List.mem_cons_self).1
    have back : ∀ {a : Addr}, H1 a = none → H a = none := fun {a} e1 => by
      cases e0 : H a with
      | none => rfl
      | some ob =>
        have := l1 a ob (o1.fresh e1) e0
        rw [e1] at this
        cases this
    exact .inl ⟨w2 (Nat.le_refl _), hQ ks as n2 H2 Dl h2 (l1.trans l2) o2.drop hkl nd2 (back hDl) hD2 fun a ha => ⟨back (a2 a ha).1, (a2 a ha).2.2⟩⟩
/-- the dict's lists are built: U holds them, and what was built before -/
structure DOk (K : PySem.W.Frag) (W : Wd) (U0 : List (Addr × HO)) (n : Nat) (H : Hp) (σ : L2.St) (ρ : Env') (U : List (Addr × HO)) (i : Nat) (Dl : Addr) (ks : List Key) (as : List Addr) (dss : List (List D)) : Prop where
  s : SOk K W [] n H σ ρ U
  sl : σ[i]? = some (some (.ref Dl))
  dk : H Dl = some (.dK (ks.zip (refs as)))
  nr : ¬ (W.plus U).rs Dl
  kl : ks.length = as.length
  dl : dss.length = as.length
  nd : as.Nodup
  ls : ∀ (j : Nat) (a : Addr), as[j]? = some a → ∃ us ds, dss[j]? = some ds ∧ (a, HO.lst us) ∈ U ∧ AtAll K (W.plus U) H us ds
  sub : ∀ u ∈ U0, u ∈ U
  apt : ∀ a ∈ as, a ∉ U0.map (·.1)
theorem DOk.le {W : Wd} {U0 U : List (Addr × HO)} {n n1 : Nat} {H H1 : Hp} {σ : L2.St} {ρ : Env'} {i : Nat} {Dl : Addr} {ks : List Key} {as : List Addr} {dss : List (List D)} (h : DOk K W U0 n H σ ρ U i Dl ks as dss) (l : (W.plus U).le H H1) (o : (W.plus U).ok K n1 H1) : DOk K W U0 n1 H1 σ ρ U i Dl ks as dss :=
  ⟨h.s.le l o, h.sl, l _ _ h.nr h.dk, h.nr, h.kl, h.dl, h.nd, fun j a e => by
    obtain ⟨us, ds, e1, e2, e3⟩ := h.ls j a e
    exact ⟨us, ds, e1, e2, AtAll.le h.s.ok l _ e3⟩, h.sub, h.apt⟩
theorem DOk.app {W : Wd} {U0 U : List (Addr × HO)} {n : Nat} {H : Hp} {σ : L2.St} {ρ : Env'} {i : Nat} {Dl : Addr} {ks : List Key} {as : List Addr} {dss : List (List D)} (h : DOk K W U0 n H σ ρ U i Dl ks as dss) {j : Nat} {a : Addr} {ds : List D} {d : D} {v : V} (ha : as[j]? = some a) (hd : dss[j]? = some ds) (av : At K (W.plus U) H v d) :
    ∃ us, H a = some (.lst us) ∧ us.length = ds.length ∧ ∃ U', Stp W U H U' (upd H a (.lst (us ++ [v]))) ∧ DOk K W U0 n (upd H a (.lst (us ++ [v]))) σ ρ U' i Dl ks as (dss.set j (ds ++ [d])) := by
  obtain ⟨us, ds', e1, e2, e3⟩ := h.ls j a ha
  rw [hd] at e1
  cases e1
  have hHa : H a = some (.lst us) := (h.s.ok.owns _ (List.mem_append_left _ e2)).1
  have sA : SOk K W [0] n H [some (some (.ref a)) |>.getD none] [some (.lst ds)] U := by
    refine ⟨h.s.nd, h.s.nr, h.s.ok, rfl, fun m d hm he => ?_, fun m d hm he => ?_, fun m k p hm hk ne _ _ => ?_⟩
    · cases m with
      | zero => exact absurd List.mem_cons_self hm
      | succ m => cases he
    · cases List.mem_singleton.mp hm
      cases he
      exact ⟨(a, .lst us), e2, rfl, .lst e3⟩
    · cases List.mem_singleton.mp hm
      cases List.mem_singleton.mp hk
      exact absurd rfl ne
  have hput := sA.put (i := 0) (p := a) (ob := .lst us) (ob' := .lst (us ++ [v])) (d' := .lst (ds ++ [d])) List.mem_cons_self (fun z => by cases z) rfl e2 ⟨_, rfl⟩ trivial (.lst (e3.append (.cons av .nil)))
  obtain ⟨st, s'⟩ := hput
  refine ⟨us, hHa, e3.length, putO U a (.lst (us ++ [v])), st, ?_⟩
  have hfst := putO_fst U a (.lst (us ++ [v]))
  have hrs : ∀ b, (W.plus (putO U a (.lst (us ++ [v])))).rs b → (W.plus U).rs b := fun b z => by
    rw [Wd.rs_plus, hfst] at z
    exact Wd.rs_plus.mpr z
  have wk : ∀ {v' : V} {d' : D}, At K (W.plus U) H v' d' → At K (W.plus (putO U a (.lst (us ++ [v])))) (upd H a (.lst (us ++ [v]))) v' d' := fun g => At.weak hrs rfl _ (At.le h.s.ok st.le _ g)
  have wka : ∀ {vs : List V} {es : List D}, AtAll K (W.plus U) H vs es → AtAll K (W.plus (putO U a (.lst (us ++ [v])))) (upd H a (.lst (us ++ [v]))) vs es := fun g => AtAll.weak hrs rfl _ (AtAll.le h.s.ok st.le _ g)
  have naD : Dl ≠ a := fun z => by
    have := h.dk
    rw [z, hHa] at this
    cases this
  refine ⟨⟨s'.nd, s'.nr, s'.ok, h.s.len, fun m d' _ he => ?_, fun m d' hm _ => (by cases hm), fun m k p hm _ _ _ _ => (by cases hm)⟩, h.sl, by rw [upd_ne naD]; exact h.dk, fun z => h.nr (hrs _ z), h.kl, by rw [List.length_set]; exact h.dl, h.nd, fun m b hb => ?_, fun u hu => ?_, h.apt⟩
  · obtain ⟨v', e5, a5⟩ := h.s.env m d' (by simp) he
    exact ⟨v', e5, wk a5⟩
  · by_cases hm : j = m
    · subst hm
      rw [ha] at hb
      cases hb
      have hlt : j < dss.length := (List.getElem?_eq_some_iff.mp hd).1
      exact ⟨us ++ [v], ds ++ [d], by rw [List.getElem?_set_self hlt], List.mem_map.mpr ⟨_, e2, by rw [if_pos rfl]⟩, (wka e3).append (.cons (wk av) .nil)⟩
    · obtain ⟨us', ds', f1, f2, f3⟩ := h.ls m b hb
      have nba : b ≠ a := fun z => hm (by
        subst z
        exact nd_inj h.nd ha hb)
      exact ⟨us', ds', by rw [List.getElem?_set_ne hm]; exact f1, List.mem_map.mpr ⟨_, f2, by rw [if_neg nba]⟩, wka f3⟩
  · have hne : u.1 ≠ a := fun z => h.apt a (List.mem_of_getElem? ha) (by rw [← z]; exact List.mem_map.mpr ⟨u, hu, rfl⟩)
    exact List.mem_map.mpr ⟨u, h.sub u hu, by rw [if_neg hne]⟩
/-- parts[key].append(e) -/
def tAppD (K : PySem.W.Frag) (i j : Nat) (e : TE) : TS := tDrop (tBM K "list" rAppend (tDGet (tVar i) (tVar j)) (tCons e tNil))
def aAppD (j : Nat) (ks : List Key) (f : AE) (ρ : Env') (dss : List (List D)) (n : Nat) (Kn : List (List D) → Nat → Prop) : Prop := ∃ k kk p l, eGet ρ j = some k ∧ keyD k = some kk ∧ ks[p]? = some kk ∧ dss[p]? = some l ∧ l.length < 1000000 ∧ f ρ n fun v n1 => Kn (dss.set p (l ++ [v])) n1
theorem appd_run {W : Wd} {U0 U : List (Addr × HO)} {n : Nat} {H : Hp} {σ : L2.St} {ρ : Env'} {i j : Nat} {Dl : Addr} {ks : List Key} {as : List Addr} {dss : List (List D)} {e : TE} {f : AE} [DE K e f] {E : Ends} {Kn : List (List D) → Nat → Prop} (nk : ks.Nodup) (h : DOk K W U0 n H σ ρ U i Dl ks as dss)
    (hQ : ∀ dss' n' U' H', Kn dss' n' → Stp W U H U' H' → DOk K W U0 n' H' σ ρ U' i Dl ks as dss' → E.nx σ H') (ha : aAppD j ks f ρ dss n Kn) : tAppD K i j e E σ H := by
  obtain ⟨k, kk, p, l, e1, e2, e3, e4, hl, h⟩ := ha
  rename_i hD
  obtain ⟨v1, s1, a1⟩ := hD.s.env j k (by simp) e1
  have hp : p < as.length := by rw [← hD.dl]; exact (List.getElem?_eq_some_iff.mp e4).1
  obtain ⟨a, hpa⟩ : ∃ a, as[p]? = some a := ⟨_, List.getElem?_eq_getElem hp⟩
  have hval : valV (ks.zip (refs as)) kk = some (.ref a) := by
    have : AtAll K W H (refs as) ((refs as).map fun _ => D.non) → True := fun _ => trivial
    have hz : ∀ {ks : List Key} {us : List V} {m : Nat} {u : V}, ks.Nodup → ks[m]? = some kk → us[m]? = some u → valV (ks.zip us) kk = some u := by
      intro ks
      induction ks with
      | nil => intro us m u _ g _; cases g
      | cons x ks ih =>
        intro us m u nd g1 g2
        cases us with
        | nil => cases g2
        | cons y us =>
          cases m with
          | zero =>
            cases g1
            cases g2
            exact valV_pos rfl
          | succ m =>
            rw [List.nodup_cons] at nd
            have g1' : ks[m]? = some kk := g1
            have ne : ¬ x = kk := fun z => nd.1 (by rw [z]; exact List.mem_of_getElem? g1')
            rw [List.zip_cons_cons, valV_neg ne]
            exact ih nd.2 g1' g2
    exact hz nk e3 (by unfold refs; rw [List.getElem?_map, hpa]; rfl)
  obtain ⟨us0, ds0, f1, f2, f3⟩ := hD.ls p a hpa
  have hHa : H a = some (.lst us0) := (hD.s.ok.owns _ (List.mem_append_left _ f2)).1
  refine ⟨_, hD.sl, _, s1, Dl, .ref a, rfl, by rw [key_at a1 e2]; exact hval ▸ DGet.k hD.dk, .inl ⟨rfl, _, SqL.of hHa⟩, ?_⟩
  refine DE.run (te := e) (f := f) (W.plus U) σ ρ n H _ _ (fun d n1 h1 H1 v l1 o1 av => ?_) ⟨hD.s.len, fun m d hm => hD.s.env m d (by simp) hm⟩ hD.s.ok h
  have hD1 := hD.le l1 o1
  obtain ⟨us, g1, g2, U', st, hD2⟩ := hD1.app hpa e4 av
  exact ⟨a, us, v, rfl, rfl, g1, Nat.lt_of_lt_of_le (by rw [g2]; exact hl) lim, hQ _ _ U' _ h1 ((Stp.hid l1).trans st) hD2⟩
def tDL (K : PySem.W.Frag) (i j1 j2 : Nat) (wi1 : TI) (g1 : TG) (tt : TT) (tk : TE) (vs1 : List Nat) (wi2 : TI) (g2 : TG) (e1 e2 : TE) : TS := tSeq (tAsg (tDc wi1 g1 tt tk (tLst tNil) vs1) (gName i)) (tFor wi2 g2 (tSeq (tAppD K i j1 e1) (tAppD K i j2 e2)))
theorem k_dl {X : Cx} {ss : List Stmt} {i j1 j2 : Nat} {wi1 : TI} {g1 : TG} {tt : TT} {tk : TE} {vs1 : List Nat} {wi2 : TI} {g2 : TG} {e1 e2 : TE} {tr : TS} (hK : X.K = K) (h : PSs X ss (tSeq (tAsg (tDc wi1 g1 tt tk (tLst tNil) vs1) (gName i)) (tSeq (tFor wi2 g2 (tSeq (tDrop (tBM X.K "list" rAppend (tDGet (tVar i) (tVar j1)) (tCons e1 tNil))) (tDrop (tBM X.K "list" rAppend (tDGet (tVar i) (tVar j2)) (tCons e2 tNil))))) tr))) : PSs X ss (tSeq (tDL K i j1 j2 wi1 g1 tt tk vs1 wi2 g2 e1 e2) tr) := hK ▸ h
def aDLGo (i j1 j2 : Nat) (ks : List Key) (G : D → Option (List (Nat × D))) (f1 f2 : AE) (Kn : Env' → List (List D) → Nat → Prop) : List D → Env' → List (List D) → Nat → Prop
  | [], ρ, dss, n => Kn ρ dss n
  | d :: r, ρ, dss, n => ∃ xs, G d = some xs ∧ (xs.all fun u => !(Nat.beq u.1 i)) = true ∧ aAppD j1 ks f1 (eSetAll ρ xs) dss n fun dss1 n1 => aAppD j2 ks f2 (eSetAll ρ xs) dss1 n1 fun dss2 n2 => aDLGo i j1 j2 ks G f1 f2 Kn r (eSetAll ρ xs) dss2 n2
def aDL (i j1 j2 : Nat) (I1 : AI) (G1 : D → Option (List (Nat × D))) (c1 : AT) (fk : AE) (vs1 : List Nat) (I2 : AI) (G2 : D → Option (List (Nat × D))) (f1 f2 : AE) : AS := fun E ρ n => aDc I1 G1 c1 fk aNilL vs1 ρ n fun d n1 => ∃ ks, d = .dic ks (ks.map fun _ => .lst []) ∧ ks.Nodup ∧ i < ρ.length ∧
  I2 (eSet ρ i none) n1 fun ds2 n2 => aDLGo i j1 j2 ks G2 f1 f2 (fun ρ' dss n' => E.nx (eSet ρ' i (some (.dic ks (dss.map D.lst)))) n') ds2 (eSet ρ i none) (ks.map fun _ => []) n2
theorem setAll_ne {i : Nat} : ∀ {zs : List (Nat × V)} {σ : L2.St}, (∀ z ∈ zs, z.1 ≠ i) → (setAll σ zs)[i]? = σ[i]?
  | [], _, _ => rfl
  | z :: r, σ, h => by
    show (setAll (σ.set z.1 (some z.2)) r)[i]? = _
    rw [setAll_ne fun y hy => h y (List.mem_cons_of_mem _ hy), List.getElem?_set_ne (h z List.mem_cons_self)]
theorem dlst_all {W : Wd} {H : Hp} : ∀ {as : List Addr} {dss : List (List D)}, dss.length = as.length → (∀ (j : Nat) (a : Addr), as[j]? = some a → ∃ ds, dss[j]? = some ds ∧ At K W H (.ref a) (.lst ds)) → AtAll K W H (refs as) (dss.map D.lst)
  | [], [], _, _ => .nil
  | [], _ :: _, h, _ => by cases h
  | _ :: _, [], h, _ => by cases h
  | a :: as, ds :: dss, h, g => by
    obtain ⟨ds', e1, e2⟩ := g 0 a rfl
    cases e1
    exact .cons e2 (dlst_all (by simpa using h) fun j b hb => g (j + 1) b hb)
instance {i j1 j2 : Nat} {wi1 : TI} {g1 : TG} {tt : TT} {tk : TE} {vs1 : List Nat} {wi2 : TI} {g2 : TG} {e1 e2 : TE} {I1 : AI} {G1 : D → Option (List (Nat × D))} {c1 : AT} {fk : AE} {I2 : AI} {G2 : D → Option (List (Nat × D))} {f1 f2 : AE} [DI K wi1 I1] [DG K g1 G1] [DT K tt c1] [DE K tk fk] [DI K wi2 I2] [DG K g2 G2] [DE K e1 f1] [DE K e2 f2] : DS K Wx [] (tDL K i j1 j2 wi1 g1 tt tk vs1 wi2 g2 e1 e2) (aDL i j1 j2 I1 G1 c1 fk vs1 I2 G2 f1 f2) := ⟨fun W U σ ρ n H E Ea hD s h => by
  refine (show tDc wi1 g1 tt tk (tLst tNil) vs1 σ H (fun v H1 => (gName i) v σ H1 fun σ' H' => tFor wi2 g2 (tSeq (tAppD K i j1 e1) (tAppD K i j2 e2)) E σ' H') from ?_)
  refine dcl_run (K := K) (wi := wi1) (g := g1) (tt := tt) (tk := tk) (vs := vs1) (I := I1) (G := G1) (c := c1) (fk := fk) (W.plus U) σ ρ n H _ _ (fun ks as n1 H1 Dl hq l1 o1 hkl hnd hDl hdk has => ?_) s.hid s.ok h
  obtain ⟨ks', e, nk, hlen, hq⟩ := hq
  obtain ⟨rfl, _⟩ := D.dic.inj e
  obtain ⟨U1, hU1⟩ : ∃ U1, (as.map fun a => (a, HO.lst [])) ++ U = U1 := ⟨_, rfl⟩
  have hfr : ∀ a ∈ as, ¬ (W.plus U).rs a := fun a ha => s.ok.fresh (has a ha).1
  have hmap : U1.map (·.1) = as ++ U.map (·.1) := by
    rw [← hU1, List.map_append, List.map_map]
    congr 1
    exact List.map_id' as
  have hrs : ∀ a, (W.plus U1).rs a → a ∈ as ∨ (W.plus U).rs a := fun a z => by
    rcases Wd.rs_plus.mp z with z | z
    · rw [hmap] at z
      rcases List.mem_append.mp z with z | z
      · exact .inl z
      · exact .inr (Wd.rs_plus.mpr (.inl z))
    · exact .inr (Wd.rs_plus.mpr (.inr z))
  have hrs2 : ∀ a, (W.plus U).rs a → (W.plus U1).rs a := fun a z => by
    rcases Wd.rs_plus.mp z with z | z
    · exact Wd.rs_plus.mpr (.inl (by rw [hmap]; exact List.mem_append_right _ z))
    · exact Wd.rs_plus.mpr (.inr z)
  have rn : ∀ a, (W.plus U1).rs a → ¬ (W.plus U).rs a → H a = none := fun a z r => by
    rcases hrs a z with z | z
    · exact (has a z).1
    · exact absurd z r
  have lk : (W.plus U1).lk H := s.ok.lk' rn
  have le2 : (W.plus U1).le H H1 := fun a ob r e => l1 a ob (fun z => r (hrs2 a z)) e
  have ok1 : (W.plus U1).ok K n1 H1 := by
    refine ⟨o1.deck, fun q hq => ?_, fun d b e q hq => ?_⟩
    · rcases List.mem_append.mp hq with hq | hq
      · rw [← hU1] at hq
        rcases List.mem_append.mp hq with hq | hq
        · obtain ⟨a, ha, rfl⟩ := List.mem_map.mp hq
          exact ⟨(has a ha).2, trivial⟩
        · exact o1.owns q (List.mem_append_left _ hq)
      · exact o1.owns q (List.mem_append_right _ hq)
    · rcases List.mem_append.mp hq with hq | hq
      · rw [← hU1] at hq
        rcases List.mem_append.mp hq with hq | hq
        · obtain ⟨a, ha, rfl⟩ := List.mem_map.mp hq
          exact ⟨fun z => hfr a ha (.inl ⟨d, b, e, .inl z⟩), fun z => hfr a ha (.inl ⟨d, b, e, .inr z⟩)⟩
        · exact o1.dis d b e q (List.mem_append_left _ hq)
      · exact o1.dis d b e q (List.mem_append_right _ hq)
  have nDa : Dl ∉ as := fun z => by
    have := (has Dl z).2
    rw [hdk] at this
    cases this
  have st1 : Stp W U H U1 H1 := ⟨l1, rn, hrs2⟩
  have D1 : DOk K W U n1 H1 (σ.set i (some (.ref Dl))) (eSet ρ i none) U1 i Dl ks as (ks.map fun _ => []) := by
    refine ⟨⟨?_, ?_, ok1, by rw [List.length_set, eSet_length]; exact s.len, fun m d _ he => ?_, fun m d hm _ => (by cases hm), fun m k p hm _ _ _ _ => (by cases hm)⟩, by rw [List.getElem?_set_self (by rw [s.len]; exact hlen)], hdk, fun z => ?_, hkl, by rw [List.length_map]; exact hkl, hnd, fun j a ha => ?_, fun u hu => ?_, fun a ha z => hfr a ha (Wd.rs_plus.mpr (.inl z))⟩
    · rw [hmap]
      exact List.nodup_append.mpr ⟨hnd, s.nd, fun a ha b hb z => hfr a ha (Wd.rs_plus.mpr (.inl (by rw [z]; exact hb)))⟩
    · intro u hu
      rw [← hU1] at hu
      rcases List.mem_append.mp hu with hu | hu
      · obtain ⟨a, ha, rfl⟩ := List.mem_map.mp hu
        exact fun z => hfr a ha (Wd.rs_plus.mpr (.inr z))
      · exact s.nr u hu
    · have hmi : i ≠ m := fun z => by
        subst z
        cases (eGet_set he).2
      rw [eGet_ne hmi] at he
      rw [List.getElem?_set_ne hmi]
      obtain ⟨v, e5, a5⟩ := s.env m d (by simp) he
      exact ⟨v, e5, At.lk lk le2 _ (At.ext rn rfl _ a5)⟩
    · rcases hrs Dl z with z | z
      · exact nDa z
      · exact s.ok.fresh hDl z
    · refine ⟨[], [], ?_, ?_, .nil⟩
      · rw [List.getElem?_map]
        have : j < ks.length := by rw [hkl]; exact (List.getElem?_eq_some_iff.mp ha).1
        rw [List.getElem?_eq_getElem this]
        rfl
      · rw [← hU1]
        exact List.mem_append_left _ (List.mem_map.mpr ⟨a, List.mem_of_getElem? ha, rfl⟩)
    · rw [← hU1]
      exact List.mem_append_right _ hu
  show tFor wi2 g2 (tSeq (tAppD K i j1 e1) (tAppD K i j2 e2)) E (σ.set i (some (.ref Dl))) H1
  refine DI.run (wi := wi2) (f := I2) (W.plus U1) _ _ n1 H1 _ _ (fun ds n2 h2 J H2 l2 o2 hw => ?_) ⟨D1.s.len, fun m d hm => D1.s.env m d (by simp) hm⟩ ok1 hq
  refine ⟨fun k m σ' H' => m = ds.length - k ∧ k ≤ ds.length ∧ ∃ ρ' n' U' dss', aDLGo i j1 j2 ks G2 f1 f2 (fun ρ' dss n' => Ea.nx (eSet ρ' i (some (.dic ks (dss.map D.lst)))) n') (ds.drop k) ρ' dss' n' ∧ DOk K W U n' H' σ' ρ' U' i Dl ks as dss' ∧ Stp W U1 H2 U' H', ⟨_, rfl, Nat.zero_le _, _, n2, U1, _, h2, D1.le l2 o2, Stp.refl⟩, ?_⟩
  rintro k m σ2 H3 ⟨rfl, hk, ρ2, n3, U2, dss2, h3, d3, st3⟩
  obtain ⟨w1, w2⟩ := hw (W.plus U2) st3.new rfl H3 n3 (fun a o r e => st3.le a o (fun z => r (st3.old a z)) e) d3.s.ok k
  by_cases hlt : k < ds.length
  · rw [List.drop_eq_getElem_cons hlt] at h3
    obtain ⟨hgo, hy⟩ := w1 ds[k] (List.getElem?_eq_getElem hlt)
    refine .inr ⟨hgo, fun σ' H' => ∃ m', m' < ds.length - k ∧ m' = ds.length - (k + 1) ∧ k + 1 ≤ ds.length ∧ ∃ ρ' n' U' dss', aDLGo i j1 j2 ks G2 f1 f2 (fun ρ' dss n' => Ea.nx (eSet ρ' i (some (.dic ks (dss.map D.lst)))) n') (ds.drop (k + 1)) ρ' dss' n' ∧ DOk K W U n' H' σ' ρ' U' i Dl ks as dss' ∧ Stp W U1 H2 U' H', fun σ' H' q => q, fun x H4 hx => ?_⟩
    obtain ⟨s4, a4⟩ := hy x H4 hx
    have l4 : (W.plus U2).le H3 H4 := Wd.le_same s4
    have d4 := d3.le l4 (d3.s.ok.same s4)
    obtain ⟨xs, ex, hxi, h3⟩ := h3
    refine DG.run (g := g2) (f := G2) (W.plus U2) σ2 H4 x _ xs _ a4 ex fun zs hz => ?_
    have hzi : ∀ z ∈ zs, z.1 ≠ i := upd_slots (p := fun m => m ≠ i) hz fun u hu => by
      have := List.all_eq_true.mp hxi u hu
      intro z
      rw [z] at this
      simp at this
    have d5 : DOk K W U n3 H4 (setAll σ2 zs) (eSetAll ρ2 xs) U2 i Dl ks as dss2 := ⟨d4.s.setAll hz (fun u _ => by simp), by rw [setAll_ne hzi]; exact d4.sl, d4.dk, d4.nr, d4.kl, d4.dl, d4.nd, d4.ls, d4.sub, d4.apt⟩
    refine appd_run (K := K) nk d5 (fun dss' n' U' H' hk1 st d6 => ?_) h3
    refine appd_run (K := K) nk d6 (fun dss'' n'' U'' H'' hk2 st' d7 => ?_) hk1
    exact ⟨_, by omega, rfl, hlt, _, n'', U'', dss'', hk2, d7, ((st3.trans (.hid l4)).trans st).trans st'⟩
  · have ek : k = ds.length := by omega
    subst ek
    rw [List.drop_length] at h3
    have tot : Stp W U H U2 H3 := (st1.trans (.hid l2)).trans st3
    have wU : ∀ a, (W.plus U).rs a → (W.plus U2).rs a := tot.old
    have nrU : ∀ a ∈ as, ¬ (W.plus U).rs a := hfr
    refine .inl ⟨w2 (Nat.le_refl _), hD.nx _ _ h3 U σ2 H3 ⟨tot.le, fun a z r => absurd z r, fun a z => z⟩ ⟨s.nd, s.nr, ⟨d3.s.ok.deck, fun q hq => ?_, fun d b e q hq => ?_⟩, by rw [eSet_length]; exact d3.s.len, fun m d _ he => ?_, fun m d hm _ => (by cases hm), fun m k p hm _ _ _ _ => (by cases hm)⟩⟩
    · rcases List.mem_append.mp hq with hq | hq
      · exact d3.s.ok.owns q (List.mem_append_left _ (d3.sub q hq))
      · exact d3.s.ok.owns q (List.mem_append_right _ hq)
    · rcases List.mem_append.mp hq with hq | hq
      · exact d3.s.ok.dis d b e q (List.mem_append_left _ (d3.sub q hq))
      · exact d3.s.ok.dis d b e q (List.mem_append_right _ hq)
    · by_cases hmi : i = m
      · subst hmi
        cases (eGet_set he).2
        refine ⟨_, d3.sl, .dic (fun z => d3.nr (wU _ z)) d3.dk (by rw [refs_len]; exact d3.kl) (dlst_all d3.dl fun j a ha => ?_)⟩
        obtain ⟨us, es, f1, f2, f3⟩ := d3.ls j a ha
        exact ⟨es, f1, .lst (nrU a (List.mem_of_getElem? ha)) ((d3.s.ok.owns _ (List.mem_append_left _ f2)).1) (AtAll.weak wU rfl _ f3)⟩
      · rw [eGet_ne hmi] at he
        obtain ⟨v, e5, a5⟩ := d3.s.env m d (by simp) he
        exact ⟨v, e5, At.weak wU rfl _ a5⟩⟩
end

/-! ### a tuple twice over -/
section
variable {K : PySem.W.Frag}
def rRepTK (K : PySem.W.Frag) : R2 := rRepT K
theorem k_repT {X : Cx} (hK : X.K = K) : OpR X (binaryOp .Mult) (rRepTK K) := hK ▸ op_repT
def aRepT : D → D → Nat → (D → Nat → Prop) → Prop
  | .tup ds, .int k, n, Q => (ds ≠ [] ∧ 2 ≤ k ∧ k ≤ 1000 ∧ ds.length ≤ 1000) ∧ Q (.tup (List.replicate k.toNat ds).flatten) n
  | _, _, _, _ => False
instance : D2 K (rRepTK K) aRepT := ⟨fun W n H x y d e Q Qa hQ o ax ay h => by
  unfold aRepT at h
  split at h
  · rename_i ds k
    obtain ⟨⟨h0, h1, h2, h3⟩, h⟩ := h
    cases ay
    cases ax with
    | tup s a =>
      refine ⟨_, k, _, rfl, rfl, s, fun z => ?_, h1, h2, by rw [a.length]; exact h3, fun p hp => hQ.new o h hp ?_⟩
      · rw [z] at a
        cases a
        exact h0 rfl
      · exact .tup (.inl (.inl upd_same)) (rep_at (AtAll.le o (Wd.le_same (same_upd hp)) _ a) _)
  · exact h.elim⟩
end
section
variable {K : PySem.W.Frag}
def rCatAK (K : PySem.W.Frag) : R2 := rCatA K
theorem k_catA {X : Cx} (hK : X.K = K) : OpR X (binaryOp .Add) (rCatAK K) := hK ▸ op_catA
def aCatA : D → D → Nat → (D → Nat → Prop) → Prop
  | .tup ds, .tup es, n, Q => ds.length + es.length ≤ 1000000 ∧ Q (.tup (ds ++ es)) n
  | _, _, _, _ => False
instance : D2 K (rCatAK K) aCatA := ⟨fun W n H x y d e Q Qa hQ o ax ay h => by
  unfold aCatA at h
  split at h
  · obtain ⟨h1, h2⟩ := h
    cases ax with
    | tup s a =>
      cases ay with
      | tup s' a' =>
        refine ⟨_, _, _, _, rfl, rfl, s, s', by rw [a.length, a'.length]; exact Nat.le_trans h1 lim, fun z => ?_, fun _ z => ?_, fun _ _ p hp => hQ.new o h2 hp ?_⟩
        · subst z
          cases a
          exact hQ.now o h2 (.tup s' a')
        · subst z
          cases a'
          rw [List.append_nil] at h2
          exact hQ.now o h2 (.tup s a)
        · exact .tup (.inl (.inl upd_same)) ((AtAll.le o (Wd.le_same (same_upd hp)) _ a).append (AtAll.le o (Wd.le_same (same_upd hp)) _ a'))
  · exact h.elim⟩
end

/-! ### for k, v in d.items() in a dict comprehension: the dict is locked while it is walked -/
section
variable {K : PySem.W.Frag} {Wx : WX}
def keyI : Key → D
  | .inl i => .int i
  | .inr x => .str x
theorem keyI_at {W : Wd} {H : Hp} : ∀ k : Key, At K W H (kV k) (keyI k)
  | .inl i => .int i
  | .inr x => .str x
mutual
theorem at_move {W W' : Wd} {H H' : Hp} {p : Addr} (he : ∀ a, a ≠ p → H' a = H a) (hr : ∀ a, a ≠ p → ¬ W.rs a → ¬ W'.rs a) (n1 : ∀ us, H p ≠ some (.lst us)) (n2 : ∀ us, H p ≠ some (.tup us)) (n3 : ∀ o us, H p ≠ some (.frz o (.tup us))) : ∀ (d : D) {v : V}, d.isD = true → At K W H v d → At K W' H' v d
  | .non, _, _, h => by cases h; exact .non
  | .bl b, _, _, h => by cases h; exact .bl b
  | .int i, _, _, h => by cases h; exact .int i
  | .str x, _, _, h => by cases h; exact .str x
  | .tup ds, _, e, h => by
    cases h with
    | @tup a xs _ s b =>
      refine .tup ?_ (at_moveAll he hr n1 n2 n3 ds e b)
      rcases s with (s | ⟨o, s⟩) | s
      · exact .inl (.inl (by rw [he a fun z => n2 _ (by rw [← z]; exact s)]; exact s))
      · exact .inl (.inr ⟨o, by rw [he a fun z => n3 _ _ (by rw [← z]; exact s)]; exact s⟩)
      · exact .inr s
  | .lst ds, _, e, h => by
    cases h with
    | @lst a xs _ r s b =>
      have ne : a ≠ p := fun z => n1 _ (by rw [← z]; exact s)
      exact .lst (hr a ne r) (by rw [he a ne]; exact s) (at_moveAll he hr n1 n2 n3 ds e b)
  | .ty t, _, e, _ => Bool.noConfusion e
  | .cls a, _, e, _ => Bool.noConfusion e
  | .dic ks ds, _, e, _ => Bool.noConfusion e
  | .ins C ns ds, _, e, _ => Bool.noConfusion e
  | .deck, _, e, _ => Bool.noConfusion e
  | .xcp _ _ _ _ _, _, e, _ => Bool.noConfusion e
theorem at_moveAll {W W' : Wd} {H H' : Hp} {p : Addr} (he : ∀ a, a ≠ p → H' a = H a) (hr : ∀ a, a ≠ p → ¬ W.rs a → ¬ W'.rs a) (n1 : ∀ us, H p ≠ some (.lst us)) (n2 : ∀ us, H p ≠ some (.tup us)) (n3 : ∀ o us, H p ≠ some (.frz o (.tup us))) : ∀ (ds : List D) {vs : List V}, isDAll ds = true → AtAll K W H vs ds → AtAll K W' H' vs ds
  | [], _, _, h => by cases h; exact .nil
  | d :: ds, _, e, h => by
    have e' : (d.isD && isDAll ds) = true := e
    rw [Bool.and_eq_true] at e'
    cases h with
    | cons a r => exact .cons (at_move he hr n1 n2 n3 d e'.1 a) (at_moveAll he hr n1 n2 n3 ds e'.2 r)
end
theorem ok_any {W : Wd} {n : Nat} {H : Hp} {p : Addr} {ob : HO} (o : W.ok K n H) (nr : ¬ W.rs p) (hp : ∀ od us, H p ≠ some (.frz od (.lst us))) : W.ok K n (upd H p ob) := by
  refine ⟨fun d b e => ?_, fun q hq => ?_, o.dis⟩
  · obtain ⟨c, ⟨⟨s, ns, cs, i, k, h1, h2, h3, h4⟩, ne⟩, l⟩ := o.deck d b e
    have nd : d ≠ p := fun z => nr (.inl ⟨d, b, e, .inl z.symm⟩)
    have nb : b ≠ p := fun z => nr (.inl ⟨d, b, e, .inr z.symm⟩)
    refine ⟨c, ⟨⟨s, ns, cs, i, k, by rw [upd_ne nd]; exact h1, by rw [upd_ne nb]; exact h2, ?_, h4⟩, ne⟩, l⟩
    rcases h3 with ⟨od, h⟩ | h
    · exact .inl ⟨od, by rw [upd_ne (fun z => hp od _ (by rw [← z]; exact h))]; exact h⟩
    · exact .inr h
  · obtain ⟨h1, h2⟩ := o.owns q hq
    have np : q.1 ≠ p := fun z => nr (.inr (List.mem_map.mpr ⟨q, hq, z⟩))
    exact ⟨by rw [upd_ne np]; exact h1, h2⟩
def itD : List Key → List D → List D
  | k :: ks, d :: ds => .tup [keyI k, d] :: itD ks ds
  | _, _ => []
theorem itD_len : ∀ {ks : List Key} {ds : List D}, ks.length = ds.length → (itD ks ds).length = ds.length
  | [], [], _ => rfl
  | k :: ks, d :: ds, h => congrArg (· + 1) (itD_len (by simpa using h))
  | [], _ :: _, h => by cases h
  | _ :: _, [], h => by cases h
theorem itD_at {W : Wd} {H : Hp} : ∀ {ks : List Key} {us : List V} {ds : List D} {i : Nat} {x : D}, ks.length = us.length → AtAll K W H us ds → (itD ks ds)[i]? = some x → ∃ k v d, (ks.zip us)[i]? = some (k, v) ∧ x = .tup [keyI k, d] ∧ At K W H v d
  | [], _, _, i, x, _, _, e => by cases e
  | _ :: _, _, [], i, x, _, _, e => by cases e
  | k :: ks, _, d :: ds, 0, x, hl, h, e => by
    cases h with
    | @cons v vs _ _ a r =>
      cases e
      exact ⟨k, v, d, rfl, rfl, a⟩
  | k :: ks, _, d :: ds, i + 1, x, hl, h, e => by
    cases h with
    | @cons v vs _ _ a r => exact itD_at (ks := ks) (by simpa using hl) r e
theorem items_walks {W : Wd} {H : Hp} {n : Nat} {p : Addr} {od : Obj} {ks : List Key} {us : List V} {ds : List D} (o : W.ok K n H) (nr : ¬ W.rs p) (hp : H p = some (.frz od (.dK (ks.zip us)))) (hl : ks.length = us.length) (a : AtAll K W H us ds) : Walks K W (Iti p od (ks.zip us)) H (itD ks ds) := fun W' hr hd H2 n2 l2 o2 i => by
  have nr' : ¬ W'.rs p := fun z => by
    have := hr p z nr
    rw [hp] at this
    cases this
  have hp2 := l2 p _ nr' hp
  have hzl : (ks.zip us).length = ds.length := by rw [List.length_zip, hl, a.length]; exact Nat.min_self _
  refine ⟨fun x e => ⟨⟨hp2, ?_⟩, fun v H3 hy => ?_⟩, fun g => ⟨hp2, ?_⟩⟩
  · rw [hzl, ← itD_len (ks := ks) (by rw [hl, a.length])]
    exact (List.getElem?_eq_some_iff.mp e).1
  · obtain ⟨k, u, d, e1, rfl, a1⟩ := itD_at hl a e
    obtain ⟨T, k', v', e2, rfl, hT, rfl⟩ := hy
    rw [e1] at e2
    cases e2
    have s3 : Same H2 (upd H2 T (.tup [kV k, u])) := same_upd hT
    have a2 : At K W' H2 u d := At.lk (o.lk' hr) l2 _ (At.ext hr hd _ a1)
    exact ⟨s3, .tup (.inl (.inl upd_same)) (.cons (keyI_at k) (.cons (At.le o2 (Wd.le_same s3) _ a2) .nil))⟩
  · rw [hzl, ← itD_len (ks := ks) (by rw [hl, a.length])]
    exact g
/-- a dict comprehension from its walk on -/
theorem dc_walk {g : TG} {tt : TT} {tk tv : TE} {vs : List Nat} {G : D → Option (List (Nat × D))} {c : AT} {fk fv : AE} [DG K g G] [DT K tt c] [DE K tk fk] [DE K tv fv] (W : Wd) (σ : L2.St) (ρ : Env') (n1 : Nat) (H1 : Hp) (Q : VK) (Qa : D → Nat → Prop) (hQ : Wants K W H1 Qa Q) (hE : EnvAt K W H1 σ ρ) (o1 : W.ok K n1 H1) (J : It) (ds : List D) (hw : Walks K W J H1 ds) (hlen : ds.length ≤ 1000000) (h1 : aDcGo vs G c fk fv (wipeA ρ vs) Qa [] [] ds n1) (Dl : Addr) (hDl : H1 Dl = none) : ∃ Wv : Nat → Nat → Hp → Prop, (∃ m, Wv 0 m (upd H1 Dl (.dK []))) ∧ ∀ i m H, Wv i m H →
  (J.stop i H ∧ Q (.ref Dl) H) ∨ (J.go i H ∧ ∃ Nx : Hp → Prop, (∀ H', Nx H' → ∃ m', m' < m ∧ Wv (i + 1) m' H') ∧ ∀ x H', J.yld i H x H' → g x (wipe σ vs) H' fun σ2 H2 => wipe σ2 vs = wipe σ vs ∧ tt σ2 H2 fun b H3 =>
    if b = true then tk σ2 H3 fun y H4 => tv σ2 H4 fun z H5 => ∃ kvs k, y = kV k ∧ H5 Dl = some (.dK kvs) ∧ kvs.length < sizeLine ∧ Nx (upd H5 Dl (.dK (putK kvs k z))) else Nx H3) := by
  have nrs : ¬ W.rs Dl := o1.fresh hDl
  refine ⟨fun i m H' => m = ds.length - i ∧ i ≤ ds.length ∧ ∃ n' us ks acc, aDcGo vs G c fk fv (wipeA ρ vs) Qa ks acc (ds.drop i) n' ∧ (W.add (Dl, .dK (ks.zip us))).ok K n' H' ∧ AtAll K (W.add (Dl, .dK (ks.zip us))) H' us acc ∧ W.le H1 H' ∧ us.length ≤ i ∧ ks.length = us.length, ⟨_, rfl, Nat.zero_le _, n1, [], [], [], h1, Wd.ok_putD trivial nrs (.inl hDl) o1, .nil, Wd.le_same (same_upd hDl), Nat.le_refl _, rfl⟩, ?_⟩
  rintro i m H2 ⟨rfl, hi, n2, us, ks, acc, h2, o2, a2, l2, hul, hkl⟩
  have rn := Wd.rs_new (W := W) (xs := .dK (ks.zip us)) hDl
  obtain ⟨w1, w2⟩ := hw (W.add (Dl, .dK (ks.zip us))) rn rfl H2 n2 (Wd.le_more l2) o2 i
  by_cases hlt : i < ds.length
  · rw [List.drop_eq_getElem_cons hlt] at h2
    obtain ⟨hgo, hy⟩ := w1 ds[i] (List.getElem?_eq_getElem hlt)
    refine .inr ⟨hgo, fun H' => ∃ m', m' < ds.length - i ∧ m' = ds.length - (i + 1) ∧ i + 1 ≤ ds.length ∧ ∃ n' us ks acc, aDcGo vs G c fk fv (wipeA ρ vs) Qa ks acc (ds.drop (i + 1)) n' ∧ (W.add (Dl, .dK (ks.zip us))).ok K n' H' ∧ AtAll K (W.add (Dl, .dK (ks.zip us))) H' us acc ∧ W.le H1 H' ∧ us.length ≤ i + 1 ∧ ks.length = us.length, fun H' q => q, fun x H3 hx => ?_⟩
    obtain ⟨s3, a3⟩ := hy x H3 hx
    have l3 : (W.add (Dl, .dK (ks.zip us))).le H2 H3 := Wd.le_same s3
    have o3 := o2.same s3
    have hE3 : EnvAt K (W.add (Dl, .dK (ks.zip us))) H3 (wipe σ vs) (wipeA ρ vs) := ((hE.ext rn rfl).lk (o1.lk' rn) ((Wd.le_more l2).trans l3)).wipe vs
    unfold aDcGo aPutC at h2
    split at h2
    · rename_i xs ex
      split at h2
      · rename_i hc
        refine DG.run (g := g) (f := G) _ (wipe σ vs) H3 x _ xs _ a3 ex fun zs hz => ?_
        have hE4 := hE3.setAll hz
        have hv : ∀ z ∈ zs, z.1 ∈ vs := upd_slots hz fun u hu => List.contains_iff_mem.mp (List.all_eq_true.mp hc u hu)
        refine ⟨by rw [wipe_setAll hv, wipe_wipe], DT.run (te := tt) (f := c) _ _ _ n2 H3 _ _ (fun b n5 h5 H5 l5 o5 => ?_) hE4 o3 h2⟩
        have l25 := l3.trans l5
        cases b with
        | true =>
          rw [if_pos rfl]
          refine DE.run (te := tk) (f := fk) _ _ _ n5 H5 _ _ (fun y n6 h6 H6 v l6 o6 a6 => ?_) (hE4.le o3 l5) o5 (h5.1 rfl)
          refine DE.run (te := tv) (f := fv) _ _ _ n6 H6 _ _ (fun y' n7 h7 H7 v' l7 o7 a7 => ?_) (hE4.le o3 (l5.trans l6)) o6 h6
          obtain ⟨kk, hkk, hnew, h7⟩ := h7
          have hD7 : H7 Dl = some (.dK (ks.zip us)) := (o7.owns (Dl, .dK (ks.zip us)) List.mem_cons_self).1
          have l27 := l25.trans (l6.trans l7)
          refine ⟨ks.zip us, kk, key_at a6 hkk, hD7, Nat.lt_of_lt_of_le (show (ks.zip us).length < 1000000 by rw [List.length_zip]; omega) lim, ?_⟩
          rw [putK_new hnew hkl]
          refine ⟨_, by omega, rfl, hlt, n7, us ++ [v'], ks ++ [kk], acc ++ [y'], h7, Wd.ok_putD trivial nrs (.inr ⟨_, hD7⟩) o7.drop, ?_, Wd.le_add hDl l2 (l27.trans (Wd.le_own (ob := .dK ((ks ++ [kk]).zip (us ++ [v']))))), by rw [List.length_append, List.length_singleton]; omega, by rw [List.length_append, List.length_append, List.length_singleton, List.length_singleton, hkl]⟩
          have key : AtAll K (W.add (Dl, .dK (ks.zip us))) H7 (us ++ [v']) (acc ++ [y']) := (AtAll.le o2 l27 _ a2).append (.cons a7 .nil)
          exact AtAll.weak (W := W.add (Dl, .dK (ks.zip us))) (W' := W.add (Dl, .dK ((ks ++ [kk]).zip (us ++ [v'])))) (fun a z => z) rfl _ (AtAll.le o7 (Wd.le_own (ob := .dK ((ks ++ [kk]).zip (us ++ [v'])))) _ key)
        | false =>
          rw [if_neg Bool.false_ne_true]
          exact ⟨_, by omega, rfl, hlt, n5, us, ks, acc, h5.2 rfl, o5, AtAll.le o2 l25 _ a2, Wd.le_add hDl l2 l25, by omega, hkl⟩
      · exact h2.elim
    · exact h2.elim
  · have ei : i = ds.length := by omega
    subst ei
    rw [List.drop_length] at h2
    have hD2 : H2 Dl = some (.dK (ks.zip us)) := (o2.owns (Dl, .dK (ks.zip us)) List.mem_cons_self).1
    exact .inl ⟨w2 (Nat.le_refl _), hQ _ _ h2 H2 _ l2 o2.drop (.dic nrs hD2 hkl (AtAll.weak (fun a z => Wd.rs_add z) rfl _ a2))⟩
theorem eGet_blank : ∀ {ρ : Env'} {m : Nat} {d : D}, eGet (ρ.map fun _ => none) m = some d → False
  | [], _, _, h => by cases h
  | _ :: _, 0, _, h => by cases h
  | _ :: r, m + 1, _, h => eGet_blank (ρ := r) (m := m) h
def aDcI (i : Nat) (G : D → Option (List (Nat × D))) (c : AT) (fk fv : AE) (vs : List Nat) : AE := fun ρ n Q => match eGet ρ i with
  | some (.dic ks ds) => isDAll ds = true ∧ ds.length ≤ 1000000 ∧ aDcGo vs G c fk fv (wipeA (ρ.map fun _ => none) vs) (fun d n' => ∃ ks' acc, d = .dic ks' acc ∧ isDAll acc = true ∧ Q d n') [] [] (itD ks ds) n
  | _ => False
instance {i : Nat} {g : TG} {tt : TT} {tk tv : TE} {vs : List Nat} {G : D → Option (List (Nat × D))} {c : AT} {fk fv : AE} [DG K g G] [DT K tt c] [DE K tk fk] [DE K tv fv] : DE K (tLockE (tDc (iItems (tVar i)) g tt tk tv vs)) (aDcI i G c fk fv vs) := ⟨fun W σ ρ n H Q Qa hQ hE o h => by
  unfold aDcI at h
  split at h
  · rename_i ks ds e
    obtain ⟨hD, hlen, h⟩ := h
    obtain ⟨v, hσ, av⟩ := hE.2 i _ e
    cases av with
    | @dic p _ us _ nr hp hl a =>
      refine ⟨p, .dK (ks.zip us), hp, trivial, fun od => ?_⟩
      obtain ⟨H1, hH1⟩ : ∃ H1, upd H p (.frz od (.dK (ks.zip us))) = H1 := ⟨_, rfl⟩
      have o1 : W.ok K n H1 := by
        rw [← hH1]
        exact ok_any o nr fun od us z => by rw [hp] at z; cases z
      have hp1 : H1 p = some (.frz od (.dK (ks.zip us))) := by rw [← hH1]; exact upd_same
      have a1 : AtAll K W H1 us ds := at_moveAll (p := p) (fun b nb => by rw [← hH1]; exact upd_ne nb) (fun b _ r => r) (fun us z => by rw [hp] at z; cases z) (fun us z => by rw [hp] at z; cases z) (fun o us z => by rw [hp] at z; cases z) ds hD a
      have hE1 : EnvAt K W H1 σ (ρ.map fun _ => none) := ⟨by rw [List.length_map]; exact hE.1, fun m d hm => by
        exact (eGet_blank hm).elim⟩
      rw [hH1]
      refine ⟨.ref p, hσ, p, od, ks.zip us, rfl, hp1, ?_⟩
      refine fun Dl hDl => dc_walk (K := K) (g := g) (tt := tt) (tk := tk) (tv := tv) (vs := vs) (G := G) (c := c) (fk := fk) (fv := fv) W σ _ n H1 (fun v H' => H' p = some (.frz od (.dK (ks.zip us))) ∧ Q v (upd H' p (.dK (ks.zip us)))) _ (fun d n' q H' v l' o' ad => ?_) hE1 o1 _ (itD ks ds) (items_walks o1 nr hp1 hl a1) (by rw [itD_len (by rw [hl, a1.length])]; exact hlen) h Dl hDl
      obtain ⟨ks', acc, rfl, hA, q⟩ := q
      have hp' := l' p _ nr hp1
      refine ⟨hp', hQ _ n' q _ v (fun b ob r e => ?_) (ok_any o' nr fun od us z => by rw [hp'] at z; cases z) ?_⟩
      · by_cases hb : b = p
        · subst hb
          rw [hp] at e
          cases e
          exact upd_same
        · rw [upd_ne hb]
          exact l' b ob r (by rw [← hH1, upd_ne hb]; exact e)
      · cases ad with
        | @dic b _ vs' _ nr' hb hl' aa =>
          have hbp : b ≠ p := fun z => by rw [z, hp'] at hb; cases hb
          exact .dic nr' (by rw [upd_ne hbp]; exact hb) hl' (at_moveAll (p := p) (fun b nb => upd_ne nb) (fun b _ r => r) (fun us z => by rw [hp'] at z; cases z) (fun us z => by rw [hp'] at z; cases z) (fun o us z => by rw [hp'] at z; cases z) acc hA aa)
  · exact h.elim⟩
end

section
variable {P : Program} {w : World} {K : PySem.W.Frag} {mg : Str → Option Value} {base : Heap} {A : Ad}
/-! CUT -/
/-! ### the deck in the mirror -/
def a_l_take : ASp := fun ds n Q => ∃ m : Int, ds = [.deck, .int m] ∧ 0 < m ∧ m.natAbs.log2 < 9000 ∧ 1 ≤ n ∧ ∀ r, 0 ≤ r → r < m → Q (.int r) (n - 1)
theorem ok_l_take (T : Tx K mg A) : FnOk P w K mg base CX0 3 A.f_l_take A.fd_l_take ["_law_deck_here", "_law_many"] (spOf K 2 a_l_take) := (ok0_l_take T).imp fun vs H Q E h => by
  obtain ⟨W, n, ds, Qa, a, hl, o, hQ, m, rfl, hm, hlog, hn, q⟩ := h
  cases a with
  | cons a r =>
    cases r with
    | cons b r =>
      cases r
      cases b
      cases a with
      | @deck d b e =>
        obtain ⟨c, D, lc⟩ := o.deck d b e
        refine ⟨d, b, c, m, rfl, D, by omega, hm, hlog, fun H' r D' kp h0 h1 => hQ _ _ (q r h0 h1) H' _ (fun x ob nr hx => kp x ob (fun z => nr (.inl ⟨d, b, e, .inl z⟩)) (fun z => nr (.inl ⟨d, b, e, .inr z⟩)) hx) ⟨fun d' b' e' => ?_, fun p hp => ?_, o.dis⟩ (.int r)⟩
        · rw [e] at e'
          cases e'
          exact ⟨c + 1, D', by omega⟩
        · obtain ⟨h1, h2⟩ := o.owns p hp
          obtain ⟨n1, n2⟩ := o.dis d b e p hp
          exact ⟨kp _ _ n1 n2 h1, h2⟩
/-! ### the law's own def -/
def sp_law (K : PySem.W.Frag) : Sp := fun vs H Q _ => ∃ (a : Addr) (ns : List Int), vs = [.ref a] ∧ Only H ∧ SqL K H a (ns.map V.int) ∧ ns.length ≤ 63 ∧ ∀ H', Q (.bl true) H'
theorem law_start {W : Wd} {ow : List Nat} {n : Nat} {H : Hp} {N : List Str} {k i : Nat} {a d b : Addr} (hk : N.length = k) (h0 : 0 < k) (hi : i ∉ ow) (hd : W.dk = some (d, b)) (o : W.ok K n H) : SOk K W ow n H ((L2.start N [.ref a]).set i (some (.ref d))) (eSet (startA k []) i (some .deck)) [] := by
  have hg : ∀ j e, eGet (eSet (startA k []) i (some .deck)) j = some e → i = j ∧ e = .deck ∧ i < k := fun j e he => by
    by_cases hij : i = j
    · subst hij
      obtain ⟨h1, h2⟩ := eGet_set he
      rw [startA_length] at h1
      exact ⟨rfl, (Option.some.inj h2).symm, h1⟩
    · rw [eGet_ne hij] at he
      exact (startA_none he).elim
  have hlen : (L2.start N [V.ref a]).length = k := by
    unfold L2.start
    rw [List.length_append, List.length_map, List.length_replicate]
    show 1 + (N.length - 1) = k
    omega
  refine ⟨List.nodup_nil, fun u hu => (by cases hu), o, by rw [List.length_set, eSet_length, startA_length, hlen], fun j e _ he => ?_, fun j e hj he => ?_, fun j m p hj hm _ _ _ => .inl ?_⟩
  · obtain ⟨rfl, rfl, hlt⟩ := hg j e he
    exact ⟨_, List.getElem?_set_self (by rw [hlen]; exact hlt), .deck hd⟩
  · obtain ⟨rfl, _⟩ := hg j e he
    exact absurd hj hi
  · cases e : eGet (eSet (startA k []) i (some .deck)) j with
    | none => rfl
    | some e' =>
      obtain ⟨rfl, _⟩ := hg j e' e
      exact absurd hj hi
theorem law_mir {P : Program} {w : World} {mg : Str → Option Value} {base : Heap} {x qual : Str} {st : Stmt} {f : Addr} {fd : FuncData} {N : List Str} {k : Nat} (ow : List Nat) (kk i : Nat) (hk : N.length = kk) (h0 : 0 < kk) (hi : i ∉ ow) (F : Fun K x qual st f fd) (S : FnScope N ["_law_script"] (defScope st))
    (hbody : ∀ (cdv : Value) (Ar : Around) (outer : List Env) (s : Shared) (H : Hp) (E : XK), Room k (Ar.deeper (envOfC qual (defScope st) s.heap.objs.size f cdv)) →
      ∃ (t : TS) (fa : AS), PSs (cxOf CX0 P w K mg base N qual (defScope st) f cdv Ar outer s H E).nox (defBody st) (tSeq (tAsg (tCall (sp_l_deck K) [] E0 (tCons (tVar 0) tNil)) (gName i)) t) ∧ DS K W0 ow t fa ∧ fa (aTop fun d _ => d = .bl true) (eSet (startA kk []) i (some .deck)) 900000) : FnOk P w K mg base CX0 (k + 1) f fd ["_law_script"] (sp_law K) := by
  refine F.ok S (fun vs H Q E h => ?_) (fun cdv Ar outer s H vs Q E hr h => ?_)
  · obtain ⟨a, ns, rfl, _⟩ := h
    rfl
  · obtain ⟨a, ns, rfl, hO, hS, hn, q⟩ := h
    obtain ⟨t, fa, h1, h2, h3⟩ := hbody cdv Ar outer s H E hr
    refine ⟨_, h1, ?_⟩
    refine ⟨.ref a, rfl, a, ns, rfl, Sc.mk hO hS, hn, fun H' d b hd hb D sm => ?_⟩
    refine DS.run (K := K) (Wx := W0) (ow := ow) (t := t) (f := fa) ⟨some (d, b), []⟩ [] _ _ 900000 H' _ (aTop fun d _ => d = .bl true) ⟨fun ρ' n' z => (by cases z), fun d' n' z U1 H1 H2 v _ _ _ a' => ?_, fun _ _ q => q.elim, fun _ _ q => q.elim, fun _ _ _ _ _ q => q.elim⟩ (law_start hk h0 hi rfl ⟨fun d' b' e' => ?_, fun p hp => (by cases hp), fun _ _ _ p hp => (by cases hp)⟩) h3
    · subst z
      cases a'
      exact q _
    · cases e'
      exact ⟨0, D, by omega⟩

/-! ### shares in the mirror -/
def sh (q : Rat) : D := .tup [.int q.num, .int (q.den : Int)]
theorem sh_of {t u a b : Int} (h : IsSh t u) (hb : b ≠ 0) (c : t * b = u * a) : D.tup [.int t, .int u] = sh (Rat.divInt a b) := by
  obtain ⟨h1, h2⟩ := rep_divInt h hb c
  rw [h1, h2]
  rfl
theorem mulA {n m : Nat} {x y : Int} (h : Bd n x) (g : Bd m y) (hn : n ≤ 400000) (hm : m ≤ 400000) : CMulA x y := .inr (h.mulW g hn hm)
theorem divA {n : Nat} {x y : Int} (h : Bd n y) (h0 : 0 < y) (hn : n < 9000) : CDivA x y := .inr (h.divW h0 hn)
theorem dIte {p : Prop} [Decidable p] {a b : Prop} (h : p → a) (g : ¬ p → b) : aIte (decide p) a b := ⟨fun e => h (of_decide_eq_true e), fun e => g (of_decide_eq_false e)⟩
def a_gcd : ASp := fun ds n Q => ∃ a b : Int, ds = [.int a, .int b] ∧ Q (.int (gcdI a b)) n
theorem bits_le {b : Int} (h : Bd 4000 b) : ¬ (((Builtin.Int.intBits (if b < 0 then -b else b) : Nat) : Int) > 4000) := by
  have := PyProof.Rows.intBits_le (a := (if b < 0 then -b else b)) (k := 4000) (by rw [abs_nat]; exact h)
  omega
def a_p_common_divisor : ASp := fun ds n Q => ∃ a b : Int, ds = [.int a, .int b] ∧ Bd 4000 b ∧ Q (.int (gcdI a b)) n
theorem ok_p_common_divisor (T : Tx K mg A) : FnOk P w K mg base CX0 1 A.f_p_common_divisor A.fd_p_common_divisor ["one", "other"] (spOf K 2 a_p_common_divisor) := by
  refine fn_mir [] 2 rfl (by decide) (by decide) T.F_p_common_divisor sc_p_common_divisor fun cdv Ar outer s H E hr => ?_
  refine ⟨_, _, (pss_cons (ps_set (i := 0) sc_p_common_divisor.nd rfl (.inl rfl) (pe_callB k_abs (by rfl) T.m_abs (by decide +kernel) (pa_cons (pv 0) pa_nil)))
    (pss_cons (ps_set (i := 1) sc_p_common_divisor.nd rfl (.inl rfl) (pe_callB k_abs (by rfl) T.m_abs (by decide +kernel) (pa_cons (pv 1) pa_nil)))
    (pss_cons (ps_if (PW.pt (pw_and (pt_cmpR op_gt (pe_bits (pv 0)) (pe_glob (v := .int 4000) (by rfl) T.g_LENGTHY ⟨_, rfl⟩) (nomark _)) (pw_and1 (pt_cmpR op_gt (pe_bits (pv 1)) (pe_glob (v := .int 4000) (by rfl) T.g_LENGTHY ⟨_, rfl⟩) (nomark _)))))
      (pss_one ps_never)
      pss_nil)
    (pss_cons (ps_while PassesOwn.never (pt_cmpR (k_ne (K := K) rfl hr.units) (pv 1) pe_int (nomark _))
      (pss_one (ps_par (i := 0) (j := 1) (by rfl) sc_p_common_divisor.nd rfl rfl (by decide) rfl rfl (pa_cons (pv 1) (pa_cons (pe_op op_mod (pv 0) (pv 1)) pa_nil)) (by rfl))))
    (pss_one (ps_ret (pv 0))))))), by infer_instance, fun ds n Q hl hA => ?_⟩
  obtain ⟨a, b, rfl, hb, q⟩ := hA
  refine dIte (fun _ => dIte (fun e => absurd e (bits_le hb)) (fun _ => ?_)) (fun _ => aF ?_)
  all_goals
    refine ⟨fun m ρ n' => ∃ x y : Nat, ρ = [some (.int (x : Int)), some (.int (y : Int))] ∧ m = y ∧ n' = n ∧ Nat.gcd x y = Nat.gcd a.natAbs b.natAbs, ⟨_, a.natAbs, b.natAbs, by rw [← abs_nat, ← abs_nat]; rfl, rfl, rfl, rfl⟩, ?_⟩
    rintro m _ _ ⟨x, y, rfl, rfl, rfl, g⟩
    refine ⟨fun h => ?_, fun h => ?_⟩
    · have hm : m ≠ 0 := fun z => by subst z; cases h
      refine ⟨(show (0 : Int) < m by omega), x % m, Nat.mod_lt _ (by omega), m, x % m, rfl, rfl, rfl, ?_⟩
      rw [← g, Nat.gcd_comm x m, Nat.gcd_rec m x, Nat.gcd_comm]
    · have hm : m = 0 := by
        have h2 : decide ((m : Int) = 0) = true := by
          have : (!decide ((m : Int) = 0)) = false := h
          simpa using this
        have := of_decide_eq_true h2
        omega
      subst hm
      have e : (x : Int) = gcdI a b := by
        unfold gcdI
        rw [← g, Nat.gcd_zero_right]
      show Q (.int (x : Int)) _
      rw [e]
      exact q
def a_p_plus : ASp := fun ds n Q => ∃ (x y : Rat) (k m : Nat), ds = [sh x, sh y] ∧ BdQ k x ∧ BdQ m y ∧ k ≤ 4000 ∧ m ≤ 4000 ∧ Q (sh (x + y)) n
theorem ok_p_plus (T : Tx K mg A) : FnOk P w K mg base CX0 2 A.f_p_plus A.fd_p_plus ["one", "other"] (spOf K 2 a_p_plus) := by
  refine fn_mir [] 9 rfl (by decide) (by decide) T.F_p_plus sc_p_plus fun cdv Ar outer s H E hr => ?_
  refine ⟨_, _, (pss_cons (ps_asg (pv 0) (k_gtup (K := K) (m := 2) rfl rfl (pgs_cons (pg_name (i := 2) sc_p_plus.nd rfl (.inl rfl)) (pgs_cons (pg_name (i := 3) sc_p_plus.nd rfl (.inl rfl)) pgs_nil))))
    (pss_cons (ps_asg (pv 1) (k_gtup (K := K) (m := 2) rfl rfl (pgs_cons (pg_name (i := 4) sc_p_plus.nd rfl (.inl rfl)) (pgs_cons (pg_name (i := 5) sc_p_plus.nd rfl (.inl rfl)) pgs_nil))))
    (pss_cons (ps_set (i := 6) sc_p_plus.nd rfl (.inl rfl) (pe_call (ok_p_common_divisor (P := P) (K := K) T) (hr.mono (by decide)) (by rfl) T.g_p_common_divisor T.F_p_common_divisor.kp T.b_p_common_divisor .nil pass0 (pa_cons (pv 3) (pa_cons (pv 5) pa_nil))))
    (pss_cons (ps_if (pt_cmpR (k_eq (K := K) rfl hr.units) (pv 6) pe_int (nomark _))
      (pss_one (ps_ret (pe_tup (pa_cons (pe_op (k_add (K := K) rfl) (pe_op k_mul (pv 2) (pv 5)) (pe_op k_mul (pv 4) (pv 3))) (pa_cons (pe_op k_mul (pv 3) (pv 5)) pa_nil)))))
      pss_nil)
    (pss_cons (ps_set (i := 7) sc_p_plus.nd rfl (.inl rfl) (pe_op (k_add (K := K) rfl) (pe_op k_mul (pv 2) (pe_op k_fdiv (pv 5) (pv 6))) (pe_op k_mul (pv 4) (pe_op k_fdiv (pv 3) (pv 6)))))
    (pss_cons (ps_set (i := 8) sc_p_plus.nd rfl (.inl rfl) (pe_call (ok_p_common_divisor (P := P) (K := K) T) (hr.mono (by decide)) (by rfl) T.g_p_common_divisor T.F_p_common_divisor.kp T.b_p_common_divisor .nil pass0 (pa_cons (pv 7) (pa_cons (pv 6) pa_nil))))
    (pss_one (ps_ret (pe_tup (pa_cons (pe_op k_fdiv (pv 7) (pv 8)) (pa_cons (pe_op k_mul (pe_op k_fdiv (pv 3) (pv 6)) (pe_op k_fdiv (pv 5) (pv 8))) pa_nil))))))))))), by infer_instance, fun ds n Q hl hA => ?_⟩
  obtain ⟨x, y, k, m, rfl, bx, bY, hk, hm, q⟩ := hA
  have hx := isSh_q x
  have hy := isSh_q y
  have dx := den_pos x
  have dy := den_pos y
  refine ⟨(x.den : Int), (y.den : Int), rfl, bY.2.le hm, ?_⟩
  refine dIte (fun e => ?_) (fun e => ?_)
  · refine ⟨mulA bx.1 bY.2 (by omega) (by omega), mulA bY.1 bx.2 (by omega) (by omega), mulA bx.2 bY.2 (by omega) (by omega), ?_⟩
    show Q (.tup [.int (x.num * y.den + y.num * x.den), .int ((x.den : Int) * y.den)]) n
    rw [sh_of (plus_one hx hy e) (by have := Int.mul_pos dx dy; omega) (Int.mul_comm _ _), ← add_divInt]
    exact q
  · obtain ⟨d, hd⟩ : ∃ d, gcdI x.den y.den = d := ⟨_, rfl⟩
    rw [hd]
    have hdb : Bd m d := hd ▸ gcdI_bd bY.2 (by omega)
    have hd0 : 0 < d := hd ▸ gcdI_pos (by omega)
    have db1 : Bd m (y.den / d) := bY.2.of_le (div_natAbs_le hd0 (hd ▸ gcdI_dvd_r _ _))
    have db2 : Bd k (x.den / d) := bx.2.of_le (div_natAbs_le hd0 (hd ▸ gcdI_dvd_l _ _))
    refine ⟨divA hdb hd0 (by omega), mulA bx.1 db1 (by omega) (by omega), divA hdb hd0 (by omega), mulA bY.1 db2 (by omega) (by omega), _, d, rfl, hdb.le hm, ?_⟩
    obtain ⟨g, hg⟩ : ∃ g, gcdI (x.num * (y.den / d) + y.num * (x.den / d)) d = g := ⟨_, rfl⟩
    rw [hg]
    have hg0 : 0 < g := hg ▸ gcdI_pos (by omega)
    have hgb : Bd m g := hg ▸ gcdI_bd hdb (by omega)
    have db3 : Bd m (y.den / g) := bY.2.of_le (div_natAbs_le hg0 (Int.dvd_trans (hg ▸ gcdI_dvd_r _ _) (hd ▸ gcdI_dvd_r _ _)))
    refine ⟨divA hgb hg0 (by omega), divA hdb hd0 (by omega), divA hgb hg0 (by omega), mulA db2 db3 (by omega) (by omega), ?_⟩
    obtain ⟨h1, h2⟩ := plus_two hx hy hd rfl hg
    show Q (.tup [.int _, .int _]) n
    rw [sh_of h1 (by have := Int.mul_pos dx dy; omega) h2, ← add_divInt]
    exact q
def a_p_times : ASp := fun ds n Q => ∃ (x y : Rat) (k m : Nat), ds = [sh x, sh y] ∧ BdQ k x ∧ BdQ m y ∧ k ≤ 4000 ∧ m ≤ 4000 ∧ Q (sh (x * y)) n
theorem ok_p_times (T : Tx K mg A) : FnOk P w K mg base CX0 2 A.f_p_times A.fd_p_times ["one", "other"] (spOf K 2 a_p_times) := by
  refine fn_mir [] 8 rfl (by decide) (by decide) T.F_p_times sc_p_times fun cdv Ar outer s H E hr => ?_
  refine ⟨_, _, (pss_cons (ps_asg (pv 0) (k_gtup (K := K) (m := 2) rfl rfl (pgs_cons (pg_name (i := 2) sc_p_times.nd rfl (.inl rfl)) (pgs_cons (pg_name (i := 3) sc_p_times.nd rfl (.inl rfl)) pgs_nil))))
    (pss_cons (ps_asg (pv 1) (k_gtup (K := K) (m := 2) rfl rfl (pgs_cons (pg_name (i := 4) sc_p_times.nd rfl (.inl rfl)) (pgs_cons (pg_name (i := 5) sc_p_times.nd rfl (.inl rfl)) pgs_nil))))
    (pss_cons (ps_set (i := 6) sc_p_times.nd rfl (.inl rfl) (pe_call (ok_p_common_divisor (P := P) (K := K) T) (hr.mono (by decide)) (by rfl) T.g_p_common_divisor T.F_p_common_divisor.kp T.b_p_common_divisor .nil pass0 (pa_cons (pv 2) (pa_cons (pv 5) pa_nil))))
    (pss_cons (ps_set (i := 7) sc_p_times.nd rfl (.inl rfl) (pe_call (ok_p_common_divisor (P := P) (K := K) T) (hr.mono (by decide)) (by rfl) T.g_p_common_divisor T.F_p_common_divisor.kp T.b_p_common_divisor .nil pass0 (pa_cons (pv 4) (pa_cons (pv 3) pa_nil))))
    (pss_one (ps_ret (pe_tup (pa_cons (pe_op k_mul (pe_op k_fdiv (pv 2) (pv 6)) (pe_op k_fdiv (pv 4) (pv 7))) (pa_cons (pe_op k_mul (pe_op k_fdiv (pv 3) (pv 7)) (pe_op k_fdiv (pv 5) (pv 6))) pa_nil))))))))), by infer_instance, fun ds n Q hl hA => ?_⟩
  obtain ⟨x, y, k, m, rfl, bx, bY, hk, hm, q⟩ := hA
  have hx := isSh_q x
  have hy := isSh_q y
  have dx := den_pos x
  have dy := den_pos y
  obtain ⟨d, hd⟩ : ∃ d, gcdI x.num y.den = d := ⟨_, rfl⟩
  obtain ⟨e, he⟩ : ∃ e, gcdI y.num x.den = e := ⟨_, rfl⟩
  refine ⟨x.num, (y.den : Int), rfl, bY.2.le hm, ?_⟩
  rw [hd]
  refine ⟨y.num, (x.den : Int), rfl, bx.2.le hk, ?_⟩
  rw [he]
  have hd0 : 0 < d := hd ▸ gcdI_pos (by omega)
  have he0 : 0 < e := he ▸ gcdI_pos (by omega)
  have hdb : Bd m d := hd ▸ gcdI_bd bY.2 (by omega)
  have heb : Bd k e := he ▸ gcdI_bd bx.2 (by omega)
  have b1 : Bd k (x.num / d) := bx.1.of_le (div_natAbs_le hd0 (hd ▸ gcdI_dvd_l _ _))
  have b2 : Bd m (y.num / e) := bY.1.of_le (div_natAbs_le he0 (he ▸ gcdI_dvd_l _ _))
  have b3 : Bd k (x.den / e) := bx.2.of_le (div_natAbs_le he0 (he ▸ gcdI_dvd_r _ _))
  have b4 : Bd m (y.den / d) := bY.2.of_le (div_natAbs_le hd0 (hd ▸ gcdI_dvd_r _ _))
  refine ⟨divA hdb hd0 (by omega), divA heb he0 (by omega), mulA b1 b2 (by omega) (by omega), divA heb he0 (by omega), divA hdb hd0 (by omega), mulA b3 b4 (by omega) (by omega), ?_⟩
  obtain ⟨h1, h2⟩ := times_one hx hy hd he
  show Q (.tup [.int _, .int _]) n
  rw [sh_of h1 (by have := Int.mul_pos dx dy; omega) h2, ← mul_divInt]
  exact q
def a_p_over : ASp := fun ds n Q => ∃ (x y : Rat) (k m : Nat), ds = [sh x, sh y] ∧ BdQ k x ∧ BdQ m y ∧ k ≤ 4000 ∧ m ≤ 4000 ∧ y ≠ 0 ∧ Q (sh (x / y)) n
theorem ok_p_over (T : Tx K mg A) : FnOk P w K mg base CX0 3 A.f_p_over A.fd_p_over ["one", "other"] (spOf K 2 a_p_over) := by
  refine fn_mir [] 4 rfl (by decide) (by decide) T.F_p_over sc_p_over fun cdv Ar outer s H E hr => ?_
  refine ⟨_, _, (pss_cons (ps_asg (pv 1) (k_gtup (K := K) (m := 2) rfl rfl (pgs_cons (pg_name (i := 2) sc_p_over.nd rfl (.inl rfl)) (pgs_cons (pg_name (i := 3) sc_p_over.nd rfl (.inl rfl)) pgs_nil))))
    (pss_cons (ps_if (pt_cmpR (k_eq (K := K) rfl hr.units) (pv 2) pe_int (nomark _))
      (pss_one ps_never)
      pss_nil)
    (pss_cons (ps_if (pt_cmpR op_lt (pv 2) pe_int (nomark _))
      (pss_one (ps_ret (pe_call (ok_p_times (P := P) (K := K) T) (hr.mono (by decide)) (by rfl) T.g_p_times T.F_p_times.kp T.b_p_times .nil pass0 (pa_cons (pv 0) (pa_cons (pe_tup (pa_cons (pe_un un_neg (pv 3)) (pa_cons (pe_un un_neg (pv 2)) pa_nil))) pa_nil)))))
      pss_nil)
    (pss_one (ps_ret (pe_call (ok_p_times (P := P) (K := K) T) (hr.mono (by decide)) (by rfl) T.g_p_times T.F_p_times.kp T.b_p_times .nil pass0 (pa_cons (pv 0) (pa_cons (pe_tup (pa_cons (pv 3) (pa_cons (pv 2) pa_nil))) pa_nil)))))))), by infer_instance, fun ds n Q hl hA => ?_⟩
  obtain ⟨x, y, k, m, rfl, bx, bY, hk, hm, h0, q⟩ := hA
  have hn : y.num ≠ 0 := fun z => h0 (Rat.num_eq_zero.mp z)
  refine dIte (fun e => absurd e hn) (fun _ => ?_)
  refine dIte (fun e => ?_) (fun e => ?_)
  · obtain ⟨i1, i2⟩ := inv_rep_neg e
    refine ⟨x, y⁻¹, k, m, ?_, bx, ⟨by rw [i1]; exact bY.2.neg, by rw [i2]; exact bY.1.neg⟩, hk, hm, ?_⟩
    · show [sh x, D.tup [.int (-(y.den : Int)), .int (-y.num)]] = [sh x, D.tup [.int (y⁻¹).num, .int ((y⁻¹).den : Int)]]
      rw [i1, i2]
    · rw [← Rat.div_def]
      exact q
  · obtain ⟨i1, i2⟩ := inv_rep (q := y) (by omega)
    refine ⟨x, y⁻¹, k, m, ?_, bx, ⟨by rw [i1]; exact bY.2, by rw [i2]; exact bY.1⟩, hk, hm, ?_⟩
    · show [sh x, D.tup [.int (y.den : Int), .int y.num]] = [sh x, D.tup [.int (y⁻¹).num, .int ((y⁻¹).den : Int)]]
      rw [i1, i2]
    · rw [← Rat.div_def]
      exact q
theorem kon_NOUGHT' {K : PySem.W.Frag} {a : Addr} (h : ∀ H, SqT K H a [.int 0, .int 1]) : Kon K a (sh 0) := ⟨fun W H => .tup (h H) (.cons (.int _) (.cons (.int _) .nil))⟩

/-! ### spots in the mirror -/
def spt (x y : Rat) : D := .tup [sh x, sh y]
theorem bdq_int {n : Nat} {p : Int} (h : Bd n p) (hn : 0 < n) : BdQ n (p : Rat) := ⟨h, Nat.one_lt_two_pow (by omega)⟩
def a_along (f : Int → Int → Rat → Rat → Rat) : ASp := fun ds n Q => ∃ (p q : Int) (x y : Rat) (k m : Nat), ds = [.tup [.int p, .int q], spt x y] ∧ Bd m p ∧ Bd m q ∧ BdQ k x ∧ BdQ k y ∧ 0 < m ∧ k ≤ 2500 ∧ m ≤ 1500 ∧ Q (sh (f p q x y)) n
def a_p_along : ASp := a_along fun p q x y => p * x + q * y
theorem ok_p_along (T : Tx K mg A) : FnOk P w K mg base CX0 3 A.f_p_along A.fd_p_along ["way", "spot"] (spOf K 2 a_p_along) := by
  refine fn_mir [] 6 rfl (by decide) (by decide) T.F_p_along sc_p_along fun cdv Ar outer s H E hr => ?_
  refine ⟨_, _, (pss_cons (ps_asg (pv 0) (k_gtup (K := K) (m := 2) rfl rfl (pgs_cons (pg_name (i := 2) sc_p_along.nd rfl (.inl rfl)) (pgs_cons (pg_name (i := 3) sc_p_along.nd rfl (.inl rfl)) pgs_nil))))
    (pss_cons (ps_asg (pv 1) (k_gtup (K := K) (m := 2) rfl rfl (pgs_cons (pg_name (i := 4) sc_p_along.nd rfl (.inl rfl)) (pgs_cons (pg_name (i := 5) sc_p_along.nd rfl (.inl rfl)) pgs_nil))))
    (pss_one (ps_ret (pe_call (ok_p_plus (P := P) (K := K) T) (hr.mono (by decide)) (by rfl) T.g_p_plus T.F_p_plus.kp T.b_p_plus .nil pass0 (pa_cons (pe_call (ok_p_times (P := P) (K := K) T) (hr.mono (by decide)) (by rfl) T.g_p_times T.F_p_times.kp T.b_p_times .nil pass0 (pa_cons (pe_tup (pa_cons (pv 2) (pa_cons pe_int pa_nil))) (pa_cons (pv 4) pa_nil))) (pa_cons (pe_call (ok_p_times (P := P) (K := K) T) (hr.mono (by decide)) (by rfl) T.g_p_times T.F_p_times.kp T.b_p_times .nil pass0 (pa_cons (pe_tup (pa_cons (pv 3) (pa_cons pe_int pa_nil))) (pa_cons (pv 5) pa_nil))) pa_nil))))))), by infer_instance, fun ds n Q hl hA => ?_⟩
  obtain ⟨p, q, x, y, k, m, rfl, bp, bq, bx, bY, hm0, hk, hm, Qk⟩ := hA
  refine ⟨(p : Rat), x, m, k, rfl, bdq_int bp hm0, bx, by omega, by omega, ?_⟩
  refine ⟨(q : Rat), y, m, k, rfl, bdq_int bq hm0, bY, by omega, by omega, ?_⟩
  exact ⟨_, _, m + k, m + k, rfl, (bdq_int bp hm0).mul bx, (bdq_int bq hm0).mul bY, by omega, by omega, Qk⟩
def a_spot2 (f : Rat → Rat → Rat) : ASp := fun ds n Q => ∃ (x y x' y' : Rat) (k m : Nat), ds = [spt x y, spt x' y'] ∧ BdQ k x ∧ BdQ k y ∧ BdQ m x' ∧ BdQ m y' ∧ k ≤ 4000 ∧ m ≤ 4000 ∧ Q (spt (f x x') (f y y')) n
def a_p_spot_plus : ASp := a_spot2 (· + ·)
theorem ok_p_spot_plus (T : Tx K mg A) : FnOk P w K mg base CX0 3 A.f_p_spot_plus A.fd_p_spot_plus ["one", "other"] (spOf K 2 a_p_spot_plus) := by
  refine fn_mir [] 2 rfl (by decide) (by decide) T.F_p_spot_plus sc_p_spot_plus fun cdv Ar outer s H E hr => ?_
  refine ⟨_, _, (pss_one (ps_ret (pe_tup (pa_cons (pe_call (ok_p_plus (P := P) (K := K) T) (hr.mono (by decide)) (by rfl) T.g_p_plus T.F_p_plus.kp T.b_p_plus .nil pass0 (pa_cons (pe_ix (k_ix (K := K) rfl) (pv 0) pe_int (fun _ _ => rfl)) (pa_cons (pe_ix (k_ix (K := K) rfl) (pv 1) pe_int (fun _ _ => rfl)) pa_nil))) (pa_cons (pe_call (ok_p_plus (P := P) (K := K) T) (hr.mono (by decide)) (by rfl) T.g_p_plus T.F_p_plus.kp T.b_p_plus .nil pass0 (pa_cons (pe_ix (k_ix (K := K) rfl) (pv 0) pe_int (fun _ _ => rfl)) (pa_cons (pe_ix (k_ix (K := K) rfl) (pv 1) pe_int (fun _ _ => rfl)) pa_nil))) pa_nil))))), by infer_instance, fun ds n Q hl hA => ?_⟩
  obtain ⟨x, y, x', y', k, m, rfl, b1, b2, b3, b4, hk, hm, q⟩ := hA
  exact ⟨x, x', k, m, rfl, b1, b3, hk, hm, y, y', k, m, rfl, b2, b4, hk, hm, q⟩
def a_p_spot_times : ASp := fun ds n Q => ∃ (x y z : Rat) (k m : Nat), ds = [spt x y, sh z] ∧ BdQ k x ∧ BdQ k y ∧ BdQ m z ∧ k ≤ 4000 ∧ m ≤ 4000 ∧ Q (spt (x * z) (y * z)) n
theorem ok_p_spot_times (T : Tx K mg A) : FnOk P w K mg base CX0 3 A.f_p_spot_times A.fd_p_spot_times ["spot", "share"] (spOf K 2 a_p_spot_times) := by
  refine fn_mir [] 2 rfl (by decide) (by decide) T.F_p_spot_times sc_p_spot_times fun cdv Ar outer s H E hr => ?_
  refine ⟨_, _, (pss_one (ps_ret (pe_tup (pa_cons (pe_call (ok_p_times (P := P) (K := K) T) (hr.mono (by decide)) (by rfl) T.g_p_times T.F_p_times.kp T.b_p_times .nil pass0 (pa_cons (pe_ix (k_ix (K := K) rfl) (pv 0) pe_int (fun _ _ => rfl)) (pa_cons (pv 1) pa_nil))) (pa_cons (pe_call (ok_p_times (P := P) (K := K) T) (hr.mono (by decide)) (by rfl) T.g_p_times T.F_p_times.kp T.b_p_times .nil pass0 (pa_cons (pe_ix (k_ix (K := K) rfl) (pv 0) pe_int (fun _ _ => rfl)) (pa_cons (pv 1) pa_nil))) pa_nil))))), by infer_instance, fun ds n Q hl hA => ?_⟩
  obtain ⟨x, y, z, k, m, rfl, b1, b2, b3, hk, hm, q⟩ := hA
  exact ⟨x, z, k, m, rfl, b1, b3, hk, hm, y, z, k, m, rfl, b2, b3, hk, hm, q⟩

/-! CUT -/
/-! ### a body's object is made -/
def flds (ar : Addr) (nm : V) (m : Int) : List (Str × V) := putF "mass" (.int m) (putF "name" nm (putF "row" (.ref ar) []))
theorem n1 : ¬ (("row" : Str) = "mass") := by decide +kernel
theorem n2 : ¬ (("row" : Str) = "name") := by decide +kernel
theorem n3 : ¬ (("name" : Str) = "mass") := by decide +kernel
abbrev bNs : List Str := ["row", "name", "mass"]
theorem flds_eq (ar : Addr) (nm : V) (m : Int) : flds ar nm m = bNs.zip [.ref ar, nm, .int m] := by
  have e1 : putF "row" (V.ref ar) [] = [(("row" : Str), V.ref ar)] := rfl
  have e2 : putF "name" nm [(("row" : Str), V.ref ar)] = (("row" : Str), V.ref ar) :: [(("name" : Str), nm)] := by
    show (if ("row" : Str) = "name" then [(("name" : Str), nm)] else (("row" : Str), V.ref ar) :: putF "name" nm []) = _
    rw [if_neg n2]
    rfl
  have e3 : putF "mass" (V.int m) ((("row" : Str), V.ref ar) :: [(("name" : Str), nm)]) = (("row" : Str), V.ref ar) :: (("name" : Str), nm) :: [(("mass" : Str), V.int m)] := by
    show (if ("row" : Str) = "mass" then (("mass" : Str), V.int m) :: [(("name" : Str), nm)] else (("row" : Str), V.ref ar) :: (if ("name" : Str) = "mass" then [(("mass" : Str), V.int m)] else (("name" : Str), nm) :: putF "mass" (V.int m) [])) = _
    rw [if_neg n1, if_neg n3]
    rfl
  unfold flds
  rw [e1, e2, e3]
  rfl
theorem look_row {a b c : D} : (bNs.zip [a, b, c]).lookup ("row" : Str) = some a := by
  show List.lookup ("row" : Str) [(("row" : Str), a), (("name" : Str), b), (("mass" : Str), c)] = some a
  rw [List.lookup_cons, beq_self_eq_true]
theorem look_name {a b c : D} : (bNs.zip [a, b, c]).lookup ("name" : Str) = some b := by
  show List.lookup ("name" : Str) [(("row" : Str), a), (("name" : Str), b), (("mass" : Str), c)] = some b
  rw [List.lookup_cons, beq_eq_false_iff_ne.mpr (Ne.symm n2), List.lookup_cons, beq_self_eq_true]
theorem look_mass {a b c : D} : (bNs.zip [a, b, c]).lookup ("mass" : Str) = some c := by
  show List.lookup ("mass" : Str) [(("row" : Str), a), (("name" : Str), b), (("mass" : Str), c)] = some c
  rw [List.lookup_cons, beq_eq_false_iff_ne.mpr (Ne.symm n1), List.lookup_cons, beq_eq_false_iff_ne.mpr (Ne.symm n3), List.lookup_cons, beq_self_eq_true]
theorem SqT.ins {K : PySem.W.Frag} {H : Hp} {a x C dx : Addr} {xs : List V} {fs : List (Str × V)} {o : HO} (h : SqT K H a xs) (hx : H x = some (.ins C dx fs)) : SqT K (upd H x o) a xs := by
  rcases h with (h | ⟨o', h⟩) | h
  · exact .inl (.inl (by rw [upd_ne (fun e => by rw [e, hx] at h; cases h)]; exact h))
  · exact .inl (.inr ⟨o', by rw [upd_ne (fun e => by rw [e, hx] at h; cases h)]; exact h⟩)
  · exact .inr h
def sp_init (K : PySem.W.Frag) : Sp := fun vs H Q _ => ∃ (x dx ar C : Addr) (nm sh rl pl st : V) (m : Int), vs = [.ref x, .ref ar] ∧ H x = some (.ins C dx []) ∧ SqT K H ar [nm, sh, .int m, rl, pl, st] ∧ Cls K C ∧ NoAttr K C "row" ∧ NoAttr K C "name" ∧ NoAttr K C "mass" ∧ ∀ H', (∀ b o, b ≠ x → H b = some o → H' b = some o) → H' x = some (.ins C dx (flds ar nm m)) → Q .non H'
theorem ok_m_Body___init__ (T : Tx K mg A) : FnOk P w K mg base CX0 1 A.f_m_Body___init__ A.fd_m_Body___init__ ["self", "row"] (sp_init K) := by
  refine T.F_m_Body___init__.ok sc_m_Body___init__ (fun vs H Q E h => ?_) (fun cdv Ar outer s H vs Q E hr h => ?_)
  · obtain ⟨x, dx, ar, C, nm, sh, rl, pl, st, m, rfl, _⟩ := h
    rfl
  · obtain ⟨x, dx, ar, C, nm, sh, rl, pl, st, m, rfl, hx, hA, cl, n1, n2, n3, q⟩ := h
    refine ⟨_, (pss_cons (ps_fld (pv 0) (pv 1) rfl)
    (pss_cons (ps_fld (pv 0) (pe_ix ix_tup (pv 1) pe_int (fun _ _ => rfl)) rfl)
    (pss_one (ps_fld (pv 0) (pe_ix ix_tup (pv 1) pe_int (fun _ _ => rfl)) rfl)))), ?_⟩
    refine ⟨_, rfl, _, rfl, x, C, dx, [], rfl, hx, cl, n1, (by show 0 < 1000; decide), ?_⟩
    have hA1 := SqT.ins (o := .ins C dx (putF "row" (.ref ar) [])) hA hx
    refine ⟨_, rfl, ar, _, 0, _, rfl, rfl, hA1, rfl, _, rfl, x, C, dx, _, rfl, upd_same, cl, n2, (by show 1 < 1000; decide), ?_⟩
    have hA2 := SqT.ins (o := .ins C dx (putF "name" nm (putF "row" (.ref ar) []))) hA1 upd_same
    refine ⟨_, rfl, ar, _, 2, _, rfl, rfl, hA2, rfl, _, rfl, x, C, dx, _, rfl, upd_same, cl, n3, ?_, ?_⟩
    · have e : (putF "name" nm (putF "row" (V.ref ar) [])).length ≤ 2 := by
        show (if ("row" : Str) = "name" then [(("name" : Str), nm)] else (("row" : Str), V.ref ar) :: putF "name" nm []).length ≤ 2
        rw [if_neg R.n2]
        exact Nat.le_refl 2
      omega
    · refine q _ (fun b o hb e => ?_) upd_same
      rw [upd_ne hb, upd_ne hb, upd_ne hb]
      exact e
structure InitC (K : PySem.W.Frag) (C : Addr) : Prop where
  cl : Cls K C
  r : NoAttr K C "row"
  n : NoAttr K C "name"
  m : NoAttr K C "mass"
def aMk (K : PySem.W.Frag) (C : Addr) (fa : AE) : AE := fun ρ n Q => fa ρ n fun d n1 => match d with
  | .tup [nm, sh, .int m, rl, pl, st] => InitC K C ∧ Q (.ins C bNs [.tup [nm, sh, .int m, rl, pl, st], nm, .int m]) n1
  | _ => False
instance {C : Addr} {te : TE} {fa : AE} [DE K te fa] : DE K (tMake C (sp_init K) [] E0 (tCons te tNil)) (aMk K C fa) := ⟨fun W σ ρ n H Q Qa hQ hE o h =>
  DE.run (te := te) (f := fa) W σ ρ n H _ _ (fun d n1 h1 H1 x l1 o1 ax => by
    split at h1
    · obtain ⟨ic, h1⟩ := h1
      intro z dx hz hdx hne
      cases ax with
      | @tup a xs _ s b =>
        cases b with
        | cons b1 b =>
          cases b with
          | cons b2 b =>
            cases b with
            | cons b3 b =>
              cases b with
              | cons b4 b =>
                cases b with
                | cons b5 b =>
                  cases b with
                  | cons b6 b =>
                    cases b
                    cases b3
                    have two : Same H1 (upd (upd H1 dx (.own z)) z (.ins C dx [])) := fun b' o' h' => by
                      rw [upd_ne (ne_of_none h' hz), upd_ne (ne_of_none h' hdx)]
                      exact h'
                    refine ⟨z, dx, a, C, _, _, _, _, _, _, rfl, upd_same, Same.seqT two s, ic.cl, ic.r, ic.n, ic.m, fun H' hk he => ⟨rfl, ?_⟩⟩
                    have sm : Same H1 H' := fun b' o' h' => hk b' o' (ne_of_none h' hz) (two b' o' h')
                    rw [flds_eq] at he
                    have lw : W.le H1 H' := Wd.le_same sm
                    exact (hQ.le l1) _ _ h1 H' _ lw (o1.same sm) (.ins he rfl (.cons (At.le o1 lw _ (.tup s (.cons b1 (.cons b2 (.cons (.int _) (.cons b4 (.cons b5 (.cons b6 .nil)))))))) (.cons (At.le o1 lw _ b1) (.cons (.int _) .nil))))
    · exact h1.elim) hE o h⟩

/-! ### onto a rail -/
def railC (p q m : Int) (x y : Rat) : Rat := ((p : Rat) * x + (q : Rat) * y) / ((m * (p * p + q * q) : Int) : Rat)
theorem sq_pos {p q : Int} (h : ¬ (p = 0 ∧ q = 0)) : 0 < p * p + q * q := by
  have h1 : 0 ≤ p * p := by rw [← Int.natAbs_mul_self]; exact Int.natCast_nonneg _
  have h2 : 0 ≤ q * q := by rw [← Int.natAbs_mul_self]; exact Int.natCast_nonneg _
  rcases Int.lt_or_eq_of_le (Int.add_nonneg h1 h2) with z | z
  · exact z
  · refine absurd ⟨?_, ?_⟩ h
    · rcases Int.mul_eq_zero.mp (show p * p = 0 by omega) with e | e <;> exact e
    · rcases Int.mul_eq_zero.mp (show q * q = 0 by omega) with e | e <;> exact e
theorem BdQ.div {n m : Nat} {x : Rat} {k : Int} (h : BdQ n x) (hk : 0 < k) (bk : Bd m k) (hm : 0 < m) : BdQ (n + m) (x / (k : Rat)) := by
  rw [Rat.div_def]
  refine h.mul ?_
  obtain ⟨i1, i2⟩ := inv_rep (q := (k : Rat)) hk
  exact ⟨by rw [i1]; exact Nat.one_lt_two_pow (by omega), by rw [i2]; exact bk⟩
theorem int_ne0 {k : Int} (h : 0 < k) : (k : Rat) ≠ 0 := fun z => by
  have : k = 0 := by exact_mod_cast z
  omega
def a_p_onto_rail : ASp := fun ds n Q => ∃ (p q m : Int) (x y : Rat) (k : Nat), ds = [.tup [.int p, .int q], spt x y, .int m] ∧ Bd 21 p ∧ Bd 21 q ∧ ¬ (p = 0 ∧ q = 0) ∧ 0 < m ∧ Bd 21 m ∧ BdQ k x ∧ BdQ k y ∧ k ≤ 500 ∧ Q (spt ((p : Rat) * railC p q m x y) ((q : Rat) * railC p q m x y)) n
theorem ok_p_onto_rail (T : Tx K mg A) : FnOk P w K mg base CX0 4 A.f_p_onto_rail A.fd_p_onto_rail ["rail", "spot", "mass"] (spOf K 3 a_p_onto_rail) := by
  refine fn_mir [] 6 rfl (by decide) (by decide) T.F_p_onto_rail sc_p_onto_rail fun cdv Ar outer s H E hr => ?_
  refine ⟨_, _, (pss_cons (ps_asg (pv 0) (k_gtup (K := K) (m := 2) rfl rfl (pgs_cons (pg_name (i := 3) sc_p_onto_rail.nd rfl (.inl rfl)) (pgs_cons (pg_name (i := 4) sc_p_onto_rail.nd rfl (.inl rfl)) pgs_nil))))
    (pss_cons (ps_set (i := 5) sc_p_onto_rail.nd rfl (.inl rfl) (pe_call (ok_p_over (P := P) (K := K) T) (hr.mono (by decide)) (by rfl) T.g_p_over T.F_p_over.kp T.b_p_over .nil pass0 (pa_cons (pe_call (ok_p_along (P := P) (K := K) T) (hr.mono (by decide)) (by rfl) T.g_p_along T.F_p_along.kp T.b_p_along .nil pass0 (pa_cons (pv 0) (pa_cons (pv 1) pa_nil))) (pa_cons (pe_tup (pa_cons (pe_op k_mul (pv 2) (pe_op (k_add (K := K) rfl) (pe_op k_mul (pv 3) (pv 3)) (pe_op k_mul (pv 4) (pv 4)))) (pa_cons pe_int pa_nil))) pa_nil))))
    (pss_one (ps_ret (pe_tup (pa_cons (pe_call (ok_p_times (P := P) (K := K) T) (hr.mono (by decide)) (by rfl) T.g_p_times T.F_p_times.kp T.b_p_times .nil pass0 (pa_cons (pe_tup (pa_cons (pv 3) (pa_cons pe_int pa_nil))) (pa_cons (pv 5) pa_nil))) (pa_cons (pe_call (ok_p_times (P := P) (K := K) T) (hr.mono (by decide)) (by rfl) T.g_p_times T.F_p_times.kp T.b_p_times .nil pass0 (pa_cons (pe_tup (pa_cons (pv 4) (pa_cons pe_int pa_nil))) (pa_cons (pv 5) pa_nil))) pa_nil))))))), by infer_instance, fun ds n Q hl hA => ?_⟩
  obtain ⟨p, q, m, x, y, k, rfl, bp, bq, h0, hm, bm, bx, bY, hk, Qk⟩ := hA
  have hsq := sq_pos h0
  have hN : 0 < m * (p * p + q * q) := Int.mul_pos hm hsq
  have bN : Bd 64 (m * (p * p + q * q)) := bm.mul ((bp.mul bp).add (bq.mul bq))
  have bal : BdQ (21 + k + (21 + k) + 1) ((p : Rat) * x + (q : Rat) * y) := ((bdq_int bp (by decide)).mul bx).add ((bdq_int bq (by decide)).mul bY)
  have bc : BdQ (21 + k + (21 + k) + 1 + 64) (railC p q m x y) := bal.div hN bN (by decide)
  refine ⟨p, q, x, y, k, 21, rfl, bp, bq, bx, bY, by decide, by omega, by decide, ?_⟩
  refine ⟨mulA bp bp (by decide) (by decide), mulA bq bq (by decide) (by decide), mulA bm ((bp.mul bp).add (bq.mul bq)) (by decide) (by decide), ?_⟩
  refine ⟨_, ((m * (p * p + q * q) : Int) : Rat), _, 64, rfl, bal, bdq_int bN (by decide), by omega, by decide, int_ne0 hN, ?_⟩
  refine ⟨(p : Rat), railC p q m x y, 21, _, rfl, bdq_int bp (by decide), bc, by decide, by omega, ?_⟩
  exact ⟨(q : Rat), railC p q m x y, 21, _, rfl, bdq_int bq (by decide), bc, by decide, by omega, Qk⟩
/-! ### the kinds of bodies -/
inductive Kn where
  | wall
  | free (m : Int)
  | rail (m p q : Int)
def Kn.mass : Kn → Int
  | .wall => 0
  | .free m => m
  | .rail m _ _ => m
def Kn.rl : Kn → D
  | .wall => .non
  | .free _ => .non
  | .rail _ p q => .tup [.int p, .int q]
def Kn.kd : Kn → Kd
  | .wall => .w
  | .free _ => .f
  | .rail _ _ _ => .r
def Kd.cls (A : Ad) : Kd → Addr
  | .w => A.c_Wall
  | .f => A.c_Free
  | .r => A.c_Railed
def Kn.ans : Kn → Rat → Rat → Rat × Rat
  | .wall, _, _ => (0, 0)
  | .free m, x, y => (x * (m : Rat)⁻¹, y * (m : Rat)⁻¹)
  | .rail m p q, x, y => ((p : Rat) * railC p q m x y, (q : Rat) * railC p q m x y)
def Kn.kick : Kn → Rat → Rat → Rat × Rat
  | .wall, _, _ => (0, 0)
  | .free _, x, y => (x, y)
  | .rail _ p q, x, y => ((p : Rat) * railC p q 1 x y, (q : Rat) * railC p q 1 x y)
def Kn.may : Kn → Rat → Rat → Bool
  | .wall, x, y => decide (x = 0 ∧ y = 0)
  | .free _, _, _ => true
  | .rail _ p q, x, y => decide ((p : Rat) * y - (q : Rat) * x = 0)
def Kn.Ok : Kn → Prop
  | .wall => True
  | .free m => 0 < m ∧ Bd 21 m
  | .rail m p q => 0 < m ∧ Bd 21 m ∧ Bd 21 p ∧ Bd 21 q ∧ ¬ (p = 0 ∧ q = 0)
def rowD (kn : Kn) (nm sh pl st : D) : D := .tup [nm, sh, .int kn.mass, kn.rl, pl, st]
def bodyD (A : Ad) (kn : Kn) (nm sh pl st : D) : D := .ins (kn.kd.cls A) bNs [rowD kn nm sh pl st, nm, .int kn.mass]
def a_ans (A : Ad) (f : Kn → Rat → Rat → Rat × Rat) (kd : Kd) : ASp := fun ds n Q => ∃ (kn : Kn) (nm sh pl st : D) (x y : Rat) (k : Nat), ds = [bodyD A kn nm sh pl st, spt x y] ∧ kn.kd = kd ∧ kn.Ok ∧ BdQ k x ∧ BdQ k y ∧ k ≤ 500 ∧ Q (spt (f kn x y).1 (f kn x y).2) n
def a_may (A : Ad) (kd : Kd) : ASp := fun ds n Q => ∃ (kn : Kn) (nm sh pl st : D) (x y : Rat) (k : Nat), ds = [bodyD A kn nm sh pl st, spt x y] ∧ kn.kd = kd ∧ kn.Ok ∧ BdQ k x ∧ BdQ k y ∧ k ≤ 1400 ∧ Q (.bl (kn.may x y)) n
theorem init_Wall (T : Tx K mg A) : InitC K A.c_Wall := ⟨T.cl_Wall, T.na_Wall_row, T.na_Wall_name, T.na_Wall_mass⟩
theorem init_Free (T : Tx K mg A) : InitC K A.c_Free := ⟨T.cl_Free, T.na_Free_row, T.na_Free_name, T.na_Free_mass⟩
theorem init_Railed (T : Tx K mg A) : InitC K A.c_Railed := ⟨T.cl_Railed, T.na_Railed_row, T.na_Railed_name, T.na_Railed_mass⟩
theorem still_eq : D.tup [.tup [.int 0, .int 1], .tup [.int 0, .int 1]] = spt 0 0 := rfl
theorem kon_STILL (T : Tx K mg A) : Kon K A.n_STILL (spt 0 0) := ⟨fun W H => by
  obtain ⟨b1, b2, t0, t1, t2⟩ := T.t_STILL
  exact .tup (t0 H) (.cons (.tup (t1 H) (.cons (.int _) (.cons (.int _) .nil))) (.cons (.tup (t2 H) (.cons (.int _) (.cons (.int _) .nil))) .nil))⟩
theorem ok_m_Wall_answer (T : Tx K mg A) : FnOk P w K mg base CX0 8 A.f_m_Wall_answer A.fd_m_Wall_answer ["self", "push"] (spOf K 2 (a_ans A Kn.ans .w)) := by
  refine fn_mir [] 2 rfl (by decide) (by decide) T.F_m_Wall_answer sc_m_Wall_answer fun cdv Ar outer s H E hr => ?_
  haveI := kon_STILL (K := K) T
  refine ⟨_, _, (pss_one (ps_ret (k_kon (by rfl) T.g_STILL))), by infer_instance, fun ds n Q hl hA => ?_⟩
  obtain ⟨kn, nm, shp, pl, st, x, y, k, rfl, hk, ok, bx, bY, hb, q⟩ := hA
  cases kn <;> cases hk
  exact q
theorem eqv_sp0 (x y : Rat) : PyData.eqv (spt x y).pd (spt 0 0).pd = decide (x = 0 ∧ y = 0) := by
  have e1 : PyData.eqv (spt x y).pd (spt 0 0).pd = (((x.num == 0) && (((x.den : Int) == 1) && true)) && ((((y.num == 0) && (((y.den : Int) == 1) && true))) && true)) := rfl
  rw [e1]
  by_cases h : x = 0 ∧ y = 0
  · rw [h.1, h.2]
    rfl
  · rw [decide_eq_false h]
    cases e : (((x.num == 0) && (((x.den : Int) == 1) && true)) && ((((y.num == 0) && (((y.den : Int) == 1) && true))) && true)) with
    | false => rfl
    | true =>
      refine absurd ?_ h
      simp only [Bool.and_eq_true, beq_iff_eq, Bool.and_true] at e
      exact ⟨Rat.num_eq_zero.mp e.1.1, Rat.num_eq_zero.mp e.2.1⟩
theorem eqv_sh0 (x : Rat) : PyData.eqv (sh x).pd (sh 0).pd = decide (x = 0) := by
  have e1 : PyData.eqv (sh x).pd (sh 0).pd = ((x.num == 0) && (((x.den : Int) == 1) && true)) := rfl
  rw [e1]
  by_cases h : x = 0
  · rw [h]
    rfl
  · rw [decide_eq_false h]
    cases e : ((x.num == 0) && (((x.den : Int) == 1) && true)) with
    | false => rfl
    | true =>
      refine absurd ?_ h
      simp only [Bool.and_eq_true, beq_iff_eq, Bool.and_true] at e
      exact Rat.num_eq_zero.mp e.1
theorem ok_m_Free_answer (T : Tx K mg A) : FnOk P w K mg base CX0 8 A.f_m_Free_answer A.fd_m_Free_answer ["self", "push"] (spOf K 2 (a_ans A Kn.ans .f)) := by
  refine fn_mir [] 2 rfl (by decide) (by decide) T.F_m_Free_answer sc_m_Free_answer fun cdv Ar outer s H E hr => ?_
  refine ⟨_, _, (pss_one (ps_ret (pe_call (ok_p_spot_times (P := P) (K := K) T) (hr.mono (by decide)) (by rfl) T.g_p_spot_times T.F_p_spot_times.kp T.b_p_spot_times .nil pass0 (pa_cons (pv 1) (pa_cons (pe_tup (pa_cons pe_int (pa_cons (k_fld (K := K) rfl (pv 0) rfl) pa_nil))) pa_nil))))), by infer_instance, fun ds n Q hl hA => ?_⟩
  obtain ⟨kn, nm, shp, pl, st, x, y, k, rfl, hk, ok, bx, bY, hb, q⟩ := hA
  cases kn <;> cases hk
  rename_i m
  obtain ⟨i1, i2⟩ := inv_rep (q := (m : Rat)) ok.1
  refine ⟨⟨T.cl_Free, T.na_Free_mass⟩, _, look_mass, ?_⟩
  refine ⟨x, y, (m : Rat)⁻¹, k, 21, ?_, bx, bY, ⟨by rw [i1]; exact (by unfold Bd; decide : Bd 21 ((1 : Nat) : Int)), by rw [i2]; exact ok.2⟩, by omega, by decide, q⟩
  show [spt x y, D.tup [.int 1, .int m]] = [spt x y, D.tup [.int ((m : Rat)⁻¹).num, .int (((m : Rat)⁻¹).den : Int)]]
  rw [i1, i2]
  rfl
theorem ok_m_Railed_answer (T : Tx K mg A) : FnOk P w K mg base CX0 8 A.f_m_Railed_answer A.fd_m_Railed_answer ["self", "push"] (spOf K 2 (a_ans A Kn.ans .r)) := by
  refine fn_mir [] 2 rfl (by decide) (by decide) T.F_m_Railed_answer sc_m_Railed_answer fun cdv Ar outer s H E hr => ?_
  refine ⟨_, _, (pss_one (ps_ret (pe_call (ok_p_onto_rail (P := P) (K := K) T) (hr.mono (by decide)) (by rfl) T.g_p_onto_rail T.F_p_onto_rail.kp T.b_p_onto_rail .nil pass0 (pa_cons (pe_ix (k_ix (K := K) rfl) (k_fld (K := K) rfl (pv 0) rfl) pe_int (fun _ _ => rfl)) (pa_cons (pv 1) (pa_cons (k_fld (K := K) rfl (pv 0) rfl) pa_nil)))))), by infer_instance, fun ds n Q hl hA => ?_⟩
  obtain ⟨kn, nm, shp, pl, st, x, y, k, rfl, hk, ok, bx, bY, hb, qq⟩ := hA
  cases kn <;> cases hk
  rename_i m p q
  obtain ⟨h1, h2, h3, h4, h5⟩ := ok
  refine ⟨⟨T.cl_Railed, T.na_Railed_row⟩, _, look_row, ?_⟩
  refine ⟨⟨T.cl_Railed, T.na_Railed_mass⟩, _, look_mass, ?_⟩
  exact ⟨p, q, m, x, y, k, rfl, h3, h4, h5, h1, h2, bx, bY, hb, qq⟩
def a_p_body_of (A : Ad) : ASp := fun ds n Q => ∃ (kn : Kn) (nm shp pl st : D), ds = [rowD kn nm shp pl st] ∧ kn.Ok ∧ Q (bodyD A kn nm shp pl st) n
theorem ok_p_body_of (T : Tx K mg A) : FnOk P w K mg base CX0 3 A.f_p_body_of A.fd_p_body_of ["row"] (spOf K 1 (a_p_body_of A)) := by
  refine fn_mir [] 7 rfl (by decide) (by decide) T.F_p_body_of sc_p_body_of fun cdv Ar outer s H E hr => ?_
  refine ⟨_, _, (pss_cons (ps_asg (pv 0) (k_gtup (K := K) (m := 6) rfl rfl (pgs_cons (pg_name (i := 1) sc_p_body_of.nd rfl (.inl rfl)) (pgs_cons (pg_name (i := 2) sc_p_body_of.nd rfl (.inl rfl)) (pgs_cons (pg_name (i := 3) sc_p_body_of.nd rfl (.inl rfl)) (pgs_cons (pg_name (i := 4) sc_p_body_of.nd rfl (.inl rfl)) (pgs_cons (pg_name (i := 5) sc_p_body_of.nd rfl (.inl rfl)) (pgs_cons (pg_name (i := 6) sc_p_body_of.nd rfl (.inl rfl)) pgs_nil))))))))
    (pss_cons (ps_if (pt_cmpR (k_eq (K := K) rfl hr.units) (pv 3) pe_int (nomark _))
      (pss_one (ps_ret (pe_make T.mk_Wall (ok_m_Body___init__ (K := K) T) (hr.mono (by decide)) (by rfl) T.g_Wall T.b_m_Body___init__ .nil pass0 (pa_cons (pv 0) pa_nil))))
      pss_nil)
    (pss_cons (ps_if (pt_cmpR k_isN (pv 4) pe_non (nomark _))
      (pss_one (ps_ret (pe_make T.mk_Free (ok_m_Body___init__ (K := K) T) (hr.mono (by decide)) (by rfl) T.g_Free T.b_m_Body___init__ .nil pass0 (pa_cons (pv 0) pa_nil))))
      pss_nil)
    (pss_one (ps_ret (pe_make T.mk_Railed (ok_m_Body___init__ (K := K) T) (hr.mono (by decide)) (by rfl) T.g_Railed T.b_m_Body___init__ .nil pass0 (pa_cons (pv 0) pa_nil))))))), by infer_instance, fun ds n Q hl hA => ?_⟩
  obtain ⟨kn, nm, shp, pl, st, rfl, ok, q⟩ := hA
  cases kn with
  | wall => exact ⟨fun _ => ⟨init_Wall T, q⟩, fun e => Bool.noConfusion e⟩
  | free m =>
    have hm : m ≠ 0 := fun z => by have := ok.1; omega
    refine dIte (fun e => absurd e hm) (fun _ => ?_)
    exact ⟨fun _ => ⟨init_Free T, q⟩, fun e => Bool.noConfusion e⟩
  | rail m p' q' =>
    have hm : m ≠ 0 := fun z => by have := ok.1; omega
    refine dIte (fun e => absurd e hm) (fun _ => ?_)
    exact ⟨fun e => Bool.noConfusion e, fun _ => ⟨init_Railed T, q⟩⟩

/-! CUT -/
/-! ### over one bottom; courses -/
def topI (B : Int) (x : Rat) : Int := x.num * (B / (x.den : Int))
theorem topI_val {B : Int} {x : Rat} (h : (x.den : Int) ∣ B) : ((topI B x : Int) : Rat) = x * (B : Rat) := by
  obtain ⟨c, rfl⟩ := h
  have hd := den_pos x
  unfold topI
  rw [Int.mul_ediv_cancel_left _ (by omega)]
  have e : x = (x.num : Rat) / ((x.den : Int) : Rat) := by
    rw [← Rat.divInt_eq_div]
    exact (Rat.num_divInt_den x).symm
  have h0 : ((x.den : Int) : Rat) ≠ 0 := fun z => by
    have : ((x.den : Int) : Rat) = ((0 : Int) : Rat) := z
    have := Rat.intCast_inj.mp this
    omega
  have e2 : (((x.num * c : Int)) : Rat) = (x.num : Rat) * (c : Rat) := Rat.intCast_mul _ _
  have e3 : ((((x.den : Int) * c : Int)) : Rat) = ((x.den : Int) : Rat) * (c : Rat) := Rat.intCast_mul _ _
  rw [e2, e3]
  generalize hD : ((x.den : Int) : Rat) = D at *
  generalize hN : (x.num : Rat) = N at *
  generalize (c : Rat) = C at *
  rw [e]
  grind
def zsD (zs : List (Nat × Rat)) : List D := zs.map fun z => sh z.2
theorem lcm_ok {B d : Int} (hB : 0 < B) (hd : 0 < d) : 0 < B / gcdI B d * d ∧ d ∣ B / gcdI B d * d ∧ B ∣ B / gcdI B d * d ∧ (B / gcdI B d).natAbs ≤ B.natAbs := by
  have g0 : 0 < gcdI B d := gcdI_pos (by omega)
  have h1 : 0 < B / gcdI B d := Int.ediv_pos_of_pos_of_dvd hB (by omega) (gcdI_dvd_l _ _)
  refine ⟨Int.mul_pos h1 hd, Int.dvd_mul_left _ _, ?_, div_natAbs_le g0 (gcdI_dvd_l _ _)⟩
  obtain ⟨y, hy⟩ := gcdI_dvd_r B d
  refine ⟨y, ?_⟩
  have hx := Int.ediv_mul_cancel (gcdI_dvd_l B d)
  generalize hg : gcdI B d = g at *
  generalize hq : B / g = q at *
  rw [← hx, hy]
  grind

def a_p_on_one_bottom : ASp := fun ds n Q => ∃ (zs : List (Nat × Rat)) (d : D) (m : Nat), ds = [d] ∧ (d = .tup (zsD zs) ∨ d = .lst (zsD zs)) ∧ (∀ z ∈ zs, Bd z.1 (z.2.den : Int) ∧ z.1 ≤ 4000 ∧ Bd m z.2.num) ∧ m ≤ 100000 ∧ zs.length ≤ 1000 ∧ (zs.map Prod.fst).sum ≤ 50000 ∧
  ∀ B : Int, 0 < B → (∀ z ∈ zs, (z.2.den : Int) ∣ B) → Bd ((zs.map Prod.fst).sum + 1) B → Q (.tup [.lst (zs.map fun z => .int (topI B z.2)), .int B]) n
theorem ok_p_on_one_bottom (T : Tx K mg A) : FnOk P w K mg base CX0 2 A.f_p_on_one_bottom A.fd_p_on_one_bottom ["shares"] (spOf K 1 a_p_on_one_bottom) := by
  refine fn_mir [] 4 rfl (by decide) (by decide) T.F_p_on_one_bottom sc_p_on_one_bottom fun cdv Ar outer s H E hr => ?_
  refine ⟨_, _, (pss_cons (ps_set (i := 1) sc_p_on_one_bottom.nd rfl (.inr rfl) pe_int)
    (pss_cons (ps_for PassesOwn.never rfl (k_iter (K := K) rfl (pv 0)) (k_gtup (K := K) (m := 2) rfl rfl (pgs_cons (pg_name (i := 2) sc_p_on_one_bottom.nd rfl (.inl rfl)) (pgs_cons (pg_name (i := 3) sc_p_on_one_bottom.nd rfl (.inl rfl)) pgs_nil)))
      (pss_one (ps_set (i := 1) sc_p_on_one_bottom.nd rfl (.inr rfl) (pe_op k_mul (pe_op k_fdiv (pv 1) (pe_call (ok_p_common_divisor (P := P) (K := K) T) (hr.mono (by decide)) (by rfl) T.g_p_common_divisor T.F_p_common_divisor.kp T.b_p_common_divisor .nil pass0 (pa_cons (pv 1) (pa_cons (pv 3) pa_nil)))) (pv 3)))))
    (pss_one (ps_ret (pe_tup (pa_cons (pe_lc (own := [("top", 2), ("bottom", 3)]) rfl sc_p_on_one_bottom.nd (k_iter (K := K) rfl (pv 0)) (blkOk_by (own := [("top", 2), ("bottom", 3)]) (N := ["shares", "base", "top", "bottom"]) (sc := defScope s_p_on_one_bottom) (by decide +kernel)) (fun _ _ _ _ _ => (k_gtup (K := K) (m := 2) rfl rfl (pgs_cons (pg_name (i := 2) sc_p_on_one_bottom.nd rfl (Or.inl rfl)) (pgs_cons (pg_name (i := 3) sc_p_on_one_bottom.nd rfl (Or.inl rfl)) pgs_nil)))) (fun _ _ _ _ _ => pts_nil) (fun _ _ _ _ _ => (pe_op k_mul (pv 2) (pe_op k_fdiv (pv 1) (pv 3))))) (pa_cons (pv 1) pa_nil))))))), by infer_instance, fun ds n Q hl hA => ?_⟩
  obtain ⟨zs, d, km, rfl, hd, hz, hkm, hl, hsum, q⟩ := hA
  have hzl : (zsD zs).length = zs.length := List.length_map _
  rcases hd with rfl | rfl
  all_goals
    refine aFor_ind (fun ds ρ m => m = n ∧ ∃ (us vs : List (Nat × Rat)) (B : Int) (d0 y2 y3 : Option D), zs = us ++ vs ∧ ds = zsD vs ∧ ρ = [d0, some (.int B), y2, y3] ∧ (d0 = some (.tup (zsD zs)) ∨ d0 = some (.lst (zsD zs))) ∧ 0 < B ∧ (∀ z ∈ us, (z.2.den : Int) ∣ B) ∧ Bd ((us.map Prod.fst).sum + 1) B) ?_ ?_ ⟨rfl, [], zs, 1, _, none, none, rfl, rfl, rfl, (by first | exact .inl rfl | exact .inr rfl), by decide, (fun z h => by cases h), by unfold Bd; decide⟩
    · rintro d r _ m ⟨rfl, us, vs, B, d0, y2, y3, e0, e, rfl, hd0, hB, hdv, bB⟩ ih
      cases vs with
      | nil => cases e
      | cons v vs =>
      obtain ⟨rfl, rfl⟩ := List.cons.inj e
      obtain ⟨bv, v8, bn⟩ := hz v (by rw [e0]; exact List.mem_append_right _ List.mem_cons_self)
      have hs2 : (us.map Prod.fst).sum + (v.1 + (vs.map Prod.fst).sum) ≤ 50000 := by
        rw [e0, List.map_append, List.sum_append, List.map_cons, List.sum_cons] at hsum
        exact hsum
      have dp := den_pos v.2
      obtain ⟨l1, l2, l3, l4⟩ := lcm_ok hB dp
      have bg := gcdI_bd (a := B) bv (by omega)
      have g0 := gcdI_pos (a := B) (b := (v.2.den : Int)) (by omega)
      refine ⟨B, (v.2.den : Int), rfl, bv.le (by omega), divA bg g0 (by omega), mulA (bB.of_le l4) bv (by omega) (by omega), ?_⟩
      refine ih _ _ ⟨rfl, us ++ [v], vs, _, d0, _, _, by rw [e0]; simp, rfl, rfl, hd0, l1, fun z hz' => ?_, ?_⟩
      · rcases List.mem_append.mp hz' with h | h
        · exact Int.dvd_trans (hdv z h) l3
        · rw [List.mem_singleton.mp h]
          exact l2
      · rw [List.map_append, List.sum_append, List.map_cons, List.map_nil, List.sum_cons, List.sum_nil]
        exact ((bB.of_le l4).mul bv).le (by omega)
    · rintro _ m ⟨rfl, us, vs, B, d0, y2, y3, e0, e, rfl, hd0, hB, hdv, bB⟩
      cases vs with
      | cons v vs => cases e
      | nil =>
      rw [List.append_nil] at e0
      subst e0
      have fin : aLcGo [2, 3] (aGTup 2 (aGCons (aName 2) (aGCons (aName 3) aGNil))) aYes (a2 (aInt2 CMulA fun i j => V.int (i * j)) (aVar 2) (a2 (aInt2 CDivA fun i j => V.int (i / j)) (aVar 1) (aVar 3))) [d0, some (.int B), none, none] (fun d n1 => Q (.tup [d, .int B]) n1) [] (zsD zs) m := by
        refine aLc_ind (fun acc ds k => k = m ∧ ∃ us vs : List (Nat × Rat), zs = us ++ vs ∧ ds = zsD vs ∧ acc = us.map fun z => .int (topI B z.2)) ?_ ?_ ⟨rfl, [], zs, rfl, rfl, rfl⟩
        · rintro acc d r k ⟨rfl, us, vs, e0, e, rfl⟩ ih
          cases vs with
          | nil => cases e
          | cons v vs =>
          obtain ⟨rfl, rfl⟩ := List.cons.inj e
          have hv : v ∈ zs := by rw [e0]; exact List.mem_append_right _ List.mem_cons_self
          obtain ⟨bv, v8, bn⟩ := hz v hv
          have dp := den_pos v.2
          refine aT ⟨divA bv dp (by omega), mulA bn (bB.of_le (div_natAbs_le dp (hdv v hv))) (by omega) (by omega), ih _ _ ⟨rfl, us ++ [v], vs, by rw [e0]; simp, rfl, by rw [List.map_append]; rfl⟩⟩
        · rintro acc k ⟨rfl, us, vs, e0, e, rfl⟩
          cases vs with
          | cons v vs => cases e
          | nil =>
          rw [List.append_nil] at e0
          subst e0
          exact q B hB hdv bB
      rcases hd0 with rfl | rfl
      · exact ⟨by omega, fin⟩
      · exact ⟨by omega, fin⟩
def a_p_share : ASp := fun ds n Q => ∃ (a b : Int) (m : Nat), ds = [.int a, .int b] ∧ Bd m b ∧ m ≤ 4000 ∧ 0 < b ∧ Q (sh (Rat.divInt a b)) n
theorem ok_p_share (T : Tx K mg A) : FnOk P w K mg base CX0 2 A.f_p_share A.fd_p_share ["top", "bottom"] (spOf K 2 a_p_share) := by
  refine fn_mirD [] 3 rfl (by decide) (by decide) T.F_p_share sc_p_share fun cdv Ar outer s H E hr => ?_
  refine ⟨_, _, (pss_cons (ps_if (pt_cmpR (k_eq (K := K) rfl hr.units) (pv 1) pe_int (nomark _))
      (pss_one ps_never)
      pss_nil)
    (pss_cons (ps_if (pt_cmpR op_lt (pv 1) pe_int (nomark _))
      (pss_cons (ps_set (i := 0) sc_p_share.nd rfl (.inl rfl) (pe_un un_neg (pv 0)))
    (pss_one (ps_set (i := 1) sc_p_share.nd rfl (.inl rfl) (pe_un un_neg (pv 1)))))
      pss_nil)
    (pss_cons (ps_set (i := 2) sc_p_share.nd rfl (.inl rfl) (pe_call (ok_p_common_divisor (P := P) (K := K) T) (hr.mono (by decide)) (by rfl) T.g_p_common_divisor T.F_p_common_divisor.kp T.b_p_common_divisor .nil pass0 (pa_cons (pv 0) (pa_cons (pv 1) pa_nil))))
    (pss_one (ps_ret (pe_tup (pa_cons (pe_op k_fdiv (pv 0) (pv 2)) (pa_cons (pe_op k_fdiv (pv 1) (pv 2)) pa_nil)))))))), by infer_instance, fun ds n Q hl hA => ?_⟩
  obtain ⟨a, b, m, rfl, bb, hm, h0, q⟩ := hA
  refine dIte (fun e => absurd e (by omega)) fun _ => dIte (fun e => absurd e (by omega)) fun e => ?_
  refine ⟨a, b, rfl, bb.le (by omega), divA (gcdI_bd bb (by omega)) (gcdI_pos (by omega)) (by omega), divA (gcdI_bd bb (by omega)) (gcdI_pos (by omega)) (by omega), ?_⟩
  obtain ⟨h1, h2, _, _⟩ := low_is (a := a) (b := b) (by omega)
  show Q (.tup [.int _, .int _]) n
  rw [sh_of h1 (by omega) h2]
  exact q
theorem aLc_maps {α : Type} {vs : List Nat} {G : D → Option (List (Nat × D))} {c : AT} {e : AE} {ρ : Env'} {Q : D → Nat → Prop} {n : Nat} (F R : α → D) : ∀ (xs : List α) (acc : List D), (∀ x ∈ xs, ∀ (Kn : D → Nat → Prop) (L : Nat → Prop), Kn (R x) n → aPutC vs G (F x) ρ fun ρ1 => c ρ1 n fun b n2 => aIte b (e ρ1 n2 Kn) (L n2)) → Q (.lst (acc ++ xs.map R)) n → aLcGo vs G c e ρ Q acc (xs.map F) n
  | [], acc, _, q => by
    rw [List.map_nil, List.append_nil] at q
    exact q
  | x :: r, acc, h, q => by
    refine h x List.mem_cons_self (fun y n3 => aLcGo vs G c e ρ Q (acc ++ [y]) (r.map F) n3) (fun n2 => aLcGo vs G c e ρ Q acc (r.map F) n2) (aLc_maps F R r (acc ++ [R x]) (fun y hy => h y (List.mem_cons_of_mem _ hy)) ?_)
    rw [List.append_assoc]
    exact q
theorem zipD_map {α : Type} (f g : α → D) : ∀ xs : List α, zipD (xs.map f) (xs.map g) = xs.map fun x => D.tup [f x, g x]
  | [] => rfl
  | x :: xs => by
    show D.tup [f x, g x] :: zipD (xs.map f) (xs.map g) = _
    rw [zipD_map f g xs]
    rfl
theorem sum_45 {α : Type} : ∀ us : List α, (us.map fun _ => (45 : Nat)).sum = 45 * us.length
  | [] => rfl
  | _ :: r => by
    rw [List.map_cons, List.sum_cons, sum_45 r, List.length_cons]
    omega
/-! ### pushes at one body -/
abbrev Pu := Int × Int × Rat
def puD (u : Pu) : D := .tup [.int u.1, .int u.2.1, sh u.2.2]
def PuOk (u : Pu) : Prop := Bd 21 u.1 ∧ Bd 21 u.2.1 ∧ BdQ 45 u.2.2
def sumX : List Pu → Rat
  | [] => 0
  | u :: r => (u.1 : Rat) * u.2.2 + sumX r
def sumY : List Pu → Rat
  | [] => 0
  | u :: r => (u.2.1 : Rat) * u.2.2 + sumY r
theorem sumX_val {B : Int} : ∀ us : List Pu, (∀ u ∈ us, (u.2.2.den : Int) ∣ B) → (((us.map fun u => u.1 * topI B u.2.2).sum : Int) : Rat) = sumX us * (B : Rat)
  | [], _ => by
    show ((0 : Int) : Rat) = 0 * (B : Rat)
    rw [Rat.zero_mul]
    rfl
  | u :: r, h => by
    have e := sumX_val r fun v hv => h v (List.mem_cons_of_mem _ hv)
    have t := topI_val (h u List.mem_cons_self)
    show ((u.1 * topI B u.2.2 + (r.map fun u => u.1 * topI B u.2.2).sum : Int) : Rat) = ((u.1 : Rat) * u.2.2 + sumX r) * (B : Rat)
    rw [Rat.intCast_add, Rat.intCast_mul, t, e]
    grind
theorem sumY_val {B : Int} : ∀ us : List Pu, (∀ u ∈ us, (u.2.2.den : Int) ∣ B) → (((us.map fun u => u.2.1 * topI B u.2.2).sum : Int) : Rat) = sumY us * (B : Rat)
  | [], _ => by
    show ((0 : Int) : Rat) = 0 * (B : Rat)
    rw [Rat.zero_mul]
    rfl
  | u :: r, h => by
    have e := sumY_val r fun v hv => h v (List.mem_cons_of_mem _ hv)
    have t := topI_val (h u List.mem_cons_self)
    show ((u.2.1 * topI B u.2.2 + (r.map fun u => u.2.1 * topI B u.2.2).sum : Int) : Rat) = ((u.2.1 : Rat) * u.2.2 + sumY r) * (B : Rat)
    rw [Rat.intCast_add, Rat.intCast_mul, t, e]
    grind
theorem over_B {B s : Int} {x : Rat} (hB : 0 < B) (h : (s : Rat) = x * (B : Rat)) : Rat.divInt s B = x := by
  have h0 : (B : Rat) ≠ 0 := int_ne0 hB
  rw [Rat.divInt_eq_div, h]
  generalize (B : Rat) = C at *
  grind
def a_p_push_sum : ASp := fun ds n Q => ∃ us : List Pu, ds = [.lst (us.map puD)] ∧ (∀ u ∈ us, PuOk u) ∧ us.length ≤ 12 ∧ Q (spt (sumX us) (sumY us)) n
theorem ok_p_push_sum (T : Tx K mg A) : FnOk P w K mg base CX0 3 A.f_p_push_sum A.fd_p_push_sum ["parts"] (spOf K 1 a_p_push_sum) := by
  refine fn_mir [] 9 rfl (by decide) (by decide) T.F_p_push_sum sc_p_push_sum fun cdv Ar outer s H E hr => ?_
  refine ⟨_, _, (pss_cons (ps_asg (pe_call (ok_p_on_one_bottom (P := P) (K := K) T) (hr.mono (by decide)) (by rfl) T.g_p_on_one_bottom T.F_p_on_one_bottom.kp T.b_p_on_one_bottom .nil pass0 (pa_cons (pe_lc (own := [("p", 5), ("q", 6), ("push", 7)]) rfl sc_p_push_sum.nd (k_iter (K := K) rfl (pv 0)) (blkOk_by (own := [("p", 5), ("q", 6), ("push", 7)]) (N := ["parts", "tops", "bottom", "x", "y", "p", "q", "push", "top"]) (sc := defScope s_p_push_sum) (by decide +kernel)) (fun _ _ _ _ _ => (k_gtup (K := K) (m := 3) rfl rfl (pgs_cons (pg_name (i := 5) sc_p_push_sum.nd rfl (Or.inl rfl)) (pgs_cons (pg_name (i := 6) sc_p_push_sum.nd rfl (Or.inl rfl)) (pgs_cons (pg_name (i := 7) sc_p_push_sum.nd rfl (Or.inl rfl)) pgs_nil))))) (fun _ _ _ _ _ => pts_nil) (fun _ _ _ _ _ => (pv 7))) pa_nil)) (k_gtup (K := K) (m := 2) rfl rfl (pgs_cons (pg_name (i := 1) sc_p_push_sum.nd rfl (.inl rfl)) (pgs_cons (pg_name (i := 2) sc_p_push_sum.nd rfl (.inl rfl)) pgs_nil))))
    (pss_cons (ps_set (i := 3) sc_p_push_sum.nd rfl (.inl rfl) (pe_callB (k_sum (K := K) rfl rfl) (by rfl) T.m_sum (by decide +kernel) (pa_cons (pe_lc (own := [("top", 8), ("p", 5), ("q", 6), ("push", 7)]) rfl sc_p_push_sum.nd (k_zip (K := K) rfl (by rfl) T.m_zip (pa_cons (pv 0) (pa_cons (pv 1) pa_nil))) (blkOk_by (own := [("top", 8), ("p", 5), ("q", 6), ("push", 7)]) (N := ["parts", "tops", "bottom", "x", "y", "p", "q", "push", "top"]) (sc := defScope s_p_push_sum) (by decide +kernel)) (fun _ _ _ _ _ => (k_gtup (K := K) (m := 2) rfl rfl (pgs_cons (k_gtup (K := K) (m := 3) rfl rfl (pgs_cons (pg_name (i := 5) sc_p_push_sum.nd rfl (Or.inl rfl)) (pgs_cons (pg_name (i := 6) sc_p_push_sum.nd rfl (Or.inl rfl)) (pgs_cons (pg_name (i := 7) sc_p_push_sum.nd rfl (Or.inl rfl)) pgs_nil)))) (pgs_cons (pg_name (i := 8) sc_p_push_sum.nd rfl (Or.inl rfl)) pgs_nil)))) (fun _ _ _ _ _ => pts_nil) (fun _ _ _ _ _ => (pe_op k_mul (pv 5) (pv 8)))) pa_nil)))
    (pss_cons (ps_set (i := 4) sc_p_push_sum.nd rfl (.inl rfl) (pe_callB (k_sum (K := K) rfl rfl) (by rfl) T.m_sum (by decide +kernel) (pa_cons (pe_lc (own := [("top", 8), ("p", 5), ("q", 6), ("push", 7)]) rfl sc_p_push_sum.nd (k_zip (K := K) rfl (by rfl) T.m_zip (pa_cons (pv 0) (pa_cons (pv 1) pa_nil))) (blkOk_by (own := [("top", 8), ("p", 5), ("q", 6), ("push", 7)]) (N := ["parts", "tops", "bottom", "x", "y", "p", "q", "push", "top"]) (sc := defScope s_p_push_sum) (by decide +kernel)) (fun _ _ _ _ _ => (k_gtup (K := K) (m := 2) rfl rfl (pgs_cons (k_gtup (K := K) (m := 3) rfl rfl (pgs_cons (pg_name (i := 5) sc_p_push_sum.nd rfl (Or.inl rfl)) (pgs_cons (pg_name (i := 6) sc_p_push_sum.nd rfl (Or.inl rfl)) (pgs_cons (pg_name (i := 7) sc_p_push_sum.nd rfl (Or.inl rfl)) pgs_nil)))) (pgs_cons (pg_name (i := 8) sc_p_push_sum.nd rfl (Or.inl rfl)) pgs_nil)))) (fun _ _ _ _ _ => pts_nil) (fun _ _ _ _ _ => (pe_op k_mul (pv 6) (pv 8)))) pa_nil)))
    (pss_one (ps_ret (pe_tup (pa_cons (pe_call (ok_p_share (P := P) (K := K) T) (hr.mono (by decide)) (by rfl) T.g_p_share T.F_p_share.kp T.b_p_share .nil pass0 (pa_cons (pv 3) (pa_cons (pv 2) pa_nil))) (pa_cons (pe_call (ok_p_share (P := P) (K := K) T) (hr.mono (by decide)) (by rfl) T.g_p_share T.F_p_share.kp T.b_p_share .nil pass0 (pa_cons (pv 4) (pa_cons (pv 2) pa_nil))) pa_nil)))))))), by infer_instance, fun ds n Q hl hA => ?_⟩
  obtain ⟨us, rfl, hu, hl, q⟩ := hA
  refine ⟨by rw [List.length_map]; omega, aLc_maps puD (fun u => sh u.2.2) us [] (fun u _ Kn L k => aT k) ?_⟩
  refine ⟨us.map fun u => (45, u.2.2), _, 45, rfl, .inr ?_, fun z hz => ?_, by decide, by rw [List.length_map]; omega, by rw [List.map_map]; exact Nat.le_trans (Nat.le_of_eq (sum_45 us)) (by omega), ?_⟩
  · unfold zsD
    rw [List.map_map]
    rfl
  · obtain ⟨u, hm, rfl⟩ := List.mem_map.mp hz
    exact ⟨(hu u hm).2.2.2, by show 45 ≤ 4000; decide, (hu u hm).2.2.1⟩
  intro B hB hd bB
  have hd' : ∀ u ∈ us, (u.2.2.den : Int) ∣ B := fun u hm => hd (45, u.2.2) (List.mem_map.mpr ⟨u, hm, rfl⟩)
  have bB' : Bd 541 B := by
    rw [List.map_map] at bB
    exact bB.le (Nat.le_trans (Nat.succ_le_succ (Nat.le_of_eq (sum_45 us))) (by omega))
  have tb : ∀ u ∈ us, Bd 586 (topI B u.2.2) := fun u hm => (hu u hm).2.2.1.mul (bB'.of_le (div_natAbs_le (den_pos u.2.2) (hd' u hm)))
  have etops : (List.map (fun z : Nat × Rat => D.int (topI B z.2)) (us.map fun u => (45, u.2.2))) = us.map fun u => D.int (topI B u.2.2) := by
    rw [List.map_map]
    rfl
  rw [etops]
  have ez := zipD_map puD (fun u : Pu => D.int (topI B u.2.2)) us
  simp only [startA, eSetAll, eSet, List.cons_append, List.nil_append]
  show (zipD _ _).length ≤ 1000000 ∧ _
  rw [ez]
  refine ⟨by rw [List.length_map]; omega, aLc_maps _ (fun u : Pu => .int (u.1 * topI B u.2.2)) us [] (fun u hm Kn L k => aT ⟨mulA (hu u hm).1 (tb u hm) (by decide) (by decide), k⟩) ?_⟩
  refine ⟨us.map fun u => u.1 * topI B u.2.2, by rw [List.map_map]; rfl, ?_⟩
  show (zipD _ _).length ≤ 1000000 ∧ _
  rw [ez]
  refine ⟨by rw [List.length_map]; omega, aLc_maps _ (fun u : Pu => .int (u.2.1 * topI B u.2.2)) us [] (fun u hm Kn L k => aT ⟨mulA (hu u hm).2.1 (tb u hm) (by decide) (by decide), k⟩) ?_⟩
  refine ⟨us.map fun u => u.2.1 * topI B u.2.2, by rw [List.map_map]; rfl, ?_⟩
  refine ⟨_, B, 541, rfl, bB', by decide, hB, ?_⟩
  refine ⟨_, B, 541, rfl, bB', by decide, hB, ?_⟩
  rw [over_B hB (sumX_val us hd'), over_B hB (sumY_val us hd')]
  exact q
/-! CUT -/
/-! ### pushes of ties -/
structure Tie where
  lo : Str
  hi : Str
  p : Int
  q : Int
def Tie.d (t : Tie) : D := .tup [.str t.lo, .str t.hi, .tup [.int t.p, .int t.q]]
structure Bw where
  nm : Str
  kn : Kn
  shp : D
  pl : D
  x : Rat
  y : Rat
def Bw.rw (b : Bw) : Rw := (b.nm, [b.shp, .int b.kn.mass, b.kn.rl, b.pl, spt b.x b.y])
def Bw.d (b : Bw) : D := rowT b.rw
def ofT (z : Str) : List (Tie × Rat) → List Pu
  | [] => []
  | u :: r => (if z = u.1.lo then [(-u.1.p, -u.1.q, u.2)] else []) ++ ((if z = u.1.hi then [(u.1.p, u.1.q, u.2)] else []) ++ ofT z r)
theorem ofT_app (z : Str) (b : List (Tie × Rat)) : ∀ a, ofT z (a ++ b) = ofT z a ++ ofT z b
  | [] => rfl
  | u :: a => by
    show (if z = u.1.lo then [(-u.1.p, -u.1.q, u.2)] else []) ++ ((if z = u.1.hi then [(u.1.p, u.1.q, u.2)] else []) ++ ofT z (a ++ b)) = _
    rw [ofT_app z b a]
    show _ = ((if z = u.1.lo then [(-u.1.p, -u.1.q, u.2)] else []) ++ ((if z = u.1.hi then [(u.1.p, u.1.q, u.2)] else []) ++ ofT z a)) ++ ofT z b
    rw [List.append_assoc, List.append_assoc]
structure TieOk (zs : List Str) (u : Tie × Rat) : Prop where
  lo : u.1.lo ∈ zs
  hi : u.1.hi ∈ zs
  ne : u.1.lo ≠ u.1.hi
  p : Bd 21 u.1.p
  q : Bd 21 u.1.q
  x : BdQ 45 u.2
theorem ofT_ok {zs : List Str} (z : Str) : ∀ ps : List (Tie × Rat), (∀ u ∈ ps, TieOk zs u) → (∀ v ∈ ofT z ps, PuOk v) ∧ (ofT z ps).length ≤ ps.length
  | [], _ => ⟨(fun v h => by cases h), Nat.le_refl _⟩
  | u :: r, h => by
    obtain ⟨h1, h2⟩ := ofT_ok z r fun v hv => h v (List.mem_cons_of_mem _ hv)
    have o := h u List.mem_cons_self
    have e : ofT z (u :: r) = (if z = u.1.lo then [(-u.1.p, -u.1.q, u.2)] else []) ++ ((if z = u.1.hi then [(u.1.p, u.1.q, u.2)] else []) ++ ofT z r) := rfl
    rw [e]
    by_cases e1 : z = u.1.lo
    · have e2 : ¬ z = u.1.hi := fun w => o.ne (by rw [← e1, w])
      rw [if_pos e1, if_neg e2]
      refine ⟨fun v hv => ?_, by simp; omega⟩
      rcases List.mem_append.mp hv with hv | hv
      · rw [List.mem_singleton.mp hv]
        exact ⟨o.p.neg, o.q.neg, o.x⟩
      · exact h1 v (by simpa using hv)
    · rw [if_neg e1]
      by_cases e2 : z = u.1.hi
      · rw [if_pos e2]
        refine ⟨fun v hv => ?_, by simp; omega⟩
        rcases List.mem_cons.mp hv with hv | hv
        · rw [hv]
          exact ⟨o.p, o.q, o.x⟩
        · exact h1 v (by simpa using hv)
      · rw [if_neg e2]
        exact ⟨fun v hv => h1 v (by simpa using hv), by simp; omega⟩
theorem aDc_maps {α : Type} {vs : List Nat} {G : D → Option (List (Nat × D))} {c : AT} {fk fv : AE} {ρ : Env'} {Q : D → Nat → Prop} {n : Nat} (F R : α → D) (kf : α → Str) : ∀ (xs : List α) (ks : List Key) (acc : List D), (ks ++ xs.map fun x => Sum.inr (kf x)).Nodup → (∀ x ∈ xs, ∀ (Kn : D → D → Nat → Prop) (L : Nat → Prop), Kn (.str (kf x)) (R x) n → aPutC vs G (F x) ρ fun ρ1 => c ρ1 n fun b n2 => aIte b (fk ρ1 n2 fun k n3 => fv ρ1 n3 fun y n4 => Kn k y n4) (L n2)) → Q (.dic (ks ++ xs.map fun x => Sum.inr (kf x)) (acc ++ xs.map R)) n → aDcGo vs G c fk fv ρ Q ks acc (xs.map F) n
  | [], ks, acc, _, _, q => by
    rw [List.map_nil, List.append_nil, List.map_nil, List.append_nil] at q
    exact q
  | x :: r, ks, acc, nd, h, q => by
    refine h x List.mem_cons_self (fun k y n4 => ∃ kk, keyD k = some kk ∧ kk ∉ ks ∧ aDcGo vs G c fk fv ρ Q (ks ++ [kk]) (acc ++ [y]) (r.map F) n4) (fun n2 => aDcGo vs G c fk fv ρ Q ks acc (r.map F) n2) ⟨Sum.inr (kf x), rfl, fun hm => ?_, ?_⟩
    · exact (List.nodup_append.mp nd).2.2 _ hm _ (by rw [List.map_cons]; exact List.mem_cons_self) rfl
    · refine aDc_maps F R kf r _ _ ?_ (fun y hy => h y (List.mem_cons_of_mem _ hy)) ?_
      · rw [List.append_assoc]
        exact nd
      · rw [List.append_assoc, List.append_assoc]
        exact q
theorem itD_map {α : Type} (kf : α → Str) (R : α → D) : ∀ xs : List α, itD (xs.map fun x => Sum.inr (kf x)) (xs.map R) = xs.map fun x => D.tup [.str (kf x), R x]
  | [] => rfl
  | x :: xs => by
    show D.tup [keyI (Sum.inr (kf x)), R x] :: itD (xs.map fun x => Sum.inr (kf x)) (xs.map R) = _
    rw [itD_map kf R xs]
    rfl
theorem isDAll_map {α : Type} (R : α → D) : ∀ xs : List α, (∀ x ∈ xs, (R x).isD = true) → isDAll (xs.map R) = true
  | [], _ => rfl
  | x :: xs, h => by
    show ((R x).isD && isDAll (xs.map R)) = true
    rw [h x List.mem_cons_self, isDAll_map R xs fun y hy => h y (List.mem_cons_of_mem _ hy)]
    rfl
theorem set_names {F : Str → List D} {b : Bw} {l : List D} : ∀ {bs : List Bw} {p : Nat}, (bs.map Bw.nm).Nodup → bs[p]? = some b → (bs.map fun c => F c.nm).set p l = bs.map fun c => if c.nm = b.nm then l else F c.nm
  | [], p, _, h => by cases h
  | c :: r, 0, nd, h => by
    cases h
    rw [List.map_cons, List.nodup_cons] at nd
    show l :: r.map _ = (if b.nm = b.nm then l else F b.nm) :: r.map _
    rw [if_pos rfl]
    congr 1
    refine List.map_congr_left fun c' hc => ?_
    rw [if_neg fun e => nd.1 (by rw [← e]; exact List.mem_map.mpr ⟨c', hc, rfl⟩)]
  | c :: r, p + 1, nd, h => by
    have h' : r[p]? = some b := h
    rw [List.map_cons, List.nodup_cons] at nd
    show F c.nm :: (r.map fun c => F c.nm).set p l = (if c.nm = b.nm then l else F c.nm) :: r.map _
    rw [if_neg fun e => nd.1 (by rw [e]; exact List.mem_map.mpr ⟨b, List.mem_of_getElem? h', rfl⟩), set_names nd.2 h']
theorem app_name {bs : List Bw} {F : Str → List D} {j n : Nat} {f : AE} {ρ : Env'} {Kn : List (List D) → Nat → Prop} {z : Str} (nd : (bs.map Bw.nm).Nodup) (hz : z ∈ bs.map Bw.nm) (e : eGet ρ j = some (.str z)) (hl : (F z).length < 1000000) (h : f ρ n fun v n1 => Kn (bs.map fun c => if c.nm = z then F z ++ [v] else F c.nm) n1) : aAppD j (bs.map fun b => Sum.inr b.nm) f ρ (bs.map fun c => F c.nm) n Kn := by
  obtain ⟨b, hb, rfl⟩ := List.mem_map.mp hz
  obtain ⟨p, hp⟩ := List.mem_iff_getElem?.mp hb
  refine ⟨_, Sum.inr b.nm, p, F b.nm, e, rfl, by rw [List.getElem?_map, hp]; rfl, by rw [List.getElem?_map, hp]; rfl, hl, ?_⟩
  have es := fun v : D => set_names (F := F) (l := F b.nm ++ [v]) nd hp
  simp only [es]
  exact h
theorem dl_loop {bs : List Bw} {ps : List (Tie × Rat)} {b0 b1 b2 : Option D} {n : Nat} {Kn : Env' → List (List D) → Nat → Prop} (nd : (bs.map Bw.nm).Nodup) (hp : ps.length ≤ 6) (ok : ∀ u ∈ ps, TieOk (bs.map Bw.nm) u) (hK : ∀ y4 y5 y6 y7 y8, Kn [b0, b1, b2, none, y4, y5, y6, y7, y8, none, none, none] (bs.map fun c => (ofT c.nm ps).map puD) n) : ∀ (r done : List (Tie × Rat)) (F : Str → List D) (y4 y5 y6 y7 y8 : Option D), done ++ r = ps → (∀ s, F s = (ofT s done).map puD) →
    aDLGo 3 4 5 (bs.map fun b => Sum.inr b.nm) (aGTup 2 (aGCons (aGTup 3 (aGCons (aName 4) (aGCons (aName 5) (aGCons (aGTup 2 (aGCons (aName 6) (aGCons (aName 7) aGNil))) aGNil)))) (aGCons (aName 8) aGNil)))
      (aTup (aCons (a1 (aIntU fun i => V.int (-i)) (aVar 6)) (aCons (a1 (aIntU fun i => V.int (-i)) (aVar 7)) (aCons (aVar 8) aNil)))) (aTup (aCons (aVar 6) (aCons (aVar 7) (aCons (aVar 8) aNil)))) Kn (r.map fun x => D.tup [x.1.d, sh x.2]) [b0, b1, b2, none, y4, y5, y6, y7, y8, none, none, none] (bs.map fun c => F c.nm) n
  | [], done, F, y4, y5, y6, y7, y8, e, hF => by
    rw [List.append_nil] at e
    subst e
    show Kn _ _ _
    have e2 : (bs.map fun c => F c.nm) = bs.map fun c => (ofT c.nm done).map puD := List.map_congr_left fun c _ => hF c.nm
    rw [e2]
    exact hK _ _ _ _ _
  | u :: r, done, F, y4, y5, y6, y7, y8, e, hF => by
    have hm : u ∈ ps := by rw [← e]; exact List.mem_append_right _ List.mem_cons_self
    have o := ok u hm
    have hle : done.length ≤ 6 := by
      have := congrArg List.length e
      rw [List.length_append] at this
      omega
    have okd : ∀ v ∈ done, TieOk (bs.map Bw.nm) v := fun v hv => ok v (by rw [← e]; exact List.mem_append_left _ hv)
    have fl : ∀ s, (F s).length ≤ 6 := fun s => by
      rw [hF, List.length_map]
      have := (ofT_ok s done okd).2
      omega
    refine ⟨_, rfl, rfl, ?_⟩
    refine app_name (F := F) (z := u.1.lo) nd o.lo rfl (by have := fl u.1.lo; omega) ?_
    refine app_name (F := fun s => if s = u.1.lo then F u.1.lo ++ [puD (-u.1.p, -u.1.q, u.2)] else F s) (z := u.1.hi) nd o.hi rfl (by
      show (if u.1.hi = u.1.lo then _ else _ : List D).length < _
      rw [if_neg fun z => o.ne z.symm]
      have := fl u.1.hi
      omega) ?_
    refine dl_loop nd hp ok hK r (done ++ [u]) (fun s => if s = u.1.hi then (if u.1.hi = u.1.lo then F u.1.lo ++ [puD (-u.1.p, -u.1.q, u.2)] else F u.1.hi) ++ [puD (u.1.p, u.1.q, u.2)] else (if s = u.1.lo then F u.1.lo ++ [puD (-u.1.p, -u.1.q, u.2)] else F s)) _ _ _ _ _ (by rw [List.append_assoc]; exact e) fun s => ?_
    rw [ofT_app, List.map_append, ← hF]
    show _ = F s ++ ((if s = u.1.lo then [(-u.1.p, -u.1.q, u.2)] else []) ++ ((if s = u.1.hi then [(u.1.p, u.1.q, u.2)] else []) ++ [])).map puD
    by_cases e1 : s = u.1.hi
    · have e2 : ¬ s = u.1.lo := fun z => o.ne (by rw [← z, e1])
      rw [if_pos e1, if_neg (by rw [← e1]; exact e2), if_neg e2, if_pos e1, e1]
      rfl
    · rw [if_neg e1, if_neg e1]
      by_cases e2 : s = u.1.lo
      · rw [if_pos e2, if_pos e2, e2]
        rfl
      · rw [if_neg e2, if_neg e2]
        simp
theorem nodup_keys {bs : List Bw} (nd : (bs.map Bw.nm).Nodup) : (bs.map fun b => (Sum.inr b.nm : Key)).Nodup := by
  have : bs.map (fun b => (Sum.inr b.nm : Key)) = (bs.map Bw.nm).map Sum.inr := by rw [List.map_map]; rfl
  rw [this]
  exact List.Pairwise.map _ (fun a b h e => h (Sum.inr.inj e)) nd
def a_p_push_sums : ASp := fun ds n Q => ∃ (bs : List Bw) (ps : List (Tie × Rat)), ds = [.tup (bs.map Bw.d), .tup (ps.map fun u => u.1.d), .tup (ps.map fun u => sh u.2)] ∧ bs.length ≤ 8 ∧ (bs.map Bw.nm).Nodup ∧ ps.length ≤ 6 ∧ (∀ u ∈ ps, TieOk (bs.map Bw.nm) u) ∧ Q (.dic (bs.map fun b => Sum.inr b.nm) (bs.map fun b => spt (sumX (ofT b.nm ps)) (sumY (ofT b.nm ps)))) n
theorem ok_p_push_sums (T : Tx K mg A) : FnOk P w K mg base CX0 4 A.f_p_push_sums A.fd_p_push_sums ["rows", "contacts", "pushes"] (spOf K 3 a_p_push_sums) := by
  refine fn_mir [] 12 rfl (by decide) (by decide) T.F_p_push_sums sc_p_push_sums fun cdv Ar outer s H E hr => ?_
  refine ⟨_, _, (k_dl (K := K) rfl (pss_cons (ps_setDc (i := 3) (own := [("row", 9)]) rfl sc_p_push_sums.nd rfl rfl (sw_dc rfl rfl rfl (by decide +kernel)) (k_iter (K := K) rfl (pv 0)) (blkOk_by (own := [("row", 9)]) (N := ["rows", "contacts", "pushes", "parts", "low", "high", "p", "q", "push", "row", "name", "each"]) (sc := defScope s_p_push_sums) (by decide +kernel)) (fun _ _ _ _ _ => (pg_name (i := 9) sc_p_push_sums.nd rfl (Or.inl rfl))) (fun _ _ _ _ _ => pts_nil) (fun _ _ _ _ _ => (pe_ix (k_ix (K := K) rfl) (pv 9) pe_int (fun _ _ => rfl))) (fun _ _ _ _ _ => (pe_lst pa_nil)))
    (pss_cons (ps_for PassesOwn.never rfl (k_zip (K := K) rfl (by rfl) T.m_zip (pa_cons (pv 1) (pa_cons (pv 2) pa_nil))) (k_gtup (K := K) (m := 2) rfl rfl (pgs_cons (k_gtup (K := K) (m := 3) rfl rfl (pgs_cons (pg_name (i := 4) sc_p_push_sums.nd rfl (.inl rfl)) (pgs_cons (pg_name (i := 5) sc_p_push_sums.nd rfl (.inl rfl)) (pgs_cons (k_gtup (K := K) (m := 2) rfl rfl (pgs_cons (pg_name (i := 6) sc_p_push_sums.nd rfl (.inl rfl)) (pgs_cons (pg_name (i := 7) sc_p_push_sums.nd rfl (.inl rfl)) pgs_nil))) pgs_nil)))) (pgs_cons (pg_name (i := 8) sc_p_push_sums.nd rfl (.inl rfl)) pgs_nil)))
      (pss_cons (ps_expr (pe_bm PySem.F.plainAttrs_list PySem.F.slot_list_append PySem.F.type_list_append mt_append (k_dget hr.units (pv 3) (pv 4) (fun _ _ => rfl)) (pa_cons (pe_tup (pa_cons (pe_un un_neg (pv 6)) (pa_cons (pe_un un_neg (pv 7)) (pa_cons (pv 8) pa_nil)))) pa_nil)))
    (pss_one (ps_expr (pe_bm PySem.F.plainAttrs_list PySem.F.slot_list_append PySem.F.type_list_append mt_append (k_dget hr.units (pv 3) (pv 5) (fun _ _ => rfl)) (pa_cons (pe_tup (pa_cons (pv 6) (pa_cons (pv 7) (pa_cons (pv 8) pa_nil)))) pa_nil))))))
    (pss_one (ps_ret (pe_lock (pe_dc (own := [("name", 10), ("each", 11)]) rfl sc_p_push_sums.nd (pi_items (pv 3)) (blkOk_by (own := [("name", 10), ("each", 11)]) (N := ["rows", "contacts", "pushes", "parts", "low", "high", "p", "q", "push", "row", "name", "each"]) (sc := defScope s_p_push_sums) (by decide +kernel)) (fun _ _ _ _ _ => (k_gtup (K := K) (m := 2) rfl rfl (pgs_cons (pg_name (i := 10) sc_p_push_sums.nd rfl (Or.inl rfl)) (pgs_cons (pg_name (i := 11) sc_p_push_sums.nd rfl (Or.inl rfl)) pgs_nil)))) (fun _ _ _ _ _ => pts_nil) (fun _ _ _ _ _ => (pv 10)) (fun _ _ _ _ _ => (pe_call (ok_p_push_sum (P := P) (K := K) T) (hr.mono (by decide)) (by rfl) T.g_p_push_sum T.F_p_push_sum.kp T.b_p_push_sum .nil pass0 (pa_cons (pv 11) pa_nil)))))))))), by infer_instance, fun ds n Q hl hA => ?_⟩
  obtain ⟨bs, ps, rfl, hl, nd, hp, ok, q⟩ := hA
  have nk := nodup_keys nd
  refine ⟨by rw [List.length_map]; omega, aDc_maps Bw.d (fun _ => .lst []) Bw.nm bs [] [] nk (fun b _ Kn L k => aT k) ?_⟩
  refine ⟨bs.map fun b => Sum.inr b.nm, by rw [List.map_map]; rfl, nk, by show 3 < 12; decide, ?_⟩
  show aDLGo _ _ _ _ _ _ _ _ (zipD _ _) _ _ _
  rw [zipD_map (fun u : Tie × Rat => u.1.d) (fun u => sh u.2) ps, List.map_map]
  refine dl_loop nd hp ok (fun y4 y5 y6 y7 y8 => ?_) ps [] (fun _ => []) none none none none none rfl fun s => rfl
  refine ⟨?_, by rw [List.length_map, List.length_map]; omega, ?_⟩
  · rw [List.map_map]
    refine isDAll_map _ bs fun b _ => ?_
    show isDAll ((ofT b.nm ps).map puD) = true
    exact isDAll_map puD _ fun u _ => rfl
  · rw [List.map_map, itD_map Bw.nm _ bs]
    refine aDc_maps (fun b : Bw => D.tup [.str b.nm, .lst ((ofT b.nm ps).map puD)]) (fun b => spt (sumX (ofT b.nm ps)) (sumY (ofT b.nm ps))) Bw.nm bs [] [] nk (fun b hb Kn L k => ?_) ⟨_, _, rfl, isDAll_map _ bs fun b _ => rfl, q⟩
    obtain ⟨o1, o2⟩ := ofT_ok b.nm ps ok
    exact aT ⟨_, rfl, o1, by omega, k⟩
/-! CUT -/
/-! ### the rows, pushed -/
def Bw.go (b : Bw) (x y : Rat) : Bw := ⟨b.nm, b.kn, b.shp, b.pl, x, y⟩
def Bw.ok (b : Bw) : Prop := b.kn.Ok ∧ BdQ 66 b.x ∧ BdQ 66 b.y
def Bw.aft (b : Bw) (ps : List (Tie × Rat)) : Bw := b.go (b.x + (b.kn.ans (sumX (ofT b.nm ps)) (sumY (ofT b.nm ps))).1) (b.y + (b.kn.ans (sumX (ofT b.nm ps)) (sumY (ofT b.nm ps))).2)
theorem sum_bd : ∀ us : List Pu, (∀ u ∈ us, PuOk u) → BdQ (67 * us.length + 1) (sumX us) ∧ BdQ (67 * us.length + 1) (sumY us)
  | [], _ => ⟨⟨by unfold Bd; decide, by unfold Bd; decide⟩, ⟨by unfold Bd; decide, by unfold Bd; decide⟩⟩
  | u :: r, h => by
    obtain ⟨h1, h2⟩ := sum_bd r fun v hv => h v (List.mem_cons_of_mem _ hv)
    obtain ⟨o1, o2, o3⟩ := h u List.mem_cons_self
    exact ⟨(((bdq_int o1 (by decide)).mul o3).add h1).le (by rw [List.length_cons]; omega), (((bdq_int o2 (by decide)).mul o3).add h2).le (by rw [List.length_cons]; omega)⟩
theorem ans_bd {kn : Kn} {x y : Rat} (ok : kn.Ok) (bx : BdQ 403 x) (bY : BdQ 403 y) : BdQ 1000 (kn.ans x y).1 ∧ BdQ 1000 (kn.ans x y).2 := by
  cases kn with
  | wall =>
    have b0 : BdQ 1 (0 : Rat) := ⟨by unfold Bd; decide, by unfold Bd; decide⟩
    exact ⟨b0.le (by decide), b0.le (by decide)⟩
  | free m =>
    obtain ⟨i1, i2⟩ := inv_rep (q := (m : Rat)) ok.1
    have bm : BdQ 21 ((m : Rat)⁻¹) := ⟨by rw [i1]; exact (by unfold Bd; decide : Bd 21 ((1 : Nat) : Int)), by rw [i2]; exact ok.2⟩
    exact ⟨(bx.mul bm).le (by decide), (bY.mul bm).le (by decide)⟩
  | rail m p q =>
    obtain ⟨hm, bm, bp, bq, h0⟩ := ok
    have hN : 0 < m * (p * p + q * q) := Int.mul_pos hm (sq_pos h0)
    have bN : Bd 64 (m * (p * p + q * q)) := bm.mul ((bp.mul bp).add (bq.mul bq))
    have bal := ((bdq_int bp (by decide)).mul bx).add ((bdq_int bq (by decide)).mul bY)
    have bc : BdQ 914 (railC p q m x y) := (bal.div hN bN (by decide)).le (by decide)
    exact ⟨((bdq_int bp (by decide)).mul bc).le (by decide), ((bdq_int bq (by decide)).mul bc).le (by decide)⟩
def a_p_with_speed : ASp := fun ds n Q => ∃ (b : Bw) (x y : Rat), ds = [b.d, spt x y] ∧ Q (b.go x y).d n
theorem ok_p_with_speed (T : Tx K mg A) : FnOk P w K mg base CX0 1 A.f_p_with_speed A.fd_p_with_speed ["row", "speed"] (spOf K 2 a_p_with_speed) := by
  refine fn_mir [] 8 rfl (by decide) (by decide) T.F_p_with_speed sc_p_with_speed fun cdv Ar outer s H E hr => ?_
  refine ⟨_, _, (pss_cons (ps_asg (pv 0) (k_gtup (K := K) (m := 6) rfl rfl (pgs_cons (pg_name (i := 2) sc_p_with_speed.nd rfl (.inl rfl)) (pgs_cons (pg_name (i := 3) sc_p_with_speed.nd rfl (.inl rfl)) (pgs_cons (pg_name (i := 4) sc_p_with_speed.nd rfl (.inl rfl)) (pgs_cons (pg_name (i := 5) sc_p_with_speed.nd rfl (.inl rfl)) (pgs_cons (pg_name (i := 6) sc_p_with_speed.nd rfl (.inl rfl)) (pgs_cons (pg_name (i := 7) sc_p_with_speed.nd rfl (.inl rfl)) pgs_nil))))))))
    (pss_one (ps_ret (pe_tup (pa_cons (pv 2) (pa_cons (pv 3) (pa_cons (pv 4) (pa_cons (pv 5) (pa_cons (pv 6) (pa_cons (pv 1) pa_nil)))))))))), by infer_instance, fun ds n Q hl hA => ?_⟩
  obtain ⟨b, x, y, rfl, q⟩ := hA
  exact q
def a_p_sped : ASp := fun ds n Q => ∃ (b : Bw) (x y : Rat), ds = [b.d, spt x y] ∧ BdQ 66 b.x ∧ BdQ 66 b.y ∧ BdQ 1000 x ∧ BdQ 1000 y ∧ Q (b.go (b.x + x) (b.y + y)).d n
theorem ok_p_sped (T : Tx K mg A) : FnOk P w K mg base CX0 4 A.f_p_sped A.fd_p_sped ["row", "change"] (spOf K 2 a_p_sped) := by
  refine fn_mir [] 2 rfl (by decide) (by decide) T.F_p_sped sc_p_sped fun cdv Ar outer s H E hr => ?_
  refine ⟨_, _, (pss_one (ps_ret (pe_call (ok_p_with_speed (P := P) (K := K) T) (hr.mono (by decide)) (by rfl) T.g_p_with_speed T.F_p_with_speed.kp T.b_p_with_speed .nil pass0 (pa_cons (pv 0) (pa_cons (pe_call (ok_p_spot_plus (P := P) (K := K) T) (hr.mono (by decide)) (by rfl) T.g_p_spot_plus T.F_p_spot_plus.kp T.b_p_spot_plus .nil pass0 (pa_cons (pe_ix (k_ix (K := K) rfl) (pv 0) pe_int (fun _ _ => rfl)) (pa_cons (pv 1) pa_nil))) pa_nil))))), by infer_instance, fun ds n Q hl hA => ?_⟩
  obtain ⟨b, x, y, rfl, b1, b2, b3, b4, q⟩ := hA
  exact ⟨b.x, b.y, x, y, 66, 1000, rfl, b1, b2, b3, b4, by decide, by decide, b, _, _, rfl, q⟩
def a_p_pushed : ASp := fun ds n Q => ∃ (bs : List Bw) (ps : List (Tie × Rat)), ds = [.tup (bs.map Bw.d), .tup (ps.map fun u => u.1.d), .tup (ps.map fun u => sh u.2)] ∧ bs.length ≤ 8 ∧ (bs.map Bw.nm).Nodup ∧ ps.length ≤ 6 ∧ (∀ u ∈ ps, TieOk (bs.map Bw.nm) u) ∧ (∀ b ∈ bs, b.ok) ∧ Q (.tup (bs.map fun b => (b.aft ps).d)) n
theorem ok_p_pushed (T : Tx K mg A) : FnOk P w K mg base CX0 10 A.f_p_pushed A.fd_p_pushed ["rows", "contacts", "pushes"] (spOf K 3 a_p_pushed) := by
  refine fn_mir [] 5 rfl (by decide) (by decide) T.F_p_pushed sc_p_pushed fun cdv Ar outer s H E hr => ?_
  refine ⟨_, _, (pss_cons (ps_set (i := 3) sc_p_pushed.nd rfl (.inr rfl) (pe_call (ok_p_push_sums (P := P) (K := K) T) (hr.mono (by decide)) (by rfl) T.g_p_push_sums T.F_p_push_sums.kp T.b_p_push_sums .nil pass0 (pa_cons (pv 0) (pa_cons (pv 1) (pa_cons (pv 2) pa_nil)))))
    (pss_one (ps_ret (pe_callTy (k_tuple (K := K) rfl) (by rfl) T.m_tuple (by decide +kernel) (pa_cons (pe_lc (own := [("row", 4)]) rfl sc_p_pushed.nd (k_iter (K := K) rfl (pv 0)) (blkOk_by (own := [("row", 4)]) (N := ["rows", "contacts", "pushes", "sums", "row"]) (sc := defScope s_p_pushed) (by decide +kernel)) (fun _ _ _ _ _ => (pg_name (i := 4) sc_p_pushed.nd rfl (Or.inl rfl))) (fun _ _ _ _ _ => pts_nil) (fun _ _ _ _ _ => (pe_call (ok_p_sped (P := P) (K := K) T) (hr.mono (by decide)) (by rfl) T.g_p_sped T.F_p_sped.kp T.b_p_sped .nil pass0 (pa_cons (pv 4) (pa_cons (k_dyn (K := K) (cls := Kd.cls A) (k := 2) (A := a_ans A Kn.ans) (pe_meth (pe_call (ok_p_body_of (P := P) (K := K) T) (hr.mono (by decide)) (by rfl) T.g_p_body_of T.F_p_body_of.kp T.b_p_body_of .nil pass0 (pa_cons (pv 4) pa_nil)) T.cl_Wall T.mt_m_Wall_answer (ok_m_Wall_answer (K := K) T) (hr.mono (by decide)) T.b_m_Wall_answer .nil pass0 (pa_cons (k_dget hr.units (pv 3) (pe_ix (k_ix (K := K) rfl) (pv 4) pe_int (fun _ _ => rfl)) (fun _ _ => rfl)) pa_nil)) (pe_meth (pe_call (ok_p_body_of (P := P) (K := K) T) (hr.mono (by decide)) (by rfl) T.g_p_body_of T.F_p_body_of.kp T.b_p_body_of .nil pass0 (pa_cons (pv 4) pa_nil)) T.cl_Free T.mt_m_Free_answer (ok_m_Free_answer (K := K) T) (hr.mono (by decide)) T.b_m_Free_answer .nil pass0 (pa_cons (k_dget hr.units (pv 3) (pe_ix (k_ix (K := K) rfl) (pv 4) pe_int (fun _ _ => rfl)) (fun _ _ => rfl)) pa_nil)) (pe_meth (pe_call (ok_p_body_of (P := P) (K := K) T) (hr.mono (by decide)) (by rfl) T.g_p_body_of T.F_p_body_of.kp T.b_p_body_of .nil pass0 (pa_cons (pv 4) pa_nil)) T.cl_Railed T.mt_m_Railed_answer (ok_m_Railed_answer (K := K) T) (hr.mono (by decide)) T.b_m_Railed_answer .nil pass0 (pa_cons (k_dget hr.units (pv 3) (pe_ix (k_ix (K := K) rfl) (pv 4) pe_int (fun _ _ => rfl)) (fun _ _ => rfl)) pa_nil))) pa_nil))))) pa_nil))))), by infer_instance, fun ds n Q hl hA => ?_⟩
  obtain ⟨bs, ps, rfl, hl, nd, hp, ok, bok, q⟩ := hA
  have nk : (bs.map fun b => (Sum.inr b.nm : Key)).Nodup := nodup_keys nd
  have nm1 : ("answer" : Str) ∉ bNs := by decide +kernel
  refine ⟨bs, ps, rfl, hl, nd, hp, ok, ?_⟩
  refine ⟨by rw [List.length_map]; omega, aLc_maps Bw.d (fun b => (b.aft ps).d) bs [] (fun b hb Kn L k => ?_) q⟩
  obtain ⟨i, hi⟩ := List.mem_iff_getElem?.mp hb
  obtain ⟨bk, bx, bY⟩ := bok b hb
  obtain ⟨o1, o2⟩ := ofT_ok b.nm ps ok
  obtain ⟨s1, s2⟩ := sum_bd _ o1
  have s1' : BdQ 403 (sumX (ofT b.nm ps)) := s1.le (by omega)
  have s2' : BdQ 403 (sumY (ofT b.nm ps)) := s2.le (by omega)
  obtain ⟨r1, r2⟩ := ans_bd bk s1' s2'
  refine aT ⟨b.kn.kd, b.kn, .str b.nm, b.shp, b.pl, spt b.x b.y, rfl, bk, ⟨rfl, nm1⟩, ?_⟩
  refine ⟨_, _, Sum.inr b.nm, i, _, rfl, rfl, nk, by rw [List.getElem?_map, hi]; rfl, by rw [List.getElem?_map, hi]; rfl, ?_⟩
  refine ⟨b.kn, .str b.nm, b.shp, b.pl, spt b.x b.y, _, _, 403, rfl, rfl, bk, s1', s2', by decide, ?_⟩
  exact ⟨b, _, _, rfl, bx, bY, r1, r2, k⟩
/-! CUT -/
/-! ### the law's own sums -/
def partD (a b : Int) : D := .tup [.int (a / gcdI a b), .int (b / gcdI a b)]
theorem part_sh {a b : Int} (hb : 0 < b) : partD a b = sh (Rat.divInt a b) := by
  obtain ⟨h1, h2, _, _⟩ := low_is (a := a) (b := b) hb
  exact sh_of h1 (by omega) h2
abbrev a_l_gcd : ASp := a_gcd
theorem ok_l_gcd (T : Tx K mg A) : FnOk P w K mg base CX0 1 A.f_l_gcd A.fd_l_gcd ["_law_one", "_law_other"] (spOf K 2 a_l_gcd) := by
  refine fn_mir [] 3 rfl (by decide) (by decide) T.F_l_gcd sc_l_gcd fun cdv Ar outer s H E hr => ?_
  refine ⟨_, _, (pss_cons (ps_set (i := 0) sc_l_gcd.nd rfl (.inl rfl) (pe_callB k_abs (by rfl) T.m_abs (by decide +kernel) (pa_cons (pv 0) pa_nil)))
    (pss_cons (ps_set (i := 1) sc_l_gcd.nd rfl (.inl rfl) (pe_callB k_abs (by rfl) T.m_abs (by decide +kernel) (pa_cons (pv 1) pa_nil)))
    (pss_cons (ps_while PassesOwn.never (pt_cmpR op_gt (pv 1) pe_int (nomark _))
      (pss_cons (ps_set (i := 2) sc_l_gcd.nd rfl (.inl rfl) (pe_op op_mod (pv 0) (pv 1)))
    (pss_cons (ps_set (i := 0) sc_l_gcd.nd rfl (.inl rfl) (pv 1))
    (pss_one (ps_set (i := 1) sc_l_gcd.nd rfl (.inl rfl) (pv 2))))))
    (pss_one (ps_ret (pv 0)))))), by infer_instance, fun ds n Q hl hA => ?_⟩
  obtain ⟨a, b, rfl, q⟩ := hA
  refine ⟨fun m ρ n' => ∃ (x y : Nat) (z : Option D), ρ = [some (.int (x : Int)), some (.int (y : Int)), z] ∧ m = y ∧ n' = n ∧ Nat.gcd x y = Nat.gcd a.natAbs b.natAbs, ⟨_, a.natAbs, b.natAbs, none, by rw [← abs_nat, ← abs_nat]; rfl, rfl, rfl, rfl⟩, ?_⟩
  rintro m _ _ ⟨x, y, z, rfl, rfl, rfl, g⟩
  refine dIte (fun h => ?_) (fun h => ?_)
  · refine ⟨(show (0 : Int) < m by omega), x % m, Nat.mod_lt _ (by omega), m, x % m, _, rfl, rfl, rfl, ?_⟩
    rw [← g, Nat.gcd_comm x m, Nat.gcd_rec m x, Nat.gcd_comm]
  · have hm : m = 0 := by omega
    subst hm
    have e : (x : Int) = gcdI a b := by
      unfold gcdI
      rw [← g, Nat.gcd_zero_right]
    show Q (.int (x : Int)) _
    rw [e]
    exact q
@[irreducible] def a_l_share : ASp := fun ds n Q => ∃ (a b : Int) (k : Nat), ds = [.int a, .int b] ∧ 0 < gcdI a b ∧ Bd k (gcdI a b) ∧ k < 9000 ∧ Q (partD a b) n
theorem ok_l_share (T : Tx K mg A) : FnOk P w K mg base CX0 2 A.f_l_share A.fd_l_share ["_law_top", "_law_bottom"] (spOf K 2 a_l_share) := by
  refine fn_mir [] 3 rfl (by decide) (by decide) T.F_l_share sc_l_share fun cdv Ar outer s H E hr => ?_
  refine ⟨_, _, (pss_cons (ps_set (i := 2) sc_l_share.nd rfl (.inl rfl) (pe_call (ok_l_gcd (P := P) (K := K) T) (hr.mono (by decide)) (by rfl) T.g_l_gcd T.F_l_gcd.kp T.b_l_gcd .nil pass0 (pa_cons (pv 0) (pa_cons (pv 1) pa_nil))))
    (pss_one (ps_ret (pe_tup (pa_cons (pe_op k_fdiv (pv 0) (pv 2)) (pa_cons (pe_op k_fdiv (pv 1) (pv 2)) pa_nil)))))), by infer_instance, fun ds n Q hl hA => ?_⟩
  unfold a_l_share at hA
  obtain ⟨a, b, k, rfl, g0, gb, hk, q⟩ := hA
  exact ⟨a, b, rfl, divA gb g0 hk, divA gb g0 hk, q⟩
theorem part_ok {a b : Int} {k n : Nat} {Q : D → Nat → Prop} (hb : 0 < b) (bb : Bd k b) (hk : k < 9000) (q : Q (sh (Rat.divInt a b)) n) : a_l_share [.int a, .int b] n Q := by
  unfold a_l_share
  exact ⟨a, b, k, rfl, gcdI_pos (by omega), gcdI_bd bb (by omega), hk, by rw [part_sh hb]; exact q⟩
def a_l_plus : ASp := fun ds n Q => ∃ (x y : Rat) (k m : Nat), ds = [sh x, sh y] ∧ BdQ k x ∧ BdQ m y ∧ k ≤ 4000 ∧ m ≤ 4000 ∧ Q (sh (x + y)) n
theorem ok_l_plus (T : Tx K mg A) : FnOk P w K mg base CX0 3 A.f_l_plus A.fd_l_plus ["_law_one", "_law_other"] (spOf K 2 a_l_plus) := by
  refine fn_mir [] 2 rfl (by decide) (by decide) T.F_l_plus sc_l_plus fun cdv Ar outer s H E hr => ?_
  refine ⟨_, _, (pss_one (ps_ret (pe_call (ok_l_share (P := P) (K := K) T) (hr.mono (by decide)) (by rfl) T.g_l_share T.F_l_share.kp T.b_l_share .nil pass0 (pa_cons (pe_op (k_add (K := K) rfl) (pe_op k_mul (pe_ix (k_ix (K := K) rfl) (pv 0) pe_int (fun _ _ => rfl)) (pe_ix (k_ix (K := K) rfl) (pv 1) pe_int (fun _ _ => rfl))) (pe_op k_mul (pe_ix (k_ix (K := K) rfl) (pv 1) pe_int (fun _ _ => rfl)) (pe_ix (k_ix (K := K) rfl) (pv 0) pe_int (fun _ _ => rfl)))) (pa_cons (pe_op k_mul (pe_ix (k_ix (K := K) rfl) (pv 0) pe_int (fun _ _ => rfl)) (pe_ix (k_ix (K := K) rfl) (pv 1) pe_int (fun _ _ => rfl))) pa_nil))))), by infer_instance, fun ds n Q hl hA => ?_⟩
  obtain ⟨x, y, k, m, rfl, bx, bY, hk, hm, q⟩ := hA
  refine ⟨mulA bx.1 bY.2 (by omega) (by omega), mulA bY.1 bx.2 (by omega) (by omega), mulA bx.2 bY.2 (by omega) (by omega), ?_⟩
  refine part_ok (Int.mul_pos (den_pos x) (den_pos y)) (bx.2.mul bY.2) (by omega) ?_
  rw [← add_divInt]
  exact q
def a_l_times : ASp := fun ds n Q => ∃ (x y : Rat) (k m : Nat), ds = [sh x, sh y] ∧ BdQ k x ∧ BdQ m y ∧ k ≤ 4000 ∧ m ≤ 4000 ∧ Q (sh (x * y)) n
theorem ok_l_times (T : Tx K mg A) : FnOk P w K mg base CX0 3 A.f_l_times A.fd_l_times ["_law_one", "_law_other"] (spOf K 2 a_l_times) := by
  refine fn_mir [] 2 rfl (by decide) (by decide) T.F_l_times sc_l_times fun cdv Ar outer s H E hr => ?_
  refine ⟨_, _, (pss_one (ps_ret (pe_call (ok_l_share (P := P) (K := K) T) (hr.mono (by decide)) (by rfl) T.g_l_share T.F_l_share.kp T.b_l_share .nil pass0 (pa_cons (pe_op k_mul (pe_ix (k_ix (K := K) rfl) (pv 0) pe_int (fun _ _ => rfl)) (pe_ix (k_ix (K := K) rfl) (pv 1) pe_int (fun _ _ => rfl))) (pa_cons (pe_op k_mul (pe_ix (k_ix (K := K) rfl) (pv 0) pe_int (fun _ _ => rfl)) (pe_ix (k_ix (K := K) rfl) (pv 1) pe_int (fun _ _ => rfl))) pa_nil))))), by infer_instance, fun ds n Q hl hA => ?_⟩
  obtain ⟨x, y, k, m, rfl, bx, bY, hk, hm, q⟩ := hA
  refine ⟨mulA bx.1 bY.1 (by omega) (by omega), mulA bx.2 bY.2 (by omega) (by omega), ?_⟩
  refine part_ok (Int.mul_pos (den_pos x) (den_pos y)) (bx.2.mul bY.2) (by omega) ?_
  rw [← mul_divInt]
  exact q
def a_l_spot_plus : ASp := a_spot2 (· + ·)
theorem ok_l_spot_plus (T : Tx K mg A) : FnOk P w K mg base CX0 4 A.f_l_spot_plus A.fd_l_spot_plus ["_law_one", "_law_other"] (spOf K 2 a_l_spot_plus) := by
  refine fn_mir [] 2 rfl (by decide) (by decide) T.F_l_spot_plus sc_l_spot_plus fun cdv Ar outer s H E hr => ?_
  refine ⟨_, _, (pss_one (ps_ret (pe_tup (pa_cons (pe_call (ok_l_plus (P := P) (K := K) T) (hr.mono (by decide)) (by rfl) T.g_l_plus T.F_l_plus.kp T.b_l_plus .nil pass0 (pa_cons (pe_ix (k_ix (K := K) rfl) (pv 0) pe_int (fun _ _ => rfl)) (pa_cons (pe_ix (k_ix (K := K) rfl) (pv 1) pe_int (fun _ _ => rfl)) pa_nil))) (pa_cons (pe_call (ok_l_plus (P := P) (K := K) T) (hr.mono (by decide)) (by rfl) T.g_l_plus T.F_l_plus.kp T.b_l_plus .nil pass0 (pa_cons (pe_ix (k_ix (K := K) rfl) (pv 0) pe_int (fun _ _ => rfl)) (pa_cons (pe_ix (k_ix (K := K) rfl) (pv 1) pe_int (fun _ _ => rfl)) pa_nil))) pa_nil))))), by infer_instance, fun ds n Q hl hA => ?_⟩
  obtain ⟨x, y, x', y', k, m, rfl, b1, b2, b3, b4, hk, hm, q⟩ := hA
  exact ⟨x, x', k, m, rfl, b1, b3, hk, hm, y, y', k, m, rfl, b2, b4, hk, hm, q⟩
def a_l_spot_times : ASp := fun ds n Q => ∃ (x y z : Rat) (k m : Nat), ds = [spt x y, sh z] ∧ BdQ k x ∧ BdQ k y ∧ BdQ m z ∧ k ≤ 4000 ∧ m ≤ 4000 ∧ Q (spt (x * z) (y * z)) n
theorem ok_l_spot_times (T : Tx K mg A) : FnOk P w K mg base CX0 4 A.f_l_spot_times A.fd_l_spot_times ["_law_spot", "_law_part_here"] (spOf K 2 a_l_spot_times) := by
  refine fn_mir [] 2 rfl (by decide) (by decide) T.F_l_spot_times sc_l_spot_times fun cdv Ar outer s H E hr => ?_
  refine ⟨_, _, (pss_one (ps_ret (pe_tup (pa_cons (pe_call (ok_l_times (P := P) (K := K) T) (hr.mono (by decide)) (by rfl) T.g_l_times T.F_l_times.kp T.b_l_times .nil pass0 (pa_cons (pe_ix (k_ix (K := K) rfl) (pv 0) pe_int (fun _ _ => rfl)) (pa_cons (pv 1) pa_nil))) (pa_cons (pe_call (ok_l_times (P := P) (K := K) T) (hr.mono (by decide)) (by rfl) T.g_l_times T.F_l_times.kp T.b_l_times .nil pass0 (pa_cons (pe_ix (k_ix (K := K) rfl) (pv 0) pe_int (fun _ _ => rfl)) (pa_cons (pv 1) pa_nil))) pa_nil))))), by infer_instance, fun ds n Q hl hA => ?_⟩
  obtain ⟨x, y, z, k, m, rfl, b1, b2, b3, hk, hm, q⟩ := hA
  exact ⟨x, z, k, m, rfl, b1, b3, hk, hm, y, z, k, m, rfl, b2, b3, hk, hm, q⟩
/-! ### alike -/
def Lf (d : D) : Prop := (∃ i, d = .int i) ∨ (∃ z, d = .str z) ∨ d = .non
def DDt : Nat → D → Prop
  | 0, d => Lf d
  | n + 1, d => Lf d ∨ ∃ ds, d = .tup ds ∧ ds.length ≤ 10 ∧ ∀ x ∈ ds, DDt n x
theorem ddt_lf {d : D} (h : Lf d) : ∀ n, DDt n d
  | 0 => h
  | _ + 1 => .inl h
theorem ddt_up : ∀ {n : Nat} {d : D}, DDt n d → DDt (n + 1) d
  | 0, d, h => .inl h
  | n + 1, d, h => by
    rcases h with h | ⟨ds, rfl, hl, hx⟩
    · exact .inl h
    · exact .inr ⟨ds, rfl, hl, fun x hm => ddt_up (hx x hm)⟩
theorem ddt_pr (a b : Int) : DDt 1 (.tup [.int a, .int b]) := .inr ⟨_, rfl, by simp, fun d hd => by
  have : d = .int a ∨ d = .int b := by simpa using hd
  rcases this with rfl | rfl
  · exact .inl ⟨_, rfl⟩
  · exact .inl ⟨_, rfl⟩⟩
theorem ddt_spt (x y : Rat) : DDt 2 (spt x y) := .inr ⟨_, rfl, by simp, fun d hd => by
  have : d = sh x ∨ d = sh y := by simpa using hd
  rcases this with rfl | rfl
  · exact ddt_pr _ _
  · exact ddt_pr _ _⟩
theorem ddt_shape {d : D} (h : d ∈ [D.tup [.tup [.int 0, .int 0], .tup [.int 2, .int 0], .tup [.int 0, .int 2]], D.tup [.tup [.int (-1), .int 0], .tup [.int 3, .int 0], .tup [.int 3, .int 1], .tup [.int (-1), .int 1]]]) : DDt 2 d := by
  rcases List.mem_cons.mp h with rfl | h
  · refine .inr ⟨_, rfl, by decide, fun x hx => ?_⟩
    rcases List.mem_cons.mp hx with rfl | hx
    · exact ddt_pr _ _
    rcases List.mem_cons.mp hx with rfl | hx
    · exact ddt_pr _ _
    rw [List.mem_singleton.mp hx]
    exact ddt_pr _ _
  · rw [List.mem_singleton.mp h]
    refine .inr ⟨_, rfl, by decide, fun x hx => ?_⟩
    rcases List.mem_cons.mp hx with rfl | hx
    · exact ddt_pr _ _
    rcases List.mem_cons.mp hx with rfl | hx
    · exact ddt_pr _ _
    rcases List.mem_cons.mp hx with rfl | hx
    · exact ddt_pr _ _
    rw [List.mem_singleton.mp hx]
    exact ddt_pr _ _
def Bw.okD (b : Bw) : Prop := DDt 2 b.shp ∧ DDt 2 b.pl
theorem ddt_row {b : Bw} (h : b.okD) : DDt 3 b.d := by
  refine .inr ⟨_, rfl, by show 6 ≤ 10; decide, fun x hx => ?_⟩
  have e : x = .str b.nm ∨ x = b.shp ∨ x = .int b.kn.mass ∨ x = b.kn.rl ∨ x = b.pl ∨ x = spt b.x b.y := by simpa [Bw.rw] using hx
  rcases e with rfl | rfl | rfl | rfl | rfl | rfl
  · exact ddt_lf (.inr (.inl ⟨_, rfl⟩)) _
  · exact h.1
  · exact ddt_lf (.inl ⟨_, rfl⟩) _
  · cases b.kn with
    | wall => exact ddt_lf (.inr (.inr rfl)) _
    | free m => exact ddt_lf (.inr (.inr rfl)) _
    | rail m p q => exact ddt_up (ddt_pr p q)
  · exact h.2
  · exact ddt_spt _ _
def a_alk (j : Nat) : ASp := fun ds n Q => ∃ d, ds = [d, d] ∧ DDt j d ∧ Q (.bl true) n
abbrev a_l_alike : ASp := a_alk 4
theorem alike_step (T : Tx K mg A) {lv : Nat} {B : ASp} (hrec : FnOk P w K mg base CX0 lv A.f_l_alike A.fd_l_alike ["_law_found", "_law_due"] (spOf K 2 B)) (ok : ASp) (hstep : ∀ ds n Q, ok ds n Q → (∃ d, ds = [d, d] ∧ Lf d ∧ Q (.bl true) n) ∨ ∃ xs, ds = [.tup xs, .tup xs] ∧ xs.length ≤ 10 ∧ (∀ x ∈ xs, ∀ n Q, Q (.bl true) n → B [x, x] n Q) ∧ Q (.bl true) n) :
    FnOk P w K mg base CX0 (lv + 1) A.f_l_alike A.fd_l_alike ["_law_found", "_law_due"] (spOf K 2 ok) := by
  refine fn_mir [] 3 rfl (by decide) (by decide) T.F_l_alike sc_l_alike fun cdv Ar outer s H E hr => ?_
  refine ⟨_, _, (pss_cons (ps_if (pt_cmpR k_isN (pv 1) pe_non (nomark _))
      (pss_one (ps_ret (pe_cmpR k_isN (pv 0) pe_non (nomark _))))
      pss_nil)
    (pss_cons (ps_if (pt_val (pe_callB (k_isi (K := K) rfl) (by rfl) T.m_isinstance (by decide +kernel) (pa_cons (pv 1) (pa_cons (k_ty (t := .str) (by rfl) T.m_str (by decide +kernel)) pa_nil))))
      (pss_one (ps_ret (pe_and (pe_callB (k_isi (K := K) rfl) (by rfl) T.m_isinstance (by decide +kernel) (pa_cons (pv 0) (pa_cons (k_ty (t := .str) (by rfl) T.m_str (by decide +kernel)) pa_nil))) (pe_one (pe_cmpR (k_eq (K := K) rfl hr.units) (pv 0) (pv 1) (nomark _))))))
      pss_nil)
    (pss_cons (ps_if (pt_val (pe_callB (k_isi (K := K) rfl) (by rfl) T.m_isinstance (by decide +kernel) (pa_cons (pv 1) (pa_cons (k_ty (t := .int) (by rfl) T.m_int (by decide +kernel)) pa_nil))))
      (pss_one (ps_ret (pe_and (pe_callB (k_isi (K := K) rfl) (by rfl) T.m_isinstance (by decide +kernel) (pa_cons (pv 0) (pa_cons (k_ty (t := .int) (by rfl) T.m_int (by decide +kernel)) pa_nil))) (pe_and (pe_not (pe_callB (k_isi (K := K) rfl) (by rfl) T.m_isinstance (by decide +kernel) (pa_cons (pv 0) (pa_cons (k_ty (t := .bl) (by rfl) T.m_bool (by decide +kernel)) pa_nil)))) (pe_one (pe_cmpR (k_eq (K := K) rfl hr.units) (pv 0) (pv 1) (nomark _)))))))
      pss_nil)
    (pss_cons (ps_if (PW.pt (pw_or (pt_not (pt_val (pe_callB (k_isi (K := K) rfl) (by rfl) T.m_isinstance (by decide +kernel) (pa_cons (pv 0) (pa_cons (k_ty (t := .tup) (by rfl) T.m_tuple (by decide +kernel)) pa_nil))))) (pw_or1 (pt_cmpR (k_ne (K := K) rfl hr.units) (pe_callB (k_len (K := K) rfl) (by rfl) T.m_len (by decide +kernel) (pa_cons (pv 0) pa_nil)) (pe_callB (k_len (K := K) rfl) (by rfl) T.m_len (by decide +kernel) (pa_cons (pv 1) pa_nil)) (nomark _)))))
      (pss_one (ps_ret pe_bl))
      pss_nil)
    (pss_cons (ps_for PassesOwn.never rfl (pi_range1 (by rfl) T.m_range (pa_cons (pe_callB (k_len (K := K) rfl) (by rfl) T.m_len (by decide +kernel) (pa_cons (pv 1) pa_nil)) pa_nil)) (pg_name (i := 2) sc_l_alike.nd rfl (.inl rfl))
      (pss_one (ps_if (pt_not (pt_val (pe_call hrec (hr.mono (Nat.le_refl _)) (by rfl) T.g_l_alike T.F_l_alike.kp T.b_l_alike .nil pass0 (pa_cons (pe_ix (k_ixS (K := K) rfl) (pv 0) (pv 2) (fun _ _ => rfl)) (pa_cons (pe_ix (k_ixS (K := K) rfl) (pv 1) (pv 2) (fun _ _ => rfl)) pa_nil)))))
      (pss_one (ps_ret pe_bl))
      pss_nil)))
    (pss_one (ps_ret pe_bl))))))), by infer_instance, fun ds n Q hl hA => ?_⟩
  rcases hstep ds n Q hA with ⟨d, rfl, lf, q⟩ | ⟨xs, rfl, hl, hx, q⟩
  · rcases lf with ⟨i, rfl⟩ | ⟨z, rfl⟩ | rfl
    · have e : decide (i = i) = true := decide_eq_true rfl
      have k : Q (.bl (decide (i = i))) n := by
        rw [e]
        exact q
      exact aF (aF (aT (aT (aT k))))
    · have k : Q (.bl (z == z)) n := by
        rw [beq_self_eq_true]
        exact q
      exact aF (aT (aT k))
    · exact aT q
  · refine aF (aF (aF (aF ?_)))
    have e : (!(decide ((xs.length : Int) = (xs.length : Int)))) = false := by
      rw [decide_eq_true rfl]
      rfl
    show aIte (!(decide ((xs.length : Int) = (xs.length : Int)))) _ _
    rw [e]
    refine aF ⟨⟨by omega, by omega⟩, ?_⟩
    refine aFor_ind (fun ds ρ n' => n' = n ∧ (∀ d ∈ ds, d ∈ rangeD 0 ((xs.length : Int)).toNat) ∧ ∃ y, ρ = [some (.tup xs), some (.tup xs), y]) ?_ ?_ ⟨rfl, fun d h => h, none, rfl⟩
    · rintro d r _ _ ⟨rfl, hd, y, rfl⟩ ih
      obtain ⟨j, hj⟩ := List.mem_iff_getElem?.mp (hd d List.mem_cons_self)
      obtain ⟨h1, rfl⟩ := rangeD_get hj
      have hjl : j < xs.length := by omega
      have hat : atI xs (0 + (j : Int)) = some xs[j] := by
        rw [Int.zero_add]
        exact atI_nat (List.getElem?_eq_getElem hjl)
      refine aIx_tup hat (aIx_tup hat (hx _ (List.getElem_mem hjl) _ _ (aF ?_)))
      exact ih _ _ ⟨rfl, fun d h => hd d (List.mem_cons_of_mem _ h), _, rfl⟩
    · rintro _ _ ⟨rfl, _, y, rfl⟩
      exact q
theorem alike_no {lv : Nat} : FnOk P w K mg base CX0 lv A.f_l_alike A.fd_l_alike ["_law_found", "_law_due"] (spOf K 2 fun _ _ _ => False) := ⟨fun vs H Q E h => by
    obtain ⟨W, n, ds, Qa, h1, h2, h3, h4, h5⟩ := h
    exact h5.elim, fun A' outer s H args us vs Q E hr e0 hb hv h => by
    obtain ⟨W, n, ds, Qa, h1, h2, h3, h4, h5⟩ := h
    exact h5.elim⟩
theorem alk_up (T : Tx K mg A) {lv j : Nat} (h : FnOk P w K mg base CX0 lv A.f_l_alike A.fd_l_alike ["_law_found", "_law_due"] (spOf K 2 (a_alk j))) : FnOk P w K mg base CX0 (lv + 1) A.f_l_alike A.fd_l_alike ["_law_found", "_law_due"] (spOf K 2 (a_alk (j + 1))) :=
  alike_step T h (a_alk (j + 1)) fun ds n Q h => by
    obtain ⟨d, rfl, hl | ⟨xs, rfl, hl, hx⟩, q⟩ := h
    · exact .inl ⟨d, rfl, hl, q⟩
    · exact .inr ⟨xs, rfl, hl, fun x hm n Q q => ⟨x, rfl, hx x hm, q⟩, q⟩
theorem ok_l_alike (T : Tx K mg A) : FnOk P w K mg base CX0 10 A.f_l_alike A.fd_l_alike ["_law_found", "_law_due"] (spOf K 2 a_l_alike) := by
  have s0 := alike_step (P := P) (w := w) (base := base) (lv := 5) T alike_no (a_alk 0) fun ds n Q h => by
    obtain ⟨d, rfl, hl, q⟩ := h
    exact .inl ⟨d, rfl, hl, q⟩
  exact alk_up T (alk_up T (alk_up T (alk_up T s0)))
theorem small_log {m : Int} (h0 : 0 < m) (h1 : m ≤ 4000000) : m.natAbs.log2 < 9000 := by
  have e : (2 : Nat) ^ 22 = 4194304 := by decide
  exact Nat.lt_of_lt_of_le (log2_lt (k := 22) (by omega) (by decide)) (by decide)
def a_l_number : ASp := fun ds n Q => ∃ s : Int, ds = [.deck, .int s] ∧ 0 ≤ s ∧ s ≤ 1000000 ∧ 1 ≤ n ∧ ∀ r, -s ≤ r → r ≤ s → Q (.int r) (n - 1)
theorem ok_l_number (T : Tx K mg A) : FnOk P w K mg base CX0 4 A.f_l_number A.fd_l_number ["_law_deck_here", "_law_span"] (spOf K 2 a_l_number) := by
  refine fn_mir [] 2 rfl (by decide) (by decide) T.F_l_number sc_l_number fun cdv Ar outer s H E hr => ?_
  refine ⟨_, _, (pss_one (ps_ret (pe_op op_sub (pe_call (ok_l_take (P := P) (K := K) T) (hr.mono (by decide)) (by rfl) T.g_l_take T.F_l_take.kp T.b_l_take .nil pass0 (pa_cons (pv 0) (pa_cons (pe_op (k_add (K := K) rfl) (pe_op k_mul pe_int (pv 1)) pe_int) pa_nil))) (pv 1)))), by infer_instance, fun ds n Q hl hA => ?_⟩
  obtain ⟨s, rfl, h0, h1, hn, q⟩ := hA
  exact ⟨.inl (.inl (by decide)), 2 * s + 1, rfl, by omega, small_log (by omega) (by omega), by omega, fun r l u => q _ (by omega) (by omega)⟩
theorem bd_abs {k : Nat} {r n : Int} (h1 : n.natAbs < 2 ^ k) (h2 : -n ≤ r) (h3 : r ≤ n) : Bd k r := by
  unfold Bd
  omega
def a_l_part : ASp := fun ds n Q => ∃ g : Int, ds = [.deck, .int g] ∧ 10 ≤ n ∧ ∀ (q : Rat) (n' : Nat), BdQ 45 q → n ≤ n' + 5 → Q (sh q) n'
theorem ok_l_part (T : Tx K mg A) : FnOk P w K mg base CX0 5 A.f_l_part A.fd_l_part ["_law_deck_here", "_law_great"] (spOf K 2 a_l_part) := by
  refine fn_mir [] 4 rfl (by decide) (by decide) T.F_l_part sc_l_part fun cdv Ar outer s H E hr => ?_
  refine ⟨_, _, (pss_cons (ps_set (i := 2) sc_l_part.nd rfl (.inl rfl) (pe_call (ok_l_take (P := P) (K := K) T) (hr.mono (by decide)) (by rfl) T.g_l_take T.F_l_take.kp T.b_l_take .nil pass0 (pa_cons (pv 0) (pa_cons pe_int pa_nil))))
    (pss_cons (ps_set (i := 3) sc_l_part.nd rfl (.inl rfl) (pe_call (ok_l_number (P := P) (K := K) T) (hr.mono (by decide)) (by rfl) T.g_l_number T.F_l_number.kp T.b_l_number .nil pass0 (pa_cons (pv 0) (pa_cons pe_int pa_nil))))
    (pss_cons (ps_if (pt_cmpR (k_eq (K := K) rfl hr.units) (pv 2) pe_int (nomark _))
      (pss_one (ps_ret (pe_tup (pa_cons (pv 3) (pa_cons pe_int pa_nil)))))
      pss_nil)
    (pss_cons (ps_if (pt_cmpR (k_eq (K := K) rfl hr.units) (pv 2) pe_int (nomark _))
      (pss_one (ps_ret (pe_tup (pa_cons (pe_op op_sub (pe_op op_mod (pv 3) pe_int) pe_int) (pa_cons pe_int pa_nil)))))
      pss_nil)
    (pss_cons (ps_if (pt_cmpR (k_eq (K := K) rfl hr.units) (pv 1) pe_int (nomark _))
      (pss_one (ps_ret (pe_call (ok_l_share (P := P) (K := K) T) (hr.mono (by decide)) (by rfl) T.g_l_share T.F_l_share.kp T.b_l_share .nil pass0 (pa_cons (pv 3) (pa_cons (pe_op (k_add (K := K) rfl) pe_int (pe_call (ok_l_take (P := P) (K := K) T) (hr.mono (by decide)) (by rfl) T.g_l_take T.F_l_take.kp T.b_l_take .nil pass0 (pa_cons (pv 0) (pa_cons pe_int pa_nil)))) pa_nil)))))
      pss_nil)
    (pss_cons (ps_set (i := 3) sc_l_part.nd rfl (.inl rfl) (pe_op (k_add (K := K) rfl) (pe_op (k_add (K := K) rfl) (pe_op k_mul (pv 3) (pe_op op_pow pe_int pe_int)) (pe_op k_mul (pe_call (ok_l_number (P := P) (K := K) T) (hr.mono (by decide)) (by rfl) T.g_l_number T.F_l_number.kp T.b_l_number .nil pass0 (pa_cons (pv 0) (pa_cons (pe_op op_pow pe_int pe_int) pa_nil))) (pe_op op_pow pe_int pe_int))) (pe_call (ok_l_number (P := P) (K := K) T) (hr.mono (by decide)) (by rfl) T.g_l_number T.F_l_number.kp T.b_l_number .nil pass0 (pa_cons (pv 0) (pa_cons (pe_op op_pow pe_int pe_int) pa_nil)))))
    (pss_one (ps_ret (pe_call (ok_l_share (P := P) (K := K) T) (hr.mono (by decide)) (by rfl) T.g_l_share T.F_l_share.kp T.b_l_share .nil pass0 (pa_cons (pv 3) (pa_cons (pe_op (k_add (K := K) rfl) pe_int (pe_call (ok_l_take (P := P) (K := K) T) (hr.mono (by decide)) (by rfl) T.g_l_take T.F_l_take.kp T.b_l_take .nil pass0 (pa_cons (pv 0) (pa_cons (pe_op op_pow pe_int pe_int) pa_nil)))) pa_nil))))))))))), by infer_instance, fun ds n Q hl hA => ?_⟩
  obtain ⟨g, rfl, hn, q⟩ := hA
  have e45 : (2 : Nat) ^ 45 = 35184372088832 := by decide
  refine ⟨4, rfl, by decide, by decide, by omega, fun kd l u => ?_⟩
  refine ⟨9, rfl, by decide, by decide, by omega, fun t lt ut => ?_⟩
  refine dIte (fun e => ?_) fun e => dIte (fun e2 => ?_) fun e2 => dIte (fun e3 => ?_) fun e3 => ?_
  · exact q (t : Rat) _ (bdq_int (bd_abs (n := 9) (by decide) lt ut) (by decide)) (by omega)
  · exact ⟨(show (0 : Int) < 3 by decide), q ((t % 3 - 1 : Int) : Rat) _ (bdq_int (bd_abs (n := 9) (by decide) (by omega) (by omega)) (by decide)) (by omega)⟩
  · refine ⟨6, rfl, by decide, by decide, by omega, fun r lr ur => ?_⟩
    have b1 : Bd 45 (1 + r) := by unfold Bd; omega
    refine part_ok (by omega) b1 (by decide) ?_
    exact q _ _ (divInt_bd (by omega) (bd_abs (n := 9) (by decide) lt ut) b1) (by omega)
  · have bt : Bd 5 t := bd_abs (n := 9) (by decide) lt ut
    refine ⟨⟨by decide, by decide, by decide⟩, mulA bt (show Bd 45 (10 ^ Int.toNat 12) by unfold Bd; decide) (by decide) (by decide), ⟨by decide, by decide, by decide⟩, 1000000, rfl, by decide, by decide, by omega, fun a la ua => ?_⟩
    refine ⟨⟨by decide, by decide, by decide⟩, mulA (bd_abs (k := 21) (n := 1000000) (by decide) la ua) (show Bd 21 (10 ^ Int.toNat 6) by unfold Bd; decide) (by decide) (by decide), ⟨by decide, by decide, by decide⟩, 1000000, rfl, by decide, by decide, by omega, fun b lb ub => ?_⟩
    refine ⟨⟨by decide, by decide, by decide⟩, 1000000, rfl, by decide, by decide, by omega, fun r lr ur => ?_⟩
    have b1 : Bd 45 (1 + r) := by unfold Bd; omega
    have e12 : (10 : Int) ^ Int.toNat 12 = 1000000000000 := by decide
    have e6 : (10 : Int) ^ Int.toNat 6 = 1000000 := by decide
    refine part_ok (by omega) b1 (by decide) ?_
    refine q _ _ (divInt_bd (by omega) ?_ b1) (by omega)
    rw [e12, e6]
    unfold Bd
    omega
def a_l_way : ASp := fun ds n Q => ∃ g : Int, ds = [.deck, .int g] ∧ 10 ≤ n ∧ ∀ (p q : Int) (n' : Nat), Bd 21 p → Bd 21 q → ¬ (p = 0 ∧ q = 0) → n ≤ n' + 4 → Q (.tup [.int p, .int q]) n'
theorem natAbs_div_le_self' {a g : Int} (h : 0 < g) : (a / g).natAbs ≤ a.natAbs := by
  obtain ⟨k, rfl⟩ := Int.eq_ofNat_of_zero_le (Int.le_of_lt h)
  exact Int.natAbs_ediv_le_natAbs a k
theorem way_end {p q : Int} (bp : Bd 21 p) (bq : Bd 21 q) (h0 : ¬ (p = 0 ∧ q = 0)) : 0 < gcdI p q ∧ Bd 21 (gcdI p q) ∧ Bd 21 (p / gcdI p q) ∧ Bd 21 (q / gcdI p q) ∧ ¬ (p / gcdI p q = 0 ∧ q / gcdI p q = 0) := by
  have g0 : 0 < gcdI p q := by
    unfold gcdI
    have : Nat.gcd p.natAbs q.natAbs ≠ 0 := fun z => h0 (by have := Nat.gcd_eq_zero_iff.mp z; omega)
    omega
  refine ⟨g0, ?_, bp.of_le (natAbs_div_le_self' g0), bq.of_le (natAbs_div_le_self' g0), fun z => h0 ?_⟩
  rotate_left
  · have e1 := Int.ediv_mul_cancel (gcdI_dvd_l p q)
    have e2 := Int.ediv_mul_cancel (gcdI_dvd_r p q)
    rw [z.1, Int.zero_mul] at e1
    rw [z.2, Int.zero_mul] at e2
    exact ⟨e1.symm, e2.symm⟩
  unfold Bd gcdI at *
  by_cases hp : p = 0
  · have hq : 0 < q.natAbs := by omega
    have := Nat.gcd_le_right p.natAbs hq
    omega
  · have := Nat.gcd_le_left q.natAbs (show 0 < p.natAbs by omega)
    omega
theorem ok_l_way (T : Tx K mg A) : FnOk P w K mg base CX0 5 A.f_l_way A.fd_l_way ["_law_deck_here", "_law_great"] (spOf K 2 a_l_way) := by
  refine fn_mir [] 7 rfl (by decide) (by decide) T.F_l_way sc_l_way fun cdv Ar outer s H E hr => ?_
  refine ⟨_, _, (pss_cons (ps_set (i := 2) sc_l_way.nd rfl (.inl rfl) (pe_call (ok_l_take (P := P) (K := K) T) (hr.mono (by decide)) (by rfl) T.g_l_take T.F_l_take.kp T.b_l_take .nil pass0 (pa_cons (pv 0) (pa_cons pe_int pa_nil))))
    (pss_cons (ps_if (pt_cmpR op_lt (pv 2) pe_int (nomark _))
      (pss_one (ps_ret (pe_ix (k_ixS (K := K) rfl) (pe_lst (pa_cons (pe_tup (pa_cons pe_int (pa_cons pe_int pa_nil))) (pa_cons (pe_tup (pa_cons pe_int (pa_cons pe_int pa_nil))) (pa_cons (pe_tup (pa_cons (pe_un un_neg pe_int) (pa_cons pe_int pa_nil))) (pa_cons (pe_tup (pa_cons pe_int (pa_cons (pe_un un_neg pe_int) pa_nil))) pa_nil))))) (pe_call (ok_l_take (P := P) (K := K) T) (hr.mono (by decide)) (by rfl) T.g_l_take T.F_l_take.kp T.b_l_take .nil pass0 (pa_cons (pv 0) (pa_cons pe_int pa_nil))) (fun _ _ => rfl))))
      pss_nil)
    (pss_cons (ps_set (i := 3) sc_l_way.nd rfl (.inl rfl) pe_int)
    (pss_cons (ps_if (pt_cmpR (k_eq (K := K) rfl hr.units) (pv 1) pe_int (nomark _))
      (pss_one (ps_set (i := 3) sc_l_way.nd rfl (.inl rfl) (pe_op op_pow pe_int pe_int)))
      pss_nil)
    (pss_cons (ps_set (i := 4) sc_l_way.nd rfl (.inl rfl) (pe_call (ok_l_number (P := P) (K := K) T) (hr.mono (by decide)) (by rfl) T.g_l_number T.F_l_number.kp T.b_l_number .nil pass0 (pa_cons (pv 0) (pa_cons (pv 3) pa_nil))))
    (pss_cons (ps_set (i := 5) sc_l_way.nd rfl (.inl rfl) (pe_call (ok_l_number (P := P) (K := K) T) (hr.mono (by decide)) (by rfl) T.g_l_number T.F_l_number.kp T.b_l_number .nil pass0 (pa_cons (pv 0) (pa_cons (pv 3) pa_nil))))
    (pss_cons (ps_if (PW.pt (pw_and (pt_cmpR (k_eq (K := K) rfl hr.units) (pv 4) pe_int (nomark _)) (pw_and1 (pt_cmpR (k_eq (K := K) rfl hr.units) (pv 5) pe_int (nomark _)))))
      (pss_one (ps_ret (pe_tup (pa_cons pe_int (pa_cons pe_int pa_nil)))))
      pss_nil)
    (pss_cons (ps_set (i := 6) sc_l_way.nd rfl (.inl rfl) (pe_call (ok_l_gcd (P := P) (K := K) T) (hr.mono (by decide)) (by rfl) T.g_l_gcd T.F_l_gcd.kp T.b_l_gcd .nil pass0 (pa_cons (pv 4) (pa_cons (pv 5) pa_nil))))
    (pss_one (ps_ret (pe_tup (pa_cons (pe_op k_fdiv (pv 4) (pv 6)) (pa_cons (pe_op k_fdiv (pv 5) (pv 6)) pa_nil))))))))))))), by infer_instance, fun ds n Q hl hA => ?_⟩
  obtain ⟨g, rfl, hn, Qk⟩ := hA
  refine ⟨4, rfl, by decide, by decide, by omega, fun kd l u => ?_⟩
  refine dIte (fun e => ?_) fun e => ?_
  · refine ⟨4, rfl, by decide, by decide, by omega, fun r lr ur => ?_⟩
    obtain rfl | rfl | rfl | rfl : r = 0 ∨ r = 1 ∨ r = 2 ∨ r = 3 := by omega
    · exact aIx_lst rfl (Qk 1 0 _ (by unfold Bd; decide) (by unfold Bd; decide) (by decide) (by omega))
    · exact aIx_lst rfl (Qk 0 1 _ (by unfold Bd; decide) (by unfold Bd; decide) (by decide) (by omega))
    · exact aIx_lst rfl (Qk (-1) 0 _ (by unfold Bd; decide) (by unfold Bd; decide) (by decide) (by omega))
    · exact aIx_lst rfl (Qk 0 (-1) _ (by unfold Bd; decide) (by unfold Bd; decide) (by decide) (by omega))
  · have fin : ∀ sp : Int, 0 ≤ sp → sp ≤ 1000000 → ∀ p q : Int, -sp ≤ p → p ≤ sp → -sp ≤ q → q ≤ sp → Bd 21 p ∧ Bd 21 q := fun sp h0 h1 p q l1 u1 l2 u2 => ⟨bd_abs (n := 1000000) (by decide) (by omega) (by omega), bd_abs (n := 1000000) (by decide) (by omega) (by omega)⟩
    refine dIte (fun e2 => ?_) fun e2 => ?_
    · refine ⟨⟨by decide, by decide, by decide⟩, 1000000, rfl, by decide, by decide, by omega, fun p lp up => ⟨1000000, rfl, by decide, by decide, by omega, fun q lq uq => ?_⟩⟩
      obtain ⟨bp, bq⟩ := fin 1000000 (by decide) (by decide) p q lp up lq uq
      refine dIte (fun e3 => dIte (fun e4 => ?_) fun e4 => ?_) fun e3 => ?_
      · exact Qk 1 0 _ (by unfold Bd; decide) (by unfold Bd; decide) (by decide) (by omega)
      · obtain ⟨g0, g1, g2, g3, g4⟩ := way_end bp bq (fun z => e4 z.2)
        exact ⟨p, q, rfl, divA g1 g0 (by decide), divA g1 g0 (by decide), Qk _ _ _ g2 g3 g4 (by omega)⟩
      · obtain ⟨g0, g1, g2, g3, g4⟩ := way_end bp bq (fun z => e3 z.1)
        exact aF ⟨p, q, rfl, divA g1 g0 (by decide), divA g1 g0 (by decide), Qk _ _ _ g2 g3 g4 (by omega)⟩
    · refine ⟨3, rfl, by decide, by decide, by omega, fun p lp up => ⟨3, rfl, by decide, by decide, by omega, fun q lq uq => ?_⟩⟩
      obtain ⟨bp, bq⟩ := fin 3 (by decide) (by decide) p q lp up lq uq
      refine dIte (fun e3 => dIte (fun e4 => ?_) fun e4 => ?_) fun e3 => ?_
      · exact Qk 1 0 _ (by unfold Bd; decide) (by unfold Bd; decide) (by decide) (by omega)
      · obtain ⟨g0, g1, g2, g3, g4⟩ := way_end bp bq (fun z => e4 z.2)
        exact ⟨p, q, rfl, divA g1 g0 (by decide), divA g1 g0 (by decide), Qk _ _ _ g2 g3 g4 (by omega)⟩
      · obtain ⟨g0, g1, g2, g3, g4⟩ := way_end bp bq (fun z => e3 z.1)
        exact aF ⟨p, q, rfl, divA g1 g0 (by decide), divA g1 g0 (by decide), Qk _ _ _ g2 g3 g4 (by omega)⟩
def a_l_row : ASp := fun ds n Q => ∃ (z : Str) (g : Int), ds = [.deck, .str z, .int g] ∧ 60 ≤ n ∧ ∀ (b : Bw) (n' : Nat), b.nm = z → b.ok → b.okD → n ≤ n' + 50 → Q b.d n'
theorem ok_l_row (T : Tx K mg A) : FnOk P w K mg base CX0 6 A.f_l_row A.fd_l_row ["_law_deck_here", "_law_name_here", "_law_great"] (spOf K 3 a_l_row) := by
  refine fn_mir [] 9 rfl (by decide) (by decide) T.F_l_row sc_l_row fun cdv Ar outer s H E hr => ?_
  refine ⟨_, _, (pss_cons (ps_set (i := 3) sc_l_row.nd rfl (.inl rfl) (pe_call (ok_l_take (P := P) (K := K) T) (hr.mono (by decide)) (by rfl) T.g_l_take T.F_l_take.kp T.b_l_take .nil pass0 (pa_cons (pv 0) (pa_cons pe_int pa_nil))))
    (pss_cons (ps_set (i := 4) sc_l_row.nd rfl (.inl rfl) (pe_ix (k_ixS (K := K) rfl) (pe_lst (pa_cons (pe_tup (pa_cons (pe_tup (pa_cons pe_int (pa_cons pe_int pa_nil))) (pa_cons (pe_tup (pa_cons pe_int (pa_cons pe_int pa_nil))) (pa_cons (pe_tup (pa_cons pe_int (pa_cons pe_int pa_nil))) pa_nil)))) (pa_cons (pe_tup (pa_cons (pe_tup (pa_cons (pe_un un_neg pe_int) (pa_cons pe_int pa_nil))) (pa_cons (pe_tup (pa_cons pe_int (pa_cons pe_int pa_nil))) (pa_cons (pe_tup (pa_cons pe_int (pa_cons pe_int pa_nil))) (pa_cons (pe_tup (pa_cons (pe_un un_neg pe_int) (pa_cons pe_int pa_nil))) pa_nil))))) pa_nil))) (pe_call (ok_l_take (P := P) (K := K) T) (hr.mono (by decide)) (by rfl) T.g_l_take T.F_l_take.kp T.b_l_take .nil pass0 (pa_cons (pv 0) (pa_cons pe_int pa_nil))) (fun _ _ => rfl)))
    (pss_cons (ps_set (i := 5) sc_l_row.nd rfl (.inl rfl) (pe_tup (pa_cons (pe_call (ok_l_part (P := P) (K := K) T) (hr.mono (by decide)) (by rfl) T.g_l_part T.F_l_part.kp T.b_l_part .nil pass0 (pa_cons (pv 0) (pa_cons (pv 2) pa_nil))) (pa_cons (pe_call (ok_l_part (P := P) (K := K) T) (hr.mono (by decide)) (by rfl) T.g_l_part T.F_l_part.kp T.b_l_part .nil pass0 (pa_cons (pv 0) (pa_cons (pv 2) pa_nil))) pa_nil))))
    (pss_cons (ps_if (pt_cmpR (k_eq (K := K) rfl hr.units) (pv 3) pe_int (nomark _))
      (pss_one (ps_ret (pe_tup (pa_cons (pv 1) (pa_cons (pv 4) (pa_cons pe_int (pa_cons pe_non (pa_cons (pv 5) (pa_cons (pe_tup (pa_cons (pe_tup (pa_cons pe_int (pa_cons pe_int pa_nil))) (pa_cons (pe_tup (pa_cons pe_int (pa_cons pe_int pa_nil))) pa_nil))) pa_nil)))))))))
      pss_nil)
    (pss_cons (ps_set (i := 6) sc_l_row.nd rfl (.inl rfl) (pe_op (k_add (K := K) rfl) pe_int (pe_call (ok_l_take (P := P) (K := K) T) (hr.mono (by decide)) (by rfl) T.g_l_take T.F_l_take.kp T.b_l_take .nil pass0 (pa_cons (pv 0) (pa_cons pe_int pa_nil)))))
    (pss_cons (ps_if (pt_cmpR (k_eq (K := K) rfl hr.units) (pv 2) pe_int (nomark _))
      (pss_one (ps_set (i := 6) sc_l_row.nd rfl (.inl rfl) (pe_op (k_add (K := K) rfl) pe_int (pe_call (ok_l_take (P := P) (K := K) T) (hr.mono (by decide)) (by rfl) T.g_l_take T.F_l_take.kp T.b_l_take .nil pass0 (pa_cons (pv 0) (pa_cons (pe_op op_pow pe_int pe_int) pa_nil))))))
      pss_nil)
    (pss_cons (ps_set (i := 7) sc_l_row.nd rfl (.inl rfl) (pe_tup (pa_cons (pe_call (ok_l_part (P := P) (K := K) T) (hr.mono (by decide)) (by rfl) T.g_l_part T.F_l_part.kp T.b_l_part .nil pass0 (pa_cons (pv 0) (pa_cons (pv 2) pa_nil))) (pa_cons (pe_call (ok_l_part (P := P) (K := K) T) (hr.mono (by decide)) (by rfl) T.g_l_part T.F_l_part.kp T.b_l_part .nil pass0 (pa_cons (pv 0) (pa_cons (pv 2) pa_nil))) pa_nil))))
    (pss_cons (ps_if (pt_cmpR op_gt (pv 3) pe_int (nomark _))
      (pss_one (ps_ret (pe_tup (pa_cons (pv 1) (pa_cons (pv 4) (pa_cons (pv 6) (pa_cons pe_non (pa_cons (pv 5) (pa_cons (pv 7) pa_nil)))))))))
      pss_nil)
    (pss_cons (ps_set (i := 8) sc_l_row.nd rfl (.inl rfl) (pe_call (ok_l_way (P := P) (K := K) T) (hr.mono (by decide)) (by rfl) T.g_l_way T.F_l_way.kp T.b_l_way .nil pass0 (pa_cons (pv 0) (pa_cons (pv 2) pa_nil))))
    (pss_cons (ps_set (i := 7) sc_l_row.nd rfl (.inl rfl) (pe_call (ok_l_spot_times (P := P) (K := K) T) (hr.mono (by decide)) (by rfl) T.g_l_spot_times T.F_l_spot_times.kp T.b_l_spot_times .nil pass0 (pa_cons (pe_tup (pa_cons (pe_tup (pa_cons (pe_ix (k_ix (K := K) rfl) (pv 8) pe_int (fun _ _ => rfl)) (pa_cons pe_int pa_nil))) (pa_cons (pe_tup (pa_cons (pe_ix (k_ix (K := K) rfl) (pv 8) pe_int (fun _ _ => rfl)) (pa_cons pe_int pa_nil))) pa_nil))) (pa_cons (pe_ix (k_ix (K := K) rfl) (pv 7) pe_int (fun _ _ => rfl)) pa_nil))))
    (pss_one (ps_ret (pe_tup (pa_cons (pv 1) (pa_cons (pv 4) (pa_cons (pv 6) (pa_cons (pv 8) (pa_cons (pv 5) (pa_cons (pv 7) pa_nil))))))))))))))))))), by infer_instance, fun ds n Q hl hA => ?_⟩
  obtain ⟨z, g, rfl, hn, q⟩ := hA
  refine ⟨7, rfl, by decide, by decide, by omega, fun kd l u => ?_⟩
  refine ⟨2, rfl, by decide, by decide, by omega, fun r lr ur => ?_⟩
  obtain ⟨shp, hsm, hat⟩ := pick_at (xs := [D.tup [.tup [.int 0, .int 0], .tup [.int 2, .int 0], .tup [.int 0, .int 2]], D.tup [.tup [.int (-1), .int 0], .tup [.int 3, .int 0], .tup [.int 3, .int 1], .tup [.int (-1), .int 1]]]) lr ur
  have hS := ddt_shape hsm
  refine aIx_lst hat ?_
  refine ⟨g, rfl, by omega, fun p1 n1 _ h1 => ⟨g, rfl, by omega, fun p2 n2 _ h2 => ?_⟩⟩
  have b0 : BdQ 66 (0 : Rat) := ⟨by unfold Bd; decide, by unfold Bd; decide⟩
  refine dIte (fun e => ?_) fun e => ?_
  · exact q ⟨z, .wall, shp, spt p1 p2, 0, 0⟩ _ rfl ⟨trivial, b0, b0⟩ ⟨hS, ddt_spt _ _⟩ (by omega)
  refine ⟨5, rfl, by decide, by decide, by omega, fun m lm um => ?_⟩
  refine dIte (fun e2 => ?_) fun e2 => ?_
  · refine ⟨⟨by decide, by decide, by decide⟩, 1000000, rfl, by decide, by decide, by omega, fun m2 lm2 um2 => ?_⟩
    have bM : Bd 21 (1 + m2) := bd_abs (n := 1000000) (by decide) (by omega) (by omega)
    refine ⟨g, rfl, by omega, fun s1 n4 b4 h4 => ⟨g, rfl, by omega, fun s2 n5 b5 h5 => ?_⟩⟩
    refine dIte (fun e7 => ?_) fun e7 => ?_
    · exact q ⟨z, .free (1 + m2), shp, spt p1 p2, s1, s2⟩ _ rfl ⟨⟨by omega, bM⟩, b4.le (by decide), b5.le (by decide)⟩ ⟨hS, ddt_spt _ _⟩ (by omega)
    · refine ⟨g, rfl, by omega, fun rp rq n6 c1 c2 c3 h6 => ?_⟩
      refine ⟨(rp : Rat), (rq : Rat), s1, 21, 45, rfl, bdq_int c1 (by decide), bdq_int c2 (by decide), b4, by decide, by decide, ?_⟩
      exact q ⟨z, .rail (1 + m2) rp rq, shp, spt p1 p2, (rp : Rat) * s1, (rq : Rat) * s1⟩ _ rfl ⟨⟨by omega, bM, c1, c2, c3⟩, (bdq_int c1 (by decide)).mul b4, (bdq_int c2 (by decide)).mul b4⟩ ⟨hS, ddt_spt _ _⟩ (by omega)
  · have bM : Bd 21 (1 + m) := bd_abs (n := 1000000) (by decide) (by omega) (by omega)
    refine ⟨g, rfl, by omega, fun s1 n4 b4 h4 => ⟨g, rfl, by omega, fun s2 n5 b5 h5 => ?_⟩⟩
    refine dIte (fun e7 => ?_) fun e7 => ?_
    · exact q ⟨z, .free (1 + m), shp, spt p1 p2, s1, s2⟩ _ rfl ⟨⟨by omega, bM⟩, b4.le (by decide), b5.le (by decide)⟩ ⟨hS, ddt_spt _ _⟩ (by omega)
    · refine ⟨g, rfl, by omega, fun rp rq n6 c1 c2 c3 h6 => ?_⟩
      refine ⟨(rp : Rat), (rq : Rat), s1, 21, 45, rfl, bdq_int c1 (by decide), bdq_int c2 (by decide), b4, by decide, by decide, ?_⟩
      exact q ⟨z, .rail (1 + m) rp rq, shp, spt p1 p2, (rp : Rat) * s1, (rq : Rat) * s1⟩ _ rfl ⟨⟨by omega, bM, c1, c2, c3⟩, (bdq_int c1 (by decide)).mul b4, (bdq_int c2 (by decide)).mul b4⟩ ⟨hS, ddt_spt _ _⟩ (by omega)
/-! ### names -/
theorem joinL_len : ∀ ps : List (List Nat), (TL.joinL [] ps).length = (ps.map (·.length)).sum
  | [] => rfl
  | [p] => by simp [TL.joinL]
  | p :: q :: r => by
    have := joinL_len (q :: r)
    show (p ++ ([] ++ TL.joinL [] (q :: r))).length = _
    rw [List.nil_append, List.length_append, this]
    simp
theorem join_len (ys : List Str) : (Txt.join (Str.ofString "") ys).length = (ys.map (·.length)).sum := by
  have e0 : TL.tl (Str.ofString "") = [] := by decide +kernel
  have h : (TL.tl (Txt.join (Str.ofString "") ys)).length = (ys.map (·.length)).sum := by
    rw [TL.join_eq, TL.tl_join, e0, joinL_len, List.map_map]
    congr 1
  rw [← h]
  show (Txt.join (Str.ofString "") ys).cps.size = (Txt.join (Str.ofString "") ys).cps.toList.length
  simp
theorem letters_at {i : Int} (h0 : 0 ≤ i) (h1 : i < 26) : ∃ c, atI (Str.ofString "abcdefghijklmnopqrstuvwxyz").cps.toList i = some c := by
  obtain ⟨k, rfl⟩ := Int.eq_ofNat_of_zero_le h0
  have hk : k < 26 := by omega
  have : ∀ k < 26, ∃ c, atI (Str.ofString "abcdefghijklmnopqrstuvwxyz").cps.toList ((k : Nat) : Int) = some c := fun k hk => ⟨97 + k, by
    revert k
    decide +kernel⟩
  exact this k hk
theorem aIx_str {z : Str} {i : Int} {c n : Nat} {Q : D → Nat → Prop} (hl : z.length ≤ 1000000) (e : atI z.cps.toList i = some c) (q : Q (.str ⟨#[c]⟩) n) : aIxS (.str z) (.int i) n Q := by
  unfold aIxS
  refine ⟨hl, ?_⟩
  rw [e]
  exact q
def a_l_name : ASp := fun ds n Q => ∃ k : Nat, ds = [.deck, .int (k : Int)] ∧ k ≤ 20 ∧ k ≤ n ∧ ∀ (z : Str) (n' : Nat), z.length ≤ 20 → n ≤ n' + k → Q (.str z) n'
theorem ok_l_name (T : Tx K mg A) : FnOk P w K mg base CX0 4 A.f_l_name A.fd_l_name ["_law_deck_here", "_law_size"] (spOf K 2 a_l_name) := by
  refine fn_mir [] 4 rfl (by decide) (by decide) T.F_l_name sc_l_name fun cdv Ar outer s H E hr => ?_
  refine ⟨_, _, (pss_cons (ps_set (i := 2) sc_l_name.nd rfl (.inr rfl) pe_str)
    (pss_one (ps_ret (k_join (K := K) rfl pe_str (pe_lc (own := [("_law_k", 3)]) rfl sc_l_name.nd (pi_range1 (by rfl) T.m_range (pa_cons (pv 1) pa_nil)) (blkOk_by (own := [("_law_k", 3)]) (N := ["_law_deck_here", "_law_size", "_law_letters", "_law_k"]) (sc := defScope s_l_name) (by decide +kernel)) (fun _ _ _ _ _ => (pg_name (i := 3) sc_l_name.nd rfl (Or.inl rfl))) (fun _ _ _ _ _ => pts_nil) (fun _ _ _ _ _ => (pe_ix (k_ixS (K := K) rfl) (pv 2) (pe_call (ok_l_take (P := P) (K := K) T) (hr.mono (by decide)) (by rfl) T.g_l_take T.F_l_take.kp T.b_l_take .nil pass0 (pa_cons (pv 0) (pa_cons pe_int pa_nil))) (fun _ _ => rfl)))))))), by infer_instance, fun ds n Q hl hA => ?_⟩
  obtain ⟨k, rfl, hk, hn, q⟩ := hA
  refine ⟨⟨by omega, by omega⟩, by rw [rangeD_length]; omega, ?_⟩
  refine aLc_ind (fun acc ds m => ∃ ys : List Str, acc = ys.map D.str ∧ (∀ y ∈ ys, y.length = 1) ∧ ys.length + ds.length = k ∧ n ≤ m + ys.length) ?_ ?_ ⟨[], rfl, (fun y h => by cases h), by rw [rangeD_length]; simp, by simp⟩
  · rintro acc d r m ⟨ys, rfl, hy, hl, hm⟩ ih
    rw [List.length_cons] at hl
    refine aT ⟨26, rfl, by decide, by decide, by omega, fun x l5 u5 => ?_⟩
    obtain ⟨ch, hch⟩ := letters_at l5 u5
    refine aIx_str (by decide +kernel) hch (ih _ _ ⟨ys ++ [⟨#[ch]⟩], by rw [List.map_append]; rfl, ?_, by rw [List.length_append]; simp; omega, by rw [List.length_append]; simp; omega⟩)
    intro y hy'
    rcases List.mem_append.mp hy' with h | h
    · exact hy y h
    · rw [List.mem_singleton.mp h]
      rfl
  · rintro acc m ⟨ys, rfl, hy, hl, hm⟩
    have hs : (ys.map (·.length)).sum = ys.length := by
      clear hl hm
      induction ys with
      | nil => rfl
      | cons y r ih =>
        rw [List.map_cons, List.sum_cons, ih fun z hz => hy z (List.mem_cons_of_mem _ hz), List.length_cons, hy y List.mem_cons_self]
        omega
    have : (Str.ofString "").length = 0 := by decide +kernel
    simp at hl
    exact ⟨ys, rfl, by rw [hs, this]; omega, q _ _ (by rw [join_len, hs]; omega) (by omega)⟩
theorem cutS_len (z : Str) (l u : Option Int) : (cutS z l u).length ≤ z.length := by
  show (cutS z l u).cps.size ≤ z.cps.size
  unfold cutS
  rw [List.size_toArray, List.length_take, List.length_drop]
  have : z.cps.toList.length = z.cps.size := by simp
  omega
theorem str_app_len (a b : Str) : (a ++ b).length = a.length + b.length := strLen_append a b
theorem any_str {nm : Str} : ∀ {zs : List Str}, ((zs.map D.str).any fun x => eqF x (.str nm)) = false → nm ∉ zs
  | [], _, h => by cases h
  | z :: zs, e, h => by
    rw [List.map_cons, List.any_cons, Bool.or_eq_false_iff] at e
    rcases List.mem_cons.mp h with rfl | h
    · have : (nm == nm) = false := e.1
      simp at this
    · exact any_str e.2 h
theorem all_str : ∀ zs : List Str, (zs.map D.str).all flatD = true
  | [] => rfl
  | z :: zs => by
    rw [List.map_cons, List.all_cons, all_str zs]
    rfl
def a_l_names : ASp := fun ds n Q => ∃ k : Int, ds = [.deck, .int k] ∧ 0 ≤ k ∧ k ≤ 8 ∧ 300 ≤ n ∧ ∀ (zs : List Str) (n' : Nat), zs.Nodup → zs.length ≤ 8 → n ≤ n' + 250 → Q (.lst (zs.map D.str)) n'
theorem ok_l_names (T : Tx K mg A) : FnOk P w K mg base CX0 5 A.f_l_names A.fd_l_names ["_law_deck_here", "_law_many"] (spOf K 2 a_l_names) := by
  refine fn_mir [6] 10 rfl (by decide) (by decide) T.F_l_names sc_l_names fun cdv Ar outer s H E hr => ?_
  refine ⟨_, _, (pss_cons (ps_set (i := 2) sc_l_names.nd rfl (.inl rfl) (pe_cmpR (k_eq (K := K) rfl hr.units) (pe_call (ok_l_take (P := P) (K := K) T) (hr.mono (by decide)) (by rfl) T.g_l_take T.F_l_take.kp T.b_l_take .nil pass0 (pa_cons (pv 0) (pa_cons pe_int pa_nil))) pe_int (nomark _)))
    (pss_cons (ps_set (i := 3) sc_l_names.nd rfl (.inl rfl) (pe_op (k_add (K := K) rfl) pe_int (pe_call (ok_l_take (P := P) (K := K) T) (hr.mono (by decide)) (by rfl) T.g_l_take T.F_l_take.kp T.b_l_take .nil pass0 (pa_cons (pv 0) (pa_cons pe_int pa_nil)))))
    (pss_cons (ps_set (i := 4) sc_l_names.nd rfl (.inl rfl) (pe_call (ok_l_take (P := P) (K := K) T) (hr.mono (by decide)) (by rfl) T.g_l_take T.F_l_take.kp T.b_l_take .nil pass0 (pa_cons (pv 0) (pa_cons (pv 3) pa_nil))))
    (pss_cons (ps_set (i := 5) sc_l_names.nd rfl (.inl rfl) (pe_call (ok_l_name (P := P) (K := K) T) (hr.mono (by decide)) (by rfl) T.g_l_name T.F_l_name.kp T.b_l_name .nil pass0 (pa_cons (pv 0) (pa_cons (pv 3) pa_nil))))
    (pss_cons (k_own (ps_set (i := 6) sc_l_names.nd rfl (.inl rfl) (pe_lst pa_nil)))
    (pss_cons (ps_for PassesOwn.never rfl (pi_range1 (by rfl) T.m_range (pa_cons (pv 1) pa_nil)) (pg_name (i := 7) sc_l_names.nd rfl (.inl rfl))
      (pss_cons (ps_if (pt_val (pv 2))
      (pss_one (ps_set (i := 8) sc_l_names.nd rfl (.inl rfl) (pe_op (k_add (K := K) rfl) (pe_op (k_add (K := K) rfl) (pe_slice (k_sl (K := K) rfl) (pv 5) po_none (po_some (pv 4))) (pe_call (ok_l_name (P := P) (K := K) T) (hr.mono (by decide)) (by rfl) T.g_l_name T.F_l_name.kp T.b_l_name .nil pass0 (pa_cons (pv 0) (pa_cons pe_int pa_nil)))) (pe_slice (k_sl (K := K) rfl) (pv 5) (po_some (pe_op (k_add (K := K) rfl) (pv 4) pe_int)) po_none))))
      (pss_cons (ps_set (i := 9) sc_l_names.nd rfl (.inl rfl) (pe_op k_mul pe_int (pe_callTy k_int (by rfl) T.m_int (by decide +kernel) (pa_cons (pe_cmpR (k_eq (K := K) rfl hr.units) (pe_call (ok_l_take (P := P) (K := K) T) (hr.mono (by decide)) (by rfl) T.g_l_take T.F_l_take.kp T.b_l_take .nil pass0 (pa_cons (pv 0) (pa_cons pe_int pa_nil))) pe_int (nomark _)) pa_nil))))
    (pss_one (ps_set (i := 8) sc_l_names.nd rfl (.inl rfl) (pe_call (ok_l_name (P := P) (K := K) T) (hr.mono (by decide)) (by rfl) T.g_l_name T.F_l_name.kp T.b_l_name .nil pass0 (pa_cons (pv 0) (pa_cons (pe_op (k_add (K := K) rfl) (pe_op (k_add (K := K) rfl) pe_int (pe_call (ok_l_take (P := P) (K := K) T) (hr.mono (by decide)) (by rfl) T.g_l_take T.F_l_take.kp T.b_l_take .nil pass0 (pa_cons (pv 0) (pa_cons pe_int pa_nil)))) (pv 9)) pa_nil)))))))
    (pss_one (ps_if (pt_cmpR (k_notin (K := K) rfl hr.units) (pv 8) (pv 6) (by rfl))
      (pss_one (k_app (K := K) rfl (ps_expr (pe_bm PySem.F.plainAttrs_list PySem.F.slot_list_append PySem.F.type_list_append mt_append (pv 6) (pa_cons (pv 8) pa_nil)))))
      pss_nil))))
    (pss_one (ps_ret (pv 6))))))))), by infer_instance, fun ds n Q hl hA => ?_⟩
  obtain ⟨k, rfl, hk0, hk1, hn, q⟩ := hA
  refine ⟨2, rfl, by decide, by decide, by omega, fun al la ua => ?_⟩
  refine ⟨12, rfl, by decide, by decide, by omega, fun sz ls us => ?_⟩
  refine ⟨1 + sz, rfl, by omega, small_log (by omega) (by omega), by omega, fun at' lat uat => ?_⟩
  refine ⟨(1 + sz).toNat, by rw [Int.toNat_of_nonneg (by omega)], by omega, by omega, fun stem n1 hstem h1 => ?_⟩
  refine ⟨⟨by omega, by omega⟩, ?_⟩
  refine aFor_ind (fun ds ρ m => ∃ (zs : List Str) (y7 y8 y9 : Option D), ρ = [some .deck, some (.int k), some (.bl (decide (al = 1))), some (.int (1 + sz)), some (.int at'), some (.str stem), some (.lst (zs.map D.str)), y7, y8, y9] ∧ zs.Nodup ∧ zs.length + ds.length ≤ 8 ∧ n ≤ m + 30 + 20 * (8 - ds.length)) ?_ ?_ ⟨[], none, none, none, rfl, List.nodup_nil, by rw [rangeD_length]; simp; omega, by omega⟩
  · rintro d r _ m ⟨zs, y7, y8, y9, rfl, hnd, hl, hm⟩ ih
    rw [List.length_cons] at hl hm
    refine dIte (fun e => ?_) fun e => ?_
    · refine ⟨by omega, 1, rfl, by decide, by omega, fun z1 m1 hz1 hm1 => ?_⟩
      have c1 := cutS_len stem none (some at')
      have c2 := cutS_len stem (some (at' + 1)) none
      refine ⟨by omega, by omega, by rw [str_app_len]; omega, ?_⟩
      refine ⟨rfl, all_str zs, fun e5 => ?_, fun e5 => ?_⟩
      · have hnm : (cutS stem none (some at') ++ z1 ++ cutS stem (some (at' + 1)) none) ∉ zs := any_str (by simpa using e5)
        refine ⟨by simp; omega, ih _ _ ⟨zs ++ [(cutS stem none (some at') ++ z1 ++ cutS stem (some (at' + 1)) none)], _, _, _, by rw [List.map_append]; rfl, ?_, by simp; omega, by omega⟩⟩
        rw [List.nodup_append]
        exact ⟨hnd, by simp, fun a ha b hb e => hnm (by rw [List.mem_singleton.mp hb] at e; rw [← e]; exact ha)⟩
      · exact ih _ _ ⟨zs, _, _, _, rfl, hnd, by omega, by omega⟩
    · refine ⟨9, rfl, by decide, by decide, by omega, fun x lx ux => ?_⟩
      refine ⟨.inl (.inl (by decide)), ?_⟩
      refine ⟨3, rfl, by decide, by decide, by omega, fun x2 lx2 ux2 => ?_⟩
      obtain ⟨lg, hlg, elg⟩ : ∃ lg : Nat, lg ≤ 20 ∧ 1 + x2 + 9 * (if decide (x = 0) then (1 : Int) else 0) = (lg : Int) := ⟨(1 + x2 + 9 * (if decide (x = 0) then (1 : Int) else 0)).toNat, by split <;> omega, by split <;> omega⟩
      refine ⟨lg, by show [D.deck, D.int (1 + x2 + 9 * (if decide (x = 0) then (1 : Int) else 0))] = _; rw [elg], by omega, by omega, fun z1 m1 hz1 hm1 => ?_⟩
      refine ⟨rfl, all_str zs, fun e5 => ?_, fun e5 => ?_⟩
      · have hnm : z1 ∉ zs := any_str (by simpa using e5)
        refine ⟨by simp; omega, ih _ _ ⟨zs ++ [z1], _, _, _, by rw [List.map_append]; rfl, ?_, by simp; omega, by omega⟩⟩
        rw [List.nodup_append]
        exact ⟨hnd, by simp, fun a ha b hb e => hnm (by rw [List.mem_singleton.mp hb] at e; rw [← e]; exact ha)⟩
      · exact ih _ _ ⟨zs, _, _, _, rfl, hnd, by omega, by omega⟩
  · rintro _ m ⟨zs, y7, y8, y9, rfl, hnd, hl, hm⟩
    exact q zs _ hnd (by simp at hl; omega) (by simp at hm; omega)
def a_l_crowd : ASp := fun ds n Q => ∃ g : Int, ds = [.deck, .int g] ∧ (g = 0 ∨ g = 1) ∧ 1000 ≤ n ∧ ∀ (bs : List Bw) (n' : Nat), bs.length ≤ 8 → (∀ b ∈ bs, b.ok ∧ b.okD) → (bs.map Bw.nm).Nodup → n ≤ n' + 800 → Q (.tup (bs.map Bw.d)) n'
theorem back_map {bs : List Bw} : ∀ {rs : List Rw}, (∀ r ∈ rs, r ∈ bs.map Bw.rw) → ∃ bs' : List Bw, bs'.map Bw.rw = rs ∧ ∀ b ∈ bs', b ∈ bs
  | [], _ => ⟨[], rfl, fun b h => by cases h⟩
  | r :: rs, h => by
    obtain ⟨bs', h1, h2⟩ := back_map (rs := rs) fun x hx => h x (List.mem_cons_of_mem _ hx)
    obtain ⟨b, hb, e⟩ := List.mem_map.mp (h r List.mem_cons_self)
    refine ⟨b :: bs', by rw [List.map_cons, e, h1], fun c hc => ?_⟩
    rcases List.mem_cons.mp hc with rfl | hc
    · exact hb
    · exact h2 c hc
theorem ok_l_crowd (T : Tx K mg A) : FnOk P w K mg base CX0 7 A.f_l_crowd A.fd_l_crowd ["_law_deck_here", "_law_great"] (spOf K 2 a_l_crowd) := by
  refine fn_mir [] 4 rfl (by decide) (by decide) T.F_l_crowd sc_l_crowd fun cdv Ar outer s H E hr => ?_
  refine ⟨_, _, (pss_cons (ps_set (i := 2) sc_l_crowd.nd rfl (.inl rfl) (pe_call (ok_l_names (P := P) (K := K) T) (hr.mono (by decide)) (by rfl) T.g_l_names T.F_l_names.kp T.b_l_names .nil pass0 (pa_cons (pv 0) (pa_cons (pe_op (k_add (K := K) rfl) pe_int (pe_call (ok_l_take (P := P) (K := K) T) (hr.mono (by decide)) (by rfl) T.g_l_take T.F_l_take.kp T.b_l_take .nil pass0 (pa_cons (pv 0) (pa_cons (pe_op op_sub pe_int (pe_op k_mul pe_int (pv 1))) pa_nil)))) pa_nil))))
    (pss_one (ps_ret (pe_callTy (k_tuple (K := K) rfl) (by rfl) T.m_tuple (by decide +kernel) (pa_cons (pe_callB (k_sortR (K := K) rfl) (by rfl) T.m_sorted (by decide +kernel) (pa_cons (pe_lc (own := [("_law_name_here", 3)]) rfl sc_l_crowd.nd (k_iter (K := K) rfl (pv 2)) (blkOk_by (own := [("_law_name_here", 3)]) (N := ["_law_deck_here", "_law_great", "_law_names_here", "_law_name_here"]) (sc := defScope s_l_crowd) (by decide +kernel)) (fun _ _ _ _ _ => (pg_name (i := 3) sc_l_crowd.nd rfl (Or.inl rfl))) (fun _ _ _ _ _ => pts_nil) (fun _ _ _ _ _ => (pe_call (ok_l_row (P := P) (K := K) T) (hr.mono (by decide)) (by rfl) T.g_l_row T.F_l_row.kp T.b_l_row .nil pass0 (pa_cons (pv 0) (pa_cons (pv 3) (pa_cons (pv 1) pa_nil)))))) pa_nil)) pa_nil))))), by infer_instance, fun ds n Q hl hA => ?_⟩
  obtain ⟨g, rfl, hg, hn, q⟩ := hA
  refine ⟨.inl (.inl (by decide)), 5 - 3 * g, rfl, by omega, small_log (by omega) (by omega), by omega, fun r lr ur => ?_⟩
  refine ⟨2 + r, rfl, by omega, by omega, by omega, fun zs n1 hnd hl h1 => ?_⟩
  refine ⟨by rw [List.length_map]; omega, ?_⟩
  refine aLc_ind (fun acc ds m => ∃ (bs : List Bw) (us : List Str), acc = bs.map Bw.d ∧ ds = us.map D.str ∧ bs.map Bw.nm ++ us = zs ∧ (∀ b ∈ bs, b.ok ∧ b.okD) ∧ n ≤ m + 260 + 50 * bs.length) ?_ ?_ ⟨[], zs, rfl, rfl, rfl, (fun b h => by cases h), by simp; omega⟩
  · rintro acc d r m ⟨bs, us, rfl, e, hz, hb, hm⟩ ih
    cases us with
    | nil => cases e
    | cons u us =>
    rw [List.map_cons] at e
    obtain ⟨rfl, rfl⟩ := List.cons.inj e
    have hlen : bs.length + us.length + 1 ≤ 8 := by
      rw [← hz, List.length_append, List.length_map, List.length_cons] at hl
      omega
    refine aT ⟨u, g, rfl, by omega, fun b n2 hbn hbo hbd h2 => ?_⟩
    refine ih _ _ ⟨bs ++ [b], us, by rw [List.map_append]; rfl, rfl, ?_, ?_, by rw [List.length_append]; simp; omega⟩
    · rw [List.map_append, List.append_assoc, ← hz, ← hbn]
      rfl
    · intro c hc
      rcases List.mem_append.mp hc with hc | hc
      · exact hb c hc
      · rw [List.mem_singleton.mp hc]
        exact ⟨hbo, hbd⟩
  · rintro acc m ⟨bs, us, rfl, e, hz, hb, hm⟩
    cases us with
    | cons u us => cases e
    | nil =>
    rw [List.append_nil] at hz
    have hbl : bs.length ≤ 8 := by
      rw [← hz, List.length_map] at hl
      exact hl
    refine ⟨bs.map Bw.rw, ?_, ?_, fun rs hp _ => ?_⟩
    · rw [List.map_map]
      rfl
    · rw [List.map_map]
      show (bs.map Bw.nm).Nodup
      rw [hz]
      exact hnd
    · obtain ⟨bs', e1, e2⟩ := back_map (bs := bs) fun x hx => hp.mem_iff.mp hx
      have hn : (bs'.map Bw.nm).Nodup := by
        have hq := hp.map Prod.fst
        rw [← e1, List.map_map, List.map_map] at hq
        have hq2 : (bs'.map Bw.nm).Perm (bs.map Bw.nm) := hq
        exact hq2.nodup_iff.mpr (by rw [hz]; exact hnd)
      have el := hp.length_eq
      rw [← e1, List.length_map, List.length_map] at el
      subst e1
      have := q bs' m (by omega) (fun b h => hb b (e2 b h)) hn (by omega)
      show Q (.tup ((bs'.map Bw.rw).map rowT)) m
      rw [List.map_map]
      exact this

/-! CUT -/
def TOk (zs : List Str) (t : Tie) : Prop := TieOk zs (t, 0)
def a_l_ties : ASp := fun ds n Q => ∃ (bs : List Bw) (g : Int), ds = [.deck, .tup (bs.map Bw.d), .int g] ∧ (g = 0 ∨ g = 1) ∧ bs.length ≤ 8 ∧ (bs.map Bw.nm).Nodup ∧ 200 ≤ n ∧ ∀ (ts : List Tie) (n' : Nat), ts.length ≤ 6 → (∀ t ∈ ts, TOk (bs.map Bw.nm) t) → n ≤ n' + 100 → Q (.tup (ts.map Tie.d)) n'
theorem nm_apart {bs : List Bw} (nd : (bs.map Bw.nm).Nodup) {i j : Nat} (hi : i < bs.length) (hj : j < bs.length) (h : i < j) : bs[i].nm ≠ bs[j].nm := by
  have := List.pairwise_iff_getElem.mp nd i j (by rw [List.length_map]; exact hi) (by rw [List.length_map]; exact hj) h
  rw [List.getElem_map, List.getElem_map] at this
  exact this
theorem ok_l_ties (T : Tx K mg A) : FnOk P w K mg base CX0 6 A.f_l_ties A.fd_l_ties ["_law_deck_here", "_law_rows", "_law_great"] (spOf K 3 a_l_ties) := by
  refine fn_mir [] 8 rfl (by decide) (by decide) T.F_l_ties sc_l_ties fun cdv Ar outer s H E hr => ?_
  refine ⟨_, _, (pss_cons (ps_set (i := 3) sc_l_ties.nd rfl (.inl rfl) (pe_tup pa_nil))
    (pss_cons (ps_if (pt_cmpR op_lt (pe_callB (k_len (K := K) rfl) (by rfl) T.m_len (by decide +kernel) (pa_cons (pv 1) pa_nil)) pe_int (nomark _))
      (pss_one (ps_ret (pv 3)))
      pss_nil)
    (pss_cons (ps_for PassesOwn.never rfl (pi_range1 (by rfl) T.m_range (pa_cons (pe_call (ok_l_take (P := P) (K := K) T) (hr.mono (by decide)) (by rfl) T.g_l_take T.F_l_take.kp T.b_l_take .nil pass0 (pa_cons (pv 0) (pa_cons (pe_op op_sub pe_int (pe_op k_mul pe_int (pv 2))) pa_nil))) pa_nil)) (pg_name (i := 4) sc_l_ties.nd rfl (.inl rfl))
      (pss_cons (ps_set (i := 5) sc_l_ties.nd rfl (.inl rfl) (pe_call (ok_l_take (P := P) (K := K) T) (hr.mono (by decide)) (by rfl) T.g_l_take T.F_l_take.kp T.b_l_take .nil pass0 (pa_cons (pv 0) (pa_cons (pe_op op_sub (pe_callB (k_len (K := K) rfl) (by rfl) T.m_len (by decide +kernel) (pa_cons (pv 1) pa_nil)) pe_int) pa_nil))))
    (pss_cons (ps_set (i := 6) sc_l_ties.nd rfl (.inl rfl) (pe_op (k_add (K := K) rfl) (pe_op (k_add (K := K) rfl) (pv 5) pe_int) (pe_call (ok_l_take (P := P) (K := K) T) (hr.mono (by decide)) (by rfl) T.g_l_take T.F_l_take.kp T.b_l_take .nil pass0 (pa_cons (pv 0) (pa_cons (pe_op op_sub (pe_op op_sub (pe_callB (k_len (K := K) rfl) (by rfl) T.m_len (by decide +kernel) (pa_cons (pv 1) pa_nil)) pe_int) (pv 5)) pa_nil)))))
    (pss_cons (ps_set (i := 7) sc_l_ties.nd rfl (.inl rfl) (pe_tup (pa_cons (pe_ix (k_ix (K := K) rfl) (pe_ix (k_ixS (K := K) rfl) (pv 1) (pv 5) (fun _ _ => rfl)) pe_int (fun _ _ => rfl)) (pa_cons (pe_ix (k_ix (K := K) rfl) (pe_ix (k_ixS (K := K) rfl) (pv 1) (pv 6) (fun _ _ => rfl)) pe_int (fun _ _ => rfl)) (pa_cons (pe_call (ok_l_way (P := P) (K := K) T) (hr.mono (by decide)) (by rfl) T.g_l_way T.F_l_way.kp T.b_l_way .nil pass0 (pa_cons (pv 0) (pa_cons (pv 2) pa_nil))) pa_nil)))))
    (pss_cons (ps_if (PW.pt (pw_and (pt_cmpR op_gt (pv 4) pe_int (nomark _)) (pw_and1 (pt_cmpR (k_eq (K := K) rfl hr.units) (pe_call (ok_l_take (P := P) (K := K) T) (hr.mono (by decide)) (by rfl) T.g_l_take T.F_l_take.kp T.b_l_take .nil pass0 (pa_cons (pv 0) (pa_cons pe_int pa_nil))) pe_int (nomark _)))))
      (pss_one (ps_set (i := 7) sc_l_ties.nd rfl (.inl rfl) (pe_ix (k_ixS (K := K) rfl) (pv 3) (pe_call (ok_l_take (P := P) (K := K) T) (hr.mono (by decide)) (by rfl) T.g_l_take T.F_l_take.kp T.b_l_take .nil pass0 (pa_cons (pv 0) (pa_cons (pv 4) pa_nil))) (fun _ _ => rfl))))
      pss_nil)
    (pss_one (ps_set (i := 3) sc_l_ties.nd rfl (.inl rfl) (pe_op (k_catA (K := K) rfl) (pv 3) (pe_tup (pa_cons (pv 7) pa_nil))))))))))
    (pss_one (ps_ret (pv 3)))))), by infer_instance, fun ds n Q hl hA => ?_⟩
  obtain ⟨bs, g, rfl, hg, hl, nd, hn, q⟩ := hA
  have hbl : ((bs.map Bw.d).length : Int) = (bs.length : Int) := by rw [List.length_map]
  refine dIte (fun e => ?_) (fun e => ?_)
  · exact q [] n (by decide) (fun t h => by cases h) (by omega)
  rw [hbl] at e
  refine ⟨.inl (.inl (by decide)), 7 - 3 * g, rfl, by omega, small_log (by omega) (by omega), by omega, fun r lr ur => ?_⟩
  refine ⟨⟨by omega, by omega⟩, ?_⟩
  refine aFor_ind (fun ds ρ m => ∃ (ts : List Tie) (k : Nat) (y4 y5 y6 y7 : Option D), ds = rangeD (ts.length : Int) k ∧ ts.length + k ≤ 6 ∧ (∀ t ∈ ts, TOk (bs.map Bw.nm) t) ∧ n ≤ m + 1 + 10 * ts.length ∧ ρ = [some .deck, some (.tup (bs.map Bw.d)), some (.int g), some (.tup (ts.map Tie.d)), y4, y5, y6, y7]) ?_ ?_ ⟨[], r.toNat, none, none, none, none, by rfl, by simp; omega, (fun t h => by cases h), by simp; omega, rfl⟩
  · rintro d r' _ m ⟨ts, k, y4, y5, y6, y7, e0, hk, hts, hm, rfl⟩ ih
    cases k with
    | zero => cases e0
    | succ k =>
    obtain ⟨rfl, rfl⟩ := List.cons.inj e0
    have fin : ∀ (t : Tie) (m' : Nat) (y4 y5 y6 y7 : Option D), TOk (bs.map Bw.nm) t → m ≤ m' + 10 → ∃ (ts' : List Tie) (k' : Nat) (z4 z5 z6 z7 : Option D), rangeD ((ts.length : Int) + 1) k = rangeD (ts'.length : Int) k' ∧ ts'.length + k' ≤ 6 ∧ (∀ t ∈ ts', TOk (bs.map Bw.nm) t) ∧ n ≤ m' + 1 + 10 * ts'.length ∧ [some D.deck, some (.tup (bs.map Bw.d)), some (.int g), some (.tup (ts.map Tie.d ++ [t.d])), y4, y5, y6, y7] = [some .deck, some (.tup (bs.map Bw.d)), some (.int g), some (.tup (ts'.map Tie.d)), z4, z5, z6, z7] := fun t m' y4 y5 y6 y7 ht hm' => by
      refine ⟨ts ++ [t], k, y4, y5, y6, y7, by rw [List.length_append]; rfl, by rw [List.length_append, List.length_singleton]; omega, fun t' h => ?_, by rw [List.length_append, List.length_singleton]; omega, by rw [List.map_append]; rfl⟩
      rcases List.mem_append.mp h with h | h
      · exact hts t' h
      · rw [List.mem_singleton.mp h]
        exact ht
    have b0 : BdQ 45 (0 : Rat) := ⟨by unfold Bd; decide, by unfold Bd; decide⟩
    refine ⟨((bs.map Bw.d).length : Int) - 1, rfl, by omega, small_log (by omega) (by omega), by omega, fun one l1 u1 => ?_⟩
    refine ⟨((bs.map Bw.d).length : Int) - 1 - one, rfl, by omega, small_log (by omega) (by omega), by omega, fun oth l2 u2 => ?_⟩
    obtain ⟨i, rfl⟩ := Int.eq_ofNat_of_zero_le l1
    obtain ⟨j, rfl⟩ := Int.eq_ofNat_of_zero_le l2
    have hi : i < bs.length := by omega
    have hj : i + 1 + j < bs.length := by omega
    have at1 : atI (bs.map Bw.d) ((i : Nat) : Int) = some bs[i].d := atI_nat (by rw [List.getElem?_map, List.getElem?_eq_getElem hi]; rfl)
    have at2 : atI (bs.map Bw.d) ((i : Nat) + 1 + (j : Nat) : Int) = some bs[i + 1 + j].d := by
      have : atI (bs.map Bw.d) ((i + 1 + j : Nat) : Int) = some bs[i + 1 + j].d := atI_nat (by rw [List.getElem?_map, List.getElem?_eq_getElem hj]; rfl)
      exact this
    refine aIx_tup at1 (aIx_tup at2 ?_)
    refine ⟨g, rfl, by omega, fun p' q' n3 bp bq h0 h3 => ?_⟩
    have ht : TOk (bs.map Bw.nm) ⟨bs[i].nm, bs[i + 1 + j].nm, p', q'⟩ := ⟨List.mem_map.mpr ⟨_, List.getElem_mem hi, rfl⟩, List.mem_map.mpr ⟨_, List.getElem_mem hj, rfl⟩, nm_apart nd hi hj (by omega), bp, bq, b0⟩
    refine dIte (fun e5 => ?_) (fun e5 => ?_)
    · refine ⟨7, rfl, by decide, by decide, by omega, fun r7 l7 u7 => ?_⟩
      refine dIte (fun e6 => ?_) (fun e6 => ?_)
      · refine ⟨(ts.length : Int), rfl, by omega, small_log (by omega) (by omega), by omega, fun r8 l8 u8 => ?_⟩
        obtain ⟨a8, rfl⟩ := Int.eq_ofNat_of_zero_le l8
        have h8 : a8 < ts.length := by omega
        have at8 : atI (ts.map Tie.d) ((a8 : Nat) : Int) = some ts[a8].d := atI_nat (by rw [List.getElem?_map, List.getElem?_eq_getElem h8]; rfl)
        refine aIx_tup at8 ⟨by rw [List.length_map]; show ts.length + 1 ≤ 1000000; omega, ih _ _ ?_⟩
        simp only [startA, eSetAll, eSet, List.cons_append, List.nil_append]
        exact fin ts[a8] _ _ _ _ _ (hts _ (List.getElem_mem h8)) (by omega)
      · refine ⟨by rw [List.length_map]; show ts.length + 1 ≤ 1000000; omega, ih _ _ ?_⟩
        simp only [startA, eSetAll, eSet, List.cons_append, List.nil_append]
        exact fin ⟨bs[i].nm, bs[i + 1 + j].nm, p', q'⟩ _ _ _ _ _ ht (by omega)
    · refine aF ⟨by rw [List.length_map]; show ts.length + 1 ≤ 1000000; omega, ih _ _ ?_⟩
      simp only [startA, eSetAll, eSet, List.cons_append, List.nil_append]
      exact fin ⟨bs[i].nm, bs[i + 1 + j].nm, p', q'⟩ _ _ _ _ _ ht (by omega)
  · rintro _ m ⟨ts, k, y4, y5, y6, y7, e0, hk, hts, hm, rfl⟩
    exact q ts m (by omega) hts (by omega)
theorem al_one (p : Int) (x : Rat) : Rat.divInt (p * x.num) (x.den : Int) = (p : Rat) * x := by
  rw [mul_divInt]
  show _ = Rat.divInt (p * x.num) (1 * (x.den : Int))
  rw [Int.one_mul]
theorem al_val (p q : Int) (x y : Rat) : Rat.divInt (p * x.num * (y.den : Int) + q * y.num * (x.den : Int)) ((x.den : Int) * (y.den : Int)) = (p : Rat) * x + (q : Rat) * y := by
  have h := Rat.divInt_add_divInt (p * x.num) (q * y.num) (d₁ := x.den) (d₂ := y.den) (by have := den_pos x; omega) (by have := den_pos y; omega)
  rw [← h, al_one, al_one]
def a_l_along : ASp := fun ds n Q => ∃ (p q : Int) (x y : Rat) (k : Nat), ds = [.tup [.int p, .int q], spt x y] ∧ Bd 21 p ∧ Bd 21 q ∧ BdQ k x ∧ BdQ k y ∧ k ≤ 500 ∧ Q (sh ((p : Rat) * x + (q : Rat) * y)) n
theorem ok_l_along (T : Tx K mg A) : FnOk P w K mg base CX0 3 A.f_l_along A.fd_l_along ["_law_way_here", "_law_spot"] (spOf K 2 a_l_along) := by
  refine fn_mir [] 4 rfl (by decide) (by decide) T.F_l_along sc_l_along fun cdv Ar outer s H E hr => ?_
  refine ⟨_, _, (pss_cons (ps_set (i := 2) sc_l_along.nd rfl (.inl rfl) (pe_ix (k_ix (K := K) rfl) (pv 1) pe_int (fun _ _ => rfl)))
    (pss_cons (ps_set (i := 3) sc_l_along.nd rfl (.inl rfl) (pe_ix (k_ix (K := K) rfl) (pv 1) pe_int (fun _ _ => rfl)))
    (pss_one (ps_ret (pe_call (ok_l_share (P := P) (K := K) T) (hr.mono (by decide)) (by rfl) T.g_l_share T.F_l_share.kp T.b_l_share .nil pass0 (pa_cons (pe_op (k_add (K := K) rfl) (pe_op k_mul (pe_op k_mul (pe_ix (k_ix (K := K) rfl) (pv 0) pe_int (fun _ _ => rfl)) (pe_ix (k_ix (K := K) rfl) (pv 2) pe_int (fun _ _ => rfl))) (pe_ix (k_ix (K := K) rfl) (pv 3) pe_int (fun _ _ => rfl))) (pe_op k_mul (pe_op k_mul (pe_ix (k_ix (K := K) rfl) (pv 0) pe_int (fun _ _ => rfl)) (pe_ix (k_ix (K := K) rfl) (pv 3) pe_int (fun _ _ => rfl))) (pe_ix (k_ix (K := K) rfl) (pv 2) pe_int (fun _ _ => rfl)))) (pa_cons (pe_op k_mul (pe_ix (k_ix (K := K) rfl) (pv 2) pe_int (fun _ _ => rfl)) (pe_ix (k_ix (K := K) rfl) (pv 3) pe_int (fun _ _ => rfl))) pa_nil))))))), by infer_instance, fun ds n Q hl hA => ?_⟩
  obtain ⟨p, q, x, y, k, rfl, bp, bq, bx, bY, hk, Qk⟩ := hA
  refine ⟨mulA bp bx.1 (by decide) (by omega), mulA (bp.mul bx.1) bY.2 (by omega) (by omega), mulA bq bY.1 (by decide) (by omega), mulA (bq.mul bY.1) bx.2 (by omega) (by omega), mulA bx.2 bY.2 (by omega) (by omega), ?_⟩
  refine part_ok (Int.mul_pos (den_pos x) (den_pos y)) (bx.2.mul bY.2) (by omega) ?_
  rw [al_val]
  exact Qk
def a_l_answer : ASp := fun ds n Q => ∃ (b : Bw) (x y : Rat), ds = [b.d, spt x y] ∧ b.kn.Ok ∧ BdQ 403 x ∧ BdQ 403 y ∧ Q (spt (b.kn.ans x y).1 (b.kn.ans x y).2) n
theorem ok_l_answer (T : Tx K mg A) : FnOk P w K mg base CX0 5 A.f_l_answer A.fd_l_answer ["_law_row_here", "_law_push"] (spOf K 2 a_l_answer) := by
  refine fn_mir [] 4 rfl (by decide) (by decide) T.F_l_answer sc_l_answer fun cdv Ar outer s H E hr => ?_
  refine ⟨_, _, (pss_cons (ps_if (pt_cmpR (k_eq (K := K) rfl hr.units) (pe_ix (k_ix (K := K) rfl) (pv 0) pe_int (fun _ _ => rfl)) pe_int (nomark _))
      (pss_one (ps_ret (pe_tup (pa_cons (pe_tup (pa_cons pe_int (pa_cons pe_int pa_nil))) (pa_cons (pe_tup (pa_cons pe_int (pa_cons pe_int pa_nil))) pa_nil)))))
      pss_nil)
    (pss_cons (ps_if (pt_cmpR k_isN (pe_ix (k_ix (K := K) rfl) (pv 0) pe_int (fun _ _ => rfl)) pe_non (nomark _))
      (pss_one (ps_ret (pe_call (ok_l_spot_times (P := P) (K := K) T) (hr.mono (by decide)) (by rfl) T.g_l_spot_times T.F_l_spot_times.kp T.b_l_spot_times .nil pass0 (pa_cons (pv 1) (pa_cons (pe_tup (pa_cons pe_int (pa_cons (pe_ix (k_ix (K := K) rfl) (pv 0) pe_int (fun _ _ => rfl)) pa_nil))) pa_nil)))))
      pss_nil)
    (pss_cons (ps_set (i := 2) sc_l_answer.nd rfl (.inl rfl) (pe_ix (k_ix (K := K) rfl) (pv 0) pe_int (fun _ _ => rfl)))
    (pss_cons (ps_set (i := 3) sc_l_answer.nd rfl (.inl rfl) (pe_op k_mul (pe_ix (k_ix (K := K) rfl) (pv 0) pe_int (fun _ _ => rfl)) (pe_op (k_add (K := K) rfl) (pe_op k_mul (pe_ix (k_ix (K := K) rfl) (pv 2) pe_int (fun _ _ => rfl)) (pe_ix (k_ix (K := K) rfl) (pv 2) pe_int (fun _ _ => rfl))) (pe_op k_mul (pe_ix (k_ix (K := K) rfl) (pv 2) pe_int (fun _ _ => rfl)) (pe_ix (k_ix (K := K) rfl) (pv 2) pe_int (fun _ _ => rfl))))))
    (pss_cons (ps_set (i := 3) sc_l_answer.nd rfl (.inl rfl) (pe_call (ok_l_times (P := P) (K := K) T) (hr.mono (by decide)) (by rfl) T.g_l_times T.F_l_times.kp T.b_l_times .nil pass0 (pa_cons (pe_call (ok_l_along (P := P) (K := K) T) (hr.mono (by decide)) (by rfl) T.g_l_along T.F_l_along.kp T.b_l_along .nil pass0 (pa_cons (pv 2) (pa_cons (pv 1) pa_nil))) (pa_cons (pe_tup (pa_cons pe_int (pa_cons (pv 3) pa_nil))) pa_nil))))
    (pss_one (ps_ret (pe_call (ok_l_spot_times (P := P) (K := K) T) (hr.mono (by decide)) (by rfl) T.g_l_spot_times T.F_l_spot_times.kp T.b_l_spot_times .nil pass0 (pa_cons (pe_tup (pa_cons (pe_tup (pa_cons (pe_ix (k_ix (K := K) rfl) (pv 2) pe_int (fun _ _ => rfl)) (pa_cons pe_int pa_nil))) (pa_cons (pe_tup (pa_cons (pe_ix (k_ix (K := K) rfl) (pv 2) pe_int (fun _ _ => rfl)) (pa_cons pe_int pa_nil))) pa_nil))) (pa_cons (pv 3) pa_nil)))))))))), by infer_instance, fun ds n Q hl hA => ?_⟩
  obtain ⟨⟨nm, kn, shp, pl, bx', bY'⟩, x, y, rfl, ok, bx, bY, q⟩ := hA
  cases kn with
  | wall => exact aT q
  | free m =>
    have hm : m ≠ 0 := fun z => by have := ok.1; omega
    obtain ⟨i1, i2⟩ := inv_rep (q := (m : Rat)) ok.1
    refine dIte (fun e => absurd e hm) (fun _ => aT ?_)
    refine ⟨x, y, (m : Rat)⁻¹, 403, 21, ?_, bx, bY, ⟨by rw [i1]; exact (by unfold Bd; decide : Bd 21 ((1 : Nat) : Int)), by rw [i2]; exact ok.2⟩, by omega, by decide, q⟩
    show [spt x y, D.tup [.int 1, .int m]] = [spt x y, D.tup [.int ((m : Rat)⁻¹).num, .int (((m : Rat)⁻¹).den : Int)]]
    rw [i1, i2]
    rfl
  | rail m p q' =>
    obtain ⟨h1, h2, h3, h4, h5⟩ := ok
    have hm : m ≠ 0 := fun z => by omega
    have hN : 0 < m * (p * p + q' * q') := Int.mul_pos h1 (sq_pos h5)
    have bN : Bd 64 (m * (p * p + q' * q')) := h2.mul ((h3.mul h3).add (h4.mul h4))
    have bal : BdQ 849 ((p : Rat) * x + (q' : Rat) * y) := ((bdq_int h3 (by decide)).mul bx).add ((bdq_int h4 (by decide)).mul bY)
    obtain ⟨i1, i2⟩ := inv_rep (q := ((m * (p * p + q' * q') : Int) : Rat)) hN
    have bi : BdQ 64 (((m * (p * p + q' * q') : Int) : Rat)⁻¹) := ⟨by rw [i1]; exact (by unfold Bd; decide : Bd 64 ((1 : Nat) : Int)), by rw [i2]; exact bN⟩
    refine dIte (fun e => absurd e hm) (fun _ => aF ?_)
    refine ⟨mulA h3 h3 (by decide) (by decide), mulA h4 h4 (by decide) (by decide), mulA h2 ((h3.mul h3).add (h4.mul h4)) (by decide) (by decide), ?_⟩
    refine ⟨p, q', x, y, 403, rfl, h3, h4, bx, bY, by decide, ?_⟩
    refine ⟨_, (((m * (p * p + q' * q') : Int) : Rat)⁻¹), 849, 64, ?_, bal, bi, by decide, by decide, ?_⟩
    · show [sh _, D.tup [.int 1, .int (m * (p * p + q' * q'))]] = [sh _, D.tup [.int (((m * (p * p + q' * q') : Int) : Rat)⁻¹).num, .int ((((m * (p * p + q' * q') : Int) : Rat)⁻¹).den : Int)]]
      rw [i1, i2]
      rfl
    · refine ⟨(p : Rat), (q' : Rat), _, 21, 913, rfl, bdq_int h3 (by decide), bdq_int h4 (by decide), bal.mul bi, by decide, by decide, ?_⟩
      rw [← Rat.div_def]
      exact q
theorem sumX_app (b : List Pu) : ∀ a, sumX (a ++ b) = sumX a + sumX b
  | [] => by
    show sumX b = 0 + sumX b
    rw [Rat.zero_add]
  | u :: a => by
    show (u.1 : Rat) * u.2.2 + sumX (a ++ b) = (u.1 : Rat) * u.2.2 + sumX a + sumX b
    rw [sumX_app b a, Rat.add_assoc]
theorem sumY_app (b : List Pu) : ∀ a, sumY (a ++ b) = sumY a + sumY b
  | [] => by
    show sumY b = 0 + sumY b
    rw [Rat.zero_add]
  | u :: a => by
    show (u.2.1 : Rat) * u.2.2 + sumY (a ++ b) = (u.2.1 : Rat) * u.2.2 + sumY a + sumY b
    rw [sumY_app b a, Rat.add_assoc]
def a_l_push_on : ASp := fun ds n Q => ∃ (b : Bw) (zs : List Str) (ps : List (Tie × Rat)), ds = [b.d, .tup (ps.map fun u => u.1.d), .tup (ps.map fun u => sh u.2)] ∧ ps.length ≤ 6 ∧ (∀ u ∈ ps, TieOk zs u) ∧ Q (spt (sumX (ofT b.nm ps)) (sumY (ofT b.nm ps))) n
theorem ok_l_push_on (T : Tx K mg A) : FnOk P w K mg base CX0 5 A.f_l_push_on A.fd_l_push_on ["_law_row_here", "_law_ties_here", "_law_pushes"] (spOf K 3 a_l_push_on) := by
  refine fn_mir [] 8 rfl (by decide) (by decide) T.F_l_push_on sc_l_push_on fun cdv Ar outer s H E hr => ?_
  refine ⟨_, _, (pss_cons (ps_set (i := 3) sc_l_push_on.nd rfl (.inl rfl) (pe_tup (pa_cons (pe_tup (pa_cons pe_int (pa_cons pe_int pa_nil))) (pa_cons (pe_tup (pa_cons pe_int (pa_cons pe_int pa_nil))) pa_nil))))
    (pss_cons (ps_for PassesOwn.never rfl (k_enumT (K := K) rfl (by rfl) T.m_enumerate (pa_cons (pv 1) pa_nil)) (k_gtup (K := K) (m := 2) rfl rfl (pgs_cons (pg_name (i := 4) sc_l_push_on.nd rfl (.inl rfl)) (pgs_cons (pg_name (i := 5) sc_l_push_on.nd rfl (.inl rfl)) pgs_nil)))
      (pss_cons (ps_set (i := 6) sc_l_push_on.nd rfl (.inl rfl) (pe_ix (k_ixS (K := K) rfl) (pv 2) (pv 4) (fun _ _ => rfl)))
    (pss_cons (ps_if (pt_cmpR (k_eq (K := K) rfl hr.units) (pe_ix (k_ix (K := K) rfl) (pv 0) pe_int (fun _ _ => rfl)) (pe_ix (k_ix (K := K) rfl) (pv 5) pe_int (fun _ _ => rfl)) (nomark _))
      (pss_one (ps_set (i := 6) sc_l_push_on.nd rfl (.inl rfl) (pe_tup (pa_cons (pe_un un_neg (pe_ix (k_ix (K := K) rfl) (pv 6) pe_int (fun _ _ => rfl))) (pa_cons (pe_ix (k_ix (K := K) rfl) (pv 6) pe_int (fun _ _ => rfl)) pa_nil)))))
      pss_nil)
    (pss_one (ps_if (PW.pt (pw_and (pt_cmpR (k_ne (K := K) rfl hr.units) (pe_ix (k_ix (K := K) rfl) (pv 6) pe_int (fun _ _ => rfl)) pe_int (nomark _)) (pw_and1 (PW.pt (pw_or (pt_cmpR (k_eq (K := K) rfl hr.units) (pe_ix (k_ix (K := K) rfl) (pv 0) pe_int (fun _ _ => rfl)) (pe_ix (k_ix (K := K) rfl) (pv 5) pe_int (fun _ _ => rfl)) (nomark _)) (pw_or1 (pt_cmpR (k_eq (K := K) rfl hr.units) (pe_ix (k_ix (K := K) rfl) (pv 0) pe_int (fun _ _ => rfl)) (pe_ix (k_ix (K := K) rfl) (pv 5) pe_int (fun _ _ => rfl)) (nomark _))))))))
      (pss_cons (ps_set (i := 7) sc_l_push_on.nd rfl (.inl rfl) (pe_tup (pa_cons (pe_tup (pa_cons (pe_ix (k_ix (K := K) rfl) (pe_ix (k_ix (K := K) rfl) (pv 5) pe_int (fun _ _ => rfl)) pe_int (fun _ _ => rfl)) (pa_cons pe_int pa_nil))) (pa_cons (pe_tup (pa_cons (pe_ix (k_ix (K := K) rfl) (pe_ix (k_ix (K := K) rfl) (pv 5) pe_int (fun _ _ => rfl)) pe_int (fun _ _ => rfl)) (pa_cons pe_int pa_nil))) pa_nil))))
    (pss_one (ps_set (i := 3) sc_l_push_on.nd rfl (.inl rfl) (pe_call (ok_l_spot_plus (P := P) (K := K) T) (hr.mono (by decide)) (by rfl) T.g_l_spot_plus T.F_l_spot_plus.kp T.b_l_spot_plus .nil pass0 (pa_cons (pv 3) (pa_cons (pe_call (ok_l_spot_times (P := P) (K := K) T) (hr.mono (by decide)) (by rfl) T.g_l_spot_times T.F_l_spot_times.kp T.b_l_spot_times .nil pass0 (pa_cons (pv 7) (pa_cons (pv 6) pa_nil))) pa_nil))))))
      pss_nil)))))
    (pss_one (ps_ret (pv 3))))), by infer_instance, fun ds n Q hl hA => ?_⟩
  obtain ⟨b, zs, ps, rfl, hl, ok, q⟩ := hA
  refine aFor_ind (fun ds ρ m => m = n ∧ ∃ (us vs : List (Tie × Rat)) (y4 y5 y6 y7 : Option D), ps = us ++ vs ∧ ds = enumD us.length (vs.map fun u => u.1.d) ∧ ρ = [some b.d, some (.tup (ps.map fun u => u.1.d)), some (.tup (ps.map fun u => sh u.2)), some (spt (sumX (ofT b.nm us)) (sumY (ofT b.nm us))), y4, y5, y6, y7]) ?_ ?_ ⟨rfl, [], ps, none, none, none, none, rfl, rfl, rfl⟩
  · rintro d r _ m ⟨rfl, us, vs, y4, y5, y6, y7, e0, e, rfl⟩ ih
    cases vs with
    | nil => cases e
    | cons u vs =>
    obtain ⟨rfl, rfl⟩ := List.cons.inj e
    have o := ok u (by rw [e0]; exact List.mem_append_right _ List.mem_cons_self)
    have oks : ∀ v ∈ us, TieOk zs v := fun v hv => ok v (by rw [e0]; exact List.mem_append_left _ hv)
    obtain ⟨o1, o2⟩ := ofT_ok b.nm us oks
    obtain ⟨s1, s2⟩ := sum_bd _ o1
    have ul : us.length ≤ 6 := by rw [e0, List.length_append] at hl; omega
    have s1' : BdQ 403 (sumX (ofT b.nm us)) := s1.le (by omega)
    have s2' : BdQ 403 (sumY (ofT b.nm us)) := s2.le (by omega)
    have hat : atI (ps.map fun u => sh u.2) ((us.length : Nat) : Int) = some (sh u.2) := by
      refine atI_nat ?_
      rw [e0, List.map_append, List.getElem?_append_right (by rw [List.length_map]; exact Nat.le_refl _), List.length_map, Nat.sub_self]
      rfl
    have e0' : ps = (us ++ [u]) ++ vs := by rw [e0, List.append_assoc]; rfl
    have el : enumD (us.length + 1) (vs.map fun u => u.1.d) = enumD (us ++ [u]).length (vs.map fun u => u.1.d) := by rw [List.length_append]; rfl
    have eo : ofT b.nm (us ++ [u]) = ofT b.nm us ++ ((if b.nm = u.1.lo then [(-u.1.p, -u.1.q, u.2)] else []) ++ ((if b.nm = u.1.hi then [(u.1.p, u.1.q, u.2)] else []) ++ [])) := ofT_app b.nm [u] us
    have bp : BdQ 21 (u.1.p : Rat) := bdq_int o.p (by decide)
    have bq : BdQ 21 (u.1.q : Rat) := bdq_int o.q (by decide)
    have fin : ∀ y4 y5 y6 y7 : Option D, True ∧ ∃ (us' vs' : List (Tie × Rat)) (z4 z5 z6 z7 : Option D), ps = us' ++ vs' ∧ enumD (us.length + 1) (vs.map fun u => u.1.d) = enumD us'.length (vs'.map fun u => u.1.d) ∧ [some b.d, some (.tup (ps.map fun u => u.1.d)), some (.tup (ps.map fun u => sh u.2)), some (spt (sumX (ofT b.nm (us ++ [u]))) (sumY (ofT b.nm (us ++ [u])))), y4, y5, y6, y7] = [some b.d, some (.tup (ps.map fun u => u.1.d)), some (.tup (ps.map fun u => sh u.2)), some (spt (sumX (ofT b.nm us')) (sumY (ofT b.nm us'))), z4, z5, z6, z7] := fun y4 y5 y6 y7 => ⟨trivial, us ++ [u], vs, y4, y5, y6, y7, e0', el, rfl⟩
    refine aIx_tup hat ?_
    by_cases h1 : b.nm = u.1.lo
    · have h2 : ¬ b.nm = u.1.hi := fun z => o.ne (by rw [← h1, z])
      have e1 : (b.nm == u.1.lo) = true := by rw [h1]; exact beq_self_eq_true _
      rw [if_pos h1, if_neg h2] at eo
      have hx : sumX (ofT b.nm us) + (u.1.p : Rat) * -u.2 = sumX (ofT b.nm (us ++ [u])) := by
        rw [eo, sumX_app]
        show _ = _ + (((-u.1.p : Int) : Rat) * u.2 + 0)
        rw [Rat.intCast_neg]
        grind
      have hy : sumY (ofT b.nm us) + (u.1.q : Rat) * -u.2 = sumY (ofT b.nm (us ++ [u])) := by
        rw [eo, sumY_app]
        show _ = _ + (((-u.1.q : Int) : Rat) * u.2 + 0)
        rw [Rat.intCast_neg]
        grind
      show aIte (b.nm == u.1.lo) _ _
      rw [e1]
      refine aT ?_
      by_cases hz : u.2.num = 0
      · have z0 : u.2 = 0 := Rat.num_eq_zero.mp hz
        have e3 : (!(decide (-u.2.num = 0))) = false := by rw [hz]; rfl
        show aIte (!(decide (-u.2.num = 0))) _ _
        rw [e3]
        rw [z0, show (-(0 : Rat)) = 0 by rfl, Rat.mul_zero, Rat.add_zero] at hx hy
        refine aF (aF (ih _ _ ?_))
        simp only [startA, eSetAll, eSet, List.cons_append, List.nil_append]
        rw [hx, hy]
        exact fin _ _ _ _
      · have e3 : (!(decide (-u.2.num = 0))) = true := by
          rw [decide_eq_false (by omega)]
          rfl
        show aIte (!(decide (-u.2.num = 0))) _ _
        rw [e3]
        refine aT ?_
        show aIte (b.nm == u.1.lo) _ _
        rw [e1]
        refine aT (aT ?_)
        refine ⟨(u.1.p : Rat), (u.1.q : Rat), -u.2, 21, 45, rfl, bp, bq, o.x.neg, by decide, by decide, ?_⟩
        refine ⟨_, _, _, _, 403, 66, rfl, s1', s2', bp.mul o.x.neg, bq.mul o.x.neg, by decide, by decide, ?_⟩
        refine ih _ _ ?_
        simp only [startA, eSetAll, eSet, List.cons_append, List.nil_append]
        rw [hx, hy]
        exact fin _ _ _ _
    · have e1 : (b.nm == u.1.lo) = false := beq_eq_false_iff_ne.mpr h1
      rw [if_neg h1] at eo
      show aIte (b.nm == u.1.lo) _ _
      rw [e1]
      refine aF ?_
      by_cases hz : u.2.num = 0
      · have z0 : u.2 = 0 := Rat.num_eq_zero.mp hz
        have hx : sumX (ofT b.nm us) = sumX (ofT b.nm (us ++ [u])) := by
          rw [eo, sumX_app]
          split
          · show _ = _ + ((u.1.p : Rat) * u.2 + 0)
            rw [z0]
            grind
          · show _ = _ + 0
            grind
        have hy : sumY (ofT b.nm us) = sumY (ofT b.nm (us ++ [u])) := by
          rw [eo, sumY_app]
          split
          · show _ = _ + ((u.1.q : Rat) * u.2 + 0)
            rw [z0]
            grind
          · show _ = _ + 0
            grind
        have e3 : (!(decide (u.2.num = 0))) = false := by rw [hz]; rfl
        show aIte (!(decide (u.2.num = 0))) _ _
        rw [e3]
        refine aF (aF (ih _ _ ?_))
        simp only [startA, eSetAll, eSet, List.cons_append, List.nil_append]
        rw [hx, hy]
        exact fin _ _ _ _
      · have e3 : (!(decide (u.2.num = 0))) = true := by
          rw [decide_eq_false hz]
          rfl
        show aIte (!(decide (u.2.num = 0))) _ _
        rw [e3]
        refine aT ?_
        show aIte (b.nm == u.1.lo) _ _
        rw [e1]
        refine aF ?_
        by_cases h2 : b.nm = u.1.hi
        · have e2 : (b.nm == u.1.hi) = true := by rw [h2]; exact beq_self_eq_true _
          rw [if_pos h2] at eo
          have hx : sumX (ofT b.nm us) + (u.1.p : Rat) * u.2 = sumX (ofT b.nm (us ++ [u])) := by
            rw [eo, sumX_app]
            show _ = _ + ((u.1.p : Rat) * u.2 + 0)
            grind
          have hy : sumY (ofT b.nm us) + (u.1.q : Rat) * u.2 = sumY (ofT b.nm (us ++ [u])) := by
            rw [eo, sumY_app]
            show _ = _ + ((u.1.q : Rat) * u.2 + 0)
            grind
          show aIte (b.nm == u.1.hi) _ _
          rw [e2]
          refine aT ?_
          refine ⟨(u.1.p : Rat), (u.1.q : Rat), u.2, 21, 45, rfl, bp, bq, o.x, by decide, by decide, ?_⟩
          refine ⟨_, _, _, _, 403, 66, rfl, s1', s2', bp.mul o.x, bq.mul o.x, by decide, by decide, ?_⟩
          refine ih _ _ ?_
          simp only [startA, eSetAll, eSet, List.cons_append, List.nil_append]
          rw [hx, hy]
          exact fin _ _ _ _
        · have e2 : (b.nm == u.1.hi) = false := beq_eq_false_iff_ne.mpr h2
          rw [if_neg h2] at eo
          have eo' : ofT b.nm (us ++ [u]) = ofT b.nm us := by rw [eo]; simp
          show aIte (b.nm == u.1.hi) _ _
          rw [e2]
          refine aF (ih _ _ ?_)
          simp only [startA, eSetAll, eSet, List.cons_append, List.nil_append]
          rw [← eo']
          exact fin _ _ _ _
  · rintro _ m ⟨rfl, us, vs, y4, y5, y6, y7, e0, e, rfl⟩
    cases vs with
    | cons u vs => cases e
    | nil =>
    rw [List.append_nil] at e0
    subst e0
    exact q
def a_l_pushed : ASp := fun ds n Q => ∃ (bs : List Bw) (ps : List (Tie × Rat)), ds = [.tup (bs.map Bw.d), .tup (ps.map fun u => u.1.d), .tup (ps.map fun u => sh u.2)] ∧ bs.length ≤ 8 ∧ ps.length ≤ 6 ∧ (∀ u ∈ ps, TieOk (bs.map Bw.nm) u) ∧ (∀ b ∈ bs, b.ok) ∧ Q (.tup (bs.map fun b => (b.aft ps).d)) n
theorem ok_l_pushed (T : Tx K mg A) : FnOk P w K mg base CX0 6 A.f_l_pushed A.fd_l_pushed ["_law_rows", "_law_ties_here", "_law_pushes"] (spOf K 3 a_l_pushed) := by
  refine fn_mir [3] 6 rfl (by decide) (by decide) T.F_l_pushed sc_l_pushed fun cdv Ar outer s H E hr => ?_
  refine ⟨_, _, (pss_cons (k_own (ps_set (i := 3) sc_l_pushed.nd rfl (.inl rfl) (pe_lst pa_nil)))
    (pss_cons (ps_for PassesOwn.never rfl (k_iter (K := K) rfl (pv 0)) (pg_name (i := 4) sc_l_pushed.nd rfl (.inl rfl))
      (pss_cons (ps_set (i := 5) sc_l_pushed.nd rfl (.inl rfl) (pe_call (ok_l_answer (P := P) (K := K) T) (hr.mono (by decide)) (by rfl) T.g_l_answer T.F_l_answer.kp T.b_l_answer .nil pass0 (pa_cons (pv 4) (pa_cons (pe_call (ok_l_push_on (P := P) (K := K) T) (hr.mono (by decide)) (by rfl) T.g_l_push_on T.F_l_push_on.kp T.b_l_push_on .nil pass0 (pa_cons (pv 4) (pa_cons (pv 1) (pa_cons (pv 2) pa_nil)))) pa_nil))))
    (pss_one (k_app (K := K) rfl (ps_expr (pe_bm PySem.F.plainAttrs_list PySem.F.slot_list_append PySem.F.type_list_append mt_append (pv 3) (pa_cons (pe_op (k_add (K := K) rfl) (pe_slice (k_sl (K := K) rfl) (pv 4) po_none (po_some pe_int)) (pe_tup (pa_cons (pe_call (ok_l_spot_plus (P := P) (K := K) T) (hr.mono (by decide)) (by rfl) T.g_l_spot_plus T.F_l_spot_plus.kp T.b_l_spot_plus .nil pass0 (pa_cons (pe_ix (k_ix (K := K) rfl) (pv 4) pe_int (fun _ _ => rfl)) (pa_cons (pv 5) pa_nil))) pa_nil))) pa_nil)))))))
    (pss_one (ps_ret (pe_callTy (k_tuple (K := K) rfl) (by rfl) T.m_tuple (by decide +kernel) (pa_cons (pv 3) pa_nil)))))), by infer_instance, fun ds n Q hl hA => ?_⟩
  obtain ⟨bs, ps, rfl, hl, hp, ok, bok, q⟩ := hA
  refine aFor_ind (fun ds ρ m => m = n ∧ ∃ (us vs : List Bw) (y4 y5 : Option D), bs = us ++ vs ∧ ds = vs.map Bw.d ∧ ρ = [some (.tup (bs.map Bw.d)), some (.tup (ps.map fun u => u.1.d)), some (.tup (ps.map fun u => sh u.2)), some (.lst (us.map fun b => (b.aft ps).d)), y4, y5]) ?_ ?_ ⟨rfl, [], bs, none, none, rfl, rfl, rfl⟩
  · rintro d r _ m ⟨rfl, us, vs, y4, y5, e0, e, rfl⟩ ih
    cases vs with
    | nil => cases e
    | cons b vs =>
    rw [List.map_cons] at e
    obtain ⟨rfl, rfl⟩ := List.cons.inj e
    have hb : b ∈ bs := by rw [e0]; exact List.mem_append_right _ List.mem_cons_self
    obtain ⟨bk, bx, bY⟩ := bok b hb
    obtain ⟨o1, o2⟩ := ofT_ok b.nm ps ok
    obtain ⟨s1, s2⟩ := sum_bd _ o1
    have s1' : BdQ 403 (sumX (ofT b.nm ps)) := s1.le (by omega)
    have s2' : BdQ 403 (sumY (ofT b.nm ps)) := s2.le (by omega)
    obtain ⟨r1, r2⟩ := ans_bd bk s1' s2'
    have ul : us.length ≤ 8 := by rw [e0, List.length_append] at hl; omega
    refine ⟨b, _, ps, rfl, hp, ok, ?_⟩
    refine ⟨b, _, _, rfl, bk, s1', s2', ?_⟩
    refine ⟨by show ¬ (HT.sIx 6 0 none = 0 ∧ HT.sIx 6 6 (some 5) = 6); decide, ?_⟩
    refine ⟨b.x, b.y, _, _, 66, 1000, rfl, bx, bY, r1, r2, by decide, by decide, ?_⟩
    refine ⟨List.cons_ne_nil _ _, by show 5 + 1 ≤ 1000000; decide, ?_⟩
    refine ⟨by rw [List.length_map]; omega, ?_⟩
    have fin : ∀ y4 y5 : Option D, True ∧ ∃ (us' vs' : List Bw) (z4 z5 : Option D), bs = us' ++ vs' ∧ vs.map Bw.d = vs'.map Bw.d ∧ [some (.tup (bs.map Bw.d)), some (.tup (ps.map fun u => u.1.d)), some (.tup (ps.map fun u => sh u.2)), some (.lst (us.map (fun b => (b.aft ps).d) ++ [(b.aft ps).d])), y4, y5] = [some (.tup (bs.map Bw.d)), some (.tup (ps.map fun u => u.1.d)), some (.tup (ps.map fun u => sh u.2)), some (.lst (us'.map fun b => (b.aft ps).d)), z4, z5] := fun y4 y5 => ⟨trivial, us ++ [b], vs, y4, y5, by rw [e0, List.append_assoc]; rfl, rfl, by rw [List.map_append]; rfl⟩
    refine ih _ _ ?_
    simp only [startA, eSetAll, eSet, List.cons_append, List.nil_append]
    exact fin _ _
  · rintro _ m ⟨rfl, us, vs, y4, y5, e0, e, rfl⟩
    cases vs with
    | cons u vs => cases e
    | nil =>
    rw [List.append_nil] at e0
    subst e0
    exact q
theorem parts_lc {n : Nat} {ts : List Tie} {Q : D → Nat → Prop} {g : Int} {b0 b3 b4 b5 b6 b7 b8 b9 : Option D} (hl : ts.length ≤ 6) (hn : 100 ≤ n) (q : ∀ (xs : List Rat) (m : Nat), xs.length = ts.length → (∀ x ∈ xs, BdQ 45 x) → n ≤ m + 40 → Q (.lst (xs.map sh)) m) : aLcGo [9] (aName 9) aYes (aCall 2 a_l_part (aCons (aVar 1) (aCons (aVar 2) aNil))) [b0, some .deck, some (.int g), b3, b4, b5, b6, b7, b8, b9] Q [] (ts.map Tie.d) n := by
  refine aLc_ind (fun acc ds m => ∃ xs : List Rat, acc = xs.map sh ∧ xs.length + ds.length = ts.length ∧ (∀ x ∈ xs, BdQ 45 x) ∧ n ≤ m + 5 * xs.length) ?_ ?_ ⟨[], rfl, by simp, (fun x h => by cases h), by simp⟩
  · rintro acc d r m ⟨xs, rfl, hx, hb, hm⟩ ih
    rw [List.length_cons] at hx
    refine aT ⟨g, rfl, by omega, fun x m' bx hm' => ih _ _ ⟨xs ++ [x], by rw [List.map_append]; rfl, by rw [List.length_append, List.length_singleton]; omega, fun y hy => ?_, by rw [List.length_append, List.length_singleton]; omega⟩⟩
    rcases List.mem_append.mp hy with h | h
    · exact hb y h
    · rw [List.mem_singleton.mp h]
      exact bx
  · rintro acc m ⟨xs, rfl, hx, hb, hm⟩
    exact q xs m (by simpa using hx) hb (by simp at hx; omega)
theorem given {zs : List Str} {ts : List Tie} {xs : List Rat} (hx : xs.length = ts.length) (ht : ∀ t ∈ ts, TOk zs t) (hb : ∀ x ∈ xs, BdQ 45 x) : ∃ ps : List (Tie × Rat), ps.map Prod.fst = ts ∧ xs.map sh = ps.map (fun u => sh u.2) ∧ ∀ u ∈ ps, TieOk zs u := by
  refine ⟨ts.zip xs, List.map_fst_zip (by omega), ?_, fun u hu => ?_⟩
  · have e : (ts.zip xs).map (fun u => sh u.2) = ((ts.zip xs).map Prod.snd).map sh := by rw [List.map_map]; rfl
    rw [e, List.map_snd_zip (by omega)]
  · obtain ⟨h1, h2⟩ := List.of_mem_zip (a := u.1) (b := u.2) hu
    have h := ht u.1 h1
    exact ⟨h.lo, h.hi, h.ne, h.p, h.q, hb u.2 h2⟩
theorem ok_law (T : Tx K mg A) : FnOk P w K mg base CX0 11 A.f_law A.fd_law ["_law_script"] (sp_law K) := by
  refine law_mir [] 10 1 rfl (by decide) (by decide) T.F_law sc_law fun cdv Ar outer s H E hr => ?_
  refine ⟨_, _, (pss_cons (ps_set (i := 1) sc_law.nd rfl (.inr rfl) (pe_call (ok_l_deck (P := P) (K := K) T) (hr.mono (by decide)) (by rfl) T.g_l_deck T.F_l_deck.kp T.b_l_deck .nil pass0 (pa_cons (pv 0) pa_nil)))
    (pss_cons (ps_set (i := 2) sc_law.nd rfl (.inr rfl) (pe_callTy k_int (by rfl) T.m_int (by decide +kernel) (pa_cons (pe_cmpR (k_eq (K := K) rfl hr.units) (pe_call (ok_l_take (P := P) (K := K) T) (hr.mono (by decide)) (by rfl) T.g_l_take T.F_l_take.kp T.b_l_take .nil pass0 (pa_cons (pv 1) (pa_cons pe_int pa_nil))) pe_int (nomark _)) pa_nil)))
    (pss_cons (ps_set (i := 3) sc_law.nd rfl (.inl rfl) (pe_call (ok_l_crowd (P := P) (K := K) T) (hr.mono (by decide)) (by rfl) T.g_l_crowd T.F_l_crowd.kp T.b_l_crowd .nil pass0 (pa_cons (pv 1) (pa_cons (pv 2) pa_nil))))
    (pss_cons (ps_set (i := 4) sc_law.nd rfl (.inl rfl) (pe_call (ok_l_ties (P := P) (K := K) T) (hr.mono (by decide)) (by rfl) T.g_l_ties T.F_l_ties.kp T.b_l_ties .nil pass0 (pa_cons (pv 1) (pa_cons (pv 3) (pa_cons (pv 2) pa_nil)))))
    (pss_cons (ps_set (i := 5) sc_law.nd rfl (.inl rfl) (pe_callTy (k_tuple (K := K) rfl) (by rfl) T.m_tuple (by decide +kernel) (pa_cons (pe_lc (own := [("_law_tie", 9)]) rfl sc_law.nd (k_iter (K := K) rfl (pv 4)) (blkOk_by (own := [("_law_tie", 9)]) (N := ["_law_script", "_law_deck_here", "_law_great", "_law_rows", "_law_ties_here", "_law_pushes", "_law_others", "_law_none", "_law_given", "_law_tie"]) (sc := defScope s_law) (by decide +kernel)) (fun _ _ _ _ _ => (pg_name (i := 9) sc_law.nd rfl (Or.inl rfl))) (fun _ _ _ _ _ => pts_nil) (fun _ _ _ _ _ => (pe_call (ok_l_part (P := P) (K := K) T) (hr.mono (by decide)) (by rfl) T.g_l_part T.F_l_part.kp T.b_l_part .nil pass0 (pa_cons (pv 1) (pa_cons (pv 2) pa_nil))))) pa_nil)))
    (pss_cons (ps_set (i := 6) sc_law.nd rfl (.inl rfl) (pe_callTy (k_tuple (K := K) rfl) (by rfl) T.m_tuple (by decide +kernel) (pa_cons (pe_lc (own := [("_law_tie", 9)]) rfl sc_law.nd (k_iter (K := K) rfl (pv 4)) (blkOk_by (own := [("_law_tie", 9)]) (N := ["_law_script", "_law_deck_here", "_law_great", "_law_rows", "_law_ties_here", "_law_pushes", "_law_others", "_law_none", "_law_given", "_law_tie"]) (sc := defScope s_law) (by decide +kernel)) (fun _ _ _ _ _ => (pg_name (i := 9) sc_law.nd rfl (Or.inl rfl))) (fun _ _ _ _ _ => pts_nil) (fun _ _ _ _ _ => (pe_call (ok_l_part (P := P) (K := K) T) (hr.mono (by decide)) (by rfl) T.g_l_part T.F_l_part.kp T.b_l_part .nil pass0 (pa_cons (pv 1) (pa_cons (pv 2) pa_nil))))) pa_nil)))
    (pss_cons (ps_set (i := 7) sc_law.nd rfl (.inl rfl) (pe_callTy (k_tuple (K := K) rfl) (by rfl) T.m_tuple (by decide +kernel) (pa_cons (pe_lc (own := [("_law_tie", 9)]) rfl sc_law.nd (k_iter (K := K) rfl (pv 4)) (blkOk_by (own := [("_law_tie", 9)]) (N := ["_law_script", "_law_deck_here", "_law_great", "_law_rows", "_law_ties_here", "_law_pushes", "_law_others", "_law_none", "_law_given", "_law_tie"]) (sc := defScope s_law) (by decide +kernel)) (fun _ _ _ _ _ => (pg_name (i := 9) sc_law.nd rfl (Or.inl rfl))) (fun _ _ _ _ _ => pts_nil) (fun _ _ _ _ _ => (pe_tup (pa_cons pe_int (pa_cons pe_int pa_nil))))) pa_nil)))
    (pss_cons (ps_for PassesOwn.never rfl (k_iter (K := K) rfl (pe_lst (pa_cons (pv 5) (pa_cons (pv 6) (pa_cons (pv 7) (pa_cons (pv 5) pa_nil)))))) (pg_name (i := 8) sc_law.nd rfl (.inl rfl))
      (pss_one (ps_if (pt_not (pt_val (pe_call (ok_l_alike (P := P) (K := K) T) (hr.mono (by decide)) (by rfl) T.g_l_alike T.F_l_alike.kp T.b_l_alike .nil pass0 (pa_cons (pe_call (ok_p_pushed (P := P) (K := K) T) (hr.mono (by decide)) (by rfl) T.g_p_pushed T.F_p_pushed.kp T.b_p_pushed .nil pass0 (pa_cons (pv 3) (pa_cons (pv 4) (pa_cons (pv 8) pa_nil)))) (pa_cons (pe_call (ok_l_pushed (P := P) (K := K) T) (hr.mono (by decide)) (by rfl) T.g_l_pushed T.F_l_pushed.kp T.b_l_pushed .nil pass0 (pa_cons (pv 3) (pa_cons (pv 4) (pa_cons (pv 8) pa_nil)))) pa_nil)))))
      (pss_one (ps_ret pe_bl))
      pss_nil)))
    (pss_one (ps_ret pe_bl)))))))))), by infer_instance, ?_⟩
  refine ⟨6, rfl, by decide, by decide, by decide, fun r l u => ?_⟩
  have hg : (if decide (r = 0) then (1 : Int) else 0) = 0 ∨ (if decide (r = 0) then (1 : Int) else 0) = 1 := by
    split
    · exact .inr rfl
    · exact .inl rfl
  refine ⟨if decide (r = 0) then (1 : Int) else 0, rfl, hg, by decide, fun bs n1 l1 b1 nd1 h1 => ⟨bs, if decide (r = 0) then (1 : Int) else 0, rfl, hg, l1, nd1, by omega, fun ts n2 lt okt h2 => ?_⟩⟩
  generalize (if decide (r = 0) then (1 : Int) else 0) = g
  simp only [startA, eSetAll, eSet, List.cons_append, List.nil_append]
  refine ⟨by rw [List.length_map]; omega, parts_lc lt (by omega) fun xs1 n3 e1 q1 h3 => ?_⟩
  simp only [startA, eSetAll, eSet, List.cons_append, List.nil_append]
  refine ⟨by rw [List.length_map]; omega, parts_lc lt (by omega) fun xs2 n4 e2 q2 h4 => ?_⟩
  simp only [startA, eSetAll, eSet, List.cons_append, List.nil_append]
  refine ⟨by rw [List.length_map]; omega, aLc_maps Tie.d (fun _ => sh 0) ts [] (fun t _ Kn L k => aT k) ?_⟩
  simp only [startA, eSetAll, eSet, List.cons_append, List.nil_append]
  have e3 : ts.map (fun _ => sh 0) = (ts.map fun _ => (0 : Rat)).map sh := by rw [List.map_map]; rfl
  rw [e3]
  have b0 : BdQ 45 (0 : Rat) := ⟨by unfold Bd; decide, by unfold Bd; decide⟩
  refine aFor_ind (fun ds ρ _ => (∀ d ∈ ds, ∃ ps : List (Tie × Rat), ps.map Prod.fst = ts ∧ d = .tup (ps.map fun u => sh u.2) ∧ ∀ u ∈ ps, TieOk (bs.map Bw.nm) u) ∧ ∃ b0 b1 b2 b5 b6 b7 b8 b9 : Option D, ρ = [b0, b1, b2, some (.tup (bs.map Bw.d)), some (.tup (ts.map Tie.d)), b5, b6, b7, b8, b9]) ?_ ?_ ⟨?_, _, _, _, _, _, _, _, _, rfl⟩
  · rintro d r' _ m ⟨hd, c0, c1, c2, c5, c6, c7, c8, c9, rfl⟩ ih
    obtain ⟨ps, ept, rfl, okp⟩ := hd d List.mem_cons_self
    have hpl : ps.length ≤ 6 := by
      rw [← ept, List.length_map] at lt
      exact lt
    have et : ts.map Tie.d = ps.map fun u => u.1.d := by rw [← ept, List.map_map]; rfl
    have ea : [D.tup (bs.map Bw.d), .tup (ts.map Tie.d), .tup (ps.map fun u => sh u.2)] = [D.tup (bs.map Bw.d), .tup (ps.map fun u => u.1.d), .tup (ps.map fun u => sh u.2)] := by rw [et]
    refine ⟨bs, ps, ea, l1, nd1, hpl, okp, fun b h => (b1 b h).1, bs, ps, ea, l1, hpl, okp, fun b h => (b1 b h).1, ?_⟩
    refine ⟨_, rfl, .inr ⟨_, rfl, by rw [List.length_map]; omega, fun x hx => ?_⟩, aF ?_⟩
    · obtain ⟨b, hb, rfl⟩ := List.mem_map.mp hx
      exact ddt_row (b := b.aft ps) (b1 b hb).2
    · exact ih _ _ ⟨fun d h => hd d (List.mem_cons_of_mem _ h), _, _, _, _, _, _, _, _, rfl⟩
  · rintro _ m ⟨_, c0, c1, c2, c5, c6, c7, c8, c9, rfl⟩
    exact rfl
  · intro d hd
    have hn : (ts.map fun _ => (0 : Rat)).length = ts.length := List.length_map _
    obtain ⟨p1, a1, a2, a3⟩ := given e1 okt q1
    obtain ⟨p2, a4, a5, a6⟩ := given e2 okt q2
    obtain ⟨p3, a7, a8, a9⟩ := given hn okt fun x hx => by
      obtain ⟨_, _, rfl⟩ := List.mem_map.mp hx
      exact b0
    have : d = .tup (xs1.map sh) ∨ d = .tup (xs2.map sh) ∨ d = .tup ((ts.map fun _ => (0 : Rat)).map sh) ∨ d = .tup (xs1.map sh) := by simpa using hd
    rcases this with rfl | rfl | rfl | rfl
    · exact ⟨p1, a1, by rw [a2], a3⟩
    · exact ⟨p2, a4, by rw [a5], a6⟩
    · exact ⟨p3, a7, by rw [a8], a9⟩
    · exact ⟨p1, a1, by rw [a2], a3⟩

end
theorem all_mk {l : PySem.W.OpenLaw} {w : World} {K : PySem.W.Frag} {h : Heap} {mg : Str → Option Value} {fa : Addr} (X : K.In h) (G : h.Ns mainGlobals mg) (hfa : mg "law" = some (.ref fa))
    {od0 an0 : Option Addr} {sl0 : Array (Option Value)} {oc0 kV0 dc0 pm0 cd0 ct0 : Value} {f0 : Addr}
    {od1 an1 : Option Addr} {sl1 : Array (Option Value)} {oc1 kV1 dc1 pm1 cd1 ct1 : Value} {f1 : Addr}
    {od3 an3 : Option Addr} {sl3 : Array (Option Value)} {oc3 kV3 dc3 pm3 cd3 ct3 : Value} {f3 : Addr}
    {od4 an4 : Option Addr} {sl4 : Array (Option Value)} {oc4 kV4 dc4 pm4 cd4 ct4 : Value} {f4 : Addr}
    {od5 an5 : Option Addr} {sl5 : Array (Option Value)} {oc5 kV5 dc5 pm5 cd5 ct5 : Value} {f5 : Addr}
    {od6 an6 : Option Addr} {sl6 : Array (Option Value)} {oc6 kV6 dc6 pm6 cd6 ct6 : Value} {f6 : Addr}
    {od7 an7 : Option Addr} {sl7 : Array (Option Value)} {oc7 kV7 dc7 pm7 cd7 ct7 : Value} {f7 : Addr}
    {od8 an8 : Option Addr} {sl8 : Array (Option Value)} {oc8 kV8 dc8 pm8 cd8 ct8 : Value} {f8 : Addr}
    {od9 an9 : Option Addr} {sl9 : Array (Option Value)} {oc9 kV9 dc9 pm9 cd9 ct9 : Value} {f9 : Addr}
    {od10 an10 : Option Addr} {sl10 : Array (Option Value)} {oc10 kV10 dc10 pm10 cd10 ct10 : Value} {f10 : Addr}
    {od11 an11 : Option Addr} {sl11 : Array (Option Value)} {oc11 kV11 dc11 pm11 cd11 ct11 : Value} {f11 : Addr}
    {od12 an12 : Option Addr} {sl12 : Array (Option Value)} {oc12 kV12 dc12 pm12 cd12 ct12 : Value} {f12 : Addr}
    {od13 an13 : Option Addr} {sl13 : Array (Option Value)} {oc13 kV13 dc13 pm13 cd13 ct13 : Value} {f13 : Addr}
    {od14 an14 : Option Addr} {sl14 : Array (Option Value)} {oc14 kV14 dc14 pm14 cd14 ct14 : Value} {f14 : Addr}
    {od15 an15 : Option Addr} {sl15 : Array (Option Value)} {oc15 kV15 dc15 pm15 cd15 ct15 : Value} {f15 : Addr}
    {od16 an16 : Option Addr} {sl16 : Array (Option Value)} {oc16 kV16 dc16 pm16 cd16 ct16 : Value} {f16 : Addr}
    {od17 an17 : Option Addr} {sl17 : Array (Option Value)} {oc17 kV17 dc17 pm17 cd17 ct17 : Value} {f17 : Addr}
    {od18 an18 : Option Addr} {sl18 : Array (Option Value)} {oc18 kV18 dc18 pm18 cd18 ct18 : Value} {f18 : Addr}
    {od19 an19 : Option Addr} {sl19 : Array (Option Value)} {oc19 kV19 dc19 pm19 cd19 ct19 : Value} {f19 : Addr}
    {od20 an20 : Option Addr} {sl20 : Array (Option Value)} {oc20 kV20 dc20 pm20 cd20 ct20 : Value} {f20 : Addr}
    {od21 an21 : Option Addr} {sl21 : Array (Option Value)} {oc21 kV21 dc21 pm21 cd21 ct21 : Value} {f21 : Addr}
    {od22 an22 : Option Addr} {sl22 : Array (Option Value)} {oc22 kV22 dc22 pm22 cd22 ct22 : Value} {f22 : Addr}
    {od23 an23 : Option Addr} {sl23 : Array (Option Value)} {oc23 kV23 dc23 pm23 cd23 ct23 : Value} {f23 : Addr}
    {od24 an24 : Option Addr} {sl24 : Array (Option Value)} {oc24 kV24 dc24 pm24 cd24 ct24 : Value} {f24 : Addr}
    {od25 an25 : Option Addr} {sl25 : Array (Option Value)} {oc25 kV25 dc25 pm25 cd25 ct25 : Value} {f25 : Addr}
    {od26 an26 : Option Addr} {sl26 : Array (Option Value)} {oc26 kV26 dc26 pm26 cd26 ct26 : Value} {f26 : Addr}
    {od27 an27 : Option Addr} {sl27 : Array (Option Value)} {oc27 kV27 dc27 pm27 cd27 ct27 : Value} {f27 : Addr}
    {od28 an28 : Option Addr} {sl28 : Array (Option Value)} {oc28 kV28 dc28 pm28 cd28 ct28 : Value} {f28 : Addr}
    {od29 an29 : Option Addr} {sl29 : Array (Option Value)} {oc29 kV29 dc29 pm29 cd29 ct29 : Value} {f29 : Addr}
    {od30 an30 : Option Addr} {sl30 : Array (Option Value)} {oc30 kV30 dc30 pm30 cd30 ct30 : Value} {f30 : Addr}
    {od31 an31 : Option Addr} {sl31 : Array (Option Value)} {oc31 kV31 dc31 pm31 cd31 ct31 : Value} {f31 : Addr}
    {od32 an32 : Option Addr} {sl32 : Array (Option Value)} {oc32 kV32 dc32 pm32 cd32 ct32 : Value} {f32 : Addr}
    {od33 an33 : Option Addr} {sl33 : Array (Option Value)} {oc33 kV33 dc33 pm33 cd33 ct33 : Value} {f33 : Addr}
    {od34 an34 : Option Addr} {sl34 : Array (Option Value)} {oc34 kV34 dc34 pm34 cd34 ct34 : Value} {f34 : Addr}
    {od35 an35 : Option Addr} {sl35 : Array (Option Value)} {oc35 kV35 dc35 pm35 cd35 ct35 : Value} {f35 : Addr}
    {od36 an36 : Option Addr} {sl36 : Array (Option Value)} {oc36 kV36 dc36 pm36 cd36 ct36 : Value} {f36 : Addr}
    {od37 an37 : Option Addr} {sl37 : Array (Option Value)} {oc37 kV37 dc37 pm37 cd37 ct37 : Value} {f37 : Addr}
    {od38 an38 : Option Addr} {sl38 : Array (Option Value)} {oc38 kV38 dc38 pm38 cd38 ct38 : Value} {f38 : Addr}
    {od39 an39 : Option Addr} {sl39 : Array (Option Value)} {oc39 kV39 dc39 pm39 cd39 ct39 : Value} {f39 : Addr}
    {od40 an40 : Option Addr} {sl40 : Array (Option Value)} {oc40 kV40 dc40 pm40 cd40 ct40 : Value} {f40 : Addr}
    {od41 an41 : Option Addr} {sl41 : Array (Option Value)} {oc41 kV41 dc41 pm41 cd41 ct41 : Value} {f41 : Addr}
    {od42 an42 : Option Addr} {sl42 : Array (Option Value)} {oc42 kV42 dc42 pm42 cd42 ct42 : Value} {f42 : Addr}
    {od43 an43 : Option Addr} {sl43 : Array (Option Value)} {oc43 kV43 dc43 pm43 cd43 ct43 : Value} {f43 : Addr}
    {od44 an44 : Option Addr} {sl44 : Array (Option Value)} {oc44 kV44 dc44 pm44 cd44 ct44 : Value} {f44 : Addr}
    {od45 an45 : Option Addr} {sl45 : Array (Option Value)} {oc45 kV45 dc45 pm45 cd45 ct45 : Value} {f45 : Addr}
    {od46 an46 : Option Addr} {sl46 : Array (Option Value)} {oc46 kV46 dc46 pm46 cd46 ct46 : Value} {f46 : Addr}
    {c_BodyError : Addr}
    {c_NoShare : Addr}
    {c_Body : Addr}
    {c_Wall : Addr}
    {c_Free : Addr}
    {c_Railed : Addr}
    {odm0 anm0 : Option Addr} {slm0 : Array (Option Value)} {ocm0 kVm0 dcm0 pmm0 cdm0 ctm0 : Value} {fm0 : Addr}
    {odm1 anm1 : Option Addr} {slm1 : Array (Option Value)} {ocm1 kVm1 dcm1 pmm1 cdm1 ctm1 : Value} {fm1 : Addr}
    {odm2 anm2 : Option Addr} {slm2 : Array (Option Value)} {ocm2 kVm2 dcm2 pmm2 cdm2 ctm2 : Value} {fm2 : Addr}
    {odm3 anm3 : Option Addr} {slm3 : Array (Option Value)} {ocm3 kVm3 dcm3 pmm3 cdm3 ctm3 : Value} {fm3 : Addr}
    {k_LENGTHY : Tok}
    {odL_share anL_share odT_share : Option Addr} {slL_share slT_share : Array (Option Value)} {ocL_share kvL_share dcL_share pmL_share cdL_share ctL_share : Value} {fL_share dL_share : Addr} {nT_share : Nat}
    {tT_share : Tok}
    {oS o1 o2 : Option Addr} {sS s1 s2 : Array (Option Value)} {nS n1 n2 : Nat} {aS a1S a2S : Addr} {t1 t2 t3 t4 : Tok}
    (a0 : PySem.W.nsIn K mainGlobals "_wall" = some (some (.ref f0))) (l0 : K.lookup f0 = some ⟨oc0, od0, .func (PySem.W.fnOf "_wall" "_wall" (defArgs s_p__wall) (defBody s_p__wall) (defScope s_p__wall) .none kV0 dc0 pm0 an0 cd0 ct0), sl0⟩) (c0 : PySem.W.codeIn K cd0 "_wall" = true) (k0 : PySem.W.keepIn K (.ref f0) = true)
    (a1 : PySem.W.nsIn K mainGlobals "common_divisor" = some (some (.ref f1))) (l1 : K.lookup f1 = some ⟨oc1, od1, .func (PySem.W.fnOf "common_divisor" "common_divisor" (defArgs s_p_common_divisor) (defBody s_p_common_divisor) (defScope s_p_common_divisor) .none kV1 dc1 pm1 an1 cd1 ct1), sl1⟩) (c1 : PySem.W.codeIn K cd1 "common_divisor" = true) (k1 : PySem.W.keepIn K (.ref f1) = true)
    (a3 : PySem.W.nsIn K mainGlobals "plus" = some (some (.ref f3))) (l3 : K.lookup f3 = some ⟨oc3, od3, .func (PySem.W.fnOf "plus" "plus" (defArgs s_p_plus) (defBody s_p_plus) (defScope s_p_plus) .none kV3 dc3 pm3 an3 cd3 ct3), sl3⟩) (c3 : PySem.W.codeIn K cd3 "plus" = true) (k3 : PySem.W.keepIn K (.ref f3) = true)
    (a4 : PySem.W.nsIn K mainGlobals "times" = some (some (.ref f4))) (l4 : K.lookup f4 = some ⟨oc4, od4, .func (PySem.W.fnOf "times" "times" (defArgs s_p_times) (defBody s_p_times) (defScope s_p_times) .none kV4 dc4 pm4 an4 cd4 ct4), sl4⟩) (c4 : PySem.W.codeIn K cd4 "times" = true) (k4 : PySem.W.keepIn K (.ref f4) = true)
    (a5 : PySem.W.nsIn K mainGlobals "over" = some (some (.ref f5))) (l5 : K.lookup f5 = some ⟨oc5, od5, .func (PySem.W.fnOf "over" "over" (defArgs s_p_over) (defBody s_p_over) (defScope s_p_over) .none kV5 dc5 pm5 an5 cd5 ct5), sl5⟩) (c5 : PySem.W.codeIn K cd5 "over" = true) (k5 : PySem.W.keepIn K (.ref f5) = true)
    (a6 : PySem.W.nsIn K mainGlobals "on_one_bottom" = some (some (.ref f6))) (l6 : K.lookup f6 = some ⟨oc6, od6, .func (PySem.W.fnOf "on_one_bottom" "on_one_bottom" (defArgs s_p_on_one_bottom) (defBody s_p_on_one_bottom) (defScope s_p_on_one_bottom) .none kV6 dc6 pm6 an6 cd6 ct6), sl6⟩) (c6 : PySem.W.codeIn K cd6 "on_one_bottom" = true) (k6 : PySem.W.keepIn K (.ref f6) = true)
    (a7 : PySem.W.nsIn K mainGlobals "share_text" = some (some (.ref f7))) (l7 : K.lookup f7 = some ⟨oc7, od7, .func (PySem.W.fnOf "share_text" "share_text" (defArgs s_p_share_text) (defBody s_p_share_text) (defScope s_p_share_text) .none kV7 dc7 pm7 an7 cd7 ct7), sl7⟩) (c7 : PySem.W.codeIn K cd7 "share_text" = true) (k7 : PySem.W.keepIn K (.ref f7) = true)
    (a8 : PySem.W.nsIn K mainGlobals "along" = some (some (.ref f8))) (l8 : K.lookup f8 = some ⟨oc8, od8, .func (PySem.W.fnOf "along" "along" (defArgs s_p_along) (defBody s_p_along) (defScope s_p_along) .none kV8 dc8 pm8 an8 cd8 ct8), sl8⟩) (c8 : PySem.W.codeIn K cd8 "along" = true) (k8 : PySem.W.keepIn K (.ref f8) = true)
    (a9 : PySem.W.nsIn K mainGlobals "spot_plus" = some (some (.ref f9))) (l9 : K.lookup f9 = some ⟨oc9, od9, .func (PySem.W.fnOf "spot_plus" "spot_plus" (defArgs s_p_spot_plus) (defBody s_p_spot_plus) (defScope s_p_spot_plus) .none kV9 dc9 pm9 an9 cd9 ct9), sl9⟩) (c9 : PySem.W.codeIn K cd9 "spot_plus" = true) (k9 : PySem.W.keepIn K (.ref f9) = true)
    (a10 : PySem.W.nsIn K mainGlobals "spot_times" = some (some (.ref f10))) (l10 : K.lookup f10 = some ⟨oc10, od10, .func (PySem.W.fnOf "spot_times" "spot_times" (defArgs s_p_spot_times) (defBody s_p_spot_times) (defScope s_p_spot_times) .none kV10 dc10 pm10 an10 cd10 ct10), sl10⟩) (c10 : PySem.W.codeIn K cd10 "spot_times" = true) (k10 : PySem.W.keepIn K (.ref f10) = true)
    (a11 : PySem.W.nsIn K mainGlobals "onto_rail" = some (some (.ref f11))) (l11 : K.lookup f11 = some ⟨oc11, od11, .func (PySem.W.fnOf "onto_rail" "onto_rail" (defArgs s_p_onto_rail) (defBody s_p_onto_rail) (defScope s_p_onto_rail) .none kV11 dc11 pm11 an11 cd11 ct11), sl11⟩) (c11 : PySem.W.codeIn K cd11 "onto_rail" = true) (k11 : PySem.W.keepIn K (.ref f11) = true)
    (a12 : PySem.W.nsIn K mainGlobals "spot_words" = some (some (.ref f12))) (l12 : K.lookup f12 = some ⟨oc12, od12, .func (PySem.W.fnOf "spot_words" "spot_words" (defArgs s_p_spot_words) (defBody s_p_spot_words) (defScope s_p_spot_words) .none kV12 dc12 pm12 an12 cd12 ct12), sl12⟩) (c12 : PySem.W.codeIn K cd12 "spot_words" = true) (k12 : PySem.W.keepIn K (.ref f12) = true)
    (a13 : PySem.W.nsIn K mainGlobals "corner_words" = some (some (.ref f13))) (l13 : K.lookup f13 = some ⟨oc13, od13, .func (PySem.W.fnOf "corner_words" "corner_words" (defArgs s_p_corner_words) (defBody s_p_corner_words) (defScope s_p_corner_words) .none kV13 dc13 pm13 an13 cd13 ct13), sl13⟩) (c13 : PySem.W.codeIn K cd13 "corner_words" = true) (k13 : PySem.W.keepIn K (.ref f13) = true)
    (a14 : PySem.W.nsIn K mainGlobals "wall_words" = some (some (.ref f14))) (l14 : K.lookup f14 = some ⟨oc14, od14, .func (PySem.W.fnOf "wall_words" "wall_words" (defArgs s_p_wall_words) (defBody s_p_wall_words) (defScope s_p_wall_words) .none kV14 dc14 pm14 an14 cd14 ct14), sl14⟩) (c14 : PySem.W.codeIn K cd14 "wall_words" = true) (k14 : PySem.W.keepIn K (.ref f14) = true)
    (a15 : PySem.W.nsIn K mainGlobals "free_words" = some (some (.ref f15))) (l15 : K.lookup f15 = some ⟨oc15, od15, .func (PySem.W.fnOf "free_words" "free_words" (defArgs s_p_free_words) (defBody s_p_free_words) (defScope s_p_free_words) .none kV15 dc15 pm15 an15 cd15 ct15), sl15⟩) (c15 : PySem.W.codeIn K cd15 "free_words" = true) (k15 : PySem.W.keepIn K (.ref f15) = true)
    (a16 : PySem.W.nsIn K mainGlobals "rail_words" = some (some (.ref f16))) (l16 : K.lookup f16 = some ⟨oc16, od16, .func (PySem.W.fnOf "rail_words" "rail_words" (defArgs s_p_rail_words) (defBody s_p_rail_words) (defScope s_p_rail_words) .none kV16 dc16 pm16 an16 cd16 ct16), sl16⟩) (c16 : PySem.W.codeIn K cd16 "rail_words" = true) (k16 : PySem.W.keepIn K (.ref f16) = true)
    (a17 : PySem.W.nsIn K mainGlobals "body_of" = some (some (.ref f17))) (l17 : K.lookup f17 = some ⟨oc17, od17, .func (PySem.W.fnOf "body_of" "body_of" (defArgs s_p_body_of) (defBody s_p_body_of) (defScope s_p_body_of) .none kV17 dc17 pm17 an17 cd17 ct17), sl17⟩) (c17 : PySem.W.codeIn K cd17 "body_of" = true) (k17 : PySem.W.keepIn K (.ref f17) = true)
    (a18 : PySem.W.nsIn K mainGlobals "with_speed" = some (some (.ref f18))) (l18 : K.lookup f18 = some ⟨oc18, od18, .func (PySem.W.fnOf "with_speed" "with_speed" (defArgs s_p_with_speed) (defBody s_p_with_speed) (defScope s_p_with_speed) .none kV18 dc18 pm18 an18 cd18 ct18), sl18⟩) (c18 : PySem.W.codeIn K cd18 "with_speed" = true) (k18 : PySem.W.keepIn K (.ref f18) = true)
    (a19 : PySem.W.nsIn K mainGlobals "sped" = some (some (.ref f19))) (l19 : K.lookup f19 = some ⟨oc19, od19, .func (PySem.W.fnOf "sped" "sped" (defArgs s_p_sped) (defBody s_p_sped) (defScope s_p_sped) .none kV19 dc19 pm19 an19 cd19 ct19), sl19⟩) (c19 : PySem.W.codeIn K cd19 "sped" = true) (k19 : PySem.W.keepIn K (.ref f19) = true)
    (a20 : PySem.W.nsIn K mainGlobals "push_sum" = some (some (.ref f20))) (l20 : K.lookup f20 = some ⟨oc20, od20, .func (PySem.W.fnOf "push_sum" "push_sum" (defArgs s_p_push_sum) (defBody s_p_push_sum) (defScope s_p_push_sum) .none kV20 dc20 pm20 an20 cd20 ct20), sl20⟩) (c20 : PySem.W.codeIn K cd20 "push_sum" = true) (k20 : PySem.W.keepIn K (.ref f20) = true)
    (a21 : PySem.W.nsIn K mainGlobals "push_sums" = some (some (.ref f21))) (l21 : K.lookup f21 = some ⟨oc21, od21, .func (PySem.W.fnOf "push_sums" "push_sums" (defArgs s_p_push_sums) (defBody s_p_push_sums) (defScope s_p_push_sums) .none kV21 dc21 pm21 an21 cd21 ct21), sl21⟩) (c21 : PySem.W.codeIn K cd21 "push_sums" = true) (k21 : PySem.W.keepIn K (.ref f21) = true)
    (a22 : PySem.W.nsIn K mainGlobals "pushed" = some (some (.ref f22))) (l22 : K.lookup f22 = some ⟨oc22, od22, .func (PySem.W.fnOf "pushed" "pushed" (defArgs s_p_pushed) (defBody s_p_pushed) (defScope s_p_pushed) .none kV22 dc22 pm22 an22 cd22 ct22), sl22⟩) (c22 : PySem.W.codeIn K cd22 "pushed" = true) (k22 : PySem.W.keepIn K (.ref f22) = true)
    (a23 : PySem.W.nsIn K mainGlobals "_law_cell" = some (some (.ref f23))) (l23 : K.lookup f23 = some ⟨oc23, od23, .func (PySem.W.fnOf "_law_cell" "_law_cell" (defArgs s_l_cell) (defBody s_l_cell) (defScope s_l_cell) .none kV23 dc23 pm23 an23 cd23 ct23), sl23⟩) (c23 : PySem.W.codeIn K cd23 "_law_cell" = true) (k23 : PySem.W.keepIn K (.ref f23) = true)
    (a24 : PySem.W.nsIn K mainGlobals "_law_mixed" = some (some (.ref f24))) (l24 : K.lookup f24 = some ⟨oc24, od24, .func (PySem.W.fnOf "_law_mixed" "_law_mixed" (defArgs s_l_mixed) (defBody s_l_mixed) (defScope s_l_mixed) .none kV24 dc24 pm24 an24 cd24 ct24), sl24⟩) (c24 : PySem.W.codeIn K cd24 "_law_mixed" = true) (k24 : PySem.W.keepIn K (.ref f24) = true)
    (a25 : PySem.W.nsIn K mainGlobals "_law_deck" = some (some (.ref f25))) (l25 : K.lookup f25 = some ⟨oc25, od25, .func (PySem.W.fnOf "_law_deck" "_law_deck" (defArgs s_l_deck) (defBody s_l_deck) (defScope s_l_deck) .none kV25 dc25 pm25 an25 cd25 ct25), sl25⟩) (c25 : PySem.W.codeIn K cd25 "_law_deck" = true) (k25 : PySem.W.keepIn K (.ref f25) = true)
    (a26 : PySem.W.nsIn K mainGlobals "_law_take" = some (some (.ref f26))) (l26 : K.lookup f26 = some ⟨oc26, od26, .func (PySem.W.fnOf "_law_take" "_law_take" (defArgs s_l_take) (defBody s_l_take) (defScope s_l_take) .none kV26 dc26 pm26 an26 cd26 ct26), sl26⟩) (c26 : PySem.W.codeIn K cd26 "_law_take" = true) (k26 : PySem.W.keepIn K (.ref f26) = true)
    (a27 : PySem.W.nsIn K mainGlobals "_law_number" = some (some (.ref f27))) (l27 : K.lookup f27 = some ⟨oc27, od27, .func (PySem.W.fnOf "_law_number" "_law_number" (defArgs s_l_number) (defBody s_l_number) (defScope s_l_number) .none kV27 dc27 pm27 an27 cd27 ct27), sl27⟩) (c27 : PySem.W.codeIn K cd27 "_law_number" = true) (k27 : PySem.W.keepIn K (.ref f27) = true)
    (a28 : PySem.W.nsIn K mainGlobals "_law_gcd" = some (some (.ref f28))) (l28 : K.lookup f28 = some ⟨oc28, od28, .func (PySem.W.fnOf "_law_gcd" "_law_gcd" (defArgs s_l_gcd) (defBody s_l_gcd) (defScope s_l_gcd) .none kV28 dc28 pm28 an28 cd28 ct28), sl28⟩) (c28 : PySem.W.codeIn K cd28 "_law_gcd" = true) (k28 : PySem.W.keepIn K (.ref f28) = true)
    (a29 : PySem.W.nsIn K mainGlobals "_law_share" = some (some (.ref f29))) (l29 : K.lookup f29 = some ⟨oc29, od29, .func (PySem.W.fnOf "_law_share" "_law_share" (defArgs s_l_share) (defBody s_l_share) (defScope s_l_share) .none kV29 dc29 pm29 an29 cd29 ct29), sl29⟩) (c29 : PySem.W.codeIn K cd29 "_law_share" = true) (k29 : PySem.W.keepIn K (.ref f29) = true)
    (a30 : PySem.W.nsIn K mainGlobals "_law_plus" = some (some (.ref f30))) (l30 : K.lookup f30 = some ⟨oc30, od30, .func (PySem.W.fnOf "_law_plus" "_law_plus" (defArgs s_l_plus) (defBody s_l_plus) (defScope s_l_plus) .none kV30 dc30 pm30 an30 cd30 ct30), sl30⟩) (c30 : PySem.W.codeIn K cd30 "_law_plus" = true) (k30 : PySem.W.keepIn K (.ref f30) = true)
    (a31 : PySem.W.nsIn K mainGlobals "_law_times" = some (some (.ref f31))) (l31 : K.lookup f31 = some ⟨oc31, od31, .func (PySem.W.fnOf "_law_times" "_law_times" (defArgs s_l_times) (defBody s_l_times) (defScope s_l_times) .none kV31 dc31 pm31 an31 cd31 ct31), sl31⟩) (c31 : PySem.W.codeIn K cd31 "_law_times" = true) (k31 : PySem.W.keepIn K (.ref f31) = true)
    (a32 : PySem.W.nsIn K mainGlobals "_law_along" = some (some (.ref f32))) (l32 : K.lookup f32 = some ⟨oc32, od32, .func (PySem.W.fnOf "_law_along" "_law_along" (defArgs s_l_along) (defBody s_l_along) (defScope s_l_along) .none kV32 dc32 pm32 an32 cd32 ct32), sl32⟩) (c32 : PySem.W.codeIn K cd32 "_law_along" = true) (k32 : PySem.W.keepIn K (.ref f32) = true)
    (a33 : PySem.W.nsIn K mainGlobals "_law_spot_plus" = some (some (.ref f33))) (l33 : K.lookup f33 = some ⟨oc33, od33, .func (PySem.W.fnOf "_law_spot_plus" "_law_spot_plus" (defArgs s_l_spot_plus) (defBody s_l_spot_plus) (defScope s_l_spot_plus) .none kV33 dc33 pm33 an33 cd33 ct33), sl33⟩) (c33 : PySem.W.codeIn K cd33 "_law_spot_plus" = true) (k33 : PySem.W.keepIn K (.ref f33) = true)
    (a34 : PySem.W.nsIn K mainGlobals "_law_spot_times" = some (some (.ref f34))) (l34 : K.lookup f34 = some ⟨oc34, od34, .func (PySem.W.fnOf "_law_spot_times" "_law_spot_times" (defArgs s_l_spot_times) (defBody s_l_spot_times) (defScope s_l_spot_times) .none kV34 dc34 pm34 an34 cd34 ct34), sl34⟩) (c34 : PySem.W.codeIn K cd34 "_law_spot_times" = true) (k34 : PySem.W.keepIn K (.ref f34) = true)
    (a35 : PySem.W.nsIn K mainGlobals "_law_part" = some (some (.ref f35))) (l35 : K.lookup f35 = some ⟨oc35, od35, .func (PySem.W.fnOf "_law_part" "_law_part" (defArgs s_l_part) (defBody s_l_part) (defScope s_l_part) .none kV35 dc35 pm35 an35 cd35 ct35), sl35⟩) (c35 : PySem.W.codeIn K cd35 "_law_part" = true) (k35 : PySem.W.keepIn K (.ref f35) = true)
    (a36 : PySem.W.nsIn K mainGlobals "_law_name" = some (some (.ref f36))) (l36 : K.lookup f36 = some ⟨oc36, od36, .func (PySem.W.fnOf "_law_name" "_law_name" (defArgs s_l_name) (defBody s_l_name) (defScope s_l_name) .none kV36 dc36 pm36 an36 cd36 ct36), sl36⟩) (c36 : PySem.W.codeIn K cd36 "_law_name" = true) (k36 : PySem.W.keepIn K (.ref f36) = true)
    (a37 : PySem.W.nsIn K mainGlobals "_law_names" = some (some (.ref f37))) (l37 : K.lookup f37 = some ⟨oc37, od37, .func (PySem.W.fnOf "_law_names" "_law_names" (defArgs s_l_names) (defBody s_l_names) (defScope s_l_names) .none kV37 dc37 pm37 an37 cd37 ct37), sl37⟩) (c37 : PySem.W.codeIn K cd37 "_law_names" = true) (k37 : PySem.W.keepIn K (.ref f37) = true)
    (a38 : PySem.W.nsIn K mainGlobals "_law_way" = some (some (.ref f38))) (l38 : K.lookup f38 = some ⟨oc38, od38, .func (PySem.W.fnOf "_law_way" "_law_way" (defArgs s_l_way) (defBody s_l_way) (defScope s_l_way) .none kV38 dc38 pm38 an38 cd38 ct38), sl38⟩) (c38 : PySem.W.codeIn K cd38 "_law_way" = true) (k38 : PySem.W.keepIn K (.ref f38) = true)
    (a39 : PySem.W.nsIn K mainGlobals "_law_row" = some (some (.ref f39))) (l39 : K.lookup f39 = some ⟨oc39, od39, .func (PySem.W.fnOf "_law_row" "_law_row" (defArgs s_l_row) (defBody s_l_row) (defScope s_l_row) .none kV39 dc39 pm39 an39 cd39 ct39), sl39⟩) (c39 : PySem.W.codeIn K cd39 "_law_row" = true) (k39 : PySem.W.keepIn K (.ref f39) = true)
    (a40 : PySem.W.nsIn K mainGlobals "_law_crowd" = some (some (.ref f40))) (l40 : K.lookup f40 = some ⟨oc40, od40, .func (PySem.W.fnOf "_law_crowd" "_law_crowd" (defArgs s_l_crowd) (defBody s_l_crowd) (defScope s_l_crowd) .none kV40 dc40 pm40 an40 cd40 ct40), sl40⟩) (c40 : PySem.W.codeIn K cd40 "_law_crowd" = true) (k40 : PySem.W.keepIn K (.ref f40) = true)
    (a41 : PySem.W.nsIn K mainGlobals "_law_ties" = some (some (.ref f41))) (l41 : K.lookup f41 = some ⟨oc41, od41, .func (PySem.W.fnOf "_law_ties" "_law_ties" (defArgs s_l_ties) (defBody s_l_ties) (defScope s_l_ties) .none kV41 dc41 pm41 an41 cd41 ct41), sl41⟩) (c41 : PySem.W.codeIn K cd41 "_law_ties" = true) (k41 : PySem.W.keepIn K (.ref f41) = true)
    (a42 : PySem.W.nsIn K mainGlobals "_law_answer" = some (some (.ref f42))) (l42 : K.lookup f42 = some ⟨oc42, od42, .func (PySem.W.fnOf "_law_answer" "_law_answer" (defArgs s_l_answer) (defBody s_l_answer) (defScope s_l_answer) .none kV42 dc42 pm42 an42 cd42 ct42), sl42⟩) (c42 : PySem.W.codeIn K cd42 "_law_answer" = true) (k42 : PySem.W.keepIn K (.ref f42) = true)
    (a43 : PySem.W.nsIn K mainGlobals "_law_push_on" = some (some (.ref f43))) (l43 : K.lookup f43 = some ⟨oc43, od43, .func (PySem.W.fnOf "_law_push_on" "_law_push_on" (defArgs s_l_push_on) (defBody s_l_push_on) (defScope s_l_push_on) .none kV43 dc43 pm43 an43 cd43 ct43), sl43⟩) (c43 : PySem.W.codeIn K cd43 "_law_push_on" = true) (k43 : PySem.W.keepIn K (.ref f43) = true)
    (a44 : PySem.W.nsIn K mainGlobals "_law_pushed" = some (some (.ref f44))) (l44 : K.lookup f44 = some ⟨oc44, od44, .func (PySem.W.fnOf "_law_pushed" "_law_pushed" (defArgs s_l_pushed) (defBody s_l_pushed) (defScope s_l_pushed) .none kV44 dc44 pm44 an44 cd44 ct44), sl44⟩) (c44 : PySem.W.codeIn K cd44 "_law_pushed" = true) (k44 : PySem.W.keepIn K (.ref f44) = true)
    (a45 : PySem.W.nsIn K mainGlobals "_law_alike" = some (some (.ref f45))) (l45 : K.lookup f45 = some ⟨oc45, od45, .func (PySem.W.fnOf "_law_alike" "_law_alike" (defArgs s_l_alike) (defBody s_l_alike) (defScope s_l_alike) .none kV45 dc45 pm45 an45 cd45 ct45), sl45⟩) (c45 : PySem.W.codeIn K cd45 "_law_alike" = true) (k45 : PySem.W.keepIn K (.ref f45) = true)
    (a46 : PySem.W.nsIn K mainGlobals "law" = some (some (.ref f46))) (l46 : K.lookup f46 = some ⟨oc46, od46, .func (PySem.W.fnOf "law" "law" (defArgs s_law) (defBody s_law) (defScope s_law) .none kV46 dc46 pm46 an46 cd46 ct46), sl46⟩) (c46 : PySem.W.codeIn K cd46 "law" = true) (k46 : PySem.W.keepIn K (.ref f46) = true)
    (z_abs : PySem.W.nsIn K mainGlobals "abs" = some none)
    (z_bool : PySem.W.nsIn K mainGlobals "bool" = some none)
    (z_enumerate : PySem.W.nsIn K mainGlobals "enumerate" = some none)
    (z_int : PySem.W.nsIn K mainGlobals "int" = some none)
    (z_isinstance : PySem.W.nsIn K mainGlobals "isinstance" = some none)
    (z_len : PySem.W.nsIn K mainGlobals "len" = some none)
    (z_max : PySem.W.nsIn K mainGlobals "max" = some none)
    (z_min : PySem.W.nsIn K mainGlobals "min" = some none)
    (z_range : PySem.W.nsIn K mainGlobals "range" = some none)
    (z_sorted : PySem.W.nsIn K mainGlobals "sorted" = some none)
    (z_str : PySem.W.nsIn K mainGlobals "str" = some none)
    (z_sum : PySem.W.nsIn K mainGlobals "sum" = some none)
    (z_tuple : PySem.W.nsIn K mainGlobals "tuple" = some none)
    (z_zip : PySem.W.nsIn K mainGlobals "zip" = some none)
    (ac_BodyError : PySem.W.nsIn K mainGlobals "BodyError" = some (some (.ref c_BodyError)))
    (ac_NoShare : PySem.W.nsIn K mainGlobals "NoShare" = some (some (.ref c_NoShare)))
    (ac_Body : PySem.W.nsIn K mainGlobals "Body" = some (some (.ref c_Body)))
    (ac_Wall : PySem.W.nsIn K mainGlobals "Wall" = some (some (.ref c_Wall)))
    (ac_Free : PySem.W.nsIn K mainGlobals "Free" = some (some (.ref c_Free)))
    (ac_Railed : PySem.W.nsIn K mainGlobals "Railed" = some (some (.ref c_Railed)))
    (am0 : PySem.W.findIn K (.ref c_Wall) "__init__" = some (some (.ref fm0)))
    (im0 : PySem.W.isFn K (.ref fm0) = true)
    (lm0 : K.lookup fm0 = some ⟨ocm0, odm0, .func (PySem.W.fnOf "__init__" "Body.__init__" (defArgs s_m_Body___init__) (defBody s_m_Body___init__) (defScope s_m_Body___init__) .none kVm0 dcm0 pmm0 anm0 cdm0 ctm0), slm0⟩)
    (cm0 : PySem.W.codeIn K cdm0 "Body.__init__" = true)
    (km0 : PySem.W.keepIn K (.ref fm0) = true)
    (am1 : PySem.W.findIn K (.ref c_Wall) "answer" = some (some (.ref fm1)))
    (im1 : PySem.W.isFn K (.ref fm1) = true)
    (lm1 : K.lookup fm1 = some ⟨ocm1, odm1, .func (PySem.W.fnOf "answer" "Wall.answer" (defArgs s_m_Wall_answer) (defBody s_m_Wall_answer) (defScope s_m_Wall_answer) .none kVm1 dcm1 pmm1 anm1 cdm1 ctm1), slm1⟩)
    (cm1 : PySem.W.codeIn K cdm1 "Wall.answer" = true)
    (km1 : PySem.W.keepIn K (.ref fm1) = true)
    (am2 : PySem.W.findIn K (.ref c_Free) "answer" = some (some (.ref fm2)))
    (im2 : PySem.W.isFn K (.ref fm2) = true)
    (lm2 : K.lookup fm2 = some ⟨ocm2, odm2, .func (PySem.W.fnOf "answer" "Free.answer" (defArgs s_m_Free_answer) (defBody s_m_Free_answer) (defScope s_m_Free_answer) .none kVm2 dcm2 pmm2 anm2 cdm2 ctm2), slm2⟩)
    (cm2 : PySem.W.codeIn K cdm2 "Free.answer" = true)
    (km2 : PySem.W.keepIn K (.ref fm2) = true)
    (am3 : PySem.W.findIn K (.ref c_Railed) "answer" = some (some (.ref fm3)))
    (im3 : PySem.W.isFn K (.ref fm3) = true)
    (lm3 : K.lookup fm3 = some ⟨ocm3, odm3, .func (PySem.W.fnOf "answer" "Railed.answer" (defArgs s_m_Railed_answer) (defBody s_m_Railed_answer) (defScope s_m_Railed_answer) .none kVm3 dcm3 pmm3 anm3 cdm3 ctm3), slm3⟩)
    (cm3 : PySem.W.codeIn K cdm3 "Railed.answer" = true)
    (km3 : PySem.W.keepIn K (.ref fm3) = true)
    (pg_Wall : PySem.W.plainGet K c_Wall Str.empty = true)
    (bhd_Wall : PySem.W.hasDictIn K c_Wall = true)
    (po_Wall : PySem.W.plainOver K c_Wall = true)
    (sa_Wall : PySem.W.findIn K (.ref c_Wall) "__setattr__" = some (some (.builtin "object.__setattr__")))
    (mki_Wall : PySem.W.makesIn K c_Wall = true)
    (ini_Wall : PySem.W.findIn K (.ref c_Wall) "__init__" = some (some (.ref fm0)))
    (kpc_Wall : PySem.W.keepIn K (.ref c_Wall) = true)
    (na_Wall_row : PySem.W.findIn K (.ref c_Wall) "row" = some none)
    (na_Wall_name : PySem.W.findIn K (.ref c_Wall) "name" = some none)
    (na_Wall_mass : PySem.W.findIn K (.ref c_Wall) "mass" = some none)
    (pg_Free : PySem.W.plainGet K c_Free Str.empty = true)
    (bhd_Free : PySem.W.hasDictIn K c_Free = true)
    (po_Free : PySem.W.plainOver K c_Free = true)
    (sa_Free : PySem.W.findIn K (.ref c_Free) "__setattr__" = some (some (.builtin "object.__setattr__")))
    (mki_Free : PySem.W.makesIn K c_Free = true)
    (ini_Free : PySem.W.findIn K (.ref c_Free) "__init__" = some (some (.ref fm0)))
    (kpc_Free : PySem.W.keepIn K (.ref c_Free) = true)
    (na_Free_row : PySem.W.findIn K (.ref c_Free) "row" = some none)
    (na_Free_name : PySem.W.findIn K (.ref c_Free) "name" = some none)
    (na_Free_mass : PySem.W.findIn K (.ref c_Free) "mass" = some none)
    (pg_Railed : PySem.W.plainGet K c_Railed Str.empty = true)
    (bhd_Railed : PySem.W.hasDictIn K c_Railed = true)
    (po_Railed : PySem.W.plainOver K c_Railed = true)
    (sa_Railed : PySem.W.findIn K (.ref c_Railed) "__setattr__" = some (some (.builtin "object.__setattr__")))
    (mki_Railed : PySem.W.makesIn K c_Railed = true)
    (ini_Railed : PySem.W.findIn K (.ref c_Railed) "__init__" = some (some (.ref fm0)))
    (kpc_Railed : PySem.W.keepIn K (.ref c_Railed) = true)
    (na_Railed_row : PySem.W.findIn K (.ref c_Railed) "row" = some none)
    (na_Railed_name : PySem.W.findIn K (.ref c_Railed) "name" = some none)
    (na_Railed_mass : PySem.W.findIn K (.ref c_Railed) "mass" = some none)
    (an_LENGTHY : PySem.W.nsIn K mainGlobals "LENGTHY" = some (some (.int 4000 k_LENGTHY)))
    (aL_share : PySem.W.nsIn K mainGlobals "share" = some (some (.ref fL_share)))
    (lL_share : K.lookup fL_share = some ⟨ocL_share, odL_share, .func (PySem.W.fnOf "share" "share" (defArgs s_p_share) (defBody s_p_share) (defScope s_p_share) (.ref dL_share) kvL_share dcL_share pmL_share anL_share cdL_share ctL_share), slL_share⟩)
    (cL_share : PySem.W.codeIn K cdL_share "share" = true)
    (kL_share : PySem.W.keepIn K (.ref fL_share) = true)
    (lT_share : K.lookup dL_share = some ⟨.type "tuple", odT_share, .seq #[.int 1 tT_share] nT_share, slT_share⟩)
    (aSt : PySem.W.nsIn K mainGlobals "STILL" = some (some (.ref aS)))
    (lSt : K.lookup aS = some ⟨.type "tuple", oS, .seq #[.ref a1S, .ref a2S] nS, sS⟩)
    (l1S : K.lookup a1S = some ⟨.type "tuple", o1, .seq #[.int 0 t1, .int 1 t2] n1, s1⟩)
    (l2S : K.lookup a2S = some ⟨.type "tuple", o2, .seq #[.int 0 t3, .int 1 t4] n2, s2⟩)
    : ∃ fd : FuncData, (∀ (s : Shared) (v : Value), BindsTo s fd ⟨[v], []⟩ [("_law_script", v)]) ∧ ∀ base : Heap, K.In base → base.Ns mainGlobals mg → FnOk l.prog w K mg base CX0 11 fa fd ["_law_script"] (sp_law K) := by
  have e := hfa.symm.trans (PySem.W.mg_of X G a46)
  cases e
  have FL_share : FunD K "share" "share" (defArgs s_p_share) (defBody s_p_share) (defScope s_p_share) [.int 1] [] fL_share (PySem.W.fnOf "share" "share" (defArgs s_p_share) (defBody s_p_share) (defScope s_p_share) (.ref dL_share) kvL_share dcL_share pmL_share anL_share cdL_share ctL_share) := ⟨⟨ocL_share, odL_share, .ref dL_share, kvL_share, dcL_share, pmL_share, anL_share, cdL_share, ctL_share, slL_share, rfl, lL_share, cL_share, .inr ⟨(fun z => nomatch z), dL_share, _, [.int 1 tT_share], nT_share, rfl, lT_share, rfl, .cons ⟨_, rfl⟩ .nil⟩, .inl rfl⟩, kL_share⟩
  have hb2_share : Binds K (PySem.W.fnOf "share" "share" (defArgs s_p_share) (defBody s_p_share) (defScope s_p_share) (.ref dL_share) kvL_share dcL_share pmL_share anL_share cdL_share ctL_share) ["top", "bottom"] [] := by obtain ⟨ds2, hv2, hb2⟩ := FL_share.binds1 (ps := ["top", "bottom"]) 2 1 (fun z => nomatch z) rfl (fun T kV doc pm an cdv ct us its hu hi => match us, its, hu, hi with | [_, _], [_], _, _ => ⟨_, rfl, rfl⟩); cases hv2; exact hb2
  let A0 : Ad := { f_p__wall := f0, fd_p__wall := PySem.W.fnOf "_wall" "_wall" (defArgs s_p__wall) (defBody s_p__wall) (defScope s_p__wall) .none kV0 dc0 pm0 an0 cd0 ct0, f_p_common_divisor := f1, fd_p_common_divisor := PySem.W.fnOf "common_divisor" "common_divisor" (defArgs s_p_common_divisor) (defBody s_p_common_divisor) (defScope s_p_common_divisor) .none kV1 dc1 pm1 an1 cd1 ct1, f_p_plus := f3, fd_p_plus := PySem.W.fnOf "plus" "plus" (defArgs s_p_plus) (defBody s_p_plus) (defScope s_p_plus) .none kV3 dc3 pm3 an3 cd3 ct3, f_p_times := f4, fd_p_times := PySem.W.fnOf "times" "times" (defArgs s_p_times) (defBody s_p_times) (defScope s_p_times) .none kV4 dc4 pm4 an4 cd4 ct4, f_p_over := f5, fd_p_over := PySem.W.fnOf "over" "over" (defArgs s_p_over) (defBody s_p_over) (defScope s_p_over) .none kV5 dc5 pm5 an5 cd5 ct5, f_p_on_one_bottom := f6, fd_p_on_one_bottom := PySem.W.fnOf "on_one_bottom" "on_one_bottom" (defArgs s_p_on_one_bottom) (defBody s_p_on_one_bottom) (defScope s_p_on_one_bottom) .none kV6 dc6 pm6 an6 cd6 ct6, f_p_share_text := f7, fd_p_share_text := PySem.W.fnOf "share_text" "share_text" (defArgs s_p_share_text) (defBody s_p_share_text) (defScope s_p_share_text) .none kV7 dc7 pm7 an7 cd7 ct7, f_p_along := f8, fd_p_along := PySem.W.fnOf "along" "along" (defArgs s_p_along) (defBody s_p_along) (defScope s_p_along) .none kV8 dc8 pm8 an8 cd8 ct8, f_p_spot_plus := f9, fd_p_spot_plus := PySem.W.fnOf "spot_plus" "spot_plus" (defArgs s_p_spot_plus) (defBody s_p_spot_plus) (defScope s_p_spot_plus) .none kV9 dc9 pm9 an9 cd9 ct9, f_p_spot_times := f10, fd_p_spot_times := PySem.W.fnOf "spot_times" "spot_times" (defArgs s_p_spot_times) (defBody s_p_spot_times) (defScope s_p_spot_times) .none kV10 dc10 pm10 an10 cd10 ct10, f_p_onto_rail := f11, fd_p_onto_rail := PySem.W.fnOf "onto_rail" "onto_rail" (defArgs s_p_onto_rail) (defBody s_p_onto_rail) (defScope s_p_onto_rail) .none kV11 dc11 pm11 an11 cd11 ct11, f_p_spot_words := f12, fd_p_spot_words := PySem.W.fnOf "spot_words" "spot_words" (defArgs s_p_spot_words) (defBody s_p_spot_words) (defScope s_p_spot_words) .none kV12 dc12 pm12 an12 cd12 ct12, f_p_corner_words := f13, fd_p_corner_words := PySem.W.fnOf "corner_words" "corner_words" (defArgs s_p_corner_words) (defBody s_p_corner_words) (defScope s_p_corner_words) .none kV13 dc13 pm13 an13 cd13 ct13, f_p_wall_words := f14, fd_p_wall_words := PySem.W.fnOf "wall_words" "wall_words" (defArgs s_p_wall_words) (defBody s_p_wall_words) (defScope s_p_wall_words) .none kV14 dc14 pm14 an14 cd14 ct14, f_p_free_words := f15, fd_p_free_words := PySem.W.fnOf "free_words" "free_words" (defArgs s_p_free_words) (defBody s_p_free_words) (defScope s_p_free_words) .none kV15 dc15 pm15 an15 cd15 ct15, f_p_rail_words := f16, fd_p_rail_words := PySem.W.fnOf "rail_words" "rail_words" (defArgs s_p_rail_words) (defBody s_p_rail_words) (defScope s_p_rail_words) .none kV16 dc16 pm16 an16 cd16 ct16, f_p_body_of := f17, fd_p_body_of := PySem.W.fnOf "body_of" "body_of" (defArgs s_p_body_of) (defBody s_p_body_of) (defScope s_p_body_of) .none kV17 dc17 pm17 an17 cd17 ct17, f_p_with_speed := f18, fd_p_with_speed := PySem.W.fnOf "with_speed" "with_speed" (defArgs s_p_with_speed) (defBody s_p_with_speed) (defScope s_p_with_speed) .none kV18 dc18 pm18 an18 cd18 ct18, f_p_sped := f19, fd_p_sped := PySem.W.fnOf "sped" "sped" (defArgs s_p_sped) (defBody s_p_sped) (defScope s_p_sped) .none kV19 dc19 pm19 an19 cd19 ct19, f_p_push_sum := f20, fd_p_push_sum := PySem.W.fnOf "push_sum" "push_sum" (defArgs s_p_push_sum) (defBody s_p_push_sum) (defScope s_p_push_sum) .none kV20 dc20 pm20 an20 cd20 ct20, f_p_push_sums := f21, fd_p_push_sums := PySem.W.fnOf "push_sums" "push_sums" (defArgs s_p_push_sums) (defBody s_p_push_sums) (defScope s_p_push_sums) .none kV21 dc21 pm21 an21 cd21 ct21, f_p_pushed := f22, fd_p_pushed := PySem.W.fnOf "pushed" "pushed" (defArgs s_p_pushed) (defBody s_p_pushed) (defScope s_p_pushed) .none kV22 dc22 pm22 an22 cd22 ct22, f_l_cell := f23, fd_l_cell := PySem.W.fnOf "_law_cell" "_law_cell" (defArgs s_l_cell) (defBody s_l_cell) (defScope s_l_cell) .none kV23 dc23 pm23 an23 cd23 ct23, f_l_mixed := f24, fd_l_mixed := PySem.W.fnOf "_law_mixed" "_law_mixed" (defArgs s_l_mixed) (defBody s_l_mixed) (defScope s_l_mixed) .none kV24 dc24 pm24 an24 cd24 ct24, f_l_deck := f25, fd_l_deck := PySem.W.fnOf "_law_deck" "_law_deck" (defArgs s_l_deck) (defBody s_l_deck) (defScope s_l_deck) .none kV25 dc25 pm25 an25 cd25 ct25, f_l_take := f26, fd_l_take := PySem.W.fnOf "_law_take" "_law_take" (defArgs s_l_take) (defBody s_l_take) (defScope s_l_take) .none kV26 dc26 pm26 an26 cd26 ct26, f_l_number := f27, fd_l_number := PySem.W.fnOf "_law_number" "_law_number" (defArgs s_l_number) (defBody s_l_number) (defScope s_l_number) .none kV27 dc27 pm27 an27 cd27 ct27, f_l_gcd := f28, fd_l_gcd := PySem.W.fnOf "_law_gcd" "_law_gcd" (defArgs s_l_gcd) (defBody s_l_gcd) (defScope s_l_gcd) .none kV28 dc28 pm28 an28 cd28 ct28, f_l_share := f29, fd_l_share := PySem.W.fnOf "_law_share" "_law_share" (defArgs s_l_share) (defBody s_l_share) (defScope s_l_share) .none kV29 dc29 pm29 an29 cd29 ct29, f_l_plus := f30, fd_l_plus := PySem.W.fnOf "_law_plus" "_law_plus" (defArgs s_l_plus) (defBody s_l_plus) (defScope s_l_plus) .none kV30 dc30 pm30 an30 cd30 ct30, f_l_times := f31, fd_l_times := PySem.W.fnOf "_law_times" "_law_times" (defArgs s_l_times) (defBody s_l_times) (defScope s_l_times) .none kV31 dc31 pm31 an31 cd31 ct31, f_l_along := f32, fd_l_along := PySem.W.fnOf "_law_along" "_law_along" (defArgs s_l_along) (defBody s_l_along) (defScope s_l_along) .none kV32 dc32 pm32 an32 cd32 ct32, f_l_spot_plus := f33, fd_l_spot_plus := PySem.W.fnOf "_law_spot_plus" "_law_spot_plus" (defArgs s_l_spot_plus) (defBody s_l_spot_plus) (defScope s_l_spot_plus) .none kV33 dc33 pm33 an33 cd33 ct33, f_l_spot_times := f34, fd_l_spot_times := PySem.W.fnOf "_law_spot_times" "_law_spot_times" (defArgs s_l_spot_times) (defBody s_l_spot_times) (defScope s_l_spot_times) .none kV34 dc34 pm34 an34 cd34 ct34, f_l_part := f35, fd_l_part := PySem.W.fnOf "_law_part" "_law_part" (defArgs s_l_part) (defBody s_l_part) (defScope s_l_part) .none kV35 dc35 pm35 an35 cd35 ct35, f_l_name := f36, fd_l_name := PySem.W.fnOf "_law_name" "_law_name" (defArgs s_l_name) (defBody s_l_name) (defScope s_l_name) .none kV36 dc36 pm36 an36 cd36 ct36, f_l_names := f37, fd_l_names := PySem.W.fnOf "_law_names" "_law_names" (defArgs s_l_names) (defBody s_l_names) (defScope s_l_names) .none kV37 dc37 pm37 an37 cd37 ct37, f_l_way := f38, fd_l_way := PySem.W.fnOf "_law_way" "_law_way" (defArgs s_l_way) (defBody s_l_way) (defScope s_l_way) .none kV38 dc38 pm38 an38 cd38 ct38, f_l_row := f39, fd_l_row := PySem.W.fnOf "_law_row" "_law_row" (defArgs s_l_row) (defBody s_l_row) (defScope s_l_row) .none kV39 dc39 pm39 an39 cd39 ct39, f_l_crowd := f40, fd_l_crowd := PySem.W.fnOf "_law_crowd" "_law_crowd" (defArgs s_l_crowd) (defBody s_l_crowd) (defScope s_l_crowd) .none kV40 dc40 pm40 an40 cd40 ct40, f_l_ties := f41, fd_l_ties := PySem.W.fnOf "_law_ties" "_law_ties" (defArgs s_l_ties) (defBody s_l_ties) (defScope s_l_ties) .none kV41 dc41 pm41 an41 cd41 ct41, f_l_answer := f42, fd_l_answer := PySem.W.fnOf "_law_answer" "_law_answer" (defArgs s_l_answer) (defBody s_l_answer) (defScope s_l_answer) .none kV42 dc42 pm42 an42 cd42 ct42, f_l_push_on := f43, fd_l_push_on := PySem.W.fnOf "_law_push_on" "_law_push_on" (defArgs s_l_push_on) (defBody s_l_push_on) (defScope s_l_push_on) .none kV43 dc43 pm43 an43 cd43 ct43, f_l_pushed := f44, fd_l_pushed := PySem.W.fnOf "_law_pushed" "_law_pushed" (defArgs s_l_pushed) (defBody s_l_pushed) (defScope s_l_pushed) .none kV44 dc44 pm44 an44 cd44 ct44, f_l_alike := f45, fd_l_alike := PySem.W.fnOf "_law_alike" "_law_alike" (defArgs s_l_alike) (defBody s_l_alike) (defScope s_l_alike) .none kV45 dc45 pm45 an45 cd45 ct45, f_law := fa, fd_law := PySem.W.fnOf "law" "law" (defArgs s_law) (defBody s_law) (defScope s_law) .none kV46 dc46 pm46 an46 cd46 ct46, c_BodyError := c_BodyError, c_NoShare := c_NoShare, c_Body := c_Body, c_Wall := c_Wall, c_Free := c_Free, c_Railed := c_Railed, f_m_Body___init__ := fm0, fd_m_Body___init__ := PySem.W.fnOf "__init__" "Body.__init__" (defArgs s_m_Body___init__) (defBody s_m_Body___init__) (defScope s_m_Body___init__) .none kVm0 dcm0 pmm0 anm0 cdm0 ctm0, f_m_Wall_answer := fm1, fd_m_Wall_answer := PySem.W.fnOf "answer" "Wall.answer" (defArgs s_m_Wall_answer) (defBody s_m_Wall_answer) (defScope s_m_Wall_answer) .none kVm1 dcm1 pmm1 anm1 cdm1 ctm1, f_m_Free_answer := fm2, fd_m_Free_answer := PySem.W.fnOf "answer" "Free.answer" (defArgs s_m_Free_answer) (defBody s_m_Free_answer) (defScope s_m_Free_answer) .none kVm2 dcm2 pmm2 anm2 cdm2 ctm2, f_m_Railed_answer := fm3, fd_m_Railed_answer := PySem.W.fnOf "answer" "Railed.answer" (defArgs s_m_Railed_answer) (defBody s_m_Railed_answer) (defScope s_m_Railed_answer) .none kVm3 dcm3 pmm3 anm3 cdm3 ctm3, k_LENGTHY := k_LENGTHY, f_p_share := fL_share, fd_p_share := (PySem.W.fnOf "share" "share" (defArgs s_p_share) (defBody s_p_share) (defScope s_p_share) (.ref dL_share) kvL_share dcL_share pmL_share anL_share cdL_share ctL_share), n_STILL := aS }
  have T : Tx K mg A0 := { F_p__wall := fun_mk (st := s_p__wall) l0 c0 k0, b_p__wall := (fun_mk (st := s_p__wall) l0 c0 k0).binds (ps := ["k"]) fun _ _ _ _ _ _ us hl => match us, hl with | [_], _ => rfl, g_p__wall := PySem.W.mg_of X G a0, F_p_common_divisor := fun_mk (st := s_p_common_divisor) l1 c1 k1, b_p_common_divisor := (fun_mk (st := s_p_common_divisor) l1 c1 k1).binds (ps := ["one", "other"]) fun _ _ _ _ _ _ us hl => match us, hl with | [_, _], _ => rfl, g_p_common_divisor := PySem.W.mg_of X G a1, F_p_plus := fun_mk (st := s_p_plus) l3 c3 k3, b_p_plus := (fun_mk (st := s_p_plus) l3 c3 k3).binds (ps := ["one", "other"]) fun _ _ _ _ _ _ us hl => match us, hl with | [_, _], _ => rfl, g_p_plus := PySem.W.mg_of X G a3, F_p_times := fun_mk (st := s_p_times) l4 c4 k4, b_p_times := (fun_mk (st := s_p_times) l4 c4 k4).binds (ps := ["one", "other"]) fun _ _ _ _ _ _ us hl => match us, hl with | [_, _], _ => rfl, g_p_times := PySem.W.mg_of X G a4, F_p_over := fun_mk (st := s_p_over) l5 c5 k5, b_p_over := (fun_mk (st := s_p_over) l5 c5 k5).binds (ps := ["one", "other"]) fun _ _ _ _ _ _ us hl => match us, hl with | [_, _], _ => rfl, g_p_over := PySem.W.mg_of X G a5, F_p_on_one_bottom := fun_mk (st := s_p_on_one_bottom) l6 c6 k6, b_p_on_one_bottom := (fun_mk (st := s_p_on_one_bottom) l6 c6 k6).binds (ps := ["shares"]) fun _ _ _ _ _ _ us hl => match us, hl with | [_], _ => rfl, g_p_on_one_bottom := PySem.W.mg_of X G a6, F_p_share_text := fun_mk (st := s_p_share_text) l7 c7 k7, b_p_share_text := (fun_mk (st := s_p_share_text) l7 c7 k7).binds (ps := ["one"]) fun _ _ _ _ _ _ us hl => match us, hl with | [_], _ => rfl, g_p_share_text := PySem.W.mg_of X G a7, F_p_along := fun_mk (st := s_p_along) l8 c8 k8, b_p_along := (fun_mk (st := s_p_along) l8 c8 k8).binds (ps := ["way", "spot"]) fun _ _ _ _ _ _ us hl => match us, hl with | [_, _], _ => rfl, g_p_along := PySem.W.mg_of X G a8, F_p_spot_plus := fun_mk (st := s_p_spot_plus) l9 c9 k9, b_p_spot_plus := (fun_mk (st := s_p_spot_plus) l9 c9 k9).binds (ps := ["one", "other"]) fun _ _ _ _ _ _ us hl => match us, hl with | [_, _], _ => rfl, g_p_spot_plus := PySem.W.mg_of X G a9, F_p_spot_times := fun_mk (st := s_p_spot_times) l10 c10 k10, b_p_spot_times := (fun_mk (st := s_p_spot_times) l10 c10 k10).binds (ps := ["spot", "share"]) fun _ _ _ _ _ _ us hl => match us, hl with | [_, _], _ => rfl, g_p_spot_times := PySem.W.mg_of X G a10, F_p_onto_rail := fun_mk (st := s_p_onto_rail) l11 c11 k11, b_p_onto_rail := (fun_mk (st := s_p_onto_rail) l11 c11 k11).binds (ps := ["rail", "spot", "mass"]) fun _ _ _ _ _ _ us hl => match us, hl with | [_, _, _], _ => rfl, g_p_onto_rail := PySem.W.mg_of X G a11, F_p_spot_words := fun_mk (st := s_p_spot_words) l12 c12 k12, b_p_spot_words := (fun_mk (st := s_p_spot_words) l12 c12 k12).binds (ps := ["spot"]) fun _ _ _ _ _ _ us hl => match us, hl with | [_], _ => rfl, g_p_spot_words := PySem.W.mg_of X G a12, F_p_corner_words := fun_mk (st := s_p_corner_words) l13 c13 k13, b_p_corner_words := (fun_mk (st := s_p_corner_words) l13 c13 k13).binds (ps := ["shape"]) fun _ _ _ _ _ _ us hl => match us, hl with | [_], _ => rfl, g_p_corner_words := PySem.W.mg_of X G a13, F_p_wall_words := fun_mk (st := s_p_wall_words) l14 c14 k14, b_p_wall_words := (fun_mk (st := s_p_wall_words) l14 c14 k14).binds (ps := ["row"]) fun _ _ _ _ _ _ us hl => match us, hl with | [_], _ => rfl, g_p_wall_words := PySem.W.mg_of X G a14, F_p_free_words := fun_mk (st := s_p_free_words) l15 c15 k15, b_p_free_words := (fun_mk (st := s_p_free_words) l15 c15 k15).binds (ps := ["row"]) fun _ _ _ _ _ _ us hl => match us, hl with | [_], _ => rfl, g_p_free_words := PySem.W.mg_of X G a15, F_p_rail_words := fun_mk (st := s_p_rail_words) l16 c16 k16, b_p_rail_words := (fun_mk (st := s_p_rail_words) l16 c16 k16).binds (ps := ["row"]) fun _ _ _ _ _ _ us hl => match us, hl with | [_], _ => rfl, g_p_rail_words := PySem.W.mg_of X G a16, F_p_body_of := fun_mk (st := s_p_body_of) l17 c17 k17, b_p_body_of := (fun_mk (st := s_p_body_of) l17 c17 k17).binds (ps := ["row"]) fun _ _ _ _ _ _ us hl => match us, hl with | [_], _ => rfl, g_p_body_of := PySem.W.mg_of X G a17, F_p_with_speed := fun_mk (st := s_p_with_speed) l18 c18 k18, b_p_with_speed := (fun_mk (st := s_p_with_speed) l18 c18 k18).binds (ps := ["row", "speed"]) fun _ _ _ _ _ _ us hl => match us, hl with | [_, _], _ => rfl, g_p_with_speed := PySem.W.mg_of X G a18, F_p_sped := fun_mk (st := s_p_sped) l19 c19 k19, b_p_sped := (fun_mk (st := s_p_sped) l19 c19 k19).binds (ps := ["row", "change"]) fun _ _ _ _ _ _ us hl => match us, hl with | [_, _], _ => rfl, g_p_sped := PySem.W.mg_of X G a19, F_p_push_sum := fun_mk (st := s_p_push_sum) l20 c20 k20, b_p_push_sum := (fun_mk (st := s_p_push_sum) l20 c20 k20).binds (ps := ["parts"]) fun _ _ _ _ _ _ us hl => match us, hl with | [_], _ => rfl, g_p_push_sum := PySem.W.mg_of X G a20, F_p_push_sums := fun_mk (st := s_p_push_sums) l21 c21 k21, b_p_push_sums := (fun_mk (st := s_p_push_sums) l21 c21 k21).binds (ps := ["rows", "contacts", "pushes"]) fun _ _ _ _ _ _ us hl => match us, hl with | [_, _, _], _ => rfl, g_p_push_sums := PySem.W.mg_of X G a21, F_p_pushed := fun_mk (st := s_p_pushed) l22 c22 k22, b_p_pushed := (fun_mk (st := s_p_pushed) l22 c22 k22).binds (ps := ["rows", "contacts", "pushes"]) fun _ _ _ _ _ _ us hl => match us, hl with | [_, _, _], _ => rfl, g_p_pushed := PySem.W.mg_of X G a22, F_l_cell := fun_mk (st := s_l_cell) l23 c23 k23, b_l_cell := (fun_mk (st := s_l_cell) l23 c23 k23).binds (ps := ["_law_script", "_law_k"]) fun _ _ _ _ _ _ us hl => match us, hl with | [_, _], _ => rfl, g_l_cell := PySem.W.mg_of X G a23, F_l_mixed := fun_mk (st := s_l_mixed) l24 c24 k24, b_l_mixed := (fun_mk (st := s_l_mixed) l24 c24 k24).binds (ps := ["_law_script", "_law_k", "_law_many"]) fun _ _ _ _ _ _ us hl => match us, hl with | [_, _, _], _ => rfl, g_l_mixed := PySem.W.mg_of X G a24, F_l_deck := fun_mk (st := s_l_deck) l25 c25 k25, b_l_deck := (fun_mk (st := s_l_deck) l25 c25 k25).binds (ps := ["_law_script"]) fun _ _ _ _ _ _ us hl => match us, hl with | [_], _ => rfl, g_l_deck := PySem.W.mg_of X G a25, F_l_take := fun_mk (st := s_l_take) l26 c26 k26, b_l_take := (fun_mk (st := s_l_take) l26 c26 k26).binds (ps := ["_law_deck_here", "_law_many"]) fun _ _ _ _ _ _ us hl => match us, hl with | [_, _], _ => rfl, g_l_take := PySem.W.mg_of X G a26, F_l_number := fun_mk (st := s_l_number) l27 c27 k27, b_l_number := (fun_mk (st := s_l_number) l27 c27 k27).binds (ps := ["_law_deck_here", "_law_span"]) fun _ _ _ _ _ _ us hl => match us, hl with | [_, _], _ => rfl, g_l_number := PySem.W.mg_of X G a27, F_l_gcd := fun_mk (st := s_l_gcd) l28 c28 k28, b_l_gcd := (fun_mk (st := s_l_gcd) l28 c28 k28).binds (ps := ["_law_one", "_law_other"]) fun _ _ _ _ _ _ us hl => match us, hl with | [_, _], _ => rfl, g_l_gcd := PySem.W.mg_of X G a28, F_l_share := fun_mk (st := s_l_share) l29 c29 k29, b_l_share := (fun_mk (st := s_l_share) l29 c29 k29).binds (ps := ["_law_top", "_law_bottom"]) fun _ _ _ _ _ _ us hl => match us, hl with | [_, _], _ => rfl, g_l_share := PySem.W.mg_of X G a29, F_l_plus := fun_mk (st := s_l_plus) l30 c30 k30, b_l_plus := (fun_mk (st := s_l_plus) l30 c30 k30).binds (ps := ["_law_one", "_law_other"]) fun _ _ _ _ _ _ us hl => match us, hl with | [_, _], _ => rfl, g_l_plus := PySem.W.mg_of X G a30, F_l_times := fun_mk (st := s_l_times) l31 c31 k31, b_l_times := (fun_mk (st := s_l_times) l31 c31 k31).binds (ps := ["_law_one", "_law_other"]) fun _ _ _ _ _ _ us hl => match us, hl with | [_, _], _ => rfl, g_l_times := PySem.W.mg_of X G a31, F_l_along := fun_mk (st := s_l_along) l32 c32 k32, b_l_along := (fun_mk (st := s_l_along) l32 c32 k32).binds (ps := ["_law_way_here", "_law_spot"]) fun _ _ _ _ _ _ us hl => match us, hl with | [_, _], _ => rfl, g_l_along := PySem.W.mg_of X G a32, F_l_spot_plus := fun_mk (st := s_l_spot_plus) l33 c33 k33, b_l_spot_plus := (fun_mk (st := s_l_spot_plus) l33 c33 k33).binds (ps := ["_law_one", "_law_other"]) fun _ _ _ _ _ _ us hl => match us, hl with | [_, _], _ => rfl, g_l_spot_plus := PySem.W.mg_of X G a33, F_l_spot_times := fun_mk (st := s_l_spot_times) l34 c34 k34, b_l_spot_times := (fun_mk (st := s_l_spot_times) l34 c34 k34).binds (ps := ["_law_spot", "_law_part_here"]) fun _ _ _ _ _ _ us hl => match us, hl with | [_, _], _ => rfl, g_l_spot_times := PySem.W.mg_of X G a34, F_l_part := fun_mk (st := s_l_part) l35 c35 k35, b_l_part := (fun_mk (st := s_l_part) l35 c35 k35).binds (ps := ["_law_deck_here", "_law_great"]) fun _ _ _ _ _ _ us hl => match us, hl with | [_, _], _ => rfl, g_l_part := PySem.W.mg_of X G a35, F_l_name := fun_mk (st := s_l_name) l36 c36 k36, b_l_name := (fun_mk (st := s_l_name) l36 c36 k36).binds (ps := ["_law_deck_here", "_law_size"]) fun _ _ _ _ _ _ us hl => match us, hl with | [_, _], _ => rfl, g_l_name := PySem.W.mg_of X G a36, F_l_names := fun_mk (st := s_l_names) l37 c37 k37, b_l_names := (fun_mk (st := s_l_names) l37 c37 k37).binds (ps := ["_law_deck_here", "_law_many"]) fun _ _ _ _ _ _ us hl => match us, hl with | [_, _], _ => rfl, g_l_names := PySem.W.mg_of X G a37, F_l_way := fun_mk (st := s_l_way) l38 c38 k38, b_l_way := (fun_mk (st := s_l_way) l38 c38 k38).binds (ps := ["_law_deck_here", "_law_great"]) fun _ _ _ _ _ _ us hl => match us, hl with | [_, _], _ => rfl, g_l_way := PySem.W.mg_of X G a38, F_l_row := fun_mk (st := s_l_row) l39 c39 k39, b_l_row := (fun_mk (st := s_l_row) l39 c39 k39).binds (ps := ["_law_deck_here", "_law_name_here", "_law_great"]) fun _ _ _ _ _ _ us hl => match us, hl with | [_, _, _], _ => rfl, g_l_row := PySem.W.mg_of X G a39, F_l_crowd := fun_mk (st := s_l_crowd) l40 c40 k40, b_l_crowd := (fun_mk (st := s_l_crowd) l40 c40 k40).binds (ps := ["_law_deck_here", "_law_great"]) fun _ _ _ _ _ _ us hl => match us, hl with | [_, _], _ => rfl, g_l_crowd := PySem.W.mg_of X G a40, F_l_ties := fun_mk (st := s_l_ties) l41 c41 k41, b_l_ties := (fun_mk (st := s_l_ties) l41 c41 k41).binds (ps := ["_law_deck_here", "_law_rows", "_law_great"]) fun _ _ _ _ _ _ us hl => match us, hl with | [_, _, _], _ => rfl, g_l_ties := PySem.W.mg_of X G a41, F_l_answer := fun_mk (st := s_l_answer) l42 c42 k42, b_l_answer := (fun_mk (st := s_l_answer) l42 c42 k42).binds (ps := ["_law_row_here", "_law_push"]) fun _ _ _ _ _ _ us hl => match us, hl with | [_, _], _ => rfl, g_l_answer := PySem.W.mg_of X G a42, F_l_push_on := fun_mk (st := s_l_push_on) l43 c43 k43, b_l_push_on := (fun_mk (st := s_l_push_on) l43 c43 k43).binds (ps := ["_law_row_here", "_law_ties_here", "_law_pushes"]) fun _ _ _ _ _ _ us hl => match us, hl with | [_, _, _], _ => rfl, g_l_push_on := PySem.W.mg_of X G a43, F_l_pushed := fun_mk (st := s_l_pushed) l44 c44 k44, b_l_pushed := (fun_mk (st := s_l_pushed) l44 c44 k44).binds (ps := ["_law_rows", "_law_ties_here", "_law_pushes"]) fun _ _ _ _ _ _ us hl => match us, hl with | [_, _, _], _ => rfl, g_l_pushed := PySem.W.mg_of X G a44, F_l_alike := fun_mk (st := s_l_alike) l45 c45 k45, b_l_alike := (fun_mk (st := s_l_alike) l45 c45 k45).binds (ps := ["_law_found", "_law_due"]) fun _ _ _ _ _ _ us hl => match us, hl with | [_, _], _ => rfl, g_l_alike := PySem.W.mg_of X G a45, F_law := fun_mk (st := s_law) l46 c46 k46, b_law := (fun_mk (st := s_law) l46 c46 k46).binds (ps := ["_law_script"]) fun _ _ _ _ _ _ us hl => match us, hl with | [_], _ => rfl, g_law := PySem.W.mg_of X G a46, m_abs := PySem.W.mg_none_of X G z_abs, m_bool := PySem.W.mg_none_of X G z_bool, m_enumerate := PySem.W.mg_none_of X G z_enumerate, m_int := PySem.W.mg_none_of X G z_int, m_isinstance := PySem.W.mg_none_of X G z_isinstance, m_len := PySem.W.mg_none_of X G z_len, m_max := PySem.W.mg_none_of X G z_max, m_min := PySem.W.mg_none_of X G z_min, m_range := PySem.W.mg_none_of X G z_range, m_sorted := PySem.W.mg_none_of X G z_sorted, m_str := PySem.W.mg_none_of X G z_str, m_sum := PySem.W.mg_none_of X G z_sum, m_tuple := PySem.W.mg_none_of X G z_tuple, m_zip := PySem.W.mg_none_of X G z_zip, g_BodyError := PySem.W.mg_of X G ac_BodyError, g_NoShare := PySem.W.mg_of X G ac_NoShare, g_Body := PySem.W.mg_of X G ac_Body, g_Wall := PySem.W.mg_of X G ac_Wall, g_Free := PySem.W.mg_of X G ac_Free, g_Railed := PySem.W.mg_of X G ac_Railed, F_m_Body___init__ := fun_mk (st := s_m_Body___init__) lm0 cm0 km0, b_m_Body___init__ := (fun_mk (st := s_m_Body___init__) lm0 cm0 km0).binds (ps := ["self", "row"]) fun _ _ _ _ _ _ us hl => match us, hl with | [_, _], _ => rfl, F_m_Wall_answer := fun_mk (st := s_m_Wall_answer) lm1 cm1 km1, b_m_Wall_answer := (fun_mk (st := s_m_Wall_answer) lm1 cm1 km1).binds (ps := ["self", "push"]) fun _ _ _ _ _ _ us hl => match us, hl with | [_, _], _ => rfl, mt_m_Wall_answer := ⟨am1, im1, km1⟩, F_m_Free_answer := fun_mk (st := s_m_Free_answer) lm2 cm2 km2, b_m_Free_answer := (fun_mk (st := s_m_Free_answer) lm2 cm2 km2).binds (ps := ["self", "push"]) fun _ _ _ _ _ _ us hl => match us, hl with | [_, _], _ => rfl, mt_m_Free_answer := ⟨am2, im2, km2⟩, F_m_Railed_answer := fun_mk (st := s_m_Railed_answer) lm3 cm3 km3, b_m_Railed_answer := (fun_mk (st := s_m_Railed_answer) lm3 cm3 km3).binds (ps := ["self", "push"]) fun _ _ _ _ _ _ us hl => match us, hl with | [_, _], _ => rfl, mt_m_Railed_answer := ⟨am3, im3, km3⟩, na_Wall_row := na_Wall_row, na_Wall_name := na_Wall_name, na_Wall_mass := na_Wall_mass, cl_Wall := ⟨pg_Wall, bhd_Wall, po_Wall, sa_Wall⟩, mk_Wall := ⟨mki_Wall, ini_Wall, im0, kpc_Wall⟩, na_Free_row := na_Free_row, na_Free_name := na_Free_name, na_Free_mass := na_Free_mass, cl_Free := ⟨pg_Free, bhd_Free, po_Free, sa_Free⟩, mk_Free := ⟨mki_Free, ini_Free, im0, kpc_Free⟩, na_Railed_row := na_Railed_row, na_Railed_name := na_Railed_name, na_Railed_mass := na_Railed_mass, cl_Railed := ⟨pg_Railed, bhd_Railed, po_Railed, sa_Railed⟩, mk_Railed := ⟨mki_Railed, ini_Railed, im0, kpc_Railed⟩, g_LENGTHY := PySem.W.mg_of X G an_LENGTHY, g_p_share := PySem.W.mg_of X G aL_share, F_p_share := FL_share, b_p_share := hb2_share, g_STILL := PySem.W.mg_of X G aSt, t_STILL := ⟨a1S, a2S, fun H => .inr ⟨_, _, _, lSt, rfl, rfl, size63 (show 2 ≤ 1000 by decide), .cons rfl (.cons rfl .nil)⟩, fun H => .inr ⟨_, _, _, l1S, rfl, rfl, size63 (show 2 ≤ 1000 by decide), .cons ⟨_, rfl⟩ (.cons ⟨_, rfl⟩ .nil)⟩, fun H => .inr ⟨_, _, _, l2S, rfl, rfl, size63 (show 2 ≤ 1000 by decide), .cons ⟨_, rfl⟩ (.cons ⟨_, rfl⟩ .nil)⟩⟩ }
  exact ⟨PySem.W.fnOf "law" "law" (defArgs s_law) (defBody s_law) (defScope s_law) .none kV46 dc46 pm46 an46 cd46 ct46, fun s v => .of_eq rfl, fun base _ _ => ok_law (A := A0) T⟩
end R
open PySem PySem.W PyProof.Rows
set_option maxRecDepth 100000 in
set_option maxHeartbeats 0 in
theorem PySem.Challenge.cw_restbodies_k26_pushed_holds : PySem.Challenge.rw_restbodies_k26_pushed.Holds := by
  w_on; o_law; k_head; (case hw => w_witness2)
  k_fill
  refine L2.walk_of (l := PySem.Challenge.rw_restbodies_k26_pushed) (n := 63) (k := 11) (x := "_law_script") (CX := fun _ => L2.CX0) (sp := fun w => R.sp_law _) rfl (by decide) rfl ⟨rfl, by decide, by decide⟩ (fun w h Y => PySem.W.kIn_of Y) ?F (fun _ _ a ns hl hO hS => ⟨a, ns, rfl, hO, hS, hl, fun _ => rfl⟩) (fun _ _ _ _ _ h => h)
  case F =>
    intro w mg fa h KX G hmg
    refine' R.all_mk KX G hmg ?a0 ?l0 ?c0 ?k0 ?a1 ?l1 ?c1 ?k1 ?a3 ?l3 ?c3 ?k3 ?a4 ?l4 ?c4 ?k4 ?a5 ?l5 ?c5 ?k5 ?a6 ?l6 ?c6 ?k6 ?a7 ?l7 ?c7 ?k7 ?a8 ?l8 ?c8 ?k8 ?a9 ?l9 ?c9 ?k9 ?a10 ?l10 ?c10 ?k10 ?a11 ?l11 ?c11 ?k11 ?a12 ?l12 ?c12 ?k12 ?a13 ?l13 ?c13 ?k13 ?a14 ?l14 ?c14 ?k14 ?a15 ?l15 ?c15 ?k15 ?a16 ?l16 ?c16 ?k16 ?a17 ?l17 ?c17 ?k17 ?a18 ?l18 ?c18 ?k18 ?a19 ?l19 ?c19 ?k19 ?a20 ?l20 ?c20 ?k20 ?a21 ?l21 ?c21 ?k21 ?a22 ?l22 ?c22 ?k22 ?a23 ?l23 ?c23 ?k23 ?a24 ?l24 ?c24 ?k24 ?a25 ?l25 ?c25 ?k25 ?a26 ?l26 ?c26 ?k26 ?a27 ?l27 ?c27 ?k27 ?a28 ?l28 ?c28 ?k28 ?a29 ?l29 ?c29 ?k29 ?a30 ?l30 ?c30 ?k30 ?a31 ?l31 ?c31 ?k31 ?a32 ?l32 ?c32 ?k32 ?a33 ?l33 ?c33 ?k33 ?a34 ?l34 ?c34 ?k34 ?a35 ?l35 ?c35 ?k35 ?a36 ?l36 ?c36 ?k36 ?a37 ?l37 ?c37 ?k37 ?a38 ?l38 ?c38 ?k38 ?a39 ?l39 ?c39 ?k39 ?a40 ?l40 ?c40 ?k40 ?a41 ?l41 ?c41 ?k41 ?a42 ?l42 ?c42 ?k42 ?a43 ?l43 ?c43 ?k43 ?a44 ?l44 ?c44 ?k44 ?a45 ?l45 ?c45 ?k45 ?a46 ?l46 ?c46 ?k46 ?z_abs ?z_bool ?z_enumerate ?z_int ?z_isinstance ?z_len ?z_max ?z_min ?z_range ?z_sorted ?z_str ?z_sum ?z_tuple ?z_zip ?ac_BodyError ?ac_NoShare ?ac_Body ?ac_Wall ?ac_Free ?ac_Railed ?am0 ?im0 ?lm0 ?cm0 ?km0 ?am1 ?im1 ?lm1 ?cm1 ?km1 ?am2 ?im2 ?lm2 ?cm2 ?km2 ?am3 ?im3 ?lm3 ?cm3 ?km3 ?pg_Wall ?bhd_Wall ?po_Wall ?sa_Wall ?mki_Wall ?ini_Wall ?kpc_Wall ?na_Wall_row ?na_Wall_name ?na_Wall_mass ?pg_Free ?bhd_Free ?po_Free ?sa_Free ?mki_Free ?ini_Free ?kpc_Free ?na_Free_row ?na_Free_name ?na_Free_mass ?pg_Railed ?bhd_Railed ?po_Railed ?sa_Railed ?mki_Railed ?ini_Railed ?kpc_Railed ?na_Railed_row ?na_Railed_name ?na_Railed_mass ?an_LENGTHY ?aL_share ?lL_share ?cL_share ?kL_share ?lT_share ?aSt ?lSt ?l1S ?l2S
    (case a0 => k_is)
    (case l0 => k_is)
    (case c0 => k_is)
    (case k0 => k_is)
    (case a1 => k_is)
    (case l1 => k_is)
    (case c1 => k_is)
    (case k1 => k_is)
    (case a3 => k_is)
    (case l3 => k_is)
    (case c3 => k_is)
    (case k3 => k_is)
    (case a4 => k_is)
    (case l4 => k_is)
    (case c4 => k_is)
    (case k4 => k_is)
    (case a5 => k_is)
    (case l5 => k_is)
    (case c5 => k_is)
    (case k5 => k_is)
    (case a6 => k_is)
    (case l6 => k_is)
    (case c6 => k_is)
    (case k6 => k_is)
    (case a7 => k_is)
    (case l7 => k_is)
    (case c7 => k_is)
    (case k7 => k_is)
    (case a8 => k_is)
    (case l8 => k_is)
    (case c8 => k_is)
    (case k8 => k_is)
    (case a9 => k_is)
    (case l9 => k_is)
    (case c9 => k_is)
    (case k9 => k_is)
    (case a10 => k_is)
    (case l10 => k_is)
    (case c10 => k_is)
    (case k10 => k_is)
    (case a11 => k_is)
    (case l11 => k_is)
    (case c11 => k_is)
    (case k11 => k_is)
    (case a12 => k_is)
    (case l12 => k_is)
    (case c12 => k_is)
    (case k12 => k_is)
    (case a13 => k_is)
    (case l13 => k_is)
    (case c13 => k_is)
    (case k13 => k_is)
    (case a14 => k_is)
    (case l14 => k_is)
    (case c14 => k_is)
    (case k14 => k_is)
    (case a15 => k_is)
    (case l15 => k_is)
    (case c15 => k_is)
    (case k15 => k_is)
    (case a16 => k_is)
    (case l16 => k_is)
    (case c16 => k_is)
    (case k16 => k_is)
    (case a17 => k_is)
    (case l17 => k_is)
    (case c17 => k_is)
    (case k17 => k_is)
    (case a18 => k_is)
    (case l18 => k_is)
    (case c18 => k_is)
    (case k18 => k_is)
    (case a19 => k_is)
    (case l19 => k_is)
    (case c19 => k_is)
    (case k19 => k_is)
    (case a20 => k_is)
    (case l20 => k_is)
    (case c20 => k_is)
    (case k20 => k_is)
    (case a21 => k_is)
    (case l21 => k_is)
    (case c21 => k_is)
    (case k21 => k_is)
    (case a22 => k_is)
    (case l22 => k_is)
    (case c22 => k_is)
    (case k22 => k_is)
    (case a23 => k_is)
    (case l23 => k_is)
    (case c23 => k_is)
    (case k23 => k_is)
    (case a24 => k_is)
    (case l24 => k_is)
    (case c24 => k_is)
    (case k24 => k_is)
    (case a25 => k_is)
    (case l25 => k_is)
    (case c25 => k_is)
    (case k25 => k_is)
    (case a26 => k_is)
    (case l26 => k_is)
    (case c26 => k_is)
    (case k26 => k_is)
    (case a27 => k_is)
    (case l27 => k_is)
    (case c27 => k_is)
    (case k27 => k_is)
    (case a28 => k_is)
    (case l28 => k_is)
    (case c28 => k_is)
    (case k28 => k_is)
    (case a29 => k_is)
    (case l29 => k_is)
    (case c29 => k_is)
    (case k29 => k_is)
    (case a30 => k_is)
    (case l30 => k_is)
    (case c30 => k_is)
    (case k30 => k_is)
    (case a31 => k_is)
    (case l31 => k_is)
    (case c31 => k_is)
    (case k31 => k_is)
    (case a32 => k_is)
    (case l32 => k_is)
    (case c32 => k_is)
    (case k32 => k_is)
    (case a33 => k_is)
    (case l33 => k_is)
    (case c33 => k_is)
    (case k33 => k_is)
    (case a34 => k_is)
    (case l34 => k_is)
    (case c34 => k_is)
    (case k34 => k_is)
    (case a35 => k_is)
    (case l35 => k_is)
    (case c35 => k_is)
    (case k35 => k_is)
    (case a36 => k_is)
    (case l36 => k_is)
    (case c36 => k_is)
    (case k36 => k_is)
    (case a37 => k_is)
    (case l37 => k_is)
    (case c37 => k_is)
    (case k37 => k_is)
    (case a38 => k_is)
    (case l38 => k_is)
    (case c38 => k_is)
    (case k38 => k_is)
    (case a39 => k_is)
    (case l39 => k_is)
    (case c39 => k_is)
    (case k39 => k_is)
    (case a40 => k_is)
    (case l40 => k_is)
    (case c40 => k_is)
    (case k40 => k_is)
    (case a41 => k_is)
    (case l41 => k_is)
    (case c41 => k_is)
    (case k41 => k_is)
    (case a42 => k_is)
    (case l42 => k_is)
    (case c42 => k_is)
    (case k42 => k_is)
    (case a43 => k_is)
    (case l43 => k_is)
    (case c43 => k_is)
    (case k43 => k_is)
    (case a44 => k_is)
    (case l44 => k_is)
    (case c44 => k_is)
    (case k44 => k_is)
    (case a45 => k_is)
    (case l45 => k_is)
    (case c45 => k_is)
    (case k45 => k_is)
    (case a46 => k_is)
    (case l46 => k_is)
    (case c46 => k_is)
    (case k46 => k_is)
    (case z_abs => k_is)
    (case z_bool => k_is)
    (case z_enumerate => k_is)
    (case z_int => k_is)
    (case z_isinstance => k_is)
    (case z_len => k_is)
    (case z_max => k_is)
    (case z_min => k_is)
    (case z_range => k_is)
    (case z_sorted => k_is)
    (case z_str => k_is)
    (case z_sum => k_is)
    (case z_tuple => k_is)
    (case z_zip => k_is)
    (case ac_BodyError => k_is)
    (case ac_NoShare => k_is)
    (case ac_Body => k_is)
    (case ac_Wall => k_is)
    (case ac_Free => k_is)
    (case ac_Railed => k_is)
    (case am0 => k_is)
    (case im0 => k_is)
    (case lm0 => k_is)
    (case cm0 => k_is)
    (case km0 => k_is)
    (case am1 => k_is)
    (case im1 => k_is)
    (case lm1 => k_is)
    (case cm1 => k_is)
    (case km1 => k_is)
    (case am2 => k_is)
    (case im2 => k_is)
    (case lm2 => k_is)
    (case cm2 => k_is)
    (case km2 => k_is)
    (case am3 => k_is)
    (case im3 => k_is)
    (case lm3 => k_is)
    (case cm3 => k_is)
    (case km3 => k_is)
    (case pg_Wall => k_is)
    (case bhd_Wall => k_is)
    (case po_Wall => k_is)
    (case sa_Wall => k_is)
    (case mki_Wall => k_is)
    (case ini_Wall => k_is)
    (case kpc_Wall => k_is)
    (case na_Wall_row => k_is)
    (case na_Wall_name => k_is)
    (case na_Wall_mass => k_is)
    (case pg_Free => k_is)
    (case bhd_Free => k_is)
    (case po_Free => k_is)
    (case sa_Free => k_is)
    (case mki_Free => k_is)
    (case ini_Free => k_is)
    (case kpc_Free => k_is)
    (case na_Free_row => k_is)
    (case na_Free_name => k_is)
    (case na_Free_mass => k_is)
    (case pg_Railed => k_is)
    (case bhd_Railed => k_is)
    (case po_Railed => k_is)
    (case sa_Railed => k_is)
    (case mki_Railed => k_is)
    (case ini_Railed => k_is)
    (case kpc_Railed => k_is)
    (case na_Railed_row => k_is)
    (case na_Railed_name => k_is)
    (case na_Railed_mass => k_is)
    (case an_LENGTHY => k_is)
    (case aL_share => k_is)
    (case lL_share => k_is)
    (case cL_share => k_is)
    (case kL_share => k_is)
    (case lT_share => k_is)
    (case aSt => k_is)
    (case lSt => k_is)
    (case l1S => k_is)
    (case l2S => k_is)
