import PyProof.Rows.All
import Wide.All
import OpenK.AllK
import Wide.FinOn
import HandS.ForMost
import HandS.Wide
import HandS.IsInst
import HandS.Defaults
import HandS.WideBits
import HandS.ForExc
import HandS.ExcIs
import HandS.Style
import HandS.Sort
import HandS.SortRule
import HandS.Zip
import HandS.Iter
import HandS.Deep
import HandS.TupSets
import HandS.TupLe
import HandS.DictComp
import HandS.TupAny
import HandS.ExcInit
import HandS.ExcField
import HandS.ExcValue
import HandS.ExcCtx
import HandS.NestedK
import KE.KSuper
import KE.KExcSuper
import KE.RegKSuper
import HandS.TupMul
import HandS.HotCalls
import HandS.FStr
import PySem.Challenge.RW_restbodies_k44_contacts_told
set_option Elab.async false
set_option linter.all false
set_option maxRecDepth 100000
set_option maxHeartbeats 2000000
set_option synthInstance.maxSize 100000
set_option synthInstance.maxHeartbeats 2000000
namespace R
open PySem PySem.Spec PyProof.Rows L2
/-! ### the text -/
noncomputable def topS (i : Nat) : Stmt := PySem.Challenge.pw_restbodies_k44_contacts_told.main.body.getD i (.Pass ⟨0, 0, 0, 0⟩)
noncomputable abbrev s_p_divided : Stmt := topS 26
theorem sc_p_divided : FnScope ["one", "other", "shift", "x", "y", "a", "b", "c", "d", "many"] ["one", "other"] (defScope s_p_divided) := ⟨rfl, rfl, rfl, by decide +kernel, rfl, by decide +kernel, by decide +kernel⟩
noncomputable abbrev s_p_shortened : Stmt := topS 27
theorem sc_p_shortened : FnScope ["one", "other", "a", "b", "c", "d", "low", "high"] ["one", "other"] (defScope s_p_shortened) := ⟨rfl, rfl, rfl, by decide +kernel, rfl, by decide +kernel, by decide +kernel⟩
noncomputable abbrev s_p_common_divisor : Stmt := topS 28
theorem sc_p_common_divisor : FnScope ["one", "other"] ["one", "other"] (defScope s_p_common_divisor) := ⟨rfl, rfl, rfl, by decide +kernel, rfl, by decide +kernel, by decide +kernel⟩
noncomputable abbrev s_p_plus : Stmt := topS 30
theorem sc_p_plus : FnScope ["one", "other", "top", "bottom", "more", "part", "divisor", "total", "again"] ["one", "other"] (defScope s_p_plus) := ⟨rfl, rfl, rfl, by decide +kernel, rfl, by decide +kernel, by decide +kernel⟩
noncomputable abbrev s_p_minus : Stmt := topS 31
theorem sc_p_minus : FnScope ["one", "other", "top", "bottom"] ["one", "other"] (defScope s_p_minus) := ⟨rfl, rfl, rfl, by decide +kernel, rfl, by decide +kernel, by decide +kernel⟩
noncomputable abbrev s_p_on_one_bottom : Stmt := topS 32
theorem sc_p_on_one_bottom : FnScope ["shares", "base", "top", "bottom"] ["shares"] (defScope s_p_on_one_bottom) := ⟨rfl, rfl, rfl, by decide +kernel, rfl, by decide +kernel, by decide +kernel⟩
noncomputable abbrev s_p_way_of : Stmt := topS 34
theorem sc_p_way_of : FnScope ["p", "q", "divisor"] ["p", "q"] (defScope s_p_way_of) := ⟨rfl, rfl, rfl, by decide +kernel, rfl, by decide +kernel, by decide +kernel⟩
noncomputable abbrev s_p_spot_minus : Stmt := topS 35
theorem sc_p_spot_minus : FnScope ["one", "other"] ["one", "other"] (defScope s_p_spot_minus) := ⟨rfl, rfl, rfl, by decide +kernel, rfl, by decide +kernel, by decide +kernel⟩
noncomputable abbrev s_p_side_ends : Stmt := topS 37
theorem sc_p_side_ends : FnScope ["corners"] ["corners"] (defScope s_p_side_ends) := ⟨rfl, rfl, rfl, by decide +kernel, rfl, by decide +kernel, by decide +kernel⟩
noncomputable abbrev s_p_outwards : Stmt := topS 38
theorem sc_p_outwards : FnScope ["start", "end", "a", "b", "c", "d"] ["start", "end"] (defScope s_p_outwards) := ⟨rfl, rfl, rfl, by decide +kernel, rfl, by decide +kernel, by decide +kernel⟩
noncomputable abbrev s_p_sides : Stmt := topS 39
theorem sc_p_sides : FnScope ["shape", "start", "end"] ["shape"] (defScope s_p_sides) := ⟨rfl, rfl, rfl, by decide +kernel, rfl, by decide +kernel, by decide +kernel⟩
noncomputable abbrev s_p_reach : Stmt := topS 40
theorem sc_p_reach : FnScope ["shape", "way", "p", "q", "x", "y"] ["shape", "way"] (defScope s_p_reach) := ⟨rfl, rfl, rfl, by decide +kernel, rfl, by decide +kernel, by decide +kernel⟩
noncomputable abbrev s_p_turned : Stmt := topS 42
theorem sc_p_turned : FnScope ["way", "p", "q"] ["way"] (defScope s_p_turned) := ⟨rfl, rfl, rfl, by decide +kernel, rfl, by decide +kernel, by decide +kernel⟩
noncomputable abbrev s_p_pair_ways : Stmt := topS 43
theorem sc_p_pair_ways : FnScope ["one", "other", "ways", "way"] ["one", "other"] (defScope s_p_pair_ways) := ⟨rfl, rfl, rfl, by decide +kernel, rfl, by decide +kernel, by decide +kernel⟩
noncomputable abbrev s_p_width : Stmt := topS 44
theorem sc_p_width : FnScope ["one", "other", "way"] ["one", "other", "way"] (defScope s_p_width) := ⟨rfl, rfl, rfl, by decide +kernel, rfl, by decide +kernel, by decide +kernel⟩
noncomputable abbrev s_p_place_apart : Stmt := topS 45
theorem sc_p_place_apart : FnScope ["one", "other"] ["one", "other"] (defScope s_p_place_apart) := ⟨rfl, rfl, rfl, by decide +kernel, rfl, by decide +kernel, by decide +kernel⟩
noncomputable abbrev s_p_speed_apart : Stmt := topS 46
theorem sc_p_speed_apart : FnScope ["one", "other"] ["one", "other"] (defScope s_p_speed_apart) := ⟨rfl, rfl, rfl, by decide +kernel, rfl, by decide +kernel, by decide +kernel⟩
noncomputable abbrev s_p_courses : Stmt := topS 47
theorem sc_p_courses : FnScope ["one", "other", "x", "y", "u", "v", "bottom", "told", "way", "p", "q"] ["one", "other"] (defScope s_p_courses) := ⟨rfl, rfl, rfl, by decide +kernel, rfl, by decide +kernel, by decide +kernel⟩
noncomputable abbrev s_p_pairs : Stmt := topS 49
theorem sc_p_pairs : FnScope ["rows", "found", "at", "one", "other"] ["rows"] (defScope s_p_pairs) := ⟨rfl, rfl, rfl, by decide +kernel, rfl, by decide +kernel, by decide +kernel⟩
noncomputable abbrev s_p_sum_way : Stmt := topS 51
theorem sc_p_sum_way : FnScope ["one", "other"] ["one", "other"] (defScope s_p_sum_way) := ⟨rfl, rfl, rfl, by decide +kernel, rfl, by decide +kernel, by decide +kernel⟩
noncomputable abbrev s_p_touching_way : Stmt := topS 52
theorem sc_p_touching_way : FnScope ["touching", "not_falling", "way", "start", "slope"] ["touching"] (defScope s_p_touching_way) := ⟨rfl, rfl, rfl, by decide +kernel, rfl, by decide +kernel, by decide +kernel⟩
noncomputable abbrev s_p_pair_contacts : Stmt := topS 53
theorem sc_p_pair_contacts : FnScope ["one", "other", "all_courses", "greatest", "way", "start", "slope", "course"] ["one", "other"] (defScope s_p_pair_contacts) := ⟨rfl, rfl, rfl, by decide +kernel, rfl, by decide +kernel, by decide +kernel⟩
noncomputable abbrev s_p_contacts : Stmt := topS 54
theorem sc_p_contacts : FnScope ["rows", "found", "one", "other"] ["rows"] (defScope s_p_contacts) := ⟨rfl, rfl, rfl, by decide +kernel, rfl, by decide +kernel, by decide +kernel⟩
noncomputable abbrev s_l_cell_at : Stmt := topS 56
theorem sc_l_cell_at : FnScope ["_law_script", "_law_k"] ["_law_script", "_law_k"] (defScope s_l_cell_at) := ⟨rfl, rfl, rfl, by decide +kernel, rfl, by decide +kernel, by decide +kernel⟩
noncomputable abbrev s_l_mixed : Stmt := topS 57
theorem sc_l_mixed : FnScope ["_law_script", "_law_k", "_law_many", "_law_number"] ["_law_script", "_law_k", "_law_many"] (defScope s_l_mixed) := ⟨rfl, rfl, rfl, by decide +kernel, rfl, by decide +kernel, by decide +kernel⟩
noncomputable abbrev s_l_new_deck : Stmt := topS 58
theorem sc_l_new_deck : FnScope ["_law_script", "_law_cell"] ["_law_script"] (defScope s_l_new_deck) := ⟨rfl, rfl, rfl, by decide +kernel, rfl, by decide +kernel, by decide +kernel⟩
noncomputable abbrev s_l_take : Stmt := topS 59
theorem sc_l_take : FnScope ["_law_deck", "_law_many", "_law_cell"] ["_law_deck", "_law_many"] (defScope s_l_take) := ⟨rfl, rfl, rfl, by decide +kernel, rfl, by decide +kernel, by decide +kernel⟩
noncomputable abbrev s_l_gcd : Stmt := topS 60
theorem sc_l_gcd : FnScope ["_law_one", "_law_other", "_law_rest"] ["_law_one", "_law_other"] (defScope s_l_gcd) := ⟨rfl, rfl, rfl, by decide +kernel, rfl, by decide +kernel, by decide +kernel⟩
noncomputable abbrev s_l_lowest : Stmt := topS 61
theorem sc_l_lowest : FnScope ["_law_top", "_law_bottom", "_law_part"] ["_law_top", "_law_bottom"] (defScope s_l_lowest) := ⟨rfl, rfl, rfl, by decide +kernel, rfl, by decide +kernel, by decide +kernel⟩
noncomputable abbrev s_l_plus : Stmt := topS 62
theorem sc_l_plus : FnScope ["_law_one", "_law_other"] ["_law_one", "_law_other"] (defScope s_l_plus) := ⟨rfl, rfl, rfl, by decide +kernel, rfl, by decide +kernel, by decide +kernel⟩
noncomputable abbrev s_l_times : Stmt := topS 63
theorem sc_l_times : FnScope ["_law_one", "_law_other"] ["_law_one", "_law_other"] (defScope s_l_times) := ⟨rfl, rfl, rfl, by decide +kernel, rfl, by decide +kernel, by decide +kernel⟩
noncomputable abbrev s_l_spot_plus : Stmt := topS 64
theorem sc_l_spot_plus : FnScope ["_law_one", "_law_other"] ["_law_one", "_law_other"] (defScope s_l_spot_plus) := ⟨rfl, rfl, rfl, by decide +kernel, rfl, by decide +kernel, by decide +kernel⟩
noncomputable abbrev s_l_spot_times : Stmt := topS 65
theorem sc_l_spot_times : FnScope ["_law_spot", "_law_size"] ["_law_spot", "_law_size"] (defScope s_l_spot_times) := ⟨rfl, rfl, rfl, by decide +kernel, rfl, by decide +kernel, by decide +kernel⟩
noncomputable abbrev s_l_spot_less : Stmt := topS 66
theorem sc_l_spot_less : FnScope ["_law_one", "_law_other"] ["_law_one", "_law_other"] (defScope s_l_spot_less) := ⟨rfl, rfl, rfl, by decide +kernel, rfl, by decide +kernel, by decide +kernel⟩
noncomputable abbrev s_l_dot : Stmt := topS 67
theorem sc_l_dot : FnScope ["_law_way", "_law_spot"] ["_law_way", "_law_spot"] (defScope s_l_dot) := ⟨rfl, rfl, rfl, by decide +kernel, rfl, by decide +kernel, by decide +kernel⟩
noncomputable abbrev s_l_spot_of : Stmt := topS 68
theorem sc_l_spot_of : FnScope ["_law_way"] ["_law_way"] (defScope s_l_spot_of) := ⟨rfl, rfl, rfl, by decide +kernel, rfl, by decide +kernel, by decide +kernel⟩
noncomputable abbrev s_l_half : Stmt := topS 69
theorem sc_l_half : FnScope ["_law_points", "_law_found", "_law_c"] ["_law_points"] (defScope s_l_half) := ⟨rfl, rfl, rfl, by decide +kernel, rfl, by decide +kernel, by decide +kernel⟩
noncomputable abbrev s_l_left : Stmt := topS 70
theorem sc_l_left : FnScope ["_law_a", "_law_b", "_law_c"] ["_law_a", "_law_b", "_law_c"] (defScope s_l_left) := ⟨rfl, rfl, rfl, by decide +kernel, rfl, by decide +kernel, by decide +kernel⟩
noncomputable abbrev s_l_signed : Stmt := topS 71
theorem sc_l_signed : FnScope ["_law_deck", "_law_span"] ["_law_deck", "_law_span"] (defScope s_l_signed) := ⟨rfl, rfl, rfl, by decide +kernel, rfl, by decide +kernel, by decide +kernel⟩
noncomputable abbrev s_l_drawn_shape : Stmt := topS 72
theorem sc_l_drawn_shape : FnScope ["_law_deck", "_law_span", "_law_wide", "_law_high", "_law_points", "_law_found", "_law_turn"] ["_law_deck", "_law_span"] (defScope s_l_drawn_shape) := ⟨rfl, rfl, rfl, by decide +kernel, rfl, by decide +kernel, by decide +kernel⟩
noncomputable abbrev s_l_drawn_size : Stmt := topS 73
theorem sc_l_drawn_size : FnScope ["_law_deck", "_law_span"] ["_law_deck", "_law_span"] (defScope s_l_drawn_size) := ⟨rfl, rfl, rfl, by decide +kernel, rfl, by decide +kernel, by decide +kernel⟩
noncomputable abbrev s_l_above : Stmt := topS 74
theorem sc_l_above : FnScope ["_law_deck", "_law_span"] ["_law_deck", "_law_span"] (defScope s_l_above) := ⟨rfl, rfl, rfl, by decide +kernel, rfl, by decide +kernel, by decide +kernel⟩
noncomputable abbrev s_l_side_ways : Stmt := topS 75
theorem sc_l_side_ways : FnScope ["_law_shape", "_law_found", "_law_k", "_law_a", "_law_b", "_law_part"] ["_law_shape"] (defScope s_l_side_ways) := ⟨rfl, rfl, rfl, by decide +kernel, rfl, by decide +kernel, by decide +kernel⟩
noncomputable abbrev s_l_pair_ways : Stmt := topS 76
theorem sc_l_pair_ways : FnScope ["_law_one", "_law_other", "_law_found", "_law_turned_here", "_law_p", "_law_q", "_law_way"] ["_law_one", "_law_other"] (defScope s_l_pair_ways) := ⟨rfl, rfl, rfl, by decide +kernel, rfl, by decide +kernel, by decide +kernel⟩
noncomputable abbrev s_l_far : Stmt := topS 77
theorem sc_l_far : FnScope ["_law_shape", "_law_way", "_law_corner"] ["_law_shape", "_law_way"] (defScope s_l_far) := ⟨rfl, rfl, rfl, by decide +kernel, rfl, by decide +kernel, by decide +kernel⟩
noncomputable abbrev s_l_speed : Stmt := topS 78
theorem sc_l_speed : FnScope ["_law_one", "_law_other", "_law_way"] ["_law_one", "_law_other", "_law_way"] (defScope s_l_speed) := ⟨rfl, rfl, rfl, by decide +kernel, rfl, by decide +kernel, by decide +kernel⟩
noncomputable abbrev s_l_between : Stmt := topS 79
theorem sc_l_between : FnScope ["_law_one", "_law_other", "_law_after", "_law_gone"] ["_law_one", "_law_other", "_law_after"] (defScope s_l_between) := ⟨rfl, rfl, rfl, by decide +kernel, rfl, by decide +kernel, by decide +kernel⟩
noncomputable abbrev s_l_room_by : Stmt := topS 80
theorem sc_l_room_by : FnScope ["_law_one", "_law_other", "_law_way", "_law_gone", "_law_wide"] ["_law_one", "_law_other", "_law_way", "_law_gone"] (defScope s_l_room_by) := ⟨rfl, rfl, rfl, by decide +kernel, rfl, by decide +kernel, by decide +kernel⟩
noncomputable abbrev s_l_rooms : Stmt := topS 81
theorem sc_l_rooms : FnScope ["_law_a", "_law_b", "_law_after", "_law_gone", "_law_way"] ["_law_a", "_law_b", "_law_after"] (defScope s_l_rooms) := ⟨rfl, rfl, rfl, by decide +kernel, rfl, by decide +kernel, by decide +kernel⟩
noncomputable abbrev s_l_over : Stmt := topS 82
theorem sc_l_over : FnScope ["_law_one", "_law_other", "_law_after"] ["_law_one", "_law_other", "_law_after"] (defScope s_l_over) := ⟨rfl, rfl, rfl, by decide +kernel, rfl, by decide +kernel, by decide +kernel⟩
noncomputable abbrev s_l_drawn_name : Stmt := topS 83
theorem sc_l_drawn_name : FnScope ["_law_deck", "_law_size", "_law_k"] ["_law_deck"] (defScope s_l_drawn_name) := ⟨rfl, rfl, rfl, by decide +kernel, rfl, by decide +kernel, by decide +kernel⟩
noncomputable abbrev s_l_drawn_way : Stmt := topS 84
theorem sc_l_drawn_way : FnScope ["_law_deck", "_law_span", "_law_p", "_law_q", "_law_part"] ["_law_deck", "_law_span"] (defScope s_l_drawn_way) := ⟨rfl, rfl, rfl, by decide +kernel, rfl, by decide +kernel, by decide +kernel⟩
noncomputable abbrev s_l_drawn_row : Stmt := topS 85
theorem sc_l_drawn_row : FnScope ["_law_deck", "_law_shape", "_law_spot", "_law_name", "_law_kind", "_law_mass", "_law_fast", "_law_way"] ["_law_deck", "_law_shape", "_law_spot"] (defScope s_l_drawn_row) := ⟨rfl, rfl, rfl, by decide +kernel, rfl, by decide +kernel, by decide +kernel⟩
noncomputable abbrev s_l_beside : Stmt := topS 86
theorem sc_l_beside : FnScope ["_law_deck", "_law_one", "_law_row", "_law_ways", "_law_way", "_law_slid", "_law_off", "_law_sign", "_law_mine", "_law_yours", "_law_spot", "_law_c"] ["_law_deck", "_law_one", "_law_row"] (defScope s_l_beside) := ⟨rfl, rfl, rfl, by decide +kernel, rfl, by decide +kernel, by decide +kernel⟩
noncomputable abbrev s_l_scene : Stmt := topS 87
theorem sc_l_scene : FnScope ["_law_deck", "_law_many", "_law_rows", "_law_turn", "_law_row", "_law_still", "_law_a"] ["_law_deck", "_law_many"] (defScope s_l_scene) := ⟨rfl, rfl, rfl, by decide +kernel, rfl, by decide +kernel, by decide +kernel⟩
noncomputable abbrev s_l_pairs : Stmt := topS 88
theorem sc_l_pairs : FnScope ["_law_rows", "_law_found", "_law_k", "_law_a", "_law_b"] ["_law_rows"] (defScope s_l_pairs) := ⟨rfl, rfl, rfl, by decide +kernel, rfl, by decide +kernel, by decide +kernel⟩
noncomputable abbrev s_l_whole : Stmt := topS 89
theorem sc_l_whole : FnScope ["_law_found"] ["_law_found"] (defScope s_l_whole) := ⟨rfl, rfl, rfl, by decide +kernel, rfl, by decide +kernel, by decide +kernel⟩
noncomputable abbrev s_l_two : Stmt := topS 90
theorem sc_l_two : FnScope ["_law_x"] ["_law_x"] (defScope s_l_two) := ⟨rfl, rfl, rfl, by decide +kernel, rfl, by decide +kernel, by decide +kernel⟩
noncomputable abbrev s_l_contact : Stmt := topS 91
theorem sc_l_contact : FnScope ["_law_one", "_law_other", "_law_rooms_here", "_law_ways", "_law_good", "_law_p", "_law_q", "_law_part", "_law_room", "_law_way"] ["_law_one", "_law_other"] (defScope s_l_contact) := ⟨rfl, rfl, rfl, by decide +kernel, rfl, by decide +kernel, by decide +kernel⟩
noncomputable abbrev s_l_touches : Stmt := topS 92
theorem sc_l_touches : FnScope ["_law_rows", "_law_found", "_law_one", "_law_other", "_law_touch"] ["_law_rows"] (defScope s_l_touches) := ⟨rfl, rfl, rfl, by decide +kernel, rfl, by decide +kernel, by decide +kernel⟩
noncomputable abbrev s_l_are_over : Stmt := topS 93
theorem sc_l_are_over : FnScope ["_law_rows", "_law_one", "_law_other"] ["_law_rows"] (defScope s_l_are_over) := ⟨rfl, rfl, rfl, by decide +kernel, rfl, by decide +kernel, by decide +kernel⟩
noncomputable abbrev s_l_same_touches : Stmt := topS 94
theorem sc_l_same_touches : FnScope ["_law_found", "_law_due", "_law_a", "_law_b"] ["_law_found", "_law_due"] (defScope s_l_same_touches) := ⟨rfl, rfl, rfl, by decide +kernel, rfl, by decide +kernel, by decide +kernel⟩
noncomputable abbrev s_l_kinds : Stmt := topS 95
theorem sc_l_kinds : FnScope ["_law_e", "_law_found"] ["_law_e"] (defScope s_l_kinds) := ⟨rfl, rfl, rfl, by decide +kernel, rfl, by decide +kernel, by decide +kernel⟩
noncomputable abbrev s_l_alone : Stmt := topS 96
theorem sc_l_alone : FnScope ["_law_e"] ["_law_e"] (defScope s_l_alone) := ⟨rfl, rfl, rfl, by decide +kernel, rfl, by decide +kernel, by decide +kernel⟩
noncomputable abbrev s_l_put : Stmt := topS 97
theorem sc_l_put : FnScope ["_law_row", "_law_at", "_law_thing"] ["_law_row", "_law_at", "_law_thing"] (defScope s_l_put) := ⟨rfl, rfl, rfl, by decide +kernel, rfl, by decide +kernel, by decide +kernel⟩
noncomputable abbrev s_l_turned : Stmt := topS 98
theorem sc_l_turned : FnScope ["_law_rows", "_law_row"] ["_law_rows"] (defScope s_l_turned) := ⟨rfl, rfl, rfl, by decide +kernel, rfl, by decide +kernel, by decide +kernel⟩
noncomputable abbrev s_l_anew : Stmt := topS 99
theorem sc_l_anew : FnScope ["_law_deck", "_law_rows", "_law_found", "_law_row", "_law_spot"] ["_law_deck", "_law_rows"] (defScope s_l_anew) := ⟨rfl, rfl, rfl, by decide +kernel, rfl, by decide +kernel, by decide +kernel⟩
noncomputable abbrev s_l_laid_over : Stmt := topS 100
theorem sc_l_laid_over : FnScope ["_law_deck", "_law_rows", "_law_at", "_law_to"] ["_law_deck", "_law_rows"] (defScope s_l_laid_over) := ⟨rfl, rfl, rfl, by decide +kernel, rfl, by decide +kernel, by decide +kernel⟩
noncomputable abbrev s_l_right : Stmt := topS 101
theorem sc_l_right : FnScope ["_law_rows", "_law_found", "_law_alone_here", "_law_names", "_law_e", "_law_due"] ["_law_rows"] (defScope s_l_right) := ⟨rfl, rfl, rfl, by decide +kernel, rfl, by decide +kernel, by decide +kernel⟩
noncomputable abbrev s_law : Stmt := topS 102
theorem sc_law : FnScope ["_law_script", "_law_deck", "_law_kind", "_law_rows", "_law_laid", "_law_one"] ["_law_script"] (defScope s_law) := ⟨rfl, rfl, rfl, by decide +kernel, rfl, by decide +kernel, by decide +kernel⟩
noncomputable abbrev s_m_Over___init__ : Stmt := inClass (topS 6) 0
theorem nsc_Over : NdefX.NScope ["self", "one", "other", "__class__"] ["self", "one", "other"] ["__class__"] (defScope s_m_Over___init__) := NdefX.nscope_by (by decide +kernel)
/-! ### heaps -/
theorem upd_some {H : Hp} {p x : Addr} {o u : HO} (hp : H p = none) (h : H x = some u) : (upd H p o) x = some u := by
  rw [upd_ne (ne_of_none h hp)]
  exact h
theorem same_upd {H : Hp} {p : Addr} {o : HO} (h : H p = none) : Same H (upd H p o) := fun b x e => upd_some h e
theorem Same.seqT {K : PySem.W.Frag} {H H' : Hp} {a : Addr} {xs : List V} (e : Same H H') (h : SqT K H a xs) : SqT K H' a xs := by
  rcases h with (h | ⟨o, h⟩) | h
  · exact .inl (.inl (e _ _ h))
  · exact .inl (.inr ⟨o, e _ _ h⟩)
  · exact .inr h
/-- all but what stands at d and b is as it was -/
noncomputable def Kp (d b : Addr) (H H' : Hp) : Prop := ∀ x o, x ≠ d → x ≠ b → H x = some o → H' x = some o
theorem Kp.refl {d b : Addr} {H : Hp} : Kp d b H H := fun _ _ _ _ h => h
theorem Kp.trans {d b : Addr} {H H1 H2 : Hp} (u : Kp d b H H1) (v : Kp d b H1 H2) : Kp d b H H2 := fun x o h1 h2 h => v x o h1 h2 (u x o h1 h2 h)
theorem Kp.same {d b : Addr} {H H' : Hp} (s : Same H H') : Kp d b H H' := fun x o _ _ h => s x o h
theorem Kp.free {d b : Addr} {H H' : Hp} (u : Kp d b H H') {x : Addr} (hd : H d ≠ none) (hb : H b ≠ none) (h : H' x = none) (h1 : H' d ≠ none) (h2 : H' b ≠ none) : H x = none := by
  cases e : H x with
  | none => rfl
  | some o =>
    by_cases e1 : x = d
    · subst e1; exact absurd h h1
    by_cases e2 : x = b
    · subst e2; exact absurd h h2
    rw [u x o e1 e2 e] at h
    cases h
/-- the law's script -/
noncomputable def Sc (K : PySem.W.Frag) (H : Hp) (s : Addr) (ns : List Int) : Prop := (∃ o, H s = some (.frz o (.lst (ns.map V.int)))) ∨ ∀ H', SqL K H' s (ns.map V.int)
theorem Sc.seq {K : PySem.W.Frag} {H : Hp} {s : Addr} {ns : List Int} (h : Sc K H s ns) : SqL K H s (ns.map V.int) := by
  rcases h with ⟨o, h⟩ | h
  · exact .inl (.inr ⟨o, h⟩)
  · exact h H
theorem Sc.mk {K : PySem.W.Frag} {H : Hp} {s : Addr} {ns : List Int} (hO : Only H) (h : SqL K H s (ns.map V.int)) : Sc K H s ns := by
  rcases h with (h | ⟨o, h⟩) | h
  · rcases hO s with e | ⟨o, xs, e⟩
    · rw [e] at h; cases h
    · rw [e] at h; cases h
  · exact .inl ⟨o, h⟩
  · exact .inr fun H' => .inr h
theorem Sc.upd {K : PySem.W.Frag} {H : Hp} {s b : Addr} {ns : List Int} {u : HO} (h : Sc K H s ns) (hb : H b = none ∨ ∃ xs, H b = some (.lst xs)) : Sc K (upd H b u) s ns := by
  rcases h with ⟨o, h⟩ | h
  · refine .inl ⟨o, ?_⟩
    have n : s ≠ b := fun e => by
      subst e
      rcases hb with e | ⟨xs, e⟩ <;> rw [e] at h <;> cases h
    rw [upd_ne n]
    exact h
  · exact .inr h
theorem Sc.keep {K : PySem.W.Frag} {H H' : Hp} {s : Addr} {ns : List Int} (h : Sc K H s ns) (k : Same H H') : Sc K H' s ns := by
  rcases h with ⟨o, h⟩ | h
  · exact .inl ⟨o, k _ _ h⟩
  · exact .inr h
/-- the deck at d, its cells at b, drawn at most c times -/
structure Deck (K : PySem.W.Frag) (H : Hp) (d b : Addr) (c : Int) : Prop where
  ex : ∃ (s : Addr) (ns cs : List Int) (i k : Int), H d = some (.lst [.ref s, .ref b, .int i, .int k]) ∧ H b = some (.lst (cs.map V.int)) ∧ Sc K H s ns ∧ 0 ≤ i ∧ 0 ≤ k ∧ k ≤ c
  ne : b ≠ d
theorem Deck.keep {K : PySem.W.Frag} {H H' : Hp} {d b : Addr} {c : Int} (D : Deck K H d b c) (k : Same H H') : Deck K H' d b c := by
  obtain ⟨⟨s, ns, cs, i, j, h1, h2, h3, h4⟩, n⟩ := D
  exact ⟨⟨s, ns, cs, i, j, k _ _ h1, k _ _ h2, h3.keep k, h4⟩, n⟩
theorem Deck.le {K : PySem.W.Frag} {H : Hp} {d b : Addr} {c c' : Int} (D : Deck K H d b c) (h : c ≤ c') : Deck K H d b c' := by
  obtain ⟨⟨s, ns, cs, i, j, h1, h2, h3, h4, h5, h6⟩, n⟩ := D
  exact ⟨⟨s, ns, cs, i, j, h1, h2, h3, h4, h5, by omega⟩, n⟩
/-- an object beside the deck stands -/
theorem Deck.tup {K : PySem.W.Frag} {H H' : Hp} {d b x : Addr} {c : Int} {xs : List V} (D : Deck K H d b c) (k : Kp d b H H') (h : H x = some (.tup xs)) : H' x = some (.tup xs) := by
  obtain ⟨⟨s, ns, cs, i, j, h1, h2, _⟩, n⟩ := D
  exact k x _ (fun e => by rw [e, h1] at h; cases h) (fun e => by rw [e, h2] at h; cases h) h
theorem Deck.hd {K : PySem.W.Frag} {H : Hp} {d b : Addr} {c : Int} (D : Deck K H d b c) : H d ≠ none := by
  obtain ⟨⟨s, ns, cs, i, j, h1, _⟩, n⟩ := D
  rw [h1]; exact fun e => nomatch e
theorem Deck.hb {K : PySem.W.Frag} {H : Hp} {d b : Addr} {c : Int} (D : Deck K H d b c) : H b ≠ none := by
  obtain ⟨⟨s, ns, cs, i, j, _, h1, _⟩, n⟩ := D
  rw [h1]; exact fun e => nomatch e
theorem Deck.free {K : PySem.W.Frag} {H H' : Hp} {d b x : Addr} {c c' : Int} (D : Deck K H d b c) (D' : Deck K H' d b c') (k : Kp d b H H') (h : H' x = none) : H x = none := k.free D.hd D.hb h D'.hd D'.hb
/-! ### numbers -/
theorem log2_lt {n k : Nat} (h : n < 2 ^ k) (h0 : 0 < k) : n.log2 < k := PySem.Flt.log2_lt_of h0 h
theorem size63 {n : Nat} (h : n ≤ 1000) : n ≤ sizeLine := Nat.le_of_lt (small1000 h)
theorem abs_nn (i : Int) : 0 ≤ (if i < 0 then -i else i) := by
  split <;> omega
/-! ### the facts of the text -/
set_option genInjectivity false in
set_option genSizeOf false in
structure Ad where
  f_p_divided : Addr
  fd_p_divided : FuncData
  f_p_shortened : Addr
  fd_p_shortened : FuncData
  f_p_common_divisor : Addr
  fd_p_common_divisor : FuncData
  f_p_plus : Addr
  fd_p_plus : FuncData
  f_p_minus : Addr
  fd_p_minus : FuncData
  f_p_on_one_bottom : Addr
  fd_p_on_one_bottom : FuncData
  f_p_way_of : Addr
  fd_p_way_of : FuncData
  f_p_spot_minus : Addr
  fd_p_spot_minus : FuncData
  f_p_side_ends : Addr
  fd_p_side_ends : FuncData
  f_p_outwards : Addr
  fd_p_outwards : FuncData
  f_p_sides : Addr
  fd_p_sides : FuncData
  f_p_reach : Addr
  fd_p_reach : FuncData
  f_p_turned : Addr
  fd_p_turned : FuncData
  f_p_pair_ways : Addr
  fd_p_pair_ways : FuncData
  f_p_width : Addr
  fd_p_width : FuncData
  f_p_place_apart : Addr
  fd_p_place_apart : FuncData
  f_p_speed_apart : Addr
  fd_p_speed_apart : FuncData
  f_p_courses : Addr
  fd_p_courses : FuncData
  f_p_pairs : Addr
  fd_p_pairs : FuncData
  f_p_sum_way : Addr
  fd_p_sum_way : FuncData
  f_p_touching_way : Addr
  fd_p_touching_way : FuncData
  f_p_pair_contacts : Addr
  fd_p_pair_contacts : FuncData
  f_p_contacts : Addr
  fd_p_contacts : FuncData
  f_l_cell_at : Addr
  fd_l_cell_at : FuncData
  f_l_mixed : Addr
  fd_l_mixed : FuncData
  f_l_new_deck : Addr
  fd_l_new_deck : FuncData
  f_l_take : Addr
  fd_l_take : FuncData
  f_l_gcd : Addr
  fd_l_gcd : FuncData
  f_l_lowest : Addr
  fd_l_lowest : FuncData
  f_l_plus : Addr
  fd_l_plus : FuncData
  f_l_times : Addr
  fd_l_times : FuncData
  f_l_spot_plus : Addr
  fd_l_spot_plus : FuncData
  f_l_spot_times : Addr
  fd_l_spot_times : FuncData
  f_l_spot_less : Addr
  fd_l_spot_less : FuncData
  f_l_dot : Addr
  fd_l_dot : FuncData
  f_l_spot_of : Addr
  fd_l_spot_of : FuncData
  f_l_half : Addr
  fd_l_half : FuncData
  f_l_left : Addr
  fd_l_left : FuncData
  f_l_signed : Addr
  fd_l_signed : FuncData
  f_l_drawn_shape : Addr
  fd_l_drawn_shape : FuncData
  f_l_drawn_size : Addr
  fd_l_drawn_size : FuncData
  f_l_above : Addr
  fd_l_above : FuncData
  f_l_side_ways : Addr
  fd_l_side_ways : FuncData
  f_l_pair_ways : Addr
  fd_l_pair_ways : FuncData
  f_l_far : Addr
  fd_l_far : FuncData
  f_l_speed : Addr
  fd_l_speed : FuncData
  f_l_between : Addr
  fd_l_between : FuncData
  f_l_room_by : Addr
  fd_l_room_by : FuncData
  f_l_rooms : Addr
  fd_l_rooms : FuncData
  f_l_over : Addr
  fd_l_over : FuncData
  f_l_drawn_name : Addr
  fd_l_drawn_name : FuncData
  f_l_drawn_way : Addr
  fd_l_drawn_way : FuncData
  f_l_drawn_row : Addr
  fd_l_drawn_row : FuncData
  f_l_beside : Addr
  fd_l_beside : FuncData
  f_l_scene : Addr
  fd_l_scene : FuncData
  f_l_pairs : Addr
  fd_l_pairs : FuncData
  f_l_whole : Addr
  fd_l_whole : FuncData
  f_l_two : Addr
  fd_l_two : FuncData
  f_l_contact : Addr
  fd_l_contact : FuncData
  f_l_touches : Addr
  fd_l_touches : FuncData
  f_l_are_over : Addr
  fd_l_are_over : FuncData
  f_l_same_touches : Addr
  fd_l_same_touches : FuncData
  f_l_kinds : Addr
  fd_l_kinds : FuncData
  f_l_alone : Addr
  fd_l_alone : FuncData
  f_l_put : Addr
  fd_l_put : FuncData
  f_l_turned : Addr
  fd_l_turned : FuncData
  f_l_anew : Addr
  fd_l_anew : FuncData
  f_l_laid_over : Addr
  fd_l_laid_over : FuncData
  f_l_right : Addr
  fd_l_right : FuncData
  f_law : Addr
  fd_law : FuncData
  c_BodyError : Addr
  c_NoShare : Addr
  c_NoWay : Addr
  c_BadShape : Addr
  c_BadRow : Addr
  c_Over : Addr
  c_Early : Addr
  c_Calm : Addr
  c_NoBody : Addr
  c_Twice : Addr
  c_Full : Addr
  c_Long : Addr
  c_BadPush : Addr
  c_BadSpan : Addr
  c_BadCount : Addr
  c_BadState : Addr
  c_Crowded : Addr
  c_TooFine : Addr
  c_Nothing : Addr
  c_Wrong : Addr
  c_BadText : Addr
  c_BadLine : Addr
  f_m_Over___init__ : Addr
  fd_m_Over___init__ : FuncData
  k_LENGTHY : Tok
  k_LEADING : Tok
structure Tx (K : PySem.W.Frag) (mg : Str → Option Value) (A : Ad) : Prop where
  F_p_divided : Fun K "divided" "divided" s_p_divided A.f_p_divided A.fd_p_divided
  b_p_divided : Binds K A.fd_p_divided ["one", "other"] []
  g_p_divided : mg "divided" = some (.ref A.f_p_divided)
  F_p_shortened : Fun K "shortened" "shortened" s_p_shortened A.f_p_shortened A.fd_p_shortened
  b_p_shortened : Binds K A.fd_p_shortened ["one", "other"] []
  g_p_shortened : mg "shortened" = some (.ref A.f_p_shortened)
  F_p_common_divisor : Fun K "common_divisor" "common_divisor" s_p_common_divisor A.f_p_common_divisor A.fd_p_common_divisor
  b_p_common_divisor : Binds K A.fd_p_common_divisor ["one", "other"] []
  g_p_common_divisor : mg "common_divisor" = some (.ref A.f_p_common_divisor)
  F_p_plus : Fun K "plus" "plus" s_p_plus A.f_p_plus A.fd_p_plus
  b_p_plus : Binds K A.fd_p_plus ["one", "other"] []
  g_p_plus : mg "plus" = some (.ref A.f_p_plus)
  F_p_minus : Fun K "minus" "minus" s_p_minus A.f_p_minus A.fd_p_minus
  b_p_minus : Binds K A.fd_p_minus ["one", "other"] []
  g_p_minus : mg "minus" = some (.ref A.f_p_minus)
  F_p_on_one_bottom : Fun K "on_one_bottom" "on_one_bottom" s_p_on_one_bottom A.f_p_on_one_bottom A.fd_p_on_one_bottom
  b_p_on_one_bottom : Binds K A.fd_p_on_one_bottom ["shares"] []
  g_p_on_one_bottom : mg "on_one_bottom" = some (.ref A.f_p_on_one_bottom)
  F_p_way_of : Fun K "way_of" "way_of" s_p_way_of A.f_p_way_of A.fd_p_way_of
  b_p_way_of : Binds K A.fd_p_way_of ["p", "q"] []
  g_p_way_of : mg "way_of" = some (.ref A.f_p_way_of)
  F_p_spot_minus : Fun K "spot_minus" "spot_minus" s_p_spot_minus A.f_p_spot_minus A.fd_p_spot_minus
  b_p_spot_minus : Binds K A.fd_p_spot_minus ["one", "other"] []
  g_p_spot_minus : mg "spot_minus" = some (.ref A.f_p_spot_minus)
  F_p_side_ends : Fun K "side_ends" "side_ends" s_p_side_ends A.f_p_side_ends A.fd_p_side_ends
  b_p_side_ends : Binds K A.fd_p_side_ends ["corners"] []
  g_p_side_ends : mg "side_ends" = some (.ref A.f_p_side_ends)
  F_p_outwards : Fun K "outwards" "outwards" s_p_outwards A.f_p_outwards A.fd_p_outwards
  b_p_outwards : Binds K A.fd_p_outwards ["start", "end"] []
  g_p_outwards : mg "outwards" = some (.ref A.f_p_outwards)
  F_p_sides : Fun K "sides" "sides" s_p_sides A.f_p_sides A.fd_p_sides
  b_p_sides : Binds K A.fd_p_sides ["shape"] []
  g_p_sides : mg "sides" = some (.ref A.f_p_sides)
  F_p_reach : Fun K "reach" "reach" s_p_reach A.f_p_reach A.fd_p_reach
  b_p_reach : Binds K A.fd_p_reach ["shape", "way"] []
  g_p_reach : mg "reach" = some (.ref A.f_p_reach)
  F_p_turned : Fun K "turned" "turned" s_p_turned A.f_p_turned A.fd_p_turned
  b_p_turned : Binds K A.fd_p_turned ["way"] []
  g_p_turned : mg "turned" = some (.ref A.f_p_turned)
  F_p_pair_ways : Fun K "pair_ways" "pair_ways" s_p_pair_ways A.f_p_pair_ways A.fd_p_pair_ways
  b_p_pair_ways : Binds K A.fd_p_pair_ways ["one", "other"] []
  g_p_pair_ways : mg "pair_ways" = some (.ref A.f_p_pair_ways)
  F_p_width : Fun K "width" "width" s_p_width A.f_p_width A.fd_p_width
  b_p_width : Binds K A.fd_p_width ["one", "other", "way"] []
  g_p_width : mg "width" = some (.ref A.f_p_width)
  F_p_place_apart : Fun K "place_apart" "place_apart" s_p_place_apart A.f_p_place_apart A.fd_p_place_apart
  b_p_place_apart : Binds K A.fd_p_place_apart ["one", "other"] []
  g_p_place_apart : mg "place_apart" = some (.ref A.f_p_place_apart)
  F_p_speed_apart : Fun K "speed_apart" "speed_apart" s_p_speed_apart A.f_p_speed_apart A.fd_p_speed_apart
  b_p_speed_apart : Binds K A.fd_p_speed_apart ["one", "other"] []
  g_p_speed_apart : mg "speed_apart" = some (.ref A.f_p_speed_apart)
  F_p_courses : Fun K "courses" "courses" s_p_courses A.f_p_courses A.fd_p_courses
  b_p_courses : Binds K A.fd_p_courses ["one", "other"] []
  g_p_courses : mg "courses" = some (.ref A.f_p_courses)
  F_p_pairs : Fun K "pairs" "pairs" s_p_pairs A.f_p_pairs A.fd_p_pairs
  b_p_pairs : Binds K A.fd_p_pairs ["rows"] []
  g_p_pairs : mg "pairs" = some (.ref A.f_p_pairs)
  F_p_sum_way : Fun K "sum_way" "sum_way" s_p_sum_way A.f_p_sum_way A.fd_p_sum_way
  b_p_sum_way : Binds K A.fd_p_sum_way ["one", "other"] []
  g_p_sum_way : mg "sum_way" = some (.ref A.f_p_sum_way)
  F_p_touching_way : Fun K "touching_way" "touching_way" s_p_touching_way A.f_p_touching_way A.fd_p_touching_way
  b_p_touching_way : Binds K A.fd_p_touching_way ["touching"] []
  g_p_touching_way : mg "touching_way" = some (.ref A.f_p_touching_way)
  F_p_pair_contacts : Fun K "pair_contacts" "pair_contacts" s_p_pair_contacts A.f_p_pair_contacts A.fd_p_pair_contacts
  b_p_pair_contacts : Binds K A.fd_p_pair_contacts ["one", "other"] []
  g_p_pair_contacts : mg "pair_contacts" = some (.ref A.f_p_pair_contacts)
  F_p_contacts : Fun K "contacts" "contacts" s_p_contacts A.f_p_contacts A.fd_p_contacts
  b_p_contacts : Binds K A.fd_p_contacts ["rows"] []
  g_p_contacts : mg "contacts" = some (.ref A.f_p_contacts)
  F_l_cell_at : Fun K "_law_cell_at" "_law_cell_at" s_l_cell_at A.f_l_cell_at A.fd_l_cell_at
  b_l_cell_at : Binds K A.fd_l_cell_at ["_law_script", "_law_k"] []
  g_l_cell_at : mg "_law_cell_at" = some (.ref A.f_l_cell_at)
  F_l_mixed : Fun K "_law_mixed" "_law_mixed" s_l_mixed A.f_l_mixed A.fd_l_mixed
  b_l_mixed : Binds K A.fd_l_mixed ["_law_script", "_law_k", "_law_many"] []
  g_l_mixed : mg "_law_mixed" = some (.ref A.f_l_mixed)
  F_l_new_deck : Fun K "_law_new_deck" "_law_new_deck" s_l_new_deck A.f_l_new_deck A.fd_l_new_deck
  b_l_new_deck : Binds K A.fd_l_new_deck ["_law_script"] []
  g_l_new_deck : mg "_law_new_deck" = some (.ref A.f_l_new_deck)
  F_l_take : Fun K "_law_take" "_law_take" s_l_take A.f_l_take A.fd_l_take
  b_l_take : Binds K A.fd_l_take ["_law_deck", "_law_many"] []
  g_l_take : mg "_law_take" = some (.ref A.f_l_take)
  F_l_gcd : Fun K "_law_gcd" "_law_gcd" s_l_gcd A.f_l_gcd A.fd_l_gcd
  b_l_gcd : Binds K A.fd_l_gcd ["_law_one", "_law_other"] []
  g_l_gcd : mg "_law_gcd" = some (.ref A.f_l_gcd)
  F_l_lowest : Fun K "_law_lowest" "_law_lowest" s_l_lowest A.f_l_lowest A.fd_l_lowest
  b_l_lowest : Binds K A.fd_l_lowest ["_law_top", "_law_bottom"] []
  g_l_lowest : mg "_law_lowest" = some (.ref A.f_l_lowest)
  F_l_plus : Fun K "_law_plus" "_law_plus" s_l_plus A.f_l_plus A.fd_l_plus
  b_l_plus : Binds K A.fd_l_plus ["_law_one", "_law_other"] []
  g_l_plus : mg "_law_plus" = some (.ref A.f_l_plus)
  F_l_times : Fun K "_law_times" "_law_times" s_l_times A.f_l_times A.fd_l_times
  b_l_times : Binds K A.fd_l_times ["_law_one", "_law_other"] []
  g_l_times : mg "_law_times" = some (.ref A.f_l_times)
  F_l_spot_plus : Fun K "_law_spot_plus" "_law_spot_plus" s_l_spot_plus A.f_l_spot_plus A.fd_l_spot_plus
  b_l_spot_plus : Binds K A.fd_l_spot_plus ["_law_one", "_law_other"] []
  g_l_spot_plus : mg "_law_spot_plus" = some (.ref A.f_l_spot_plus)
  F_l_spot_times : Fun K "_law_spot_times" "_law_spot_times" s_l_spot_times A.f_l_spot_times A.fd_l_spot_times
  b_l_spot_times : Binds K A.fd_l_spot_times ["_law_spot", "_law_size"] []
  g_l_spot_times : mg "_law_spot_times" = some (.ref A.f_l_spot_times)
  F_l_spot_less : Fun K "_law_spot_less" "_law_spot_less" s_l_spot_less A.f_l_spot_less A.fd_l_spot_less
  b_l_spot_less : Binds K A.fd_l_spot_less ["_law_one", "_law_other"] []
  g_l_spot_less : mg "_law_spot_less" = some (.ref A.f_l_spot_less)
  F_l_dot : Fun K "_law_dot" "_law_dot" s_l_dot A.f_l_dot A.fd_l_dot
  b_l_dot : Binds K A.fd_l_dot ["_law_way", "_law_spot"] []
  g_l_dot : mg "_law_dot" = some (.ref A.f_l_dot)
  F_l_spot_of : Fun K "_law_spot_of" "_law_spot_of" s_l_spot_of A.f_l_spot_of A.fd_l_spot_of
  b_l_spot_of : Binds K A.fd_l_spot_of ["_law_way"] []
  g_l_spot_of : mg "_law_spot_of" = some (.ref A.f_l_spot_of)
  F_l_half : Fun K "_law_half" "_law_half" s_l_half A.f_l_half A.fd_l_half
  b_l_half : Binds K A.fd_l_half ["_law_points"] []
  g_l_half : mg "_law_half" = some (.ref A.f_l_half)
  F_l_left : Fun K "_law_left" "_law_left" s_l_left A.f_l_left A.fd_l_left
  b_l_left : Binds K A.fd_l_left ["_law_a", "_law_b", "_law_c"] []
  g_l_left : mg "_law_left" = some (.ref A.f_l_left)
  F_l_signed : Fun K "_law_signed" "_law_signed" s_l_signed A.f_l_signed A.fd_l_signed
  b_l_signed : Binds K A.fd_l_signed ["_law_deck", "_law_span"] []
  g_l_signed : mg "_law_signed" = some (.ref A.f_l_signed)
  F_l_drawn_shape : Fun K "_law_drawn_shape" "_law_drawn_shape" s_l_drawn_shape A.f_l_drawn_shape A.fd_l_drawn_shape
  b_l_drawn_shape : Binds K A.fd_l_drawn_shape ["_law_deck", "_law_span"] []
  g_l_drawn_shape : mg "_law_drawn_shape" = some (.ref A.f_l_drawn_shape)
  F_l_drawn_size : Fun K "_law_drawn_size" "_law_drawn_size" s_l_drawn_size A.f_l_drawn_size A.fd_l_drawn_size
  b_l_drawn_size : Binds K A.fd_l_drawn_size ["_law_deck", "_law_span"] []
  g_l_drawn_size : mg "_law_drawn_size" = some (.ref A.f_l_drawn_size)
  F_l_above : Fun K "_law_above" "_law_above" s_l_above A.f_l_above A.fd_l_above
  b_l_above : Binds K A.fd_l_above ["_law_deck", "_law_span"] []
  g_l_above : mg "_law_above" = some (.ref A.f_l_above)
  F_l_side_ways : Fun K "_law_side_ways" "_law_side_ways" s_l_side_ways A.f_l_side_ways A.fd_l_side_ways
  b_l_side_ways : Binds K A.fd_l_side_ways ["_law_shape"] []
  g_l_side_ways : mg "_law_side_ways" = some (.ref A.f_l_side_ways)
  F_l_pair_ways : Fun K "_law_pair_ways" "_law_pair_ways" s_l_pair_ways A.f_l_pair_ways A.fd_l_pair_ways
  b_l_pair_ways : Binds K A.fd_l_pair_ways ["_law_one", "_law_other"] []
  g_l_pair_ways : mg "_law_pair_ways" = some (.ref A.f_l_pair_ways)
  F_l_far : Fun K "_law_far" "_law_far" s_l_far A.f_l_far A.fd_l_far
  b_l_far : Binds K A.fd_l_far ["_law_shape", "_law_way"] []
  g_l_far : mg "_law_far" = some (.ref A.f_l_far)
  F_l_speed : Fun K "_law_speed" "_law_speed" s_l_speed A.f_l_speed A.fd_l_speed
  b_l_speed : Binds K A.fd_l_speed ["_law_one", "_law_other", "_law_way"] []
  g_l_speed : mg "_law_speed" = some (.ref A.f_l_speed)
  F_l_between : Fun K "_law_between" "_law_between" s_l_between A.f_l_between A.fd_l_between
  b_l_between : Binds K A.fd_l_between ["_law_one", "_law_other", "_law_after"] []
  g_l_between : mg "_law_between" = some (.ref A.f_l_between)
  F_l_room_by : Fun K "_law_room_by" "_law_room_by" s_l_room_by A.f_l_room_by A.fd_l_room_by
  b_l_room_by : Binds K A.fd_l_room_by ["_law_one", "_law_other", "_law_way", "_law_gone"] []
  g_l_room_by : mg "_law_room_by" = some (.ref A.f_l_room_by)
  F_l_rooms : Fun K "_law_rooms" "_law_rooms" s_l_rooms A.f_l_rooms A.fd_l_rooms
  b_l_rooms : Binds K A.fd_l_rooms ["_law_a", "_law_b", "_law_after"] []
  g_l_rooms : mg "_law_rooms" = some (.ref A.f_l_rooms)
  F_l_over : Fun K "_law_over" "_law_over" s_l_over A.f_l_over A.fd_l_over
  b_l_over : Binds K A.fd_l_over ["_law_one", "_law_other", "_law_after"] []
  g_l_over : mg "_law_over" = some (.ref A.f_l_over)
  F_l_drawn_name : Fun K "_law_drawn_name" "_law_drawn_name" s_l_drawn_name A.f_l_drawn_name A.fd_l_drawn_name
  b_l_drawn_name : Binds K A.fd_l_drawn_name ["_law_deck"] []
  g_l_drawn_name : mg "_law_drawn_name" = some (.ref A.f_l_drawn_name)
  F_l_drawn_way : Fun K "_law_drawn_way" "_law_drawn_way" s_l_drawn_way A.f_l_drawn_way A.fd_l_drawn_way
  b_l_drawn_way : Binds K A.fd_l_drawn_way ["_law_deck", "_law_span"] []
  g_l_drawn_way : mg "_law_drawn_way" = some (.ref A.f_l_drawn_way)
  F_l_drawn_row : Fun K "_law_drawn_row" "_law_drawn_row" s_l_drawn_row A.f_l_drawn_row A.fd_l_drawn_row
  b_l_drawn_row : Binds K A.fd_l_drawn_row ["_law_deck", "_law_shape", "_law_spot"] []
  g_l_drawn_row : mg "_law_drawn_row" = some (.ref A.f_l_drawn_row)
  F_l_beside : Fun K "_law_beside" "_law_beside" s_l_beside A.f_l_beside A.fd_l_beside
  b_l_beside : Binds K A.fd_l_beside ["_law_deck", "_law_one", "_law_row"] []
  g_l_beside : mg "_law_beside" = some (.ref A.f_l_beside)
  F_l_scene : Fun K "_law_scene" "_law_scene" s_l_scene A.f_l_scene A.fd_l_scene
  b_l_scene : Binds K A.fd_l_scene ["_law_deck", "_law_many"] []
  g_l_scene : mg "_law_scene" = some (.ref A.f_l_scene)
  F_l_pairs : Fun K "_law_pairs" "_law_pairs" s_l_pairs A.f_l_pairs A.fd_l_pairs
  b_l_pairs : Binds K A.fd_l_pairs ["_law_rows"] []
  g_l_pairs : mg "_law_pairs" = some (.ref A.f_l_pairs)
  F_l_whole : Fun K "_law_whole" "_law_whole" s_l_whole A.f_l_whole A.fd_l_whole
  b_l_whole : Binds K A.fd_l_whole ["_law_found"] []
  g_l_whole : mg "_law_whole" = some (.ref A.f_l_whole)
  F_l_two : Fun K "_law_two" "_law_two" s_l_two A.f_l_two A.fd_l_two
  b_l_two : Binds K A.fd_l_two ["_law_x"] []
  g_l_two : mg "_law_two" = some (.ref A.f_l_two)
  F_l_contact : Fun K "_law_contact" "_law_contact" s_l_contact A.f_l_contact A.fd_l_contact
  b_l_contact : Binds K A.fd_l_contact ["_law_one", "_law_other"] []
  g_l_contact : mg "_law_contact" = some (.ref A.f_l_contact)
  F_l_touches : Fun K "_law_touches" "_law_touches" s_l_touches A.f_l_touches A.fd_l_touches
  b_l_touches : Binds K A.fd_l_touches ["_law_rows"] []
  g_l_touches : mg "_law_touches" = some (.ref A.f_l_touches)
  F_l_are_over : Fun K "_law_are_over" "_law_are_over" s_l_are_over A.f_l_are_over A.fd_l_are_over
  b_l_are_over : Binds K A.fd_l_are_over ["_law_rows"] []
  g_l_are_over : mg "_law_are_over" = some (.ref A.f_l_are_over)
  F_l_same_touches : Fun K "_law_same_touches" "_law_same_touches" s_l_same_touches A.f_l_same_touches A.fd_l_same_touches
  b_l_same_touches : Binds K A.fd_l_same_touches ["_law_found", "_law_due"] []
  g_l_same_touches : mg "_law_same_touches" = some (.ref A.f_l_same_touches)
  F_l_kinds : Fun K "_law_kinds" "_law_kinds" s_l_kinds A.f_l_kinds A.fd_l_kinds
  b_l_kinds : Binds K A.fd_l_kinds ["_law_e"] []
  g_l_kinds : mg "_law_kinds" = some (.ref A.f_l_kinds)
  F_l_alone : Fun K "_law_alone" "_law_alone" s_l_alone A.f_l_alone A.fd_l_alone
  b_l_alone : Binds K A.fd_l_alone ["_law_e"] []
  g_l_alone : mg "_law_alone" = some (.ref A.f_l_alone)
  F_l_put : Fun K "_law_put" "_law_put" s_l_put A.f_l_put A.fd_l_put
  b_l_put : Binds K A.fd_l_put ["_law_row", "_law_at", "_law_thing"] []
  g_l_put : mg "_law_put" = some (.ref A.f_l_put)
  F_l_turned : Fun K "_law_turned" "_law_turned" s_l_turned A.f_l_turned A.fd_l_turned
  b_l_turned : Binds K A.fd_l_turned ["_law_rows"] []
  g_l_turned : mg "_law_turned" = some (.ref A.f_l_turned)
  F_l_anew : Fun K "_law_anew" "_law_anew" s_l_anew A.f_l_anew A.fd_l_anew
  b_l_anew : Binds K A.fd_l_anew ["_law_deck", "_law_rows"] []
  g_l_anew : mg "_law_anew" = some (.ref A.f_l_anew)
  F_l_laid_over : Fun K "_law_laid_over" "_law_laid_over" s_l_laid_over A.f_l_laid_over A.fd_l_laid_over
  b_l_laid_over : Binds K A.fd_l_laid_over ["_law_deck", "_law_rows"] []
  g_l_laid_over : mg "_law_laid_over" = some (.ref A.f_l_laid_over)
  F_l_right : Fun K "_law_right" "_law_right" s_l_right A.f_l_right A.fd_l_right
  b_l_right : Binds K A.fd_l_right ["_law_rows"] []
  g_l_right : mg "_law_right" = some (.ref A.f_l_right)
  F_law : Fun K "law" "law" s_law A.f_law A.fd_law
  b_law : Binds K A.fd_law ["_law_script"] []
  g_law : mg "law" = some (.ref A.f_law)
  m_ValueError : mg "ValueError" = none
  m_abs : mg "abs" = none
  m_bool : mg "bool" = none
  m_enumerate : mg "enumerate" = none
  m_int : mg "int" = none
  m_isinstance : mg "isinstance" = none
  m_len : mg "len" = none
  m_list : mg "list" = none
  m_max : mg "max" = none
  m_min : mg "min" = none
  m_range : mg "range" = none
  m_set : mg "set" = none
  m_sorted : mg "sorted" = none
  m_sum : mg "sum" = none
  m_tuple : mg "tuple" = none
  m_zip : mg "zip" = none
  g_LENGTHY : mg "LENGTHY" = some (.int 4000 A.k_LENGTHY)
  g_LEADING : mg "LEADING" = some (.int 120 A.k_LEADING)
  g_BodyError : mg "BodyError" = some (.ref A.c_BodyError)
  g_NoShare : mg "NoShare" = some (.ref A.c_NoShare)
  g_NoWay : mg "NoWay" = some (.ref A.c_NoWay)
  g_BadShape : mg "BadShape" = some (.ref A.c_BadShape)
  g_BadRow : mg "BadRow" = some (.ref A.c_BadRow)
  g_Over : mg "Over" = some (.ref A.c_Over)
  g_Early : mg "Early" = some (.ref A.c_Early)
  g_Calm : mg "Calm" = some (.ref A.c_Calm)
  g_NoBody : mg "NoBody" = some (.ref A.c_NoBody)
  g_Twice : mg "Twice" = some (.ref A.c_Twice)
  g_Full : mg "Full" = some (.ref A.c_Full)
  g_Long : mg "Long" = some (.ref A.c_Long)
  g_BadPush : mg "BadPush" = some (.ref A.c_BadPush)
  g_BadSpan : mg "BadSpan" = some (.ref A.c_BadSpan)
  g_BadCount : mg "BadCount" = some (.ref A.c_BadCount)
  g_BadState : mg "BadState" = some (.ref A.c_BadState)
  g_Crowded : mg "Crowded" = some (.ref A.c_Crowded)
  g_TooFine : mg "TooFine" = some (.ref A.c_TooFine)
  g_Nothing : mg "Nothing" = some (.ref A.c_Nothing)
  g_Wrong : mg "Wrong" = some (.ref A.c_Wrong)
  g_BadText : mg "BadText" = some (.ref A.c_BadText)
  g_BadLine : mg "BadLine" = some (.ref A.c_BadLine)
  i_Over_NoShare : PySem.W.kitOne K (.ref A.c_Over) (.ref A.c_NoShare) = some false
  i_Over_NoWay : PySem.W.kitOne K (.ref A.c_Over) (.ref A.c_NoWay) = some false
  i_Over_BadShape : PySem.W.kitOne K (.ref A.c_Over) (.ref A.c_BadShape) = some false
  i_Over_BadRow : PySem.W.kitOne K (.ref A.c_Over) (.ref A.c_BadRow) = some false
  i_Over_Over : PySem.W.kitOne K (.ref A.c_Over) (.ref A.c_Over) = some true
  i_Over_Early : PySem.W.kitOne K (.ref A.c_Over) (.ref A.c_Early) = some false
  i_Over_Calm : PySem.W.kitOne K (.ref A.c_Over) (.ref A.c_Calm) = some false
  i_Over_NoBody : PySem.W.kitOne K (.ref A.c_Over) (.ref A.c_NoBody) = some false
  i_Over_Twice : PySem.W.kitOne K (.ref A.c_Over) (.ref A.c_Twice) = some false
  i_Over_Full : PySem.W.kitOne K (.ref A.c_Over) (.ref A.c_Full) = some false
  i_Over_Long : PySem.W.kitOne K (.ref A.c_Over) (.ref A.c_Long) = some false
  i_Over_BadPush : PySem.W.kitOne K (.ref A.c_Over) (.ref A.c_BadPush) = some false
  i_Over_BadSpan : PySem.W.kitOne K (.ref A.c_Over) (.ref A.c_BadSpan) = some false
  i_Over_BadCount : PySem.W.kitOne K (.ref A.c_Over) (.ref A.c_BadCount) = some false
  i_Over_BadState : PySem.W.kitOne K (.ref A.c_Over) (.ref A.c_BadState) = some false
  i_Over_Crowded : PySem.W.kitOne K (.ref A.c_Over) (.ref A.c_Crowded) = some false
  i_Over_TooFine : PySem.W.kitOne K (.ref A.c_Over) (.ref A.c_TooFine) = some false
  i_Over_Nothing : PySem.W.kitOne K (.ref A.c_Over) (.ref A.c_Nothing) = some false
  i_Over_Wrong : PySem.W.kitOne K (.ref A.c_Over) (.ref A.c_Wrong) = some false
  i_Over_BadText : PySem.W.kitOne K (.ref A.c_Over) (.ref A.c_BadText) = some false
  i_Over_BadLine : PySem.W.kitOne K (.ref A.c_Over) (.ref A.c_BadLine) = some false
  i_Over_BodyError : PySem.W.kitOne K (.ref A.c_Over) (.ref A.c_BodyError) = some true
  i_Over_ValueError : PySem.W.kitOne K (.ref A.c_Over) (.type "ValueError") = some true
section
variable {P : Program} {w : World} {K : PySem.W.Frag} {mg : Str → Option Value} {base : Heap} {A : Ad}
theorem ixN_nat {n j : Nat} (h : j < n) : ixN n (j : Int) = some j := by
  unfold ixN
  rw [if_pos (by omega), if_pos (by omega)]
  rfl
/-! ### a cell of the script -/
noncomputable def sp_l_cell_at (K : PySem.W.Frag) : Sp := fun vs H Q _ => ∃ (s : Addr) (ns : List Int) (k : Int), vs = [.ref s, .int k] ∧ SqL K H s (ns.map V.int) ∧ 0 ≤ k ∧ k ≤ 1000000 ∧ ∀ r, 0 ≤ r → Q (.int r) H
theorem ok_l_cell_at (T : Tx K mg A) : FnOk P w K mg base CX0 1 A.f_l_cell_at A.fd_l_cell_at ["_law_script", "_law_k"] (sp_l_cell_at K) := by
  refine T.F_l_cell_at.ok sc_l_cell_at (fun vs H Q E h => ?_) (fun cdv Ar outer s H vs Q E hr h => ?_)
  · obtain ⟨s, ns, k, rfl, _⟩ := h
    rfl
  · obtain ⟨s, ns, k, rfl, hS, h0, h1, q⟩ := h
    refine ⟨_, (pss_cons (ps_if (pt_cmpR op_eq (pe_callB call_len_seq (by rfl) T.m_len (by decide +kernel) (pa_cons (pv 0) pa_nil)) pe_int (nomark _))
      (pss_one (ps_ret (pe_op op_add (pe_op op_mul pe_int (pv 1)) pe_int)))
      pss_nil)
    (pss_one (ps_ret (pe_callB call_abs (by rfl) T.m_abs (by decide +kernel) (pa_cons (pe_ix ix_list (pv 0) (pe_op op_mod (pv 1) (pe_callB call_len_seq (by rfl) T.m_len (by decide +kernel) (pa_cons (pv 0) pa_nil))) (fun _ _ => rfl)) pa_nil))))), ?_⟩
    refine ⟨.ref s, rfl, s, ns.map V.int, rfl, .inl hS, rfl, _, rfl, ite2 (fun e => ?_) (fun e => ?_)⟩
    · exact ⟨_, rfl, 7, k, rfl, rfl, .inl (by decide), _, _, rfl, rfl, q _ (by omega)⟩
    · have hl : ns.length ≠ 0 := fun z => e (decide_eq_true (by rw [List.length_map, z]; rfl))
      have hp : (0 : Int) < ((ns.map V.int).length : Int) := by
        rw [List.length_map]
        omega
      have hm0 : 0 ≤ k % ((ns.map V.int).length : Int) := Int.emod_nonneg _ (by omega)
      have hm1 : k % ((ns.map V.int).length : Int) < ((ns.map V.int).length : Int) := Int.emod_lt_of_pos _ hp
      obtain ⟨j, hj⟩ : ∃ j : Nat, (j : Int) = k % ((ns.map V.int).length : Int) := ⟨_, Int.toNat_of_nonneg hm0⟩
      have hj2 : j < ns.length := by
        rw [List.length_map] at hj hm1
        omega
      have ha : atI (ns.map V.int) (k % ((ns.map V.int).length : Int)) = some (.int ns[j]) := by
        rw [← hj]
        exact atI_nat (by rw [List.getElem?_map, List.getElem?_eq_getElem hj2]; rfl)
      exact ⟨_, rfl, _, rfl, _, rfl, s, _, rfl, .inl hS, k, _, rfl, rfl, hp, s, _, _, _, rfl, rfl, hS, ha, _, rfl, q _ (abs_nn _)⟩
/-! ### a mixed number -/
noncomputable def sp_l_mixed (K : PySem.W.Frag) : Sp := fun vs H Q _ => ∃ (s : Addr) (ns : List Int) (k m : Int), vs = [.ref s, .int k, .int m] ∧ SqL K H s (ns.map V.int) ∧ 0 ≤ k ∧ k ≤ 1000000 ∧ 0 < m ∧ ∀ r, 0 ≤ r → r < m → Q (.int r) H
theorem mixed_bound {r k : Int} (h0 : 0 ≤ r) (h1 : r < 1000003) (k0 : 0 ≤ k) (k1 : k ≤ 1000000) : ((r + 5) * (k + 2) + 7919 * k).natAbs < 2 ^ 64 := by
  have e1 : (r + 5) * (k + 2) ≤ 1000008 * 1000002 := Int.mul_le_mul (by omega) (by omega) (by omega) (by omega)
  have e0 : 0 ≤ (r + 5) * (k + 2) := Int.mul_nonneg (by omega) (by omega)
  omega
theorem ok_l_mixed (T : Tx K mg A) : FnOk P w K mg base CX0 2 A.f_l_mixed A.fd_l_mixed ["_law_script", "_law_k", "_law_many"] (sp_l_mixed K) := by
  refine T.F_l_mixed.ok sc_l_mixed (fun vs H Q E h => ?_) (fun cdv Ar outer s H vs Q E hr h => ?_)
  · obtain ⟨s, ns, k, m, rfl, _⟩ := h
    rfl
  · obtain ⟨s, ns, k, m, rfl, hS, h0, h1, hm, q⟩ := h
    refine ⟨_, (pss_cons (ps_set (i := 3) sc_l_mixed.nd rfl (.inl rfl) (pe_op op_mod (pe_op op_pow (pe_op op_add (pe_op op_mul (pe_op op_add (pe_op op_mod (pe_call (ok_l_cell_at T) (hr.mono (by decide)) (by rfl) T.g_l_cell_at T.F_l_cell_at.kp T.b_l_cell_at .nil pass0 (pa_cons (pv 0) (pa_cons (pv 1) pa_nil))) pe_int) pe_int) (pe_op op_add (pv 1) pe_int)) (pe_op op_mul pe_int (pv 1))) pe_int) pe_int))
    (pss_one (ps_ret (pe_op op_mod (pe_op op_fdivW (pv 3) pe_int) (pv 2))))), ?_⟩
    refine ⟨_, rfl, _, rfl, s, ns, k, rfl, hS, h0, h1, fun r hr0 => ?_⟩
    have c0 : 0 ≤ r % 1000003 := Int.emod_nonneg _ (by decide)
    have c1 : r % 1000003 < 1000003 := Int.emod_lt_of_pos _ (by decide)
    refine ⟨r, 1000003, rfl, rfl, (show (0 : Int) < 1000003 by decide), _, _, rfl, rfl, _, rfl, _, _, rfl, rfl, _, _, rfl, rfl, ?_, _, rfl, _, _, rfl, rfl, .inl (by decide), _, _, rfl, rfl, _, _, rfl, rfl, ⟨by decide, by decide, ?_⟩, _, _, rfl, rfl, (show (0 : Int) < 2147483647 by decide), ?_⟩
    · exact .inl ⟨by omega, by omega⟩
    · exact mixed_bound c0 c1 h0 h1
    · refine ⟨_, rfl, _, _, rfl, rfl, ⟨by decide, by decide⟩, _, rfl, _, _, rfl, rfl, hm, ?_⟩
      exact q _ (Int.emod_nonneg _ (by omega)) (Int.emod_lt_of_pos _ hm)
/-! ### the deck is made -/
noncomputable def sp_l_deck (K : PySem.W.Frag) : Sp := fun vs H Q _ => ∃ (s : Addr) (ns : List Int), vs = [.ref s] ∧ Sc K H s ns ∧ ns.length ≤ 63 ∧ ∀ H' d b, H d = none → H b = none → Deck K H' d b 0 → Same H H' → Q (.ref d) H'
theorem ok_l_new_deck (T : Tx K mg A) : FnOk P w K mg base CX0 1 A.f_l_new_deck A.fd_l_new_deck ["_law_script"] (sp_l_deck K) := by
  refine T.F_l_new_deck.ok sc_l_new_deck (fun vs H Q E h => ?_) (fun cdv Ar outer s H vs Q E hr h => ?_)
  · obtain ⟨s, ns, rfl, _⟩ := h
    rfl
  · obtain ⟨s, ns, rfl, hS, hlen, q⟩ := h
    refine ⟨_, (pss_one (ps_ret (pe_lst (pa_cons (pv 0) (pa_cons (pe_lc (own := [("_law_cell", 1)]) rfl sc_l_new_deck.nd (pi_list (pv 0)) (blkOk_by (own := [("_law_cell", 1)]) (N := ["_law_script", "_law_cell"]) (sc := defScope s_l_new_deck) (by decide +kernel)) (fun _ _ _ _ _ => (pg_name (i := 1) sc_l_new_deck.nd rfl (Or.inl rfl))) (fun _ _ _ _ _ => (pts_one (pt_cmpR op_ge (pe_callB call_abs (by rfl) T.m_abs (by decide +kernel) (pa_cons (pv 1) pa_nil)) (pe_op op_pow pe_int pe_int) (nomark _)))) (fun _ _ _ _ _ => (pe_callB call_abs (by rfl) T.m_abs (by decide +kernel) (pa_cons (pv 1) pa_nil)))) (pa_cons pe_int (pa_cons pe_int pa_nil))))))), ?_⟩
    refine ⟨_, rfl, _, rfl, s, rfl, ⟨_, hS.seq⟩, fun D hD => lc_list (K := K) (a := s) (xs := ns.map V.int) (fun i H' => ∃ cs : List Int, Same H H' ∧ Sc K H' s ns ∧ H' D = some (.lst (cs.map V.int)) ∧ cs.length ≤ i) ?_ ?_ ?_ ?_⟩
    · exact ⟨[], same_upd hD, hS.upd (.inl hD), upd_same, Nat.le_refl _⟩
    · rintro i H' _ ⟨cs, _, h, _⟩
      exact h.seq
    · rintro i x H' hx ⟨cs, sm, hs, hd, hc⟩
      obtain ⟨n, rfl⟩ : ∃ n : Int, x = .int n := by
        rw [List.getElem?_map] at hx
        cases e : ns[i]? with
        | none => rw [e] at hx; cases hx
        | some n => rw [e] at hx; exact ⟨n, (Option.some.inj hx).symm⟩
      have hi : i < ns.length := by
        have := (List.getElem?_eq_some_iff.mp hx).1
        rw [List.length_map] at this
        exact this
      refine ⟨rfl, _, rfl, n, rfl, 10, 18, rfl, rfl, ⟨by decide, by decide, by decide⟩, _, _, rfl, rfl, _, rfl, ite2 (fun e => ?_) (fun e => ?_)⟩
      · refine ⟨_, rfl, n, rfl, cs.map V.int, hd, small1000 (by rw [List.length_map]; omega), cs ++ [(if n < 0 then -n else n)], ?_, ?_, ?_, ?_⟩
        · exact fun x o h => by
            rw [upd_ne (ne_of_none h hD)]
            exact sm _ _ h
        · exact hs.upd (.inr ⟨_, hd⟩)
        · rw [upd_same, List.map_append]
          rfl
        · rw [List.length_append]
          exact Nat.succ_le_succ hc
      · exact ⟨cs, sm, hs, hd, Nat.le_succ_of_le hc⟩
    · rintro H' ⟨cs, sm, hs, hd, hc⟩
      refine ⟨size63 (show 4 ≤ 1000 by decide), fun d hn => ?_⟩
      have ne : D ≠ d := ne_of_none hd hn
      refine q _ d D (sm.free hn) hD ⟨⟨s, ns, cs, 0, 0, upd_same, ?_, hs.upd (.inl hn), by omega, by omega, by omega⟩, ne⟩ (sm.trans (same_upd hn))
      rw [upd_ne ne]
      exact hd
/-! ### a number is taken -/
noncomputable def sp_l_take (K : PySem.W.Frag) : Sp := fun vs H Q _ => ∃ (d b : Addr) (c m : Int), vs = [.ref d, .int m] ∧ Deck K H d b c ∧ c < 1000000 ∧ 0 < m ∧ m.natAbs.log2 < 9000 ∧ ∀ H' r, Deck K H' d b (c + 1) → Kp d b H H' → 0 ≤ r → r < m → Q (.int r) H'
theorem ok0_l_take (T : Tx K mg A) : FnOk P w K mg base CX0 3 A.f_l_take A.fd_l_take ["_law_deck", "_law_many"] (sp_l_take K) := by
  refine T.F_l_take.ok sc_l_take (fun vs H Q E h => ?_) (fun cdv Ar outer s H vs Q E hr h => ?_)
  · obtain ⟨d, b, c, m, rfl, _⟩ := h
    rfl
  · obtain ⟨d, b, c, m, rfl, ⟨⟨s, ns, cs, i0, k, hd, hb, hS, hi0, hk0, hk1⟩, ne⟩, hc, hm, hm2, q⟩ := h
    refine ⟨_, (pss_cons (ps_while PassesOwn.never (pt_cmpR op_lt (pe_ix ix_list (pv 0) pe_int (fun _ _ => rfl)) (pe_callB call_len_seq (by rfl) T.m_len (by decide +kernel) (pa_cons (pe_ix ix_list (pv 0) pe_int (fun _ _ => rfl)) pa_nil)) (nomark _))
      (pss_cons (ps_set (i := 2) sc_l_take.nd rfl (.inl rfl) (pe_ix ix_list (pe_ix ix_list (pv 0) pe_int (fun _ _ => rfl)) (pe_ix ix_list (pv 0) pe_int (fun _ _ => rfl)) (fun _ _ => rfl)))
    (pss_cons (ps_if (pt_cmpR op_gt (pv 2) pe_int (nomark _))
      (pss_cons (ps_asg (pe_op op_fdivW (pv 2) (pv 1)) (pg_sub (pe_ix ix_list (pv 0) pe_int (fun _ _ => rfl)) (pe_ix ix_list (pv 0) pe_int (fun _ _ => rfl)) set_list))
    (pss_one (ps_ret (pe_op op_mod (pv 2) (pv 1)))))
      pss_nil)
    (pss_one (ps_asg (pe_op op_add (pe_ix ix_list (pv 0) pe_int (fun _ _ => rfl)) pe_int) (pg_sub (pv 0) pe_int set_list))))))
    (pss_cons (ps_asg (pe_op op_add (pe_ix ix_list (pv 0) pe_int (fun _ _ => rfl)) pe_int) (pg_sub (pv 0) pe_int set_list))
    (pss_one (ps_ret (pe_call (ok_l_mixed T) (hr.mono (by decide)) (by rfl) T.g_l_mixed T.F_l_mixed.kp T.b_l_mixed .nil pass0 (pa_cons (pe_ix ix_list (pv 0) pe_int (fun _ _ => rfl)) (pa_cons (pe_ix ix_list (pv 0) pe_int (fun _ _ => rfl)) (pa_cons (pv 1) pa_nil)))))))), ?_⟩
    refine ⟨fun n σ H' => ∃ (y : Option V) (i : Int), σ = [some (.ref d), some (.int m), y] ∧ 0 ≤ i ∧ n = cs.length - i.toNat ∧ H' d = some (.lst [.ref s, .ref b, .int i, .int k]) ∧ H' b = some (.lst (cs.map V.int)) ∧ Sc K H' s ns ∧ Kp d b H H', ⟨_, none, i0, rfl, hi0, rfl, hd, hb, hS, Kp.refl⟩, fun n σ H' hW => ?_⟩
    obtain ⟨y, i, rfl, hi, hn, hd', hb', hS', kp⟩ := hW
    refine ⟨_, rfl, d, _, 2, .int i, rfl, rfl, SqL.of hd', rfl, _, rfl, d, _, 1, .ref b, rfl, rfl, SqL.of hd', rfl, b, _, rfl, .inl (SqL.of hb'), i, _, rfl, rfl, _, rfl, ite2 (fun e => ?_) (fun e => ?_)⟩
    · -- a turn
      have hlt : i < ((cs.map V.int).length : Int) := of_decide_eq_true e
      rw [List.length_map] at hlt
      obtain ⟨j, rfl⟩ : ∃ j : Nat, i = (j : Int) := ⟨_, (Int.toNat_of_nonneg hi).symm⟩
      have hj : j < cs.length := by omega
      have ha : atI (cs.map V.int) (j : Int) = some (.int cs[j]) := atI_nat (by rw [List.getElem?_map, List.getElem?_eq_getElem hj]; rfl)
      refine ⟨fun σ' H'' => ∃ (y : Option V), σ' = [some (.ref d), some (.int m), y] ∧ H'' d = some (.lst [.ref s, .ref b, .int ((j : Int) + 1), .int k]) ∧ H'' b = some (.lst (cs.map V.int)) ∧ Sc K H'' s ns ∧ Kp d b H H'', ?_, ?_⟩
      · rintro σ' H'' ⟨y, e1, e2, e3, e4, e5⟩
        exact ⟨cs.length - ((j : Int) + 1).toNat, by omega, y, _, e1, by omega, rfl, e2, e3, e4, e5⟩
      · refine ⟨_, rfl, d, _, 1, .ref b, rfl, rfl, SqL.of hd', rfl, _, rfl, d, _, 2, .int (j : Int), rfl, rfl, SqL.of hd', rfl, b, _, (j : Int), .int cs[j], rfl, rfl, SqL.of hb', ha, ?_⟩
        refine ⟨_, rfl, cs[j], 0, rfl, rfl, _, rfl, ite2 (fun e2 => ?_) (fun e2 => ?_)⟩
        · -- the cell is drawn from
          refine ⟨_, rfl, _, rfl, cs[j], m, rfl, rfl, ⟨hm, hm2⟩, _, rfl, d, _, 1, .ref b, rfl, rfl, SqL.of hd', rfl, _, rfl, d, _, 2, .int (j : Int), rfl, rfl, SqL.of hd', rfl, b, _, (j : Int), j, rfl, rfl, hb', ?_, ?_⟩
          · exact ixN_nat (by rw [List.length_map]; exact hj)
          · refine ⟨_, rfl, _, rfl, cs[j], m, rfl, rfl, hm, ?_⟩
            refine q _ _ ⟨⟨s, ns, cs.set j (cs[j] / m), (j : Int), k, ?_, ?_, hS'.upd (.inr ⟨_, hb'⟩), by omega, hk0, by omega⟩, ne⟩ ?_ (Int.emod_nonneg _ (by omega)) (Int.emod_lt_of_pos _ hm)
            · rw [upd_ne (Ne.symm ne)]
              exact hd'
            · rw [upd_same, List.map_set]
            · intro x o h1 h2 h
              rw [upd_ne h2]
              exact kp x o h1 h2 h
        · -- the next cell
          refine ⟨_, rfl, d, _, 2, .int (j : Int), rfl, rfl, SqL.of hd', rfl, _, _, rfl, rfl, _, rfl, d, _, 2, 2, rfl, rfl, hd', rfl, ?_⟩
          refine ⟨_, rfl, ?_, ?_, hS'.upd (.inr ⟨_, hd'⟩), ?_⟩
          · rw [upd_same]; rfl
          · rw [upd_ne ne]; exact hb'
          · intro x o h1 h2 h
            rw [upd_ne h1]
            exact kp x o h1 h2 h
    · -- no cell is left
      refine ⟨_, rfl, d, _, 3, .int k, rfl, rfl, SqL.of hd', rfl, _, _, rfl, rfl, _, rfl, d, _, 3, 3, rfl, rfl, hd', rfl, ?_⟩
      have hd2 : (upd H' d (.lst ([V.ref s, V.ref b, V.int i, V.int k].set 3 (V.int (k + 1))))) d = some (.lst [.ref s, .ref b, .int i, .int (k + 1)]) := upd_same
      have hS2 : Sc K (upd H' d (.lst ([V.ref s, V.ref b, V.int i, V.int k].set 3 (V.int (k + 1))))) s ns := hS'.upd (.inr ⟨_, hd'⟩)
      refine ⟨_, rfl, d, _, 0, .ref s, rfl, rfl, SqL.of hd2, rfl, _, rfl, d, _, 3, .int (k + 1), rfl, rfl, SqL.of hd2, rfl, _, rfl, s, ns, k + 1, m, rfl, hS2.seq, by omega, by omega, hm, fun r h0 h1 => ?_⟩
      refine q _ r ⟨⟨s, ns, cs, i, k + 1, hd2, ?_, hS2, hi, by omega, by omega⟩, ne⟩ ?_ h0 h1
      · rw [upd_ne ne]; exact hb'
      · intro x o h1 h2 h
        rw [upd_ne h1]
        exact kp x o h1 h2 h
/-! ### divisors -/
noncomputable def gcdI (a b : Int) : Int := ((Nat.gcd a.natAbs b.natAbs : Nat) : Int)
/-- a share's two numbers -/
noncomputable def IsSh (t u : Int) : Prop := 1 ≤ u ∧ gcdI t u = 1
theorem gcdI_pos {a b : Int} (h : b ≠ 0) : 0 < gcdI a b := by
  have : 0 < Nat.gcd a.natAbs b.natAbs := Nat.gcd_pos_of_pos_right _ (by omega)
  unfold gcdI
  omega
theorem gcdI_neg_l (a b : Int) : gcdI (-a) b = gcdI a b := by
  unfold gcdI
  rw [Int.natAbs_neg]
theorem gcdI_neg_r (a b : Int) : gcdI a (-b) = gcdI a b := by
  unfold gcdI
  rw [Int.natAbs_neg]
theorem gcdI_dvd_l (a b : Int) : gcdI a b ∣ a := by
  unfold gcdI
  exact Int.ofNat_dvd_left.mpr (Nat.gcd_dvd_left _ _)
theorem gcdI_dvd_r (a b : Int) : gcdI a b ∣ b := by
  unfold gcdI
  exact Int.ofNat_dvd_left.mpr (Nat.gcd_dvd_right _ _)
/-- a share is told by what it is worth -/
theorem share_uniq {t u t' u' : Int} (h : IsSh t u) (h' : IsSh t' u') (e : t * u' = t' * u) : t = t' ∧ u = u' := by
  obtain ⟨u1, g1⟩ := h
  obtain ⟨u2, g2⟩ := h'
  have c1 : Nat.gcd t.natAbs u.natAbs = 1 := by unfold gcdI at g1; omega
  have c2 : Nat.gcd t'.natAbs u'.natAbs = 1 := by unfold gcdI at g2; omega
  have en : t.natAbs * u'.natAbs = t'.natAbs * u.natAbs := by
    rw [← Int.natAbs_mul, ← Int.natAbs_mul, e]
  have d1 : u.natAbs ∣ u'.natAbs := (Nat.Coprime.symm c1).dvd_of_dvd_mul_left (by rw [en]; exact Nat.dvd_mul_left _ _)
  have d2 : u'.natAbs ∣ u.natAbs := (Nat.Coprime.symm c2).dvd_of_dvd_mul_left (by rw [← en]; exact Nat.dvd_mul_left _ _)
  have eu : u = u' := by
    have := Nat.dvd_antisymm d1 d2
    omega
  subst eu
  exact ⟨Int.eq_of_mul_eq_mul_right (by omega) e, rfl⟩
theorem div_natAbs_le {a g : Int} (hg : 0 < g) (h : g ∣ a) : (a / g).natAbs ≤ a.natAbs := by
  obtain ⟨q, rfl⟩ := h
  rw [Int.mul_ediv_cancel_left _ (by omega), Int.natAbs_mul]
  exact Nat.le_mul_of_pos_left _ (by omega)
/-- a over b (b above nought) in lowest terms -/
theorem low_is {a b : Int} (hb : 0 < b) : IsSh (a / gcdI a b) (b / gcdI a b) ∧ (a / gcdI a b) * b = (b / gcdI a b) * a ∧ (a / gcdI a b).natAbs ≤ a.natAbs ∧ (b / gcdI a b).natAbs ≤ b.natAbs := by
  have hg : 0 < gcdI a b := gcdI_pos (by omega)
  have d1 := gcdI_dvd_l a b
  have d2 := gcdI_dvd_r a b
  refine ⟨⟨?_, ?_⟩, ?_, div_natAbs_le hg d1, div_natAbs_le hg d2⟩
  · have : 0 < b / gcdI a b := Int.ediv_pos_of_pos_of_dvd hb (by omega) d2
    omega
  · unfold gcdI at hg d1 d2 ⊢
    have e1 : (a / ((Nat.gcd a.natAbs b.natAbs : Nat) : Int)).natAbs = a.natAbs / Nat.gcd a.natAbs b.natAbs := by
      rw [Int.natAbs_ediv_of_dvd d1]
      rfl
    have e2 : (b / ((Nat.gcd a.natAbs b.natAbs : Nat) : Int)).natAbs = b.natAbs / Nat.gcd a.natAbs b.natAbs := by
      rw [Int.natAbs_ediv_of_dvd d2]
      rfl
    rw [e1, e2, Nat.gcd_div_gcd_div_gcd_of_pos_right (by omega)]
    rfl
  · obtain ⟨x, hx⟩ := d1
    obtain ⟨y, hy⟩ := d2
    have q1 : a / gcdI a b = x := (Int.eq_ediv_of_mul_eq_right (by omega) hx.symm).symm
    have q2 : b / gcdI a b = y := (Int.eq_ediv_of_mul_eq_right (by omega) hy.symm).symm
    rw [q1, q2]
    conv => lhs; rw [hy]
    conv => rhs; rw [hx]
    rw [Int.mul_left_comm, Int.mul_left_comm y, Int.mul_comm x y]
/-! ### the law's gcd -/

/-! ### the law's own share -/
noncomputable def Bd (n : Nat) (x : Int) : Prop := x.natAbs < 2 ^ n
theorem Bd.le {n m : Nat} {x : Int} (h : Bd n x) (l : n ≤ m) : Bd m x := Nat.lt_of_lt_of_le h (Nat.pow_le_pow_right (by decide) l)
theorem Bd.mul {n m : Nat} {x y : Int} (h : Bd n x) (g : Bd m y) : Bd (n + m) (x * y) := wide_lt h g
theorem Bd.of_le {n : Nat} {x y : Int} (h : Bd n x) (l : y.natAbs ≤ x.natAbs) : Bd n y := Nat.lt_of_le_of_lt l h
theorem Bd.neg {n : Nat} {x : Int} (h : Bd n x) : Bd n (-x) := by
  unfold Bd
  rw [Int.natAbs_neg]
  exact h
theorem Bd.add {n : Nat} {x y : Int} (h : Bd n x) (g : Bd n y) : Bd (n + 1) (x + y) := by
  unfold Bd at *
  rw [Nat.pow_succ]
  omega
theorem Bd.mulW {n m : Nat} {x y : Int} (h : Bd n x) (g : Bd m y) (hn : n ≤ 400000) (hm : m ≤ 400000) : CMulW x y := wide_mul (a := n + 1) (b := m + 1) (h.le (Nat.le_succ _)) (g.le (Nat.le_succ _)) (by omega) (by omega) (by omega)
theorem Bd.divW {n : Nat} {x y : Int} (h : Bd n y) (h0 : 0 < y) (hn : n < 9000) : CDivW x y := wide_div (b := n + 1) h0 (h.le (Nat.le_succ _)) (by omega) (by omega)
theorem gcdI_bd {n : Nat} {a b : Int} (h : Bd n b) (hb : b ≠ 0) : Bd n (gcdI a b) := h.of_le (by
  unfold gcdI
  exact Nat.le_of_dvd (by omega) (Nat.gcd_dvd_right _ _))
/-! ### fractions -/
theorem isSh_q (q : Rat) : IsSh q.num q.den := by
  refine ⟨by have := q.den_pos; omega, ?_⟩
  unfold gcdI
  rw [Int.natAbs_natCast]
  exact congrArg Int.ofNat q.reduced
theorem divInt_cross {a b : Int} (hb : b ≠ 0) : a * ((Rat.divInt a b).den : Int) = (Rat.divInt a b).num * b := by
  have h : Rat.divInt a b = Rat.divInt (Rat.divInt a b).num ((Rat.divInt a b).den : Int) := (Rat.num_divInt_den _).symm
  exact (Rat.divInt_eq_divInt_iff hb (by have := (Rat.divInt a b).den_pos; omega)).mp h
theorem rep_of {t u : Int} {q : Rat} (h : IsSh t u) (e : t * (q.den : Int) = q.num * u) : t = q.num ∧ u = (q.den : Int) := share_uniq h (isSh_q q) e
theorem rep_divInt {t u a b : Int} (h : IsSh t u) (hb : b ≠ 0) (e : t * b = u * a) : t = (Rat.divInt a b).num ∧ u = ((Rat.divInt a b).den : Int) := by
  have hu : u ≠ 0 := by have := h.1; omega
  have eq : Rat.divInt t u = Rat.divInt a b := (Rat.divInt_eq_divInt_iff hu hb).mpr (by rw [e, Int.mul_comm])
  rw [← eq]
  exact rep_of h (divInt_cross hu)
theorem low_bd {t u a b : Int} (h : IsSh t u) (hb : 0 < b) (e : t * b = u * a) : t.natAbs ≤ a.natAbs ∧ u.natAbs ≤ b.natAbs := by
  obtain ⟨h1, h2, h3, h4⟩ := low_is (a := a) (b := b) hb
  have hu : u ≠ 0 := by have := h.1; omega
  have e1 := rep_divInt h (by omega) e
  have e2 := rep_divInt h1 (by omega) h2
  rw [e1.1, e1.2, ← e2.1, ← e2.2]
  exact ⟨h3, h4⟩
noncomputable def BdQ (n : Nat) (q : Rat) : Prop := Bd n q.num ∧ Bd n (q.den : Int)
theorem BdQ.le {n m : Nat} {q : Rat} (h : BdQ n q) (l : n ≤ m) : BdQ m q := ⟨h.1.le l, h.2.le l⟩
theorem divInt_bd {a b : Int} {n : Nat} (hb : 0 < b) (ha : Bd n a) (hn : Bd n b) : BdQ n (Rat.divInt a b) := by
  have h := low_bd (isSh_q (Rat.divInt a b)) hb (by rw [← divInt_cross (by omega), Int.mul_comm])
  exact ⟨ha.of_le h.1, hn.of_le h.2⟩
theorem den_pos (q : Rat) : (0 : Int) < (q.den : Int) := by have := q.den_pos; omega
theorem add_divInt (p q : Rat) : p + q = Rat.divInt (p.num * q.den + q.num * p.den) (p.den * q.den) := by
  have h := Rat.divInt_add_divInt p.num q.num (d₁ := p.den) (d₂ := q.den) (by have := den_pos p; omega) (by have := den_pos q; omega)
  rw [Rat.num_divInt_den, Rat.num_divInt_den] at h
  exact h
theorem mul_divInt (p q : Rat) : p * q = Rat.divInt (p.num * q.num) (p.den * q.den) := by
  have h := Rat.divInt_mul_divInt p.num q.num (d₁ := p.den) (d₂ := q.den)
  rw [Rat.num_divInt_den, Rat.num_divInt_den] at h
  exact h
theorem BdQ.add {n m : Nat} {p q : Rat} (h : BdQ n p) (g : BdQ m q) : BdQ (n + m + 1) (p + q) := by
  rw [add_divInt]
  refine divInt_bd (Int.mul_pos (den_pos p) (den_pos q)) ?_ ((h.2.mul g.2).le (Nat.le_succ _))
  exact (h.1.mul g.2).add ((g.1.mul h.2).le (by omega))
theorem BdQ.mul {n m : Nat} {p q : Rat} (h : BdQ n p) (g : BdQ m q) : BdQ (n + m) (p * q) := by
  rw [mul_divInt]
  exact divInt_bd (Int.mul_pos (den_pos p) (den_pos q)) (h.1.mul g.1) (h.2.mul g.2)
theorem BdQ.neg {n : Nat} {q : Rat} (h : BdQ n q) : BdQ n (-q) := by
  refine ⟨?_, h.2⟩
  rw [Rat.neg_num]
  exact h.1.neg
theorem BdQ.sub {n m : Nat} {p q : Rat} (h : BdQ n p) (g : BdQ m q) : BdQ (n + m + 1) (p - q) := by
  rw [Rat.sub_eq_add_neg]
  exact h.add g.neg
theorem neg_num (q : Rat) : (-q).num = -q.num := Rat.neg_num q
/-! ### divisors, further -/
theorem cop_iff {a b : Int} : gcdI a b = 1 ↔ ∀ k : Nat, (k : Int) ∣ a → (k : Int) ∣ b → k = 1 := by
  constructor
  · intro h k h1 h2
    have h3 : k ∣ Nat.gcd a.natAbs b.natAbs := Nat.dvd_gcd (Int.ofNat_dvd_left.mp h1) (Int.ofNat_dvd_left.mp h2)
    have h4 : Nat.gcd a.natAbs b.natAbs = 1 := by unfold gcdI at h; omega
    rw [h4] at h3
    exact Nat.dvd_one.mp h3
  · intro h
    have := h (Nat.gcd a.natAbs b.natAbs) (gcdI_dvd_l a b) (gcdI_dvd_r a b)
    unfold gcdI
    rw [this]
    rfl
theorem cop_comm {a b : Int} (h : gcdI a b = 1) : gcdI b a = 1 := cop_iff.mpr fun k h1 h2 => cop_iff.mp h k h2 h1
theorem cop_dvd_l {a a' b : Int} (h : gcdI a b = 1) (d : a' ∣ a) : gcdI a' b = 1 := cop_iff.mpr fun k h1 h2 => cop_iff.mp h k (Int.dvd_trans h1 d) h2
theorem cop_dvd_r {a b b' : Int} (h : gcdI a b = 1) (d : b' ∣ b) : gcdI a b' = 1 := cop_iff.mpr fun k h1 h2 => cop_iff.mp h k h1 (Int.dvd_trans h2 d)
theorem cop_mul_r {a b c : Int} (h : gcdI a b = 1) (g : gcdI a c = 1) : gcdI a (b * c) = 1 := by
  unfold gcdI at *
  rw [Int.natAbs_mul]
  have h1 : Nat.Coprime a.natAbs b.natAbs := by unfold Nat.Coprime; omega
  have h2 : Nat.Coprime a.natAbs c.natAbs := by unfold Nat.Coprime; omega
  have h3 : Nat.Coprime a.natAbs (b.natAbs * c.natAbs) := Nat.Coprime.mul_right h1 h2
  unfold Nat.Coprime at h3
  omega
theorem cop_mul_l {a b c : Int} (h : gcdI a c = 1) (g : gcdI b c = 1) : gcdI (a * b) c = 1 := cop_comm (cop_mul_r (cop_comm h) (cop_comm g))
theorem cop_add {x y a : Int} (h : gcdI x a = 1) (d : a ∣ y) : gcdI (x + y) a = 1 := cop_iff.mpr fun k h1 h2 => cop_iff.mp h k ((Int.dvd_add_left (Int.dvd_trans h2 d)).mp h1) h2
theorem cop_div {a b : Int} (h : b ≠ 0) : gcdI (a / gcdI a b) (b / gcdI a b) = 1 := by
  rcases Int.lt_or_gt_of_ne h with h | h
  · have := (low_is (a := a) (b := -b) (by omega)).1.2
    rw [gcdI_neg_r, Int.neg_ediv_of_dvd (gcdI_dvd_r a b), gcdI_neg_r] at this
    exact this
  · exact (low_is h).1.2
theorem div_mul {g a : Int} (h : g ∣ a) : g * (a / g) = a := Int.mul_ediv_cancel' h
/-! ### sums and products of shares, as the program reckons them -/
theorem plus_one {t u t' u' : Int} (h : IsSh t u) (h' : IsSh t' u') (e : gcdI u u' = 1) : IsSh (t * u' + t' * u) (u * u') := by
  have hu : 0 < u * u' := Int.mul_pos (by have := h.1; omega) (by have := h'.1; omega)
  refine ⟨by omega, cop_mul_r ?_ ?_⟩
  · exact cop_add (cop_mul_l h.2 (cop_comm e)) (Int.dvd_mul_left ..)
  · rw [Int.add_comm]
    exact cop_add (cop_mul_l h'.2 e) (Int.dvd_mul_left ..)
theorem plus_two {t u t' u' d tot g : Int} (h : IsSh t u) (h' : IsSh t' u') (ed : gcdI u u' = d) (et : t * (u' / d) + t' * (u / d) = tot) (eg : gcdI tot d = g) :
    IsSh (tot / g) (u / d * (u' / g)) ∧ (tot / g) * (u * u') = (u / d * (u' / g)) * (t * u' + t' * u) := by
  have hu1 := h.1
  have hu2 := h'.1
  have d0 : 0 < d := by rw [← ed]; exact gcdI_pos (by omega)
  have g0 : 0 < g := by rw [← eg]; exact gcdI_pos (by omega)
  have da : d ∣ u := by rw [← ed]; exact gcdI_dvd_l _ _
  have db : d ∣ u' := by rw [← ed]; exact gcdI_dvd_r _ _
  have gt : g ∣ tot := by rw [← eg]; exact gcdI_dvd_l _ _
  have gd : g ∣ d := by rw [← eg]; exact gcdI_dvd_r _ _
  have hab : gcdI (u / d) (u' / d) = 1 := by rw [← ed]; exact cop_div (by omega)
  have hgd : gcdI (tot / g) (d / g) = 1 := by rw [← eg]; exact cop_div (by omega)
  obtain ⟨a, rfl⟩ := da
  obtain ⟨b, rfl⟩ := db
  obtain ⟨e, rfl⟩ := gd
  obtain ⟨f, rfl⟩ := gt
  have g1 : g ≠ 0 := by omega
  have d1 : g * e ≠ 0 := by omega
  rw [Int.mul_ediv_cancel_left _ d1] at et hab ⊢
  rw [Int.mul_ediv_cancel_left _ d1] at et hab
  rw [Int.mul_ediv_cancel_left _ g1] at hgd ⊢
  rw [Int.mul_ediv_cancel_left _ g1] at hgd
  have eb : g * e * b / g = e * b := by rw [Int.mul_assoc, Int.mul_ediv_cancel_left _ g1]
  rw [eb]
  have e0 : 0 < e := by
    rcases Int.lt_trichotomy e 0 with z | z | z
    · have := Int.mul_neg_of_pos_of_neg g0 z
      omega
    · rw [z] at d0; simp at d0
    · exact z
  have a0 : 0 < a := Int.pos_of_mul_pos_right (a := g * e) (by omega) d0
  have b0 : 0 < b := Int.pos_of_mul_pos_right (a := g * e) (by omega) d0
  have c1 : gcdI f a = 1 := by
    refine cop_dvd_l (a := g * f) ?_ (Int.dvd_mul_left ..)
    rw [← et]
    exact cop_add (cop_mul_l (cop_dvd_r h.2 (Int.dvd_mul_left ..)) (cop_comm hab)) (Int.dvd_mul_left ..)
  have c2 : gcdI f b = 1 := by
    refine cop_dvd_l (a := g * f) ?_ (Int.dvd_mul_left ..)
    rw [← et, Int.add_comm]
    exact cop_add (cop_mul_l (cop_dvd_r h'.2 (Int.dvd_mul_left ..)) hab) (Int.dvd_mul_left ..)
  refine ⟨⟨?_, cop_mul_r c1 (cop_mul_r hgd c2)⟩, ?_⟩
  · have := Int.mul_pos a0 (Int.mul_pos e0 b0)
    omega
  · have : a * (e * b) * (t * (g * e * b) + t' * (g * e * a)) = a * (e * b) * (g * e) * (t * b + t' * a) := by grind
    rw [this, et]
    grind
theorem gcdI_bd2 {n : Nat} {p q : Int} (h : Bd n p) (g : Bd n q) (h0 : ¬ (p = 0 ∧ q = 0)) : Bd n (gcdI p q) := by
  by_cases hq : q = 0
  · have hp : p ≠ 0 := fun z => h0 ⟨z, hq⟩
    refine h.of_le ?_
    unfold gcdI
    exact Nat.le_of_dvd (by omega) (Nat.gcd_dvd_left _ _)
  · exact gcdI_bd g hq
theorem gcdI_comm (p q : Int) : gcdI p q = gcdI q p := by
  unfold gcdI
  rw [Nat.gcd_comm]
theorem gcdI_pos2 {p q : Int} (h0 : ¬ (p = 0 ∧ q = 0)) : 0 < gcdI p q := by
  by_cases hq : q = 0
  · rw [gcdI_comm]
    exact gcdI_pos fun z => h0 ⟨z, hq⟩
  · exact gcdI_pos hq
end
/-! ### the greatest and the least of things that lie in the heap -/
namespace MM
open PySem PySem.Spec
section
variable {prog : Program} {w : PySem.World} {A : Around} {R : Result → Shared → Prop} {I : Addr} {fp wr : List Addr} {n : Nat} {P : Nat → Value → Prop} {St : Nat → Heap → Prop}
/-- two of them compared, over a heap that G speaks of -/
noncomputable def CmpH (G : Heap → Prop) (prog : Program) (w : PySem.World) (A : Around) (op : CmpOp) (P : Nat → Value → Prop) (bt : Nat → Nat → Bool) : Prop :=
  ∀ i j u v (z : Shared) (Q : Value → Shared → Prop) (E : Value → Shared → Prop), G z.heap → P i u → P j v → Q (.bool (bt i j)) z → wpAny (model prog w) A (richCompare op u v) Q E z
theorem max_go (Wk : Walks prog w A.in1 I fp wr n P St) {bt : Nat → Nat → Bool} {G : Heap → Prop} (hc : CmpH G prog w A.in1 .Gt P bt) {S : Addr} (nf : S ∉ fp)
    (hG : ∀ h h' : Heap, G h → (∀ b o, b ∉ wr → b ≠ S → h.get? b = some o → h'.get? b = some o) → G h') :
    ∀ (k j : Nat) (z : Shared) (v : Value) (c : Nat), n - (j + 1) = k → j + 1 ≤ n → St (j + 1) z.heap → G z.heap → P (argBest bt j) v →
    z.heap.get? S = some ⟨.type "list", none, .seq #[v, v] c, #[]⟩ →
    (∀ u h' tk, P (argBest bt (n - 1)) u → (∀ b o, b ∉ wr → b ≠ S → z.heap.get? b = some o → h'.get? b = some o) → R (.ok (.ret u)) { z with heap := h', toks := tk }) →
    codeAny (model prog w) A (.builtin "max.loop" ⟨[.ref I, .none, .ref S], []⟩) R z
  | 0, j, z, v, c, hk, hj, st, g, pv, hS, hR => by
    have nw : S ∉ wr := fun x => nf (Wk.sub _ x)
    have ej : j + 1 = n := by omega
    refine codeAny_builtin F.entry_max_loop ?_
    rw [Around.under_plainId F.plain_max_loop _]
    refine wpAny_bind (wpAny_seqItems hS rfl ?_)
    refine wpAny_bind (wpAny_tryCatch (Wk.done z _ _ (ej ▸ st) fun g1 tk kp => wpAny_bind ?_))
    have hS1 := kp S _ nw hS
    refine wpAny_updateSeq hS1 rfl (wpAny_bind (wpAny_letGo (wpAny_pure (hR v _ tk (by rw [← ej]; exact pv) fun b o h1 h2 e => ?_))))
    rw [Heap.get?_update_other _ _ (Ne.symm h2)]
    exact kp b o h1 e
  | k + 1, j, z, v, c, hk, hj, st, g, pv, hS, hR => by
    have nw : S ∉ wr := fun x => nf (Wk.sub _ x)
    have lt : j + 1 < n := by omega
    have hnm : (toString "max" ++ toString ".loop" : String) = "max.loop" := by decide
    refine codeAny_builtin F.entry_max_loop ?_
    rw [Around.under_plainId F.plain_max_loop _]
    refine wpAny_bind (wpAny_seqItems hS rfl ?_)
    refine wpAny_bind (wpAny_tryCatch (Wk.item (j + 1) z _ _ lt st fun u g1 tk pu st1 kp => ?_))
    have hS1 := kp S _ nw hS
    have G1 := hG _ g1 g fun b o h1 _ e => kp b o h1 e
    show wpAny (model prog w) A.in1 (tryCatch (holding [u, u] (richCompare .Gt u v >>= _)) _ >>= _) _ _ _
    refine wpAny_bind (wpAny_tryCatch (wpAny_holding (wpAny_bind (hc (j + 1) (argBest bt j) u v _ _ _ G1 pu pv ?_))))
    refine wpAny_bind (wpAny_holding (wpAny_truthy_bool (wpAny_bind (wpAny_letGo (wpAny_pure ?_)))))
    cases eb : bt (j + 1) (argBest bt j) with
    | true =>
      rw [if_pos rfl]
      refine wpAny_bind (wpAny_updateSeq hS1 rfl (wpAny_bind (wpAny_letGo ?_)))
      rw [hnm]
      have oth : ∀ (f : Obj → Obj) (b : Addr) (o : Obj), b ≠ S → g1.get? b = some o → (g1.update S f).get? b = some o := fun f b o h2 e => by
        rw [Heap.get?_update_other _ _ (Ne.symm h2)]
        exact e
      refine wpAny_pure ⟨plainId_quiet F.plain_max_loop _, max_go Wk hc nf hG k (j + 1) _ u _ (by omega) lt (Wk.frame _ _ _ st1 fun b hb o e => oth _ b o (fun x => nf (x ▸ hb)) e) (hG _ _ G1 fun b o _ h2 e => oth _ b o h2 e) (by simp only [argBest, eb, if_true]; exact pu) (Heap.get?_update_self _ hS1 rfl) fun u' g2 tk2 p2 kp2 => ?_⟩
      exact hR u' g2 tk2 p2 fun b o h1 h2 e => kp2 b o h1 h2 (oth _ b o h2 (kp b o h1 e))
    | false =>
      rw [if_neg Bool.false_ne_true]
      refine wpAny_bind (wpAny_letGo ?_)
      rw [hnm]
      refine wpAny_pure ⟨plainId_quiet F.plain_max_loop _, max_go Wk hc nf hG k (j + 1) _ v c (by omega) lt st1 G1 (by simp only [argBest, eb, Bool.false_eq_true, if_false]; exact pv) hS1 fun u' g2 tk2 p2 kp2 => ?_⟩
      exact hR u' g2 tk2 p2 fun b o h1 h2 e => kp2 b o h1 h2 (kp b o h1 e)
theorem max_first (Wk : Walks prog w A.in1 I fp wr n P St) {bt : Nat → Nat → Bool} {G : Heap → Prop} (hc : CmpH G prog w A.in1 .Gt P bt) {S : Addr} (nf : S ∉ fp)
    (hG : ∀ h h' : Heap, G h → (∀ b o, b ∉ wr → b ≠ S → h.get? b = some o → h'.get? b = some o) → G h') (n0 : 0 < n) {z : Shared} {c : Nat} (st : St 0 z.heap) (g : G z.heap)
    (hS : z.heap.get? S = some ⟨.type "list", none, .seq #[] c, #[]⟩)
    (hR : ∀ u h' tk, P (argBest bt (n - 1)) u → (∀ b o, b ∉ wr → b ≠ S → z.heap.get? b = some o → h'.get? b = some o) → R (.ok (.ret u)) { z with heap := h', toks := tk }) :
    codeAny (model prog w) A (.builtin "max.loop" ⟨[.ref I, .none, .ref S], []⟩) R z := by
  have nw : S ∉ wr := fun x => nf (Wk.sub _ x)
  have hnm : (toString "max" ++ toString ".loop" : String) = "max.loop" := by decide
  refine codeAny_builtin F.entry_max_loop ?_
  rw [Around.under_plainId F.plain_max_loop _]
  refine wpAny_bind (wpAny_seqItems hS rfl ?_)
  refine wpAny_bind (wpAny_tryCatch (Wk.item 0 z _ _ n0 st fun u g1 tk pu st1 kp => ?_))
  have hS1 := kp S _ nw hS
  have G1 := hG _ g1 g fun b o h1 _ e => kp b o h1 e
  have oth : ∀ (f : Obj → Obj) (b : Addr) (o : Obj), b ≠ S → g1.get? b = some o → (g1.update S f).get? b = some o := fun f b o h2 e => by
    rw [Heap.get?_update_other _ _ (Ne.symm h2)]
    exact e
  show wpAny (model prog w) A.in1 (updateSeq S (fun _ => #[u, u]) >>= _) _ _ _
  refine wpAny_bind (wpAny_updateSeq hS1 rfl ?_)
  rw [hnm]
  refine wpAny_pure ⟨plainId_quiet F.plain_max_loop _, max_go Wk hc nf hG _ 0 _ u _ rfl n0 (Wk.frame _ _ _ st1 fun b hb o e => oth _ b o (fun x => nf (x ▸ hb)) e) (hG _ _ G1 fun b o _ h2 e => oth _ b o h2 e) pu (Heap.get?_update_self _ hS1 rfl) fun u' g2 tk2 p2 kp2 => ?_⟩
  exact hR u' g2 tk2 p2 fun b o h1 h2 e => kp2 b o h1 h2 (oth _ b o h2 (kp b o h1 e))
theorem max_call {l : Addr} {its : Array Value} {bt : Nat → Nat → Bool} {G : Heap → Prop} {Q : Value → Shared → Prop} {E : Value → Shared → Prop} {z : Shared} (hh : A.handled = none) (hl : z.heap.IsList l its) (n0 : 0 < its.size) (g : G z.heap)
    (hG : ∀ h h' : Heap, G h → (∀ b o, b < z.heap.objs.size → h.get? b = some o → h'.get? b = some o) → G h')
    (hc : CmpH G prog w A.in1 .Gt (fun i v => its[i]? = some v) bt)
    (hQ : ∀ u h' tk, its[argBest bt (its.size - 1)]? = some u → (∀ b o, z.heap.get? b = some o → h'.get? b = some o) → Q u { z with heap := h', toks := tk }) :
    wpAny (model prog w) A (call (.builtin "max") [.ref l]) Q E z := by
  have hnm : (toString "max" ++ toString ".loop" : String) = "max.loop" := by decide
  refine call_function_tree F.kind_max F.plain_max F.entry_max (F.args_max1 _) ?_
  refine wpAny_bind (wpAny_of_eq (show Builtin.Builtins.bindParams "max" ["key", "default"] 0 ⟨[], []⟩ = pure [none, none] from rfl) (wpAny_bind (wpAny_pure ?_)))
  have llt : l < z.heap.objs.size := by obtain ⟨_, e, _⟩ := hl; exact Heap.lt_size e
  refine wpAny_bind (wpAny_pyIter_list hl (wpAny_bind (wpAny_newObj_type ?_)))
  rw [hnm]
  obtain ⟨z1, ez1⟩ : ∃ z1, z.heap.push ⟨.type "list_iterator", none, .fields #[.ref l, .int 0 0], #[]⟩ = z1 := ⟨_, rfl⟩
  have sz1 : z1.objs.size = z.heap.objs.size + 1 := by rw [← ez1, Heap.size_push]
  have k1 : ∀ b o, z.heap.get? b = some o → z1.get? b = some o := fun b o e => by rw [← ez1]; exact Heap.get?_push_of_some _ e
  have hne : l ≠ z.heap.objs.size := Nat.ne_of_lt llt
  have hl1 : z1.IsList l its := by rw [← ez1]; exact hl.push _
  have it1 : z1.IsListIter z.heap.objs.size l 0 := by rw [← ez1]; exact ⟨_, Heap.get?_push_size _ rfl, rfl, rfl⟩
  refine wpAny_pure ⟨plainId_quiet F.plain_max_loop _, ?_⟩
  have fpl : ∀ b ∈ [z.heap.objs.size, l], b < z1.objs.size := fun b hb => by
    simp only [List.mem_cons, List.not_mem_nil, or_false] at hb
    rw [sz1]
    rcases hb with x | x
    · rw [x]
      exact Nat.lt_succ_self _
    · rw [x]
      exact Nat.lt_succ_of_lt llt
  have neS : ∀ b : Addr, b < z.heap.objs.size → b ≠ z1.objs.size := fun b lb x => by
    rw [x, sz1] at lb
    exact Nat.not_succ_lt_self lb
  have Wk := Walks.list (prog := prog) (w := w) (A := A.in1) hh z.heap.objs.size l hne its
  have G0 := hG _ z1 g fun b o _ e => k1 b o e
  have pz : z.heap.push ⟨.type "list_iterator", none, .fields #[.ref l, .int 0 0], #[]⟩ = z1 := ez1
  show codeAny (model prog w) A (.builtin "max.loop" ⟨[.ref z.heap.objs.size, .none, .ref (z.heap.push ⟨.type "list_iterator", none, .fields #[.ref l, .int 0 0], #[]⟩).objs.size], []⟩) _ { z with heap := (z.heap.push ⟨.type "list_iterator", none, .fields #[.ref l, .int 0 0], #[]⟩).push ⟨.type "list", none, .seq #[] 0, #[]⟩ }
  rw [pz]
  have k2 : ∀ b o, z1.get? b = some o → (z1.push ⟨.type "list", none, .seq #[] 0, #[]⟩).get? b = some o := fun b o e => Heap.get?_push_of_some _ e
  refine max_first (S := z1.objs.size) Wk hc (fun m => Nat.lt_irrefl _ (fpl _ m)) (fun h h' gh kp => hG h h' gh fun b o lb e => kp b o (fun m => ?_) (neS b lb) e) n0 ?_ (hG _ _ G0 fun b o _ e => k2 b o e) (Heap.get?_push_size _ rfl) fun u h' tk pu kp => hQ u h' tk pu fun b o e => kp b o (fun m => ?_) (neS b (Heap.lt_size e)) (k2 b o (k1 b o e))
  · rw [List.mem_singleton.mp m] at lb
    exact Nat.lt_irrefl _ lb
  · obtain ⟨h1, h2⟩ := (show z1.IsListIter z.heap.objs.size l 0 ∧ z1.IsList l its from ⟨it1, hl1⟩)
    exact ⟨h1.at fun o e => k2 _ o e, h2.push _⟩
  · have := Heap.lt_size e
    rw [List.mem_singleton.mp m] at this
    exact Nat.lt_irrefl _ this
theorem min_go (Wk : Walks prog w A.in1 I fp wr n P St) {bt : Nat → Nat → Bool} {G : Heap → Prop} (hc : CmpH G prog w A.in1 .Lt P bt) {S : Addr} (nf : S ∉ fp)
    (hG : ∀ h h' : Heap, G h → (∀ b o, b ∉ wr → b ≠ S → h.get? b = some o → h'.get? b = some o) → G h') :
    ∀ (k j : Nat) (z : Shared) (v : Value) (c : Nat), n - (j + 1) = k → j + 1 ≤ n → St (j + 1) z.heap → G z.heap → P (argBest bt j) v →
    z.heap.get? S = some ⟨.type "list", none, .seq #[v, v] c, #[]⟩ →
    (∀ u h' tk, P (argBest bt (n - 1)) u → (∀ b o, b ∉ wr → b ≠ S → z.heap.get? b = some o → h'.get? b = some o) → R (.ok (.ret u)) { z with heap := h', toks := tk }) →
    codeAny (model prog w) A (.builtin "min.loop" ⟨[.ref I, .none, .ref S], []⟩) R z
  | 0, j, z, v, c, hk, hj, st, g, pv, hS, hR => by
    have nw : S ∉ wr := fun x => nf (Wk.sub _ x)
    have ej : j + 1 = n := by omega
    refine codeAny_builtin F.entry_min_loop ?_
    rw [Around.under_plainId F.plain_min_loop _]
    refine wpAny_bind (wpAny_seqItems hS rfl ?_)
    refine wpAny_bind (wpAny_tryCatch (Wk.done z _ _ (ej ▸ st) fun g1 tk kp => wpAny_bind ?_))
    have hS1 := kp S _ nw hS
    refine wpAny_updateSeq hS1 rfl (wpAny_bind (wpAny_letGo (wpAny_pure (hR v _ tk (by rw [← ej]; exact pv) fun b o h1 h2 e => ?_))))
    rw [Heap.get?_update_other _ _ (Ne.symm h2)]
    exact kp b o h1 e
  | k + 1, j, z, v, c, hk, hj, st, g, pv, hS, hR => by
    have nw : S ∉ wr := fun x => nf (Wk.sub _ x)
    have lt : j + 1 < n := by omega
    have hnm : (toString "min" ++ toString ".loop" : String) = "min.loop" := by decide
    refine codeAny_builtin F.entry_min_loop ?_
    rw [Around.under_plainId F.plain_min_loop _]
    refine wpAny_bind (wpAny_seqItems hS rfl ?_)
    refine wpAny_bind (wpAny_tryCatch (Wk.item (j + 1) z _ _ lt st fun u g1 tk pu st1 kp => ?_))
    have hS1 := kp S _ nw hS
    have G1 := hG _ g1 g fun b o h1 _ e => kp b o h1 e
    show wpAny (model prog w) A.in1 (tryCatch (holding [u, u] (richCompare .Lt u v >>= _)) _ >>= _) _ _ _
    refine wpAny_bind (wpAny_tryCatch (wpAny_holding (wpAny_bind (hc (j + 1) (argBest bt j) u v _ _ _ G1 pu pv ?_))))
    refine wpAny_bind (wpAny_holding (wpAny_truthy_bool (wpAny_bind (wpAny_letGo (wpAny_pure ?_)))))
    cases eb : bt (j + 1) (argBest bt j) with
    | true =>
      rw [if_pos rfl]
      refine wpAny_bind (wpAny_updateSeq hS1 rfl (wpAny_bind (wpAny_letGo ?_)))
      rw [hnm]
      have oth : ∀ (f : Obj → Obj) (b : Addr) (o : Obj), b ≠ S → g1.get? b = some o → (g1.update S f).get? b = some o := fun f b o h2 e => by
        rw [Heap.get?_update_other _ _ (Ne.symm h2)]
        exact e
      refine wpAny_pure ⟨plainId_quiet F.plain_min_loop _, min_go Wk hc nf hG k (j + 1) _ u _ (by omega) lt (Wk.frame _ _ _ st1 fun b hb o e => oth _ b o (fun x => nf (x ▸ hb)) e) (hG _ _ G1 fun b o _ h2 e => oth _ b o h2 e) (by simp only [argBest, eb, if_true]; exact pu) (Heap.get?_update_self _ hS1 rfl) fun u' g2 tk2 p2 kp2 => ?_⟩
      exact hR u' g2 tk2 p2 fun b o h1 h2 e => kp2 b o h1 h2 (oth _ b o h2 (kp b o h1 e))
    | false =>
      rw [if_neg Bool.false_ne_true]
      refine wpAny_bind (wpAny_letGo ?_)
      rw [hnm]
      refine wpAny_pure ⟨plainId_quiet F.plain_min_loop _, min_go Wk hc nf hG k (j + 1) _ v c (by omega) lt st1 G1 (by simp only [argBest, eb, Bool.false_eq_true, if_false]; exact pv) hS1 fun u' g2 tk2 p2 kp2 => ?_⟩
      exact hR u' g2 tk2 p2 fun b o h1 h2 e => kp2 b o h1 h2 (kp b o h1 e)
theorem min_first (Wk : Walks prog w A.in1 I fp wr n P St) {bt : Nat → Nat → Bool} {G : Heap → Prop} (hc : CmpH G prog w A.in1 .Lt P bt) {S : Addr} (nf : S ∉ fp)
    (hG : ∀ h h' : Heap, G h → (∀ b o, b ∉ wr → b ≠ S → h.get? b = some o → h'.get? b = some o) → G h') (n0 : 0 < n) {z : Shared} {c : Nat} (st : St 0 z.heap) (g : G z.heap)
    (hS : z.heap.get? S = some ⟨.type "list", none, .seq #[] c, #[]⟩)
    (hR : ∀ u h' tk, P (argBest bt (n - 1)) u → (∀ b o, b ∉ wr → b ≠ S → z.heap.get? b = some o → h'.get? b = some o) → R (.ok (.ret u)) { z with heap := h', toks := tk }) :
    codeAny (model prog w) A (.builtin "min.loop" ⟨[.ref I, .none, .ref S], []⟩) R z := by
  have nw : S ∉ wr := fun x => nf (Wk.sub _ x)
  have hnm : (toString "min" ++ toString ".loop" : String) = "min.loop" := by decide
  refine codeAny_builtin F.entry_min_loop ?_
  rw [Around.under_plainId F.plain_min_loop _]
  refine wpAny_bind (wpAny_seqItems hS rfl ?_)
  refine wpAny_bind (wpAny_tryCatch (Wk.item 0 z _ _ n0 st fun u g1 tk pu st1 kp => ?_))
  have hS1 := kp S _ nw hS
  have G1 := hG _ g1 g fun b o h1 _ e => kp b o h1 e
  have oth : ∀ (f : Obj → Obj) (b : Addr) (o : Obj), b ≠ S → g1.get? b = some o → (g1.update S f).get? b = some o := fun f b o h2 e => by
    rw [Heap.get?_update_other _ _ (Ne.symm h2)]
    exact e
  show wpAny (model prog w) A.in1 (updateSeq S (fun _ => #[u, u]) >>= _) _ _ _
  refine wpAny_bind (wpAny_updateSeq hS1 rfl ?_)
  rw [hnm]
  refine wpAny_pure ⟨plainId_quiet F.plain_min_loop _, min_go Wk hc nf hG _ 0 _ u _ rfl n0 (Wk.frame _ _ _ st1 fun b hb o e => oth _ b o (fun x => nf (x ▸ hb)) e) (hG _ _ G1 fun b o _ h2 e => oth _ b o h2 e) pu (Heap.get?_update_self _ hS1 rfl) fun u' g2 tk2 p2 kp2 => ?_⟩
  exact hR u' g2 tk2 p2 fun b o h1 h2 e => kp2 b o h1 h2 (oth _ b o h2 (kp b o h1 e))
theorem min_call {l : Addr} {its : Array Value} {bt : Nat → Nat → Bool} {G : Heap → Prop} {Q : Value → Shared → Prop} {E : Value → Shared → Prop} {z : Shared} (hh : A.handled = none) (hl : z.heap.IsList l its) (n0 : 0 < its.size) (g : G z.heap)
    (hG : ∀ h h' : Heap, G h → (∀ b o, b < z.heap.objs.size → h.get? b = some o → h'.get? b = some o) → G h')
    (hc : CmpH G prog w A.in1 .Lt (fun i v => its[i]? = some v) bt)
    (hQ : ∀ u h' tk, its[argBest bt (its.size - 1)]? = some u → (∀ b o, z.heap.get? b = some o → h'.get? b = some o) → Q u { z with heap := h', toks := tk }) :
    wpAny (model prog w) A (call (.builtin "min") [.ref l]) Q E z := by
  have hnm : (toString "min" ++ toString ".loop" : String) = "min.loop" := by decide
  refine call_function_tree F.kind_min F.plain_min F.entry_min (F.args_min1 _) ?_
  refine wpAny_bind (wpAny_of_eq (show Builtin.Builtins.bindParams "min" ["key", "default"] 0 ⟨[], []⟩ = pure [none, none] from rfl) (wpAny_bind (wpAny_pure ?_)))
  have llt : l < z.heap.objs.size := by obtain ⟨_, e, _⟩ := hl; exact Heap.lt_size e
  refine wpAny_bind (wpAny_pyIter_list hl (wpAny_bind (wpAny_newObj_type ?_)))
  rw [hnm]
  obtain ⟨z1, ez1⟩ : ∃ z1, z.heap.push ⟨.type "list_iterator", none, .fields #[.ref l, .int 0 0], #[]⟩ = z1 := ⟨_, rfl⟩
  have sz1 : z1.objs.size = z.heap.objs.size + 1 := by rw [← ez1, Heap.size_push]
  have k1 : ∀ b o, z.heap.get? b = some o → z1.get? b = some o := fun b o e => by rw [← ez1]; exact Heap.get?_push_of_some _ e
  have hne : l ≠ z.heap.objs.size := Nat.ne_of_lt llt
  have hl1 : z1.IsList l its := by rw [← ez1]; exact hl.push _
  have it1 : z1.IsListIter z.heap.objs.size l 0 := by rw [← ez1]; exact ⟨_, Heap.get?_push_size _ rfl, rfl, rfl⟩
  refine wpAny_pure ⟨plainId_quiet F.plain_min_loop _, ?_⟩
  have fpl : ∀ b ∈ [z.heap.objs.size, l], b < z1.objs.size := fun b hb => by
    simp only [List.mem_cons, List.not_mem_nil, or_false] at hb
    rw [sz1]
    rcases hb with x | x
    · rw [x]
      exact Nat.lt_succ_self _
    · rw [x]
      exact Nat.lt_succ_of_lt llt
  have neS : ∀ b : Addr, b < z.heap.objs.size → b ≠ z1.objs.size := fun b lb x => by
    rw [x, sz1] at lb
    exact Nat.not_succ_lt_self lb
  have Wk := Walks.list (prog := prog) (w := w) (A := A.in1) hh z.heap.objs.size l hne its
  have G0 := hG _ z1 g fun b o _ e => k1 b o e
  have pz : z.heap.push ⟨.type "list_iterator", none, .fields #[.ref l, .int 0 0], #[]⟩ = z1 := ez1
  show codeAny (model prog w) A (.builtin "min.loop" ⟨[.ref z.heap.objs.size, .none, .ref (z.heap.push ⟨.type "list_iterator", none, .fields #[.ref l, .int 0 0], #[]⟩).objs.size], []⟩) _ { z with heap := (z.heap.push ⟨.type "list_iterator", none, .fields #[.ref l, .int 0 0], #[]⟩).push ⟨.type "list", none, .seq #[] 0, #[]⟩ }
  rw [pz]
  have k2 : ∀ b o, z1.get? b = some o → (z1.push ⟨.type "list", none, .seq #[] 0, #[]⟩).get? b = some o := fun b o e => Heap.get?_push_of_some _ e
  refine min_first (S := z1.objs.size) Wk hc (fun m => Nat.lt_irrefl _ (fpl _ m)) (fun h h' gh kp => hG h h' gh fun b o lb e => kp b o (fun m => ?_) (neS b lb) e) n0 ?_ (hG _ _ G0 fun b o _ e => k2 b o e) (Heap.get?_push_size _ rfl) fun u h' tk pu kp => hQ u h' tk pu fun b o e => kp b o (fun m => ?_) (neS b (Heap.lt_size e)) (k2 b o (k1 b o e))
  · rw [List.mem_singleton.mp m] at lb
    exact Nat.lt_irrefl _ lb
  · obtain ⟨h1, h2⟩ := (show z1.IsListIter z.heap.objs.size l 0 ∧ z1.IsList l its from ⟨it1, hl1⟩)
    exact ⟨h1.at fun o e => k2 _ o e, h2.push _⟩
  · have := Heap.lt_size e
    rw [List.mem_singleton.mp m] at this
    exact Nat.lt_irrefl _ this
end
end MM
/-! ### tuples of numbers, and of such tuples, by their order -/
namespace MM
open PySem PySem.Spec PySem.SeqAt Ob
inductive KT where
  | n (i : Int)
  | t (l : List KT)
noncomputable def KAt (h : Heap) : Nat → Value → KT → Prop
  | _, v, .n i => ∃ tk, v = .int i tk
  | 0, _, .t _ => False
  | d + 1, v, .t l => ∃ a items, v = .ref a ∧ h.IsTuple a items ∧ items.size = l.length ∧ ∀ (j : Nat) u x, items[j]? = some u → l[j]? = some x → KAt h d u x
noncomputable def eqL (f : KT → KT → Bool) : List KT → List KT → Bool
  | [], [] => true
  | x :: xs, y :: ys => f x y && eqL f xs ys
  | _, _ => false
noncomputable def ltL (e f : KT → KT → Bool) : List KT → List KT → Bool
  | x :: xs, y :: ys => if e x y = true then ltL e f xs ys else f x y
  | _, _ => false
noncomputable def eqK : Nat → KT → KT → Bool
  | _, .n i, .n j => i == j
  | d + 1, .t a, .t b => eqL (eqK d) a b
  | _, _, _ => false
noncomputable def ltK : Nat → KT → KT → Bool
  | _, .n i, .n j => decide (i < j)
  | d + 1, .t a, .t b => ltL (eqK d) (ltK d) a b
  | _, _, _ => false
noncomputable def shp : Nat → KT → KT → Prop
  | _, .n _, .n _ => True
  | d + 1, .t a, .t b => a.length = b.length ∧ ∀ (j : Nat) x y, a[j]? = some x → b[j]? = some y → shp d x y
  | _, _, _ => False
noncomputable def z0 : KT := .n 0
theorem eqL_range (f : KT → KT → Bool) : ∀ a b : List KT, a.length = b.length → ((List.range a.length).all fun j => f (a.getD j z0) (b.getD j z0)) = eqL f a b
  | [], [], _ => rfl
  | x :: xs, y :: ys, h => by
    have ih := eqL_range f xs ys (by simpa using h)
    rw [List.length_cons, List.range_succ_eq_map, List.all_cons, List.all_map]
    show (f x y && (List.range xs.length).all fun j => f (xs.getD j z0) (ys.getD j z0)) = _
    rw [ih]
    rfl
theorem lex_ltL (e f : KT → KT → Bool) : ∀ (a b : List KT) (i : Nat) (E F : Nat → Bool), a.length = b.length → (∀ j, E (i + j) = e (a.getD j z0) (b.getD j z0)) → (∀ j, F (i + j) = f (a.getD j z0) (b.getD j z0)) → lexAt E F false i a.length = ltL e f a b
  | [], [], _, _, _, _, _, _ => rfl
  | x :: xs, y :: ys, i, E, F, h, hE, hF => by
    have h0 : E i = e x y := hE 0
    have h1 : F i = f x y := hF 0
    have ih := lex_ltL e f xs ys (i + 1) E F (by simpa using h) (fun j => by rw [show i + 1 + j = i + (j + 1) by omega]; exact hE (j + 1)) fun j => by rw [show i + 1 + j = i + (j + 1) by omega]; exact hF (j + 1)
    show (if E i = true then lexAt E F false (i + 1) xs.length else F i) = if e x y = true then ltL e f xs ys else f x y
    rw [h0, h1, ih]
theorem eqL_all {f : KT → KT → Bool} : ∀ {a b : List KT}, a.length = b.length → (∀ (j : Nat) x y, a[j]? = some x → b[j]? = some y → f x y = true) → eqL f a b = true
  | [], [], _, _ => rfl
  | x :: xs, y :: ys, h, g => by
    show (f x y && eqL f xs ys) = true
    rw [g 0 x y rfl rfl, eqL_all (by simpa using h) fun j u v hu hv => g (j + 1) u v hu hv]
    rfl
theorem eqL_symm {f g : KT → KT → Bool} (h : ∀ x y, f x y = g y x) : ∀ a b : List KT, eqL f a b = eqL g b a
  | [], [] => rfl
  | [], _ :: _ => rfl
  | _ :: _, [] => rfl
  | x :: xs, y :: ys => by
    show (f x y && eqL f xs ys) = (g y x && eqL g ys xs)
    rw [h, eqL_symm h xs ys]
theorem eqK_symm : ∀ (d : Nat) (x y : KT), eqK d x y = eqK d y x
  | d, .n i, .n j => by
    have e : ∀ i j : Int, eqK d (.n i) (.n j) = (i == j) := fun i j => by cases d <;> rfl
    rw [e, e]
    exact Bool.beq_comm
  | 0, .n _, .t _ => rfl
  | 0, .t _, .n _ => rfl
  | 0, .t _, .t _ => rfl
  | d + 1, .n _, .t _ => rfl
  | d + 1, .t _, .n _ => rfl
  | d + 1, .t a, .t b => eqL_symm (eqK_symm d) a b
theorem kat_same {h : Heap} : ∀ (d : Nat) (u : Value) (x y : KT), KAt h d u x → KAt h d u y → eqK d x y = true
  | d, u, .n i, .n j, hx, hy => by
    have e : ∀ d, eqK d (.n i) (.n j) = (i == j) := fun d => by cases d <;> rfl
    rw [e]
    cases d <;> (obtain ⟨_, rfl⟩ := hx; obtain ⟨_, q⟩ := hy; cases q; simp)
  | 0, u, .t _, _, hx, _ => hx.elim
  | 0, u, _, .t _, _, hy => by cases hy
  | d + 1, u, .n i, .t b, hx, hy => by
    obtain ⟨_, rfl⟩ := hx
    obtain ⟨_, _, q, _⟩ := hy
    cases q
  | d + 1, u, .t a, .n j, hx, hy => by
    obtain ⟨_, rfl⟩ := hy
    obtain ⟨_, _, q, _⟩ := hx
    cases q
  | d + 1, u, .t a, .t b, hx, hy => by
    obtain ⟨p, its, rfl, ⟨o, ho, _, n, hd⟩, hl, hi⟩ := hx
    obtain ⟨p', its', q, ⟨o', ho', _, n', hd'⟩, hl', hi'⟩ := hy
    cases q
    rw [ho] at ho'
    cases ho'
    rw [hd] at hd'
    have e : its = its' := by injection hd'
    subst e
    refine eqL_all (hl.symm.trans hl') fun j x y hx hy => ?_
    have hj : j < its.size := by
      rw [hl]
      exact (List.getElem?_eq_some_iff.mp hx).1
    exact kat_same d its[j] x y (hi j _ x (Array.getElem?_eq_getElem hj) hx) (hi' j _ y (Array.getElem?_eq_getElem hj) hy)
theorem cmpK : ∀ (d : Nat) (x y : KT) (u v : Value) (A : Around) (s : Shared), KAt s.heap d u x → KAt s.heap d v y → shp d x y → A.units + d < cLine →
    EqAt A s u v (eqK d x y) ∧ RcOp .Gt A s u v (ltK d y x) ∧ RcOp .Lt A s u v (ltK d x y)
  | d, .n i, .n j, u, v, A, s, hx, hy, _, _ => by
    have e1 : eqK d (.n i) (.n j) = (i == j) := by cases d <;> rfl
    have e2 : ltK d (.n j) (.n i) = decide (j < i) := by cases d <;> rfl
    have e3 : ltK d (.n i) (.n j) = decide (i < j) := by cases d <;> rfl
    rw [e1, e2, e3]
    obtain ⟨t, rfl⟩ : ∃ t, u = .int i t := by cases d <;> exact hx
    obtain ⟨t', rfl⟩ : ∃ t', v = .int j t' := by cases d <;> exact hy
    exact ⟨EqAt.int_int i t j t', RcOp.gt_int i j t t', RcOp.lt_int i j t t'⟩
  | 0, .t _, _, _, _, _, _, hx, _, _, _ => hx.elim
  | 0, .n _, .t _, _, _, _, _, _, hy, _, _ => by cases hy
  | d + 1, .n _, .t _, _, _, _, _, _, _, hs, _ => hs.elim
  | d + 1, .t _, .n _, _, _, _, _, _, _, hs, _ => hs.elim
  | d + 1, .t a, .t b, u, v, A, s, hx, hy, hs, hu => by
    have hx0 := hx
    have hy0 := hy
    obtain ⟨p, its, rfl, hp, hl, hi⟩ := hx
    obtain ⟨q, its', rfl, hq, hl', hi'⟩ := hy
    obtain ⟨hlen, hsh⟩ := hs
    have hsz : its.size = its'.size := by rw [hl, hl', hlen]
    have item : ∀ j (h1 : j < its.size) (h2 : j < its'.size), EqAt A.in1 s its[j] its'[j] (eqK d (a.getD j z0) (b.getD j z0)) ∧ RcOp .Gt A.in1 s its[j] its'[j] (ltK d (b.getD j z0) (a.getD j z0)) ∧ RcOp .Lt A.in1 s its[j] its'[j] (ltK d (a.getD j z0) (b.getD j z0)) := fun j h1 h2 => by
      have ja : j < a.length := by rw [← hl]; exact h1
      have jb : j < b.length := by rw [← hl']; exact h2
      have ea : a.getD j z0 = a[j] := by rw [List.getD_eq_getElem?_getD, List.getElem?_eq_getElem ja]; rfl
      have eb : b.getD j z0 = b[j] := by rw [List.getD_eq_getElem?_getD, List.getElem?_eq_getElem jb]; rfl
      rw [ea, eb]
      exact cmpK d a[j] b[j] its[j] its'[j] A.in1 s (hi j _ _ (Array.getElem?_eq_getElem h1) (List.getElem?_eq_getElem ja)) (hi' j _ _ (Array.getElem?_eq_getElem h2) (List.getElem?_eq_getElem jb)) (hsh j _ _ (List.getElem?_eq_getElem ja) (List.getElem?_eq_getElem jb)) (by show A.units + 1 + d < cLine; omega)
    have hu0 : A.units < cLine := by omega
    have hmin : min its.size its'.size = a.length := by rw [← hsz, Nat.min_self, hl]
    refine ⟨?_, ?_, ?_⟩
    · by_cases hne : p = q
      · subst hne
        rw [kat_same (d + 1) (.ref p) (.t a) (.t b) hx0 hy0]
        exact EqAt.same _
      · have h := RcAt.tuples (A := A) (e := fun j => eqK d (a.getD j z0) (b.getD j z0)) hp hq hu0 fun j h1 h2 => (item j h1 h2).1
        rw [hmin, eqL_range (eqK d) a b hlen, hsz, beq_self_eq_true, Bool.and_true] at h
        exact EqAt.of_refs hne h
    · have h := RcOp.tuples_gt (A := A) (e := fun j => eqK d (a.getD j z0) (b.getD j z0)) (r := fun j => ltK d (b.getD j z0) (a.getD j z0)) hp hq hu0 (fun j h1 h2 => (item j h1 h2).1) fun j h1 h2 _ => (item j h1 h2).2.1
      have hz : decide (its.size > its'.size) = false := decide_eq_false (by omega)
      have hsym : ∀ j, eqK d (a.getD j z0) (b.getD j z0) = eqK d (b.getD j z0) (a.getD j z0) := fun j => eqK_symm d _ _
      rw [hmin, hz, hlen, lex_ltL (eqK d) (ltK d) b a 0 _ _ hlen.symm (fun j => by rw [Nat.zero_add]; exact hsym j) fun j => by rw [Nat.zero_add]] at h
      exact h
    · have h := RcOp.tuples_lt (A := A) (e := fun j => eqK d (a.getD j z0) (b.getD j z0)) (r := fun j => ltK d (a.getD j z0) (b.getD j z0)) hp hq hu0 (fun j h1 h2 => (item j h1 h2).1) fun j h1 h2 _ => (item j h1 h2).2.2
      have hz : decide (its.size < its'.size) = false := decide_eq_false (by omega)
      rw [hmin, hz, lex_ltL (eqK d) (ltK d) a b 0 _ _ hlen (fun j => by rw [Nat.zero_add]) fun j => by rw [Nat.zero_add]] at h
      exact h
end MM
/-! ### the order is one -/
namespace MM
open PySem
structure Ord (e f : KT → KT → Bool) : Prop where
  es : ∀ x y, e x y = true → e y x = true
  et : ∀ x y z, e x y = true → e y z = true → e x z = true
  ft : ∀ x y z, f x y = true → f y z = true → f x z = true
  c1 : ∀ x y z, e x y = true → f y z = true → f x z = true
  c2 : ∀ x y z, f x y = true → e y z = true → f x z = true
  ir : ∀ x, f x x = false
theorem Ord.ne {e f : KT → KT → Bool} (o : Ord e f) {x y : KT} (h : f x y = true) : e x y = false := by
  cases q : e x y with
  | false => rfl
  | true =>
    have := o.c2 x y x h (o.es x y q)
    rw [o.ir] at this
    cases this
theorem eqL_cons {f : KT → KT → Bool} {x y : KT} {xs ys : List KT} : eqL f (x :: xs) (y :: ys) = true ↔ f x y = true ∧ eqL f xs ys = true := by
  show (f x y && eqL f xs ys) = true ↔ _
  rw [Bool.and_eq_true]
theorem ltL_eq {e f : KT → KT → Bool} {x y : KT} {xs ys : List KT} (h : e x y = true) : ltL e f (x :: xs) (y :: ys) = ltL e f xs ys := if_pos h
theorem ltL_ne {e f : KT → KT → Bool} {x y : KT} {xs ys : List KT} (h : e x y = false) : ltL e f (x :: xs) (y :: ys) = f x y := if_neg (by rw [h]; exact Bool.false_ne_true)
theorem eqL_s {e f : KT → KT → Bool} (o : Ord e f) : ∀ a b : List KT, eqL e a b = true → eqL e b a = true
  | [], [], h => h
  | x :: xs, y :: ys, h => by
    obtain ⟨h1, h2⟩ := eqL_cons.mp h
    exact eqL_cons.mpr ⟨o.es x y h1, eqL_s o xs ys h2⟩
  | [], _ :: _, h => h
  | _ :: _, [], h => h
theorem eqL_t {e f : KT → KT → Bool} (o : Ord e f) : ∀ a b c : List KT, eqL e a b = true → eqL e b c = true → eqL e a c = true
  | [], [], _, _, h => h
  | x :: xs, y :: ys, z :: zs, h, g => by
    obtain ⟨h1, h2⟩ := eqL_cons.mp h
    obtain ⟨g1, g2⟩ := eqL_cons.mp g
    exact eqL_cons.mpr ⟨o.et x y z h1 g1, eqL_t o xs ys zs h2 g2⟩
  | _ :: _, _ :: _, [], _, g => by cases g
  | [], _ :: _, _, h, _ => by cases h
  | _ :: _, [], _, h, _ => by cases h
theorem ltL_t {e f : KT → KT → Bool} (o : Ord e f) : ∀ a b c : List KT, ltL e f a b = true → ltL e f b c = true → ltL e f a c = true
  | [], _, _, h, _ => by cases h
  | _ :: _, [], _, h, _ => by cases h
  | _ :: _, _ :: _, [], _, g => by cases g
  | x :: xs, y :: ys, z :: zs, h, g => by
    cases p : e x y with
    | true =>
      rw [ltL_eq p] at h
      cases q : e y z with
      | true =>
        rw [ltL_eq q] at g
        rw [ltL_eq (o.et x y z p q)]
        exact ltL_t o xs ys zs h g
      | false =>
        rw [ltL_ne q] at g
        have k := o.c1 x y z p g
        rw [ltL_ne (o.ne k)]
        exact k
    | false =>
      rw [ltL_ne p] at h
      cases q : e y z with
      | true =>
        have k := o.c2 x y z h q
        rw [ltL_ne (o.ne k)]
        exact k
      | false =>
        rw [ltL_ne q] at g
        have k := o.ft x y z h g
        rw [ltL_ne (o.ne k)]
        exact k
theorem ltL_1 {e f : KT → KT → Bool} (o : Ord e f) : ∀ a b c : List KT, eqL e a b = true → ltL e f b c = true → ltL e f a c = true
  | _, [], _, _, g => by cases g
  | [], _ :: _, _, h, _ => by cases h
  | _ :: _, _ :: _, [], _, g => by cases g
  | x :: xs, y :: ys, z :: zs, h, g => by
    obtain ⟨h1, h2⟩ := eqL_cons.mp h
    cases q : e y z with
    | true =>
      rw [ltL_eq q] at g
      rw [ltL_eq (o.et x y z h1 q)]
      exact ltL_1 o xs ys zs h2 g
    | false =>
      rw [ltL_ne q] at g
      have k := o.c1 x y z h1 g
      rw [ltL_ne (o.ne k)]
      exact k
theorem ltL_2 {e f : KT → KT → Bool} (o : Ord e f) : ∀ a b c : List KT, ltL e f a b = true → eqL e b c = true → ltL e f a c = true
  | [], _, _, h, _ => by cases h
  | _ :: _, [], _, h, _ => by cases h
  | _ :: _, _ :: _, [], _, g => by cases g
  | x :: xs, y :: ys, z :: zs, h, g => by
    obtain ⟨g1, g2⟩ := eqL_cons.mp g
    cases p : e x y with
    | true =>
      rw [ltL_eq p] at h
      rw [ltL_eq (o.et x y z p g1)]
      exact ltL_2 o xs ys zs h g2
    | false =>
      rw [ltL_ne p] at h
      have k := o.c2 x y z h g1
      rw [ltL_ne (o.ne k)]
      exact k
theorem ltL_i {e f : KT → KT → Bool} (o : Ord e f) : ∀ a : List KT, ltL e f a a = false
  | [] => rfl
  | x :: xs => by
    cases p : e x x with
    | true => rw [ltL_eq p]; exact ltL_i o xs
    | false => rw [ltL_ne p]; exact o.ir x
theorem eqK_n (d : Nat) (i j : Int) : eqK d (.n i) (.n j) = (i == j) := by cases d <;> rfl
theorem ltK_n (d : Nat) (i j : Int) : ltK d (.n i) (.n j) = decide (i < j) := by cases d <;> rfl
theorem eqK_nt (d : Nat) (i : Int) (l : List KT) : eqK d (.n i) (.t l) = false := by cases d <;> rfl
theorem eqK_tn (d : Nat) (i : Int) (l : List KT) : eqK d (.t l) (.n i) = false := by cases d <;> rfl
theorem ltK_nt (d : Nat) (i : Int) (l : List KT) : ltK d (.n i) (.t l) = false := by cases d <;> rfl
theorem ltK_tn (d : Nat) (i : Int) (l : List KT) : ltK d (.t l) (.n i) = false := by cases d <;> rfl
theorem ord_of {e f : KT → KT → Bool} (en : ∀ i j, e (.n i) (.n j) = (i == j)) (fn : ∀ i j, f (.n i) (.n j) = decide (i < j)) (e1 : ∀ i l, e (.n i) (.t l) = false) (e2 : ∀ i l, e (.t l) (.n i) = false) (f1 : ∀ i l, f (.n i) (.t l) = false) (f2 : ∀ i l, f (.t l) (.n i) = false)
    (ht : (∀ a b, e (.t a) (.t b) = true → e (.t b) (.t a) = true) ∧ (∀ a b c, e (.t a) (.t b) = true → e (.t b) (.t c) = true → e (.t a) (.t c) = true) ∧ (∀ a b c, f (.t a) (.t b) = true → f (.t b) (.t c) = true → f (.t a) (.t c) = true) ∧ (∀ a b c, e (.t a) (.t b) = true → f (.t b) (.t c) = true → f (.t a) (.t c) = true) ∧ (∀ a b c, f (.t a) (.t b) = true → e (.t b) (.t c) = true → f (.t a) (.t c) = true) ∧ ∀ a, f (.t a) (.t a) = false) : Ord e f := by
  obtain ⟨t1, t2, t3, t4, t5, t6⟩ := ht
  refine ⟨?_, ?_, ?_, ?_, ?_, ?_⟩
  · intro x y h
    cases x <;> cases y <;> simp_all
  · intro x y z h g
    cases x <;> cases y <;> cases z <;> first | exact t2 _ _ _ h g | (simp_all; done)
  · intro x y z h g
    cases x <;> cases y <;> cases z <;> first | exact t3 _ _ _ h g | (simp_all; done) | (simp_all; omega)
  · intro x y z h g
    cases x <;> cases y <;> cases z <;> first | exact t4 _ _ _ h g | (simp_all; done)
  · intro x y z h g
    cases x <;> cases y <;> cases z <;> first | exact t5 _ _ _ h g | (simp_all; done)
  · intro x
    cases x <;> simp_all
theorem ordK : ∀ d : Nat, Ord (eqK d) (ltK d)
  | 0 => ord_of (eqK_n 0) (ltK_n 0) (eqK_nt 0) (eqK_tn 0) (ltK_nt 0) (ltK_tn 0) ⟨fun _ _ h => (by cases h), fun _ _ _ h => (by cases h), fun _ _ _ h => (by cases h), fun _ _ _ h => (by cases h), fun _ _ _ h => (by cases h), fun _ => rfl⟩
  | d + 1 => ord_of (eqK_n _) (ltK_n _) (eqK_nt _) (eqK_tn _) (ltK_nt _) (ltK_tn _) ⟨eqL_s (ordK d), eqL_t (ordK d), ltL_t (ordK d), ltL_1 (ordK d), ltL_2 (ordK d), ltL_i (ordK d)⟩
theorem best_is {bt : Nat → Nat → Bool} (ir : ∀ i, bt i i = false) (tr : ∀ i j k, bt i j = true → bt j k = true → bt i k = true) : ∀ k, argBest bt k ≤ k ∧ ∀ i, i ≤ k → bt i (argBest bt k) = false
  | 0 => ⟨Nat.le_refl _, fun i hi => by
    have : i = 0 := by omega
    subst this
    exact ir 0⟩
  | k + 1 => by
    obtain ⟨h1, h2⟩ := best_is ir tr k
    simp only [argBest]
    cases q : bt (k + 1) (argBest bt k) with
    | true =>
      refine ⟨Nat.le_refl _, fun i hi => ?_⟩
      rw [if_pos rfl]
      rcases Nat.lt_or_ge i (k + 1) with l | l
      · cases z : bt i (k + 1) with
        | false => rfl
        | true =>
          have := tr i (k + 1) _ z q
          rw [h2 i (by omega)] at this
          cases this
      · have : i = k + 1 := by omega
        subst this
        exact ir _
    | false =>
      rw [if_neg Bool.false_ne_true]
      refine ⟨by omega, fun i hi => ?_⟩
      rcases Nat.lt_or_ge i (k + 1) with l | l
      · exact h2 i (by omega)
      · have : i = k + 1 := by omega
        subst this
        exact q
end MM
section
variable {K : PySem.W.Frag}
/-! ### max and min of a list of tuples, as rules -/
section
open MM
theorem vals_get : ∀ {vs : List V} {us : List Value} {i : Nat} {u : Value}, Vals vs us → us[i]? = some u → ∃ v, vs[i]? = some v ∧ RelV v u
  | _, _, _, _, .nil, h => by cases h
  | _, _, 0, _, .cons r t, h => by cases h; exact ⟨_, rfl, r⟩
  | _, _, i + 1, _, .cons r t, h => vals_get (i := i) t h
noncomputable def VAt (K : PySem.W.Frag) (H : Hp) : Nat → V → KT → Prop
  | _, v, .n i => v = .int i
  | 0, _, .t _ => False
  | d + 1, v, .t l => ∃ a xs, v = .ref a ∧ SqT K H a xs ∧ xs.length = l.length ∧ ∀ (j : Nat) x k, xs[j]? = some x → l[j]? = some k → VAt K H d x k
theorem vat_kat {X : Cx} {pins : List (Addr × Obj)} {σ : L2.St} {H : Hp} {s : Shared} (I : Inv X pins σ H s) : ∀ (d : Nat) (v : V) (u : Value) (k : KT), VAt X.K H d v k → RelV v u → KAt s.heap d u k
  | d, v, u, .n i, h, r => by
    have e : v = .int i := by cases d <;> exact h
    subst e
    obtain ⟨t, rfl⟩ := r
    cases d <;> exact ⟨t, rfl⟩
  | 0, _, _, .t _, h, _ => h.elim
  | d + 1, v, u, .t l, h, r => by
    obtain ⟨a, xs, rfl, hs, hl, hi⟩ := h
    obtain rfl : u = Value.ref a := r
    obtain ⟨its, rv, ht, _⟩ := I.tuple hs
    refine ⟨a, its.toArray, rfl, ht, by rw [← hl, rv.length]; simp, fun j w k hw hk => ?_⟩
    rw [List.getElem?_toArray] at hw
    obtain ⟨x, hx, rx⟩ := vals_get rv hw
    exact vat_kat I d x w k (hi j x k hx hk) rx
theorem kat_mono {h h' : Heap} (kp : ∀ b o, h.get? b = some o → h'.get? b = some o) : ∀ (d : Nat) (u : Value) (k : KT), KAt h d u k → KAt h' d u k
  | d, u, .n i, g => by cases d <;> exact g
  | 0, _, .t _, g => g.elim
  | d + 1, u, .t l, g => by
    obtain ⟨a, its, e, ⟨o, ho, hc, n, hd⟩, hl, hi⟩ := g
    exact ⟨a, its, e, ⟨o, kp a o ho, hc, n, hd⟩, hl, fun j w k hw hk => kat_mono kp d w k (hi j w k hw hk)⟩
noncomputable def rBestT (sgn : Bool) (K : PySem.W.Frag) : List V → Hp → VK → Prop := fun vs H Q => ∃ (a : Addr) (us : List V) (ks : List KT) (d : Nat), vs = [.ref a] ∧ SqL K H a us ∧ us ≠ [] ∧ d ≤ 60 ∧ us.length = ks.length ∧ (∀ (i : Nat) u k, us[i]? = some u → ks[i]? = some k → VAt K H d u k) ∧ (∀ k ∈ ks, ∀ k' ∈ ks, shp d k k') ∧
  ∀ (i : Nat) u k, us[i]? = some u → ks[i]? = some k → (∀ k' ∈ ks, (if sgn then ltK d k k' else ltK d k' k) = false) → Q u H
theorem k_bestT {X : Cx} (hK : X.K = K) (hc : X.calm = true) (hu : X.A.units + 64 < cLine) : CallR X (.builtin "max") (rBestT true K) ∧ CallR X (.builtin "min") (rBestT false K) := by
  subst hK
  constructor
  all_goals
    intro pins s σ H vs vals Q I r h
    obtain ⟨a, us, ks, d, rfl, hs, hne, hd, hl, hv, hsh, q⟩ := h
    obtain ⟨its, rv, pl, _⟩ := I.list hs
    rw [Vals.ref1 r]
    have hlen : its.length = ks.length := by rw [← hl, rv.length]
    have key : ∀ (i : Nat) u, its[i]? = some u → KAt s.heap d u (ks.getD i z0) := fun i u hiu => by
      obtain ⟨v, hv', rl⟩ := vals_get rv hiu
      have hi : i < ks.length := by rw [← hlen]; exact (List.getElem?_eq_some_iff.mp hiu).1
      rw [List.getD_eq_getElem?_getD, List.getElem?_eq_getElem hi]
      exact vat_kat I d v u _ (hv i v _ hv' (List.getElem?_eq_getElem hi)) rl
    have kmem : ∀ i, i < ks.length → ks.getD i z0 ∈ ks := fun i hi => by
      rw [List.getD_eq_getElem?_getD, List.getElem?_eq_getElem hi]
      exact List.getElem_mem hi
    have n0 : 0 < its.toArray.size := by
      rw [List.size_toArray, rv.length.symm]
      exact List.length_pos_iff.mpr hne
    have ilt : ∀ (i : Nat) u, its.toArray[i]? = some u → its[i]? = some u ∧ i < ks.length := fun i u h => by
      rw [List.getElem?_toArray] at h
      exact ⟨h, by rw [← hlen]; exact (List.getElem?_eq_some_iff.mp h).1⟩
    have fin : ∀ (bt : Nat → Nat → Bool) (u : Value) (h' : Heap) (tk : Nat), (∀ i, bt i i = false) → (∀ i j k, bt i j = true → bt j k = true → bt i k = true) → its.toArray[argBest bt (its.toArray.size - 1)]? = some u → (∀ b o, s.heap.get? b = some o → h'.get? b = some o) →
        ∃ v i, us[i]? = some v ∧ RelV v u ∧ i = argBest bt (its.toArray.size - 1) ∧ i < ks.length ∧ ∀ j, j < ks.length → bt j i = false := fun bt u h' tk ir tr hb hk => by
      obtain ⟨hb', hlt⟩ := ilt _ _ hb
      obtain ⟨v, hv', rl⟩ := vals_get rv hb'
      refine ⟨v, _, hv', rl, rfl, hlt, fun j hj => ?_⟩
      refine (best_is ir tr (its.toArray.size - 1)).2 j ?_
      rw [List.size_toArray, hlen]
      omega
    have ord := ordK d
  · refine max_call (G := fun h => ∀ b o, s.heap.get? b = some o → h.get? b = some o) (bt := fun i j => ltK d (ks.getD j z0) (ks.getD i z0)) (I.ok.hd hc) pl.isList n0 (fun _ _ h => h) (fun h h' g kp b o e => kp b o (Heap.lt_size e) (g b o e)) ?_ ?_
    · intro i j u v z Q' E' g hi hj hq
      obtain ⟨hi', il⟩ := ilt i u hi
      obtain ⟨hj', jl⟩ := ilt j v hj
      exact (cmpK d _ _ u v X.A.in1 z (kat_mono g d u _ (key i u hi')) (kat_mono g d v _ (key j v hj')) (hsh _ (kmem i il) _ (kmem j jl)) (by show X.A.units + 1 + d < cLine; omega)).2.1 X.prog X.w E' Q' hq
    · intro u h' tk hb hk
      obtain ⟨v, i, hvi, rl, _, il, hno⟩ := fin (fun i j => ltK d (ks.getD j z0) (ks.getD i z0)) u h' tk (fun i => ord.ir _) (fun i j k h1 h2 => ord.ft _ _ _ h2 h1) hb hk
      refine ⟨v, H, I.kept hk, rl, q i v _ hvi (List.getElem?_eq_getElem il) fun k' hk' => ?_⟩
      obtain ⟨j, hj, rfl⟩ := List.mem_iff_getElem.mp hk'
      have := hno j hj
      rw [if_pos rfl]
      rw [List.getD_eq_getElem?_getD, List.getElem?_eq_getElem il, List.getD_eq_getElem?_getD, List.getElem?_eq_getElem hj] at this
      exact this
  · refine min_call (G := fun h => ∀ b o, s.heap.get? b = some o → h.get? b = some o) (bt := fun i j => ltK d (ks.getD i z0) (ks.getD j z0)) (I.ok.hd hc) pl.isList n0 (fun _ _ h => h) (fun h h' g kp b o e => kp b o (Heap.lt_size e) (g b o e)) ?_ ?_
    · intro i j u v z Q' E' g hi hj hq
      obtain ⟨hi', il⟩ := ilt i u hi
      obtain ⟨hj', jl⟩ := ilt j v hj
      exact (cmpK d _ _ u v X.A.in1 z (kat_mono g d u _ (key i u hi')) (kat_mono g d v _ (key j v hj')) (hsh _ (kmem i il) _ (kmem j jl)) (by show X.A.units + 1 + d < cLine; omega)).2.2 X.prog X.w E' Q' hq
    · intro u h' tk hb hk
      obtain ⟨v, i, hvi, rl, _, il, hno⟩ := fin (fun i j => ltK d (ks.getD i z0) (ks.getD j z0)) u h' tk (fun i => ord.ir _) (fun i j k h1 h2 => ord.ft _ _ _ h1 h2) hb hk
      refine ⟨v, H, I.kept hk, rl, q i v _ hvi (List.getElem?_eq_getElem il) fun k' hk' => ?_⟩
      obtain ⟨j, hj, rfl⟩ := List.mem_iff_getElem.mp hk'
      have := hno j hj
      rw [if_neg Bool.false_ne_true]
      rw [List.getD_eq_getElem?_getD, List.getElem?_eq_getElem hj, List.getD_eq_getElem?_getD, List.getElem?_eq_getElem il] at this
      exact this
end
end
/-! ### the mirror: things without a heap -/
inductive Ty where
  | non | bl | int | str | tup | lst | dic | verr
noncomputable def Ty.nm : Ty → String
  | .non => "NoneType" | .bl => "bool" | .int => "int" | .str => "str" | .tup => "tuple" | .lst => "list" | .dic => "dict" | .verr => "ValueError"
inductive D where
  | non | bl (b : Bool) | int (i : Int) | str (x : Str) | ty (t : Ty) | cls (a : Addr) | tup (ds : List D) | lst (ds : List D) | dic (ks : List Key) (ds : List D) | ins (C : Addr) (ns : List Str) (ds : List D) | deck | xcp (a C : Addr) (d : Option Addr) (ns : List Str) (ds : List D)
/-- the world: the law's deck and its cells, lists that are being built -/
structure Wd where
  dk : Option (Addr × Addr)
  own : List (Addr × HO)
noncomputable def Wd.rs (W : Wd) (a : Addr) : Prop := (∃ d b, W.dk = some (d, b) ∧ (a = d ∨ a = b)) ∨ a ∈ W.own.map (·.1)
noncomputable def Mt : HO → Prop
  | .lst _ => True
  | .dK _ => True
  | _ => False
structure Wd.ok (K : PySem.W.Frag) (W : Wd) (n : Nat) (H : Hp) : Prop where
  deck : ∀ d b, W.dk = some (d, b) → ∃ c : Int, Deck K H d b c ∧ c + n ≤ 900000
  owns : ∀ p ∈ W.own, H p.1 = some p.2 ∧ Mt p.2
  dis : ∀ d b, W.dk = some (d, b) → ∀ p ∈ W.own, p.1 ≠ d ∧ p.1 ≠ b
noncomputable def Wd.le (W : Wd) (H H' : Hp) : Prop := ∀ a o, ¬ W.rs a → H a = some o → H' a = some o
theorem Wd.le_refl {W : Wd} {H : Hp} : W.le H H := fun _ _ _ h => h
theorem Wd.le.trans {W : Wd} {H H1 H2 : Hp} (u : W.le H H1) (v : W.le H1 H2) : W.le H H2 := fun a o n h => v a o n (u a o n h)
theorem Wd.le_same {W : Wd} {H H' : Hp} (s : Same H H') : W.le H H' := fun a o _ h => s a o h
theorem Wd.ok.same {K : PySem.W.Frag} {W : Wd} {n : Nat} {H H' : Hp} (o : W.ok K n H) (s : Same H H') : W.ok K n H' :=
  ⟨fun d b e => let ⟨c, h, l⟩ := o.deck d b e; ⟨c, h.keep s, l⟩, fun p hp => ⟨s _ _ (o.owns p hp).1, (o.owns p hp).2⟩, o.dis⟩
theorem Wd.ok.le {K : PySem.W.Frag} {W : Wd} {n m : Nat} {H : Hp} (o : W.ok K n H) (l : m ≤ n) : W.ok K m H :=
  ⟨fun d b e => let ⟨c, h, l'⟩ := o.deck d b e; ⟨c, h, by omega⟩, o.owns, o.dis⟩
theorem Wd.ok.lst {K : PySem.W.Frag} {W : Wd} {n : Nat} {H : Hp} (o : W.ok K n H) {a : Addr} (r : W.rs a) : ∃ ob, H a = some ob ∧ Mt ob := by
  rcases r with ⟨d, b, e, h⟩ | h
  · obtain ⟨c, ⟨⟨s, ns, cs, i, k, h1, h2, _⟩, _⟩, _⟩ := o.deck d b e
    rcases h with rfl | rfl
    · exact ⟨_, h1, trivial⟩
    · exact ⟨_, h2, trivial⟩
  · obtain ⟨p, hp, rfl⟩ := List.mem_map.mp h
    exact ⟨_, o.owns p hp⟩
theorem Wd.ok.fresh {K : PySem.W.Frag} {W : Wd} {n : Nat} {H : Hp} (o : W.ok K n H) {a : Addr} (h : H a = none) : ¬ W.rs a := fun r => by
  obtain ⟨xs, e, _⟩ := o.lst r
  rw [e] at h
  cases h
mutual
inductive At (K : PySem.W.Frag) (W : Wd) (H : Hp) : V → D → Prop
  | non : At K W H .non .non
  | bl (b : Bool) : At K W H (.bl b) (.bl b)
  | int (i : Int) : At K W H (.int i) (.int i)
  | str (x : Str) : At K W H (.str x) (.str x)
  | ty (t : Ty) : At K W H (.ty t.nm) (.ty t)
  | cls (a : Addr) : At K W H (.ref a) (.cls a)
  | tup {a : Addr} {xs : List V} {ds : List D} : SqT K H a xs → AtAll K W H xs ds → At K W H (.ref a) (.tup ds)
  | lst {a : Addr} {xs : List V} {ds : List D} : ¬ W.rs a → H a = some (.lst xs) → AtAll K W H xs ds → At K W H (.ref a) (.lst ds)
  | dic {a : Addr} {ks : List Key} {xs : List V} {ds : List D} : ¬ W.rs a → H a = some (.dK (ks.zip xs)) → ks.length = xs.length → AtAll K W H xs ds → At K W H (.ref a) (.dic ks ds)
  | ins {a C dx : Addr} {ns : List Str} {xs : List V} {ds : List D} : H a = some (.ins C dx (ns.zip xs)) → ns.length = xs.length → AtAll K W H xs ds → At K W H (.ref a) (.ins C ns ds)
  | deck {d b : Addr} : W.dk = some (d, b) → At K W H (.ref d) .deck
  | xcp0 {a C : Addr} : At K W H (.ref a) (.xcp a C none [] [])
  | xcp1 {a C dx : Addr} {ns : List Str} {xs : List V} {ds : List D} : H dx = some (.xd (ns.zip xs)) → ns.length = xs.length → AtAll K W H xs ds → At K W H (.ref a) (.xcp a C (some dx) ns ds)
inductive AtAll (K : PySem.W.Frag) (W : Wd) (H : Hp) : List V → List D → Prop
  | nil : AtAll K W H [] []
  | cons {v : V} {vs : List V} {d : D} {ds : List D} : At K W H v d → AtAll K W H vs ds → AtAll K W H (v :: vs) (d :: ds)
end
section
variable {K : PySem.W.Frag} {W : Wd} {H H' : Hp}
noncomputable def Wd.lk (W : Wd) (H : Hp) : Prop := ∀ a, W.rs a → ∀ o, H a = some o → Mt o
theorem Wd.ok.lk {n : Nat} (o : W.ok K n H) : W.lk H := fun a r ob e => by
  obtain ⟨xs, e', m⟩ := o.lst r
  rw [e'] at e
  cases e
  exact m
theorem sqt_lk {a : Addr} {xs : List V} (o : W.lk H) (l : W.le H H') (h : SqT K H a xs) : SqT K H' a xs := by
  rcases h with (h | ⟨ob, h⟩) | h
  · exact .inl (.inl (l _ _ (fun r => o _ r _ h) h))
  · exact .inl (.inr ⟨ob, l _ _ (fun r => o _ r _ h) h⟩)
  · exact .inr h
mutual
theorem At.lk (o : W.lk H) (l : W.le H H') : ∀ (d : D) {v : V}, At K W H v d → At K W H' v d
  | .non, _, h => by cases h; exact .non
  | .bl b, _, h => by cases h; exact .bl b
  | .int i, _, h => by cases h; exact .int i
  | .str x, _, h => by cases h; exact .str x
  | .ty t, _, h => by cases h; exact .ty t
  | .cls a, _, h => by cases h; exact .cls a
  | .tup ds, _, h => by
    cases h with
    | tup s a => exact .tup (sqt_lk o l s) (AtAll.lk o l ds a)
  | .lst ds, _, h => by
    cases h with
    | lst r s a => exact .lst r (l _ _ r s) (AtAll.lk o l ds a)
  | .dic ks ds, _, h => by
    cases h with
    | dic r s e a => exact .dic r (l _ _ r s) e (AtAll.lk o l ds a)
  | .ins C ns ds, _, h => by
    cases h with
    | ins s e a => exact .ins (l _ _ (fun r => o _ r _ s) s) e (AtAll.lk o l ds a)
  | .deck, _, h => by
    cases h with
    | deck e => exact .deck e
  | .xcp a C d ns ds, _, h => by
    cases h with
    | xcp0 => exact .xcp0
    | xcp1 s e b => exact .xcp1 (l _ _ (fun r => o _ r _ s) s) e (AtAll.lk o l _ b)
theorem AtAll.lk (o : W.lk H) (l : W.le H H') : ∀ (ds : List D) {vs : List V}, AtAll K W H vs ds → AtAll K W H' vs ds
  | [], _, h => by cases h; exact .nil
  | d :: ds, _, h => by
    cases h with
    | cons a r => exact .cons (At.lk o l d a) (AtAll.lk o l ds r)
end
theorem At.le {n : Nat} (o : W.ok K n H) (l : W.le H H') (d : D) {v : V} (h : At K W H v d) : At K W H' v d := At.lk o.lk l d h
theorem AtAll.le {n : Nat} (o : W.ok K n H) (l : W.le H H') (ds : List D) {vs : List V} (h : AtAll K W H vs ds) : AtAll K W H' vs ds := AtAll.lk o.lk l ds h
/-- one more list is being built -/
noncomputable def Wd.add (W : Wd) (p : Addr × HO) : Wd := { W with own := p :: W.own }
mutual
/-- a world with more that is reserved, none of it there -/
theorem At.ext {W' : Wd} (hr : ∀ a, W'.rs a → ¬ W.rs a → H a = none) (hd : W'.dk = W.dk) : ∀ (d : D) {v : V}, At K W H v d → At K W' H v d
  | .non, _, h => by cases h; exact .non
  | .bl b, _, h => by cases h; exact .bl b
  | .int i, _, h => by cases h; exact .int i
  | .str x, _, h => by cases h; exact .str x
  | .ty t, _, h => by cases h; exact .ty t
  | .cls a, _, h => by cases h; exact .cls a
  | .tup ds, _, h => by
    cases h with
    | tup s a => exact .tup s (AtAll.ext hr hd ds a)
  | .lst ds, _, h => by
    cases h with
    | lst r s a => exact .lst (fun z => by rw [hr _ z r] at s; cases s) s (AtAll.ext hr hd ds a)
  | .dic ks ds, _, h => by
    cases h with
    | dic r s e a => exact .dic (fun z => by rw [hr _ z r] at s; cases s) s e (AtAll.ext hr hd ds a)
  | .ins C ns ds, _, h => by
    cases h with
    | ins s e a => exact .ins s e (AtAll.ext hr hd ds a)
  | .deck, _, h => by
    cases h with
    | deck e => exact .deck (hd.trans e)
  | .xcp a C d ns ds, _, h => by
    cases h with
    | xcp0 => exact .xcp0
    | xcp1 s e b => exact .xcp1 s e (AtAll.ext hr hd _ b)
theorem AtAll.ext {W' : Wd} (hr : ∀ a, W'.rs a → ¬ W.rs a → H a = none) (hd : W'.dk = W.dk) : ∀ (ds : List D) {vs : List V}, AtAll K W H vs ds → AtAll K W' H vs ds
  | [], _, h => by cases h; exact .nil
  | d :: ds, _, h => by
    cases h with
    | cons a r => exact .cons (At.ext hr hd d a) (AtAll.ext hr hd ds r)
end
mutual
/-- the worlds' reserved places alone count; fewer are less asked -/
theorem At.weak {W' : Wd} (hr : ∀ a, W'.rs a → W.rs a) (hd : W'.dk = W.dk) : ∀ (d : D) {v : V}, At K W H v d → At K W' H v d
  | .non, _, h => by cases h; exact .non
  | .bl b, _, h => by cases h; exact .bl b
  | .int i, _, h => by cases h; exact .int i
  | .str x, _, h => by cases h; exact .str x
  | .ty t, _, h => by cases h; exact .ty t
  | .cls a, _, h => by cases h; exact .cls a
  | .tup ds, _, h => by
    cases h with
    | tup s a => exact .tup s (AtAll.weak hr hd ds a)
  | .lst ds, _, h => by
    cases h with
    | lst r s a => exact .lst (fun z => r (hr _ z)) s (AtAll.weak hr hd ds a)
  | .dic ks ds, _, h => by
    cases h with
    | dic r s e a => exact .dic (fun z => r (hr _ z)) s e (AtAll.weak hr hd ds a)
  | .ins C ns ds, _, h => by
    cases h with
    | ins s e a => exact .ins s e (AtAll.weak hr hd ds a)
  | .deck, _, h => by
    cases h with
    | deck e => exact .deck (hd.trans e)
  | .xcp a C d ns ds, _, h => by
    cases h with
    | xcp0 => exact .xcp0
    | xcp1 s e b => exact .xcp1 s e (AtAll.weak hr hd _ b)
theorem AtAll.weak {W' : Wd} (hr : ∀ a, W'.rs a → W.rs a) (hd : W'.dk = W.dk) : ∀ (ds : List D) {vs : List V}, AtAll K W H vs ds → AtAll K W' H vs ds
  | [], _, h => by cases h; exact .nil
  | d :: ds, _, h => by
    cases h with
    | cons a r => exact .cons (At.weak hr hd d a) (AtAll.weak hr hd ds r)
end
theorem Wd.rs_add {q : Addr × HO} {a : Addr} (h : W.rs a) : (W.add q).rs a := by
  rcases h with h | h
  · exact .inl h
  · exact .inr (List.mem_cons_of_mem _ h)
theorem AtAll.length : ∀ {vs : List V} {ds : List D}, AtAll K W H vs ds → vs.length = ds.length
  | _, [], h => by cases h; rfl
  | _, d :: ds, h => by
    cases h with
    | cons a r => rw [List.length_cons, List.length_cons, AtAll.length r]
theorem AtAll.append : ∀ {vs us : List V} {ds es : List D}, AtAll K W H vs ds → AtAll K W H us es → AtAll K W H (vs ++ us) (ds ++ es)
  | _, _, [], _, h, g => by cases h; exact g
  | _, _, d :: ds, _, h, g => by
    cases h with
    | cons a r => exact .cons a (AtAll.append r g)
theorem AtAll.get : ∀ {vs : List V} {ds : List D} {i : Nat} {d : D}, AtAll K W H vs ds → ds[i]? = some d → ∃ v, vs[i]? = some v ∧ At K W H v d
  | _, [], _, _, h, e => by cases e
  | _, _ :: _, 0, _, h, e => by
    cases h with
    | cons a r => cases e; exact ⟨_, rfl, a⟩
  | _, _ :: ds, i + 1, _, h, e => by
    cases h with
    | cons a r => exact AtAll.get (i := i) r e
theorem AtAll.get' : ∀ {vs : List V} {ds : List D} {i : Nat} {v : V}, AtAll K W H vs ds → vs[i]? = some v → ∃ d, ds[i]? = some d ∧ At K W H v d
  | _, [], _, _, h, e => by cases h; cases e
  | _, _ :: _, 0, _, h, e => by
    cases h with
    | cons a r => cases e; exact ⟨_, rfl, a⟩
  | _, _ :: ds, i + 1, _, h, e => by
    cases h with
    | cons a r => exact AtAll.get' (i := i) r e
end
/-! ### environments and the judgement of expressions -/
noncomputable abbrev Env' := List (Option D)
noncomputable def eGet : Env' → Nat → Option D
  | [], _ => none
  | d :: _, 0 => d
  | _ :: r, i + 1 => eGet r i
noncomputable def eSet : Env' → Nat → Option D → Env'
  | [], _, _ => []
  | _ :: r, 0, d => d :: r
  | x :: r, i + 1, d => x :: eSet r i d
theorem eSet_length : ∀ (ρ : Env') (i : Nat) (d : Option D), (eSet ρ i d).length = ρ.length
  | [], _, _ => rfl
  | _ :: _, 0, _ => rfl
  | x :: r, i + 1, d => by rw [eSet, List.length_cons, List.length_cons, eSet_length]
theorem eGet_set : ∀ {ρ : Env'} {i : Nat} {d : Option D} {e : D}, eGet (eSet ρ i d) i = some e → i < ρ.length ∧ d = some e
  | [], _, _, _, h => by cases h
  | _ :: _, 0, _, _, h => ⟨Nat.succ_pos _, h⟩
  | _ :: r, i + 1, _, _, h => let ⟨h1, h2⟩ := eGet_set (ρ := r) (i := i) h; ⟨Nat.succ_lt_succ h1, h2⟩
theorem eGet_ne : ∀ {ρ : Env'} {i j : Nat} {d : Option D}, i ≠ j → eGet (eSet ρ i d) j = eGet ρ j
  | [], _, _, _, _ => rfl
  | _ :: _, 0, 0, _, h => absurd rfl h
  | _ :: _, 0, _ + 1, _, _ => rfl
  | _ :: _, _ + 1, 0, _, _ => rfl
  | _ :: r, i + 1, j + 1, _, h => eGet_ne (ρ := r) (i := i) (j := j) fun z => h (by rw [z])
noncomputable def EnvAt (K : PySem.W.Frag) (W : Wd) (H : Hp) (σ : L2.St) (ρ : Env') : Prop := σ.length = ρ.length ∧ ∀ (i : Nat) (d : D), eGet ρ i = some d → ∃ v, σ[i]? = some (some v) ∧ At K W H v d
theorem EnvAt.le {K : PySem.W.Frag} {W : Wd} {H H' : Hp} {n : Nat} {σ : L2.St} {ρ : Env'} (h : EnvAt K W H σ ρ) (o : W.ok K n H) (l : W.le H H') : EnvAt K W H' σ ρ :=
  ⟨h.1, fun i d e => let ⟨v, e', a⟩ := h.2 i d e; ⟨v, e', At.le o l d a⟩⟩
theorem EnvAt.set {K : PySem.W.Frag} {W : Wd} {H : Hp} {σ : L2.St} {ρ : Env'} {i : Nat} {v : V} {d : D} (h : EnvAt K W H σ ρ) (a : At K W H v d) : EnvAt K W H (σ.set i (some v)) (eSet ρ i (some d)) := by
  refine ⟨by rw [List.length_set, eSet_length]; exact h.1, fun j e he => ?_⟩
  by_cases hj : i = j
  · subst hj
    obtain ⟨hl, he⟩ := eGet_set he
    cases he
    exact ⟨v, by rw [List.getElem?_set_self (by rw [h.1]; exact hl)], a⟩
  · rw [eGet_ne hj] at he
    rw [List.getElem?_set_ne hj]
    exact h.2 j e he
/-- what is wanted of a value: any heap that has grown -/
noncomputable def Wants (K : PySem.W.Frag) (W : Wd) (H : Hp) (Qa : D → Nat → Prop) (Q : VK) : Prop := ∀ d n', Qa d n' → ∀ H' v, W.le H H' → W.ok K n' H' → At K W H' v d → Q v H'
noncomputable abbrev AE := Env' → Nat → (D → Nat → Prop) → Prop
class DE (K : PySem.W.Frag) (te : TE) (f : outParam AE) : Prop where
  run : ∀ (W : Wd) (σ : L2.St) (ρ : Env') (n : Nat) (H : Hp) (Q : VK) (Qa : D → Nat → Prop), Wants K W H Qa Q → EnvAt K W H σ ρ → W.ok K n H → f ρ n Qa → te σ H Q
noncomputable abbrev AT := Env' → Nat → (Bool → Nat → Prop) → Prop
class DT (K : PySem.W.Frag) (te : TT) (f : outParam AT) : Prop where
  run : ∀ (W : Wd) (σ : L2.St) (ρ : Env') (n : Nat) (H : Hp) (Q : Bool → Hp → Prop) (Qa : Bool → Nat → Prop), (∀ b n', Qa b n' → ∀ H', W.le H H' → W.ok K n' H' → Q b H') → EnvAt K W H σ ρ → W.ok K n H → f ρ n Qa → te σ H Q
noncomputable abbrev AA := Env' → Nat → (List D → Nat → Prop) → Prop
class DA (K : PySem.W.Frag) (te : TA) (f : outParam AA) : Prop where
  run : ∀ (W : Wd) (σ : L2.St) (ρ : Env') (n : Nat) (H : Hp) (Q : List V → Hp → Prop) (Qa : List D → Nat → Prop), (∀ ds n', Qa ds n' → ∀ H' vs, W.le H H' → W.ok K n' H' → AtAll K W H' vs ds → Q vs H') → EnvAt K W H σ ρ → W.ok K n H → f ρ n Qa → te σ H Q
/-- a choice whose side is not yet known -/
noncomputable def aIte (b : Bool) (p q : Prop) : Prop := (b = true → p) ∧ (b = false → q)
theorem aT {p q : Prop} (h : p) : aIte true p q := ⟨fun _ => h, fun z => Bool.noConfusion z⟩
theorem aF {p q : Prop} (h : q) : aIte false p q := ⟨fun z => Bool.noConfusion z, fun _ => h⟩
section
variable {K : PySem.W.Frag}
/-- by values, one -/
class D1 (K : PySem.W.Frag) (r : V → Hp → VK → Prop) (f : outParam (D → Nat → (D → Nat → Prop) → Prop)) : Prop where
  run : ∀ (W : Wd) (n : Nat) (H : Hp) (x : V) (d : D) (Q : VK) (Qa : D → Nat → Prop), Wants K W H Qa Q → W.ok K n H → At K W H x d → f d n Qa → r x H Q
class D2 (K : PySem.W.Frag) (r : R2) (f : outParam (D → D → Nat → (D → Nat → Prop) → Prop)) : Prop where
  run : ∀ (W : Wd) (n : Nat) (H : Hp) (x y : V) (d e : D) (Q : VK) (Qa : D → Nat → Prop), Wants K W H Qa Q → W.ok K n H → At K W H x d → At K W H y e → f d e n Qa → r x y H Q
class DL (K : PySem.W.Frag) (r : List V → Hp → VK → Prop) (f : outParam (List D → Nat → (D → Nat → Prop) → Prop)) : Prop where
  run : ∀ (W : Wd) (n : Nat) (H : Hp) (xs : List V) (ds : List D) (Q : VK) (Qa : D → Nat → Prop), Wants K W H Qa Q → W.ok K n H → AtAll K W H xs ds → f ds n Qa → r xs H Q
theorem Wants.le {W : Wd} {H H1 : Hp} {Qa : D → Nat → Prop} {Q : VK} (h : Wants K W H Qa Q) (l : W.le H H1) : Wants K W H1 Qa Q := fun d n' q H' v l' o a => h d n' q H' v (l.trans l') o a
theorem Wants.now {W : Wd} {H : Hp} {Qa : D → Nat → Prop} {Q : VK} {n : Nat} {d : D} {v : V} (h : Wants K W H Qa Q) (o : W.ok K n H) (q : Qa d n) (a : At K W H v d) : Q v H := h d n q H v Wd.le_refl o a
/-- a new object -/
theorem Wants.new {W : Wd} {H : Hp} {Qa : D → Nat → Prop} {Q : VK} {n : Nat} {d : D} {p : Addr} {ob : HO} (h : Wants K W H Qa Q) (o : W.ok K n H) (q : Qa d n) (hp : H p = none) (a : At K W (upd H p ob) (.ref p) d) : Q (.ref p) (upd H p ob) :=
  h d n q _ _ (Wd.le_same (same_upd hp)) (o.same (same_upd hp)) a
/-! expressions -/
noncomputable def aVar (i : Nat) : AE := fun ρ n Q => match eGet ρ i with
  | some d => Q d n
  | none => False
instance {i : Nat} : DE K (tVar i) (aVar i) := ⟨fun W σ ρ n H Q Qa hQ hE o h => by
  unfold aVar at h
  split at h
  · rename_i d e
    obtain ⟨v, e', a⟩ := hE.2 i d e
    exact ⟨v, e', hQ.now o h a⟩
  · exact h.elim⟩
noncomputable def vD : V → Option D
  | .non => some .non | .bl b => some (.bl b) | .int i => some (.int i) | .str x => some (.str x)
  | _ => none
theorem vD_at {W : Wd} {H : Hp} {v : V} {d : D} (h : vD v = some d) : At K W H v d := by
  cases v <;> cases h
  · exact .non
  · exact .bl _
  · exact .int _
  · exact .str _
noncomputable def aC (v : V) : AE := fun _ n Q => match vD v with
  | some d => Q d n
  | none => False
instance (priority := 100) {v : V} : DE K (tC v) (aC v) := ⟨fun W σ ρ n H Q Qa hQ hE o h => by
  unfold aC at h
  split at h
  · rename_i d e
    exact hQ.now o h (vD_at e)
  · exact h.elim⟩
noncomputable def a1 (f : D → Nat → (D → Nat → Prop) → Prop) (fa : AE) : AE := fun ρ n Q => fa ρ n fun d n1 => f d n1 Q
noncomputable def a2 (f : D → D → Nat → (D → Nat → Prop) → Prop) (fa fb : AE) : AE := fun ρ n Q => fa ρ n fun d n1 => fb ρ n1 fun e n2 => f d e n2 Q
instance {r : R2} {f : D → D → Nat → (D → Nat → Prop) → Prop} {ta tb : TE} {fa fb : AE} [D2 K r f] [DE K ta fa] [DE K tb fb] : DE K (tOp r ta tb) (a2 f fa fb) := ⟨fun W σ ρ n H Q Qa hQ hE o h =>
  DE.run (te := ta) (f := fa) W σ ρ n H _ _ (fun d n1 h1 H1 x l1 o1 ax => DE.run (te := tb) (f := fb) W σ ρ n1 H1 _ _ (fun e n2 h2 H2 y l2 o2 ay => D2.run (f := f) W n2 H2 x y d e Q Qa (hQ.le (l1.trans l2)) o2 (At.le o1 l2 d ax) ay h2) (hE.le o l1) o1 h1) hE o h⟩
instance {r : V → Hp → VK → Prop} {f : D → Nat → (D → Nat → Prop) → Prop} {ta : TE} {fa : AE} [D1 K r f] [DE K ta fa] : DE K (tUn r ta) (a1 f fa) := ⟨fun W σ ρ n H Q Qa hQ hE o h =>
  DE.run (te := ta) (f := fa) W σ ρ n H _ _ (fun d n1 h1 H1 x l1 o1 ax => D1.run (f := f) W n1 H1 x d Q Qa (hQ.le l1) o1 ax h1) hE o h⟩
noncomputable def aInt2 (C : Int → Int → Prop) (g : Int → Int → V) : D → D → Nat → (D → Nat → Prop) → Prop
  | .int i, .int j, n, Q => C i j ∧ (match vD (g i j) with
    | some d => Q d n
    | none => False)
  | _, _, _, _ => False
noncomputable def aInt0 (g : Int → Int → V) : D → D → Nat → (D → Nat → Prop) → Prop
  | .int i, .int j, n, Q => (match vD (g i j) with
    | some d => Q d n
    | none => False)
  | _, _, _, _ => False
instance {C : Int → Int → Prop} {g : Int → Int → V} : D2 K (rI C g) (aInt2 C g) := ⟨fun W n H x y d e Q Qa hQ o ax ay h => by
  unfold aInt2 at h
  split at h
  · obtain ⟨hc, h⟩ := h
    cases ax
    cases ay
    refine ⟨_, _, rfl, rfl, hc, ?_⟩
    split at h
    · rename_i d e
      exact hQ.now o h (vD_at e)
    · exact h.elim
  · exact h.elim⟩
instance {g : Int → Int → V} : D2 K (rI0 g) (aInt0 g) := ⟨fun W n H x y d e Q Qa hQ o ax ay h => by
  unfold aInt0 at h
  split at h
  · cases ax
    cases ay
    refine ⟨_, _, rfl, rfl, ?_⟩
    split at h
    · rename_i d e
      exact hQ.now o h (vD_at e)
    · exact h.elim
  · exact h.elim⟩
noncomputable def aIntU (g : Int → V) : D → Nat → (D → Nat → Prop) → Prop
  | .int i, n, Q => (match vD (g i) with
    | some d => Q d n
    | none => False)
  | _, _, _ => False
instance {g : Int → V} : D1 K (rU g) (aIntU g) := ⟨fun W n H x d Q Qa hQ o ax h => by
  unfold aIntU at h
  split at h
  · cases ax
    refine ⟨_, rfl, ?_⟩
    split at h
    · rename_i d e
      exact hQ.now o h (vD_at e)
    · exact h.elim
  · exact h.elim⟩
/-! == of scalars -/
noncomputable def D.isS : D → Bool
  | .int _ => true | .bl _ => true | .str _ => true | .non => true | _ => false
noncomputable def eqS' : D → D → Option Bool
  | .int i, .int j => some (decide (i = j)) | .bl i, .bl j => some (decide (i = j)) | .str i, .str j => some (decide (i = j)) | .non, .non => some true
  | .bl _, .int _ => none | .int _, .bl _ => none
  | _, _ => some false
noncomputable def eqS (d e : D) : Option Bool := match d.isS, e.isS with
  | true, true => eqS' d e
  | _, _ => none
inductive ScA : V → D → Prop
  | non : ScA .non .non
  | bl (b : Bool) : ScA (.bl b) (.bl b)
  | int (i : Int) : ScA (.int i) (.int i)
  | str (x : Str) : ScA (.str x) (.str x)
theorem sc_of {W : Wd} {H : Hp} {x : V} {d : D} (ax : At K W H x d) (h : d.isS = true) : ScA x d := by
  cases ax <;> first
    | constructor
    | cases h
theorem eqS_sc {x y : V} {d e : D} {b : Bool} (ax : ScA x d) (ay : ScA y e) (h : eqS' d e = some b) : scal x y = true ∧ decide (x = y) = b := by
  cases ax <;> cases ay <;> first
    | (cases h; exact ⟨rfl, rfl⟩)
    | (cases h; exact ⟨rfl, decide_eq_decide.mpr ⟨fun z => by injection z, fun z => by rw [z]⟩⟩)
    | cases h
theorem eqS_is {W : Wd} {H : Hp} {x y : V} {d e : D} {b : Bool} (ax : At K W H x d) (ay : At K W H y e) (h : eqS d e = some b) : scal x y = true ∧ decide (x = y) = b := by
  unfold eqS at h
  cases h1 : d.isS with
  | false => rw [h1] at h; cases h
  | true =>
    cases h2 : e.isS with
    | false => rw [h1, h2] at h; cases h
    | true =>
      rw [h1, h2] at h
      exact eqS_sc (sc_of ax h1) (sc_of ay h2) h
/-! tests -/
noncomputable def aTest (f : AE) : AT := fun ρ n Q => f ρ n fun d n1 => match d with
  | .bl b => Q b n1
  | _ => False
theorem aTest_run {te : TE} {f : AE} [DE K te f] (W : Wd) (σ : L2.St) (ρ : Env') (n : Nat) (H : Hp) (Q : Bool → Hp → Prop) (Qa : Bool → Nat → Prop) (hQ : ∀ b n', Qa b n' → ∀ H', W.le H H' → W.ok K n' H' → Q b H') (hE : EnvAt K W H σ ρ) (o : W.ok K n H) (h : aTest f ρ n Qa) :
    te σ H fun x H' => ∃ k, x = .bl k ∧ Q k H' :=
  DE.run (te := te) (f := f) W σ ρ n H _ _ (fun d n1 h1 H1 x l1 o1 ax => by
    split at h1
    · cases ax
      exact ⟨_, rfl, hQ _ _ h1 H1 l1 o1⟩
    · exact h1.elim) hE o h
instance {te : TE} {f : AE} [DE K te f] : DT K (tTest te) (aTest f) := ⟨aTest_run⟩
instance {te : TE} {f : AE} [DE K te f] : DT K (tB te) (aTest f) := ⟨aTest_run⟩
noncomputable def aNotT (f : AT) : AT := fun ρ n Q => f ρ n fun b n1 => Q (!b) n1
instance {t : TT} {f : AT} [DT K t f] : DT K (tNot t) (aNotT f) := ⟨fun W σ ρ n H Q Qa hQ hE o h => DT.run (te := t) (f := f) W σ ρ n H _ _ (fun b n1 h1 H1 l1 o1 => hQ _ _ h1 H1 l1 o1) hE o h⟩
noncomputable def aAndT (f g : AT) : AT := fun ρ n Q => f ρ n fun b n1 => aIte b (g ρ n1 Q) (Q false n1)
noncomputable def aOrT (f g : AT) : AT := fun ρ n Q => f ρ n fun b n1 => aIte b (Q true n1) (g ρ n1 Q)
instance {t u : TT} {f g : AT} [DT K t f] [DT K u g] : DT K (tAnd t u) (aAndT f g) := ⟨fun W σ ρ n H Q Qa hQ hE o h =>
  DT.run (te := t) (f := f) W σ ρ n H _ _ (fun b n1 h1 H1 l1 o1 => by
    cases b with
    | true => rw [if_pos rfl]; exact DT.run (te := u) (f := g) W σ ρ n1 H1 Q Qa (fun b n2 h2 H2 l2 o2 => hQ _ _ h2 H2 (l1.trans l2) o2) (hE.le o l1) o1 (h1.1 rfl)
    | false => rw [if_neg Bool.false_ne_true]; exact hQ _ _ (h1.2 rfl) H1 l1 o1) hE o h⟩
instance {t u : TT} {f g : AT} [DT K t f] [DT K u g] : DT K (tOr t u) (aOrT f g) := ⟨fun W σ ρ n H Q Qa hQ hE o h =>
  DT.run (te := t) (f := f) W σ ρ n H _ _ (fun b n1 h1 H1 l1 o1 => by
    cases b with
    | false => rw [if_neg Bool.false_ne_true]; exact DT.run (te := u) (f := g) W σ ρ n1 H1 Q Qa (fun b n2 h2 H2 l2 o2 => hQ _ _ h2 H2 (l1.trans l2) o2) (hE.le o l1) o1 (h1.2 rfl)
    | true => rw [if_pos rfl]; exact hQ _ _ (h1.1 rfl) H1 l1 o1) hE o h⟩
noncomputable def aYes : AT := fun _ n Q => Q true n
instance : DT K tYes aYes := ⟨fun W σ ρ n H Q Qa hQ hE o h => hQ _ _ h H Wd.le_refl o⟩
noncomputable def aNotV (f : AE) : AE := fun ρ n Q => f ρ n fun d n1 => match d with
  | .bl b => Q (.bl (!b)) n1
  | _ => False
noncomputable def aBits (f : AE) : AE := fun ρ n Q => f ρ n fun d n1 => match d with
  | .int i => Q (.int (Builtin.Int.intBits i : Nat)) n1
  | _ => False
noncomputable def aAndV (f g : AE) : AE := fun ρ n Q => f ρ n fun d n1 => match d with
  | .bl b => aIte b (g ρ n1 Q) (Q (.bl false) n1)
  | _ => False
instance {te : TE} {f : AE} [DE K te f] : DE K (tNotV te) (aNotV f) := ⟨fun W σ ρ n H Q Qa hQ hE o h =>
  DE.run (te := te) (f := f) W σ ρ n H _ _ (fun d n1 h1 H1 x l1 o1 ax => by
    split at h1
    · cases ax
      exact ⟨_, rfl, (hQ.le l1).now o1 h1 (.bl _)⟩
    · exact h1.elim) hE o h⟩
instance {te : TE} {f : AE} [DE K te f] : DE K (tBits te) (aBits f) := ⟨fun W σ ρ n H Q Qa hQ hE o h =>
  DE.run (te := te) (f := f) W σ ρ n H _ _ (fun d n1 h1 H1 x l1 o1 ax => by
    split at h1
    · cases ax
      exact ⟨_, rfl, (hQ.le l1).now o1 h1 (.int _)⟩
    · exact h1.elim) hE o h⟩
instance {te tu : TE} {f g : AE} [DE K te f] [DE K tu g] : DE K (tAndV te tu) (aAndV f g) := ⟨fun W σ ρ n H Q Qa hQ hE o h =>
  DE.run (te := te) (f := f) W σ ρ n H _ _ (fun d n1 h1 H1 x l1 o1 ax => by
    split at h1
    · rename_i b
      cases ax
      refine ⟨_, rfl, ?_⟩
      cases b with
      | true => rw [if_pos rfl]; exact DE.run (te := tu) (f := g) W σ ρ n1 H1 Q Qa (hQ.le l1) (hE.le o l1) o1 (h1.1 rfl)
      | false => rw [if_neg Bool.false_ne_true]; exact (hQ.le l1).now o1 (h1.2 rfl) (.bl _)
    · exact h1.elim) hE o h⟩
/-! argument lists, displays, calls -/
noncomputable def aNil : AA := fun _ n Q => Q [] n
noncomputable def aCons (f : AE) (g : AA) : AA := fun ρ n Q => f ρ n fun d n1 => g ρ n1 fun ds n2 => Q (d :: ds) n2
instance : DA K tNil aNil := ⟨fun W σ ρ n H Q Qa hQ hE o h => hQ _ _ h H _ Wd.le_refl o .nil⟩
instance {te : TE} {ta : TA} {f : AE} {g : AA} [DE K te f] [DA K ta g] : DA K (tCons te ta) (aCons f g) := ⟨fun W σ ρ n H Q Qa hQ hE o h =>
  DE.run (te := te) (f := f) W σ ρ n H _ _ (fun d n1 h1 H1 x l1 o1 ax => DA.run (te := ta) (f := g) W σ ρ n1 H1 _ _ (fun ds n2 h2 H2 xs l2 o2 axs => hQ _ _ h2 H2 _ (l1.trans l2) o2 (.cons (At.le o1 l2 d ax) axs)) (hE.le o l1) o1 h1) hE o h⟩
noncomputable def aTup (g : AA) : AE := fun ρ n Q => g ρ n fun ds n1 => match Nat.ble ds.length 1000 with
  | true => Q (.tup ds) n1
  | false => False
noncomputable def aLst (g : AA) : AE := fun ρ n Q => g ρ n fun ds n1 => match Nat.ble ds.length 1000 with
  | true => Q (.lst ds) n1
  | false => False
instance {ta : TA} {g : AA} [DA K ta g] : DE K (tTup ta) (aTup g) := ⟨fun W σ ρ n H Q Qa hQ hE o h =>
  DA.run (te := ta) (f := g) W σ ρ n H _ _ (fun ds n1 h1 H1 xs l1 o1 ax => by
    split at h1
    · rename_i e
      refine ⟨size63 (by rw [ax.length]; exact Nat.le_of_ble_eq_true e), fun p hp => (hQ.le l1).new o1 h1 hp ?_⟩
      exact .tup (.inl (.inl upd_same)) (AtAll.le o1 (Wd.le_same (same_upd hp)) ds ax)
    · exact h1.elim) hE o h⟩
instance {ta : TA} {g : AA} [DA K ta g] : DE K (tLst ta) (aLst g) := ⟨fun W σ ρ n H Q Qa hQ hE o h =>
  DA.run (te := ta) (f := g) W σ ρ n H _ _ (fun ds n1 h1 H1 xs l1 o1 ax => by
    split at h1
    · rename_i e
      refine ⟨size63 (by rw [ax.length]; exact Nat.le_of_ble_eq_true e), fun p hp => (hQ.le l1).new o1 h1 hp ?_⟩
      exact .lst (o1.fresh hp) upd_same (AtAll.le o1 (Wd.le_same (same_upd hp)) ds ax)
    · exact h1.elim) hE o h⟩
noncomputable abbrev ASp := List D → Nat → (D → Nat → Prop) → Prop
/-- the promise of a def that only makes new things (and draws) -/
noncomputable def spOf (K : PySem.W.Frag) (k : Nat) (A : ASp) : Sp := fun vs H Q _ => ∃ (W : Wd) (n : Nat) (ds : List D) (Qa : D → Nat → Prop), AtAll K W H vs ds ∧ ds.length = k ∧ W.ok K n H ∧ Wants K W H Qa Q ∧ A ds n Qa
noncomputable def aCall (k : Nat) (A : ASp) (g : AA) : AE := fun ρ n Q => g ρ n fun ds n1 => match Nat.beq ds.length k with
  | true => A ds n1 Q
  | false => False
instance {k : Nat} {A : ASp} {E : XK} {ta : TA} {g : AA} [DA K ta g] : DE K (tCall (spOf K k A) [] E ta) (aCall k A g) := ⟨fun W σ ρ n H Q Qa hQ hE o h =>
  DA.run (te := ta) (f := g) W σ ρ n H _ _ (fun ds n1 h1 H1 xs l1 o1 ax => by
    rw [List.append_nil]
    split at h1
    · rename_i e
      exact ⟨W, n1, ds, Qa, ax, Nat.eq_of_beq_eq_true e, o1, hQ.le l1, h1⟩
    · exact h1.elim) hE o h⟩
noncomputable def aCB (f : List D → Nat → (D → Nat → Prop) → Prop) (g : AA) : AE := fun ρ n Q => g ρ n fun ds n1 => f ds n1 Q
instance {r : List V → Hp → VK → Prop} {f : List D → Nat → (D → Nat → Prop) → Prop} {ta : TA} {g : AA} [DL K r f] [DA K ta g] : DE K (tCB r ta) (aCB f g) := ⟨fun W σ ρ n H Q Qa hQ hE o h =>
  DA.run (te := ta) (f := g) W σ ρ n H _ _ (fun ds n1 h1 H1 xs l1 o1 ax => DL.run (f := f) W n1 H1 xs ds Q Qa (hQ.le l1) o1 ax h1) hE o h⟩
end
/-! ### the mirror, second part: rules over the kinds -/
section
variable {K : PySem.W.Frag}
theorem take_at {W : Wd} {H : Hp} : ∀ (k : Nat) {vs : List V} {ds : List D}, AtAll K W H vs ds → AtAll K W H (vs.take k) (ds.take k)
  | 0, _, _, _ => .nil
  | k + 1, _, [], h => by cases h; exact .nil
  | k + 1, _, d :: ds, h => by
    cases h with
    | cons a r => exact .cons a (take_at k r)
theorem drop_at {W : Wd} {H : Hp} : ∀ (k : Nat) {vs : List V} {ds : List D}, AtAll K W H vs ds → AtAll K W H (vs.drop k) (ds.drop k)
  | 0, _, _, h => h
  | k + 1, _, [], h => by cases h; exact .nil
  | k + 1, _, d :: ds, h => by
    cases h with
    | cons a r => exact drop_at k r
theorem rev_at {W : Wd} {H : Hp} : ∀ {vs : List V} {ds : List D}, AtAll K W H vs ds → AtAll K W H vs.reverse ds.reverse
  | _, [], h => by cases h; exact .nil
  | _, d :: ds, h => by
    cases h with
    | cons a r =>
      rw [List.reverse_cons, List.reverse_cons]
      exact (rev_at r).append (.cons a .nil)
theorem atI_at {W : Wd} {H : Hp} {vs : List V} {ds : List D} {i : Int} {d : D} (h : AtAll K W H vs ds) (e : atI ds i = some d) : ∃ v, atI vs i = some v ∧ At K W H v d := by
  unfold atI at e ⊢
  rw [h.length]
  cases e1 : ixN ds.length i with
  | none => rw [e1] at e; cases e
  | some j =>
    rw [e1] at e
    obtain ⟨v, h1, h2⟩ := h.get (i := j) e
    exact ⟨v, h1, h2⟩
theorem lim : (1000000 : Nat) ≤ sizeLine := by rw [sizeLine_eq]; decide
/-! a place in a list, a tuple, a text -/
noncomputable def aIx : D → D → Nat → (D → Nat → Prop) → Prop
  | .tup ds, .int i, n, Q => (match atI ds i with
    | some d => Q d n
    | none => False)
  | .lst ds, .int i, n, Q => (match atI ds i with
    | some d => Q d n
    | none => False)
  | .str z, .int i, n, Q => z.length ≤ 1000000 ∧ (match atI z.cps.toList i with
    | some c => Q (.str ⟨#[c]⟩) n
    | none => False)
  | _, _, _, _ => False
instance : D2 K (rIx K) aIx := ⟨fun W n H x y d e Q Qa hQ o ax ay h => by
  unfold aIx at h
  split at h
  · cases ay
    cases ax with
    | tup s a =>
      split at h
      · rename_i d' e'
        obtain ⟨v, h1, h2⟩ := atI_at a e'
        exact .inr (.inl ⟨_, _, _, v, rfl, rfl, s, h1, hQ.now o h h2⟩)
      · exact h.elim
  · cases ay
    cases ax with
    | lst r s a =>
      split at h
      · rename_i d' e'
        obtain ⟨v, h1, h2⟩ := atI_at a e'
        exact .inl ⟨_, _, _, v, rfl, rfl, SqL.of s, h1, hQ.now o h h2⟩
      · exact h.elim
  · cases ay
    cases ax
    obtain ⟨hl, h⟩ := h
    split at h
    · rename_i c e'
      exact .inr (.inr ⟨_, _, c, rfl, rfl, Nat.le_trans hl lim, e', hQ.now o h (.str _)⟩)
    · exact h.elim
  · exact h.elim⟩
theorem k_ix {X : Cx} (hK : X.K = K) : IxR X (rIx K) := hK ▸ ix_seq
/-- the same, where the place is not written -/
noncomputable def rIxY (K : PySem.W.Frag) : R2 := rIx K
@[irreducible] noncomputable def aIxS : D → D → Nat → (D → Nat → Prop) → Prop := aIx
instance : D2 K (rIxY K) aIxS := ⟨fun W n H x y d e Q Qa hQ o ax ay h => by
  unfold aIxS at h
  exact D2.run (K := K) (r := rIx K) (f := aIx) W n H x y d e Q Qa hQ o ax ay h⟩
theorem k_ixS {X : Cx} (hK : X.K = K) : IxR X (rIxY K) := hK ▸ ix_seq
theorem aIx_lst {ds : List D} {i : Int} {d : D} {n : Nat} {Q : D → Nat → Prop} (e : atI ds i = some d) (q : Q d n) : aIxS (.lst ds) (.int i) n Q := by
  unfold aIxS
  show (match atI ds i with
    | some d => Q d n
    | none => False)
  rw [e]
  exact q
theorem aIx_tup {ds : List D} {i : Int} {d : D} {n : Nat} {Q : D → Nat → Prop} (e : atI ds i = some d) (q : Q d n) : aIxS (.tup ds) (.int i) n Q := by
  unfold aIxS
  show (match atI ds i with
    | some d => Q d n
    | none => False)
  rw [e]
  exact q
/-! + -/
noncomputable def rAddA (K : PySem.W.Frag) : R2 := fun x y H Q => (rI0 (fun i j => .int (i + j)) x y H Q ∨ rCat x y H Q) ∨ (rCatT K x y H Q ∨ ∃ i j, x = .str i ∧ y = .str j ∧ i.length + j.length ≤ sizeLine ∧ Q (.str (i ++ j)) H)
theorem OpR.or' {X : Cx} {op : Value → Value → Sem Value} {r r' : R2} (h : OpR X op r) (h' : OpR X op r') : OpR X op (fun x y H Q => r x y H Q ∨ r' x y H Q) := by
  intro pins s σ H x y v u Q I rx ry q
  rcases q with q | q
  · exact h pins s σ H x y v u Q I rx ry q
  · exact h' pins s σ H x y v u Q I rx ry q
theorem k_add {X : Cx} (hK : X.K = K) : OpR X (binaryOp .Add) (rAddA K) := hK ▸ OpR.or' (OpR.or' op_add op_cat) (OpR.or' op_catT op_add_str)
noncomputable def aAdd : D → D → Nat → (D → Nat → Prop) → Prop
  | .int i, .int j, n, Q => Q (.int (i + j)) n
  | .lst ds, .lst es, n, Q => ds.length + es.length ≤ 1000000 ∧ Q (.lst (ds ++ es)) n
  | .tup ds, .tup es, n, Q => ds ≠ [] ∧ ds.length + es.length ≤ 1000000 ∧ Q (.tup (ds ++ es)) n
  | .str a, .str b, n, Q => a.length + b.length ≤ 1000000 ∧ Q (.str (a ++ b)) n
  | _, _, _, _ => False
instance : D2 K (rAddA K) aAdd := ⟨fun W n H x y d e Q Qa hQ o ax ay h => by
  unfold aAdd at h
  split at h
  · cases ax
    cases ay
    exact .inl (.inl ⟨_, _, rfl, rfl, hQ.now o h (.int _)⟩)
  · cases ax with
    | lst r s a =>
      cases ay with
      | lst r' s' a' =>
        refine .inl (.inr ⟨_, _, _, _, rfl, rfl, s, s', ?_, fun p hp => hQ.new o h.2 hp ?_⟩)
        · rw [a.length, a'.length]
          exact Nat.le_trans h.1 lim
        · exact .lst (o.fresh hp) upd_same ((AtAll.le o (Wd.le_same (same_upd hp)) _ a).append (AtAll.le o (Wd.le_same (same_upd hp)) _ a'))
  · cases ax with
    | tup s a =>
      cases ay with
      | tup s' a' =>
        obtain ⟨h0, h1, h2⟩ := h
        refine .inr (.inl ⟨_, _, _, _, rfl, rfl, s, s', ?_, ?_, fun z => ?_, fun z p hp => hQ.new o h2 hp ?_⟩)
        · rintro rfl
          cases a
          exact h0 rfl
        · rw [a.length, a'.length]
          exact Nat.le_trans h1 lim
        · subst z
          cases a'
          rw [List.append_nil] at h2
          exact hQ.now o h2 (.tup s a)
        · exact .tup (.inl (.inl upd_same)) ((AtAll.le o (Wd.le_same (same_upd hp)) _ a).append (AtAll.le o (Wd.le_same (same_upd hp)) _ a'))
  · cases ax
    cases ay
    exact .inr (.inr ⟨_, _, rfl, rfl, Nat.le_trans h.1 lim, hQ.now o h.2 (.str _)⟩)
  · exact h.elim⟩
/-! * and // of numbers of any size -/
noncomputable def CMulA (i j : Int) : Prop := CMul i j ∨ CMulW i j
noncomputable def CDivA (i j : Int) : Prop := CDiv i j ∨ CDivW i j
theorem k_mul {X : Cx} : OpR X (binaryOp .Mult) (rI CMulA fun i j => .int (i * j)) := by
  intro pins s σ H x y v u Q I rx ry q
  obtain ⟨i, j, h1, h2, h | h, q⟩ := q
  · exact op_mul pins s σ H x y v u Q I rx ry ⟨i, j, h1, h2, h, q⟩
  · exact op_mulW pins s σ H x y v u Q I rx ry ⟨i, j, h1, h2, h, q⟩
theorem k_fdiv {X : Cx} : OpR X (binaryOp .FloorDiv) (rI CDivA fun i j => .int (i / j)) := by
  intro pins s σ H x y v u Q I rx ry q
  obtain ⟨i, j, h1, h2, h | h, q⟩ := q
  · exact op_fdiv pins s σ H x y v u Q I rx ry ⟨i, j, h1, h2, h, q⟩
  · exact op_fdivW pins s σ H x y v u Q I rx ry ⟨i, j, h1, h2, h, q⟩
/-! == at any depth -/
mutual
noncomputable def D.pd : D → PyData
  | .bl b => .bool b | .int i => .int i | .str x => .str x | .tup ds => .tuple (pdAll ds) | .lst ds => .list (pdAll ds)
  | _ => .none
noncomputable def pdAll : List D → List PyData
  | [] => []
  | d :: ds => d.pd :: pdAll ds
end
mutual
noncomputable def D.isD : D → Bool
  | .non => true | .bl _ => true | .int _ => true | .str _ => true | .tup ds => isDAll ds | .lst ds => isDAll ds
  | _ => false
noncomputable def isDAll : List D → Bool
  | [] => true
  | d :: ds => d.isD && isDAll ds
end
mutual
theorem At.dp {W : Wd} {H : Hp} : ∀ (d : D) {v : V}, d.isD = true → At K W H v d → Dp K H v d.pd
  | .non, _, _, h => by cases h; exact .non
  | .bl b, _, _, h => by cases h; exact .bl b
  | .int i, _, _, h => by cases h; exact .int i
  | .str x, _, _, h => by cases h; exact .str x
  | .ty t, _, e, _ => Bool.noConfusion e
  | .cls a, _, e, _ => Bool.noConfusion e
  | .tup ds, _, e, h => by
    cases h with
    | tup s a => exact .tup s (AtAll.dp ds e a)
  | .lst ds, _, e, h => by
    cases h with
    | lst r s a => exact .lst (SqL.of s) (AtAll.dp ds e a)
  | .dic ks ds, _, e, _ => Bool.noConfusion e
  | .ins C ns ds, _, e, _ => Bool.noConfusion e
  | .deck, _, e, _ => Bool.noConfusion e
  | .xcp _ _ _ _ _, _, e, _ => Bool.noConfusion e
theorem AtAll.dp {W : Wd} {H : Hp} : ∀ (ds : List D) {vs : List V}, isDAll ds = true → AtAll K W H vs ds → DpAll K H vs (pdAll ds)
  | [], _, _, h => by cases h; exact .nil
  | d :: ds, _, e, h => by
    have e' : (d.isD && isDAll ds) = true := e
    rw [Bool.and_eq_true] at e'
    cases h with
    | cons a r => exact .cons (At.dp d e'.1 a) (AtAll.dp ds e'.2 r)
end
noncomputable def rEqA (K : PySem.W.Frag) : R2 := fun x y H Q => rEq x y H Q ∨ rEqD K x y H Q
noncomputable def rNeA (K : PySem.W.Frag) : R2 := fun x y H Q => rNe x y H Q ∨ rNeD K x y H Q
theorem k_eq {X : Cx} (hK : X.K = K) (hu : X.A.units + 64 < cLine) : OpR X (compareOp .Eq) (rEqA K) := hK ▸ OpR.or' op_eq (op_eqD hu)
theorem k_ne {X : Cx} (hK : X.K = K) (hu : X.A.units + 64 < cLine) : OpR X (compareOp .NotEq) (rNeA K) := hK ▸ OpR.or' op_ne (op_neD hu)
noncomputable def aEq (f : Bool → Bool) : D → D → Nat → (D → Nat → Prop) → Prop := fun d e n Q => match eqS d e with
  | some b => Q (.bl (f b)) n
  | none => (d.isD = true ∧ e.isD = true ∧ SeqAt.shaped d.pd = true ∧ SeqAt.shaped e.pd = true) ∧ Q (.bl (f (PyData.eqv d.pd e.pd))) n
instance : D2 K (rEqA K) (aEq id) := ⟨fun W n H x y d e Q Qa hQ o ax ay h => by
  unfold aEq at h
  split at h
  · rename_i b e
    obtain ⟨h1, h2⟩ := eqS_is ax ay e
    refine .inl ⟨h1, ?_⟩
    rw [h2]
    exact hQ.now o h (.bl _)
  · obtain ⟨⟨h1, h2, h3, h4⟩, h⟩ := h
    exact .inr ⟨_, _, At.dp d h1 ax, At.dp e h2 ay, h3, h4, hQ.now o h (.bl _)⟩⟩
instance : D2 K (rNeA K) (aEq not) := ⟨fun W n H x y d e Q Qa hQ o ax ay h => by
  unfold aEq at h
  split at h
  · rename_i b e
    obtain ⟨h1, h2⟩ := eqS_is ax ay e
    refine .inl ⟨h1, ?_⟩
    rw [h2]
    exact hQ.now o h (.bl _)
  · obtain ⟨⟨h1, h2, h3, h4⟩, h⟩ := h
    exact .inr ⟨_, _, At.dp d h1 ax, At.dp e h2 ay, h3, h4, hQ.now o h (.bl _)⟩⟩
/-! is None -/
noncomputable def rIsN : R2 := fun x y H Q => y = .non ∧ Q (.bl (decide (x = .non))) H
noncomputable def rNotN : R2 := fun x y H Q => y = .non ∧ Q (.bl (!decide (x = .non))) H
theorem k_isN {X : Cx} : OpR X (compareOp .Is) rIsN := op_isN
theorem k_notN {X : Cx} : OpR X (compareOp .IsNot) rNotN := op_notN
noncomputable def D.isN : D → Bool
  | .non => true
  | _ => false
noncomputable def aIsN (f : Bool → Bool) : D → D → Nat → (D → Nat → Prop) → Prop
  | d, .non, n, Q => Q (.bl (f d.isN)) n
  | _, _, _, _ => False
theorem isN_is {W : Wd} {H : Hp} {x : V} {d : D} (ax : At K W H x d) : decide (x = .non) = d.isN := by
  cases ax <;> rfl
instance : D2 K rIsN (aIsN id) := ⟨fun W n H x y d e Q Qa hQ o ax ay h => by
  unfold aIsN at h
  split at h
  · cases ay
    refine ⟨rfl, ?_⟩
    rw [isN_is ax]
    exact hQ.now o h (.bl _)
  · exact h.elim⟩
instance : D2 K rNotN (aIsN not) := ⟨fun W n H x y d e Q Qa hQ o ax ay h => by
  unfold aIsN at h
  split at h
  · cases ay
    refine ⟨rfl, ?_⟩
    rw [isN_is ax]
    exact hQ.now o h (.bl _)
  · exact h.elim⟩
/-! built-in functions -/
noncomputable def rLen (K : PySem.W.Frag) : List V → Hp → VK → Prop := fun xs H Q => ∃ x n, xs = [x] ∧ LenV K x H n ∧ Q (.int n) H
theorem k_len {X : Cx} (hK : X.K = K) : CallR X (.builtin "len") (rLen K) := hK ▸ call_len
noncomputable def aLen : List D → Nat → (D → Nat → Prop) → Prop
  | [.tup ds], n, Q => Q (.int ds.length) n
  | [.lst ds], n, Q => Q (.int ds.length) n
  | [.str z], n, Q => z.length ≤ 1000000 ∧ Q (.int z.length) n
  | _, _, _ => False
instance : DL K (rLen K) aLen := ⟨fun W n H xs ds Q Qa hQ o a h => by
  unfold aLen at h
  split at h
  · cases a with
    | cons a r =>
      cases r
      cases a with
      | tup s a => exact ⟨_, _, rfl, .inr ⟨_, s, rfl⟩, by rw [a.length]; exact hQ.now o h (.int _)⟩
  · cases a with
    | cons a r =>
      cases r
      cases a with
      | lst _ s a => exact ⟨_, _, rfl, .inl ⟨_, SqL.of s, rfl⟩, by rw [a.length]; exact hQ.now o h (.int _)⟩
  · cases a with
    | cons a r =>
      cases r
      cases a
      exact ⟨_, _, rfl, ⟨Nat.le_trans h.1 lim, rfl⟩, hQ.now o h.2 (.int _)⟩
  · exact h.elim⟩
noncomputable def rAbs : List V → Hp → VK → Prop := fun xs H Q => ∃ i, xs = [.int i] ∧ Q (.int (if i < 0 then -i else i)) H
theorem k_abs {X : Cx} : CallR X (.builtin "abs") rAbs := call_abs
noncomputable def aAbs : List D → Nat → (D → Nat → Prop) → Prop
  | [.int i], n, Q => Q (.int (if i < 0 then -i else i)) n
  | _, _, _ => False
instance : DL K rAbs aAbs := ⟨fun W n H xs ds Q Qa hQ o a h => by
  unfold aAbs at h
  split at h
  · cases a with
    | cons a r =>
      cases r
      cases a
      exact ⟨_, rfl, hQ.now o h (.int _)⟩
  · exact h.elim⟩
noncomputable def rMax2 : List V → Hp → VK → Prop := fun xs H Q => ∃ i j, xs = [.int i, .int j] ∧ Q (.int (if j > i then j else i)) H
noncomputable def rMin2 : List V → Hp → VK → Prop := fun xs H Q => ∃ i j, xs = [.int i, .int j] ∧ Q (.int (if j < i then j else i)) H
theorem k_max2 {X : Cx} (hc : X.calm = true) : CallR X (.builtin "max") rMax2 := call_max2 hc
theorem k_min2 {X : Cx} (hc : X.calm = true) : CallR X (.builtin "min") rMin2 := call_min2 hc
noncomputable def aMM (g : Int → Int → Int) : List D → Nat → (D → Nat → Prop) → Prop
  | [.int i, .int j], n, Q => Q (.int (g i j)) n
  | _, _, _ => False
instance : DL K rMax2 (aMM fun i j => if j > i then j else i) := ⟨fun W n H xs ds Q Qa hQ o a h => by
  unfold aMM at h
  split at h
  · cases a with
    | cons a r =>
      cases r with
      | cons b r =>
        cases r
        cases a
        cases b
        exact ⟨_, _, rfl, hQ.now o h (.int _)⟩
  · exact h.elim⟩
instance : DL K rMin2 (aMM fun i j => if j < i then j else i) := ⟨fun W n H xs ds Q Qa hQ o a h => by
  unfold aMM at h
  split at h
  · cases a with
    | cons a r =>
      cases r with
      | cons b r =>
        cases r
        cases a
        cases b
        exact ⟨_, _, rfl, hQ.now o h (.int _)⟩
  · exact h.elim⟩
noncomputable def rListOf (K : PySem.W.Frag) : List V → Hp → VK → Prop := fun xs H Q => ∃ p ys, xs = [.ref p] ∧ (SqL K H p ys ∨ SqT K H p ys) ∧ ∀ l, H l = none → Q (.ref l) (upd H l (.lst ys))
noncomputable def rTupOf (K : PySem.W.Frag) : List V → Hp → VK → Prop := fun xs H Q => ∃ p ys, xs = [.ref p] ∧ ((SqL K H p ys ∧ ∀ l, H l = none → Q (.ref l) (upd H l (.tup ys))) ∨ (SqT K H p ys ∧ Q (.ref p) H))
theorem k_list {X : Cx} (hK : X.K = K) : CallR X (.type "list") (rListOf K) := hK ▸ call_list_of
theorem k_tuple {X : Cx} (hK : X.K = K) : CallR X (.type "tuple") (rTupOf K) := hK ▸ call_tuple_of
noncomputable def aListOf : List D → Nat → (D → Nat → Prop) → Prop
  | [.tup ds], n, Q => Q (.lst ds) n
  | [.lst ds], n, Q => Q (.lst ds) n
  | _, _, _ => False
noncomputable def aTupOf : List D → Nat → (D → Nat → Prop) → Prop
  | [.tup ds], n, Q => Q (.tup ds) n
  | [.lst ds], n, Q => Q (.tup ds) n
  | _, _, _ => False
instance : DL K (rListOf K) aListOf := ⟨fun W n H xs ds Q Qa hQ o a h => by
  unfold aListOf at h
  split at h
  · cases a with
    | cons a r =>
      cases r
      cases a with
      | tup s a => exact ⟨_, _, rfl, .inr s, fun p hp => hQ.new o h hp (.lst (o.fresh hp) upd_same (AtAll.le o (Wd.le_same (same_upd hp)) _ a))⟩
  · cases a with
    | cons a r =>
      cases r
      cases a with
      | lst _ s a => exact ⟨_, _, rfl, .inl (SqL.of s), fun p hp => hQ.new o h hp (.lst (o.fresh hp) upd_same (AtAll.le o (Wd.le_same (same_upd hp)) _ a))⟩
  · exact h.elim⟩
instance : DL K (rTupOf K) aTupOf := ⟨fun W n H xs ds Q Qa hQ o a h => by
  unfold aTupOf at h
  split at h
  · cases a with
    | cons a r =>
      cases r
      cases a with
      | tup s a => exact ⟨_, _, rfl, .inr ⟨s, hQ.now o h (.tup s a)⟩⟩
  · cases a with
    | cons a r =>
      cases r
      cases a with
      | lst _ s a => exact ⟨_, _, rfl, .inl ⟨SqL.of s, fun p hp => hQ.new o h hp (.tup (.inl (.inl upd_same)) (AtAll.le o (Wd.le_same (same_upd hp)) _ a))⟩⟩
  · exact h.elim⟩
/-! isinstance -/
noncomputable def D.tv : D → Option Ty
  | .non => some .non | .bl _ => some .bl | .int _ => some .int | .str _ => some .str | .tup _ => some .tup | .lst _ => some .lst | .dic _ _ => some .dic
  | _ => none
noncomputable def isiB : Ty → Ty → Bool
  | .non, .non => true | .bl, .bl => true | .bl, .int => true | .int, .int => true | .str, .str => true | .tup, .tup => true | .lst, .lst => true | .dic, .dic => true
  | _, _ => false
theorem kitB_is (a b : Ty) (h : b ≠ .non) (hb : b ≠ .verr) (ha : a ≠ .verr) : kitB a.nm b.nm = some (isiB a b) := by
  cases a <;> cases b <;> first
    | exact absurd rfl h
    | exact absurd rfl hb
    | exact absurd rfl ha
    | decide +kernel
theorem tv_nv {d : D} (e : d.tv = some .verr) : False := by
  cases d <;> cases e
theorem tv_is {W : Wd} {H : Hp} {x : V} {d : D} {t : Ty} (ax : At K W H x d) (e : d.tv = some t) : TyX K H x (.type t.nm) := by
  cases ax <;> cases e
  · exact .base .non
  · exact .base (.bl _)
  · exact .base (.int _)
  · exact .base (.str _)
  · rename_i a xs ds s _
    rcases s with (h | ⟨o, h⟩) | ⟨o, its, n, h, hc, _⟩
    · exact .base (.tup h)
    · exact .fTuple h
    · exact .kTuple h hc
  · rename_i r s _
    exact .base (.lst s)
  · rename_i r s _ _
    exact .base (.dK s)
theorem k_isi {X : Cx} (hK : X.K = K) : CallR X (.builtin "isinstance") (rIsi K) := hK ▸ call_isi
noncomputable def okTy : Ty → Bool
  | .non => false | .verr => false | _ => true
theorem okTy_ne {t : Ty} (h : okTy t = true) : t ≠ .non ∧ t ≠ .verr := ⟨fun z => (by rw [z] at h; cases h), fun z => (by rw [z] at h; cases h)⟩
noncomputable def aIsi : List D → Nat → (D → Nat → Prop) → Prop
  | [d, .ty t], n, Q => (match d.tv, okTy t with
    | some t', true => Q (.bl (isiB t' t)) n
    | _, _ => False)
  | _, _, _ => False
theorem isi_of {ds : List D} {n : Nat} {Q : D → Nat → Prop} (h : aIsi ds n Q) : ∃ (d : D) (t t' : Ty), ds = [d, .ty t] ∧ d.tv = some t' ∧ okTy t = true ∧ Q (.bl (isiB t' t)) n := by
  match ds, h with
  | [d, .ty t], h =>
    have h' : (match d.tv, okTy t with
      | some t', true => Q (.bl (isiB t' t)) n
      | _, _ => False) := h
    cases e1 : d.tv with
    | none => rw [e1] at h'; exact h'.elim
    | some t' =>
      cases e2 : okTy t with
      | false => rw [e1, e2] at h'; exact h'.elim
      | true => rw [e1, e2] at h'; exact ⟨d, t, t', rfl, e1, e2, h'⟩
theorem ty_at {W : Wd} {H : Hp} {y : V} {t : Ty} (a : At K W H y (.ty t)) : y = .ty t.nm := by
  cases a
  rfl
theorem at_two {W : Wd} {H : Hp} {xs : List V} {d e : D} (a : AtAll K W H xs [d, e]) : ∃ x y, xs = [x, y] ∧ At K W H x d ∧ At K W H y e := by
  cases a with
  | cons a r =>
    cases r with
    | cons b r =>
      cases r
      exact ⟨_, _, rfl, a, b⟩
instance : DL K (rIsi K) aIsi := ⟨fun W n H xs ds Q Qa hQ o a h => by
  obtain ⟨d, t, t', rfl, e1, e2, q⟩ := isi_of h
  obtain ⟨x, y, rfl, a, b⟩ := at_two a
  rw [ty_at b]
  obtain ⟨n1, n2⟩ := okTy_ne e2
  exact ⟨_, _, _, _, _, rfl, .ty _, tv_is a e1, kit_ty (kitB_is _ _ n1 n2 fun z => tv_nv (z ▸ e1)), hQ.now o q (.bl _)⟩⟩
/-! constants of the program's top, classes and types as values -/
noncomputable def tCls (a : Addr) : TE := tC (.ref a)
noncomputable def tTy (t : Ty) : TE := tC (.ty t.nm)
noncomputable def aD (d : D) : AE := fun _ n Q => Q d n
instance {a : Addr} : DE K (tCls a) (aD (.cls a)) := ⟨fun W σ ρ n H Q Qa hQ hE o h => hQ.now o h (.cls a)⟩
instance {t : Ty} : DE K (tTy t) (aD (.ty t)) := ⟨fun W σ ρ n H Q Qa hQ hE o h => hQ.now o h (.ty t)⟩
theorem k_cls {X : Cx} {x : Str} {a : Addr} {pos : Pos} (hg : Gl X x) (hm : X.mg x = some (.ref a)) (hd : (x == ("__debug__" : Str)) = false := by decide) : PE X (.Name x pos) (tCls a) := pe_glob (v := .ref a) hg hm rfl hd
theorem k_ty {X : Cx} {x : Str} {t : Ty} {pos : Pos} (hg : Gl X x) (hm : X.mg x = none) (hv : bootBuiltins x = some (.type t.nm)) (hn : x ≠ "__name__" := by decide) (hd : (x == ("__debug__" : Str)) = false := by decide) : PE X (.Name x pos) (tTy t) := pe_bltn (v := .ty t.nm) hg hm hv rfl hn hd
/-! fields -/
theorem lookup_at {W : Wd} {H : Hp} {f : Str} : ∀ {ns : List Str} {vs : List V} {ds : List D} {d : D}, AtAll K W H vs ds → (ns.zip ds).lookup f = some d → ∃ v, (ns.zip vs).lookup f = some v ∧ At K W H v d
  | [], _, _, _, _, e => by cases e
  | _ :: _, _, [], _, h, e => by cases h; cases e
  | x :: ns, _, d :: ds, d', h, e => by
    cases h with
    | cons a r =>
      rw [List.zip_cons_cons, List.lookup_cons] at e ⊢
      cases hb : f == x with
      | true =>
        rw [hb] at e
        cases e
        exact ⟨_, rfl, a⟩
      | false =>
        rw [hb] at e
        exact lookup_at r e
/-! slices of lists -/
noncomputable def cutL (xs : List D) (lo hi : Option Int) : List D := (xs.drop (HT.sIx xs.length 0 lo)).take (HT.sIx xs.length xs.length hi - HT.sIx xs.length 0 lo)
class DO (K : PySem.W.Frag) (te : TO) (f : outParam (Env' → Nat → (Option Int → Nat → Prop) → Prop)) : Prop where
  run : ∀ (W : Wd) (σ : L2.St) (ρ : Env') (n : Nat) (H : Hp) (Q : Option Int → Hp → Prop) (Qa : Option Int → Nat → Prop), (∀ b n', Qa b n' → ∀ H', W.le H H' → W.ok K n' H' → Q b H') → EnvAt K W H σ ρ → W.ok K n H → f ρ n Qa → te σ H Q
noncomputable def aNoPart : Env' → Nat → (Option Int → Nat → Prop) → Prop := fun _ n Q => Q none n
noncomputable def aPart (f : AE) : Env' → Nat → (Option Int → Nat → Prop) → Prop := fun ρ n Q => f ρ n fun d n1 => match d with
  | .int i => Q (some i) n1
  | _ => False
instance : DO K tNoPart aNoPart := ⟨fun W σ ρ n H Q Qa hQ hE o h => hQ _ _ h H Wd.le_refl o⟩
instance {te : TE} {f : AE} [DE K te f] : DO K (tPart te) (aPart f) := ⟨fun W σ ρ n H Q Qa hQ hE o h =>
  DE.run (te := te) (f := f) W σ ρ n H _ _ (fun d n1 h1 H1 x l1 o1 ax => by
    split at h1
    · cases ax
      exact ⟨_, rfl, hQ _ _ h1 H1 l1 o1⟩
    · exact h1.elim) hE o h⟩
noncomputable def rSlA (K : PySem.W.Frag) : V → Option Int → Option Int → Hp → VK → Prop := fun x lo hi H Q => rSlL K x lo hi H Q ∨ (fun x lo hi H Q => rSlT K x lo hi H Q ∨ rSlS x lo hi H Q) x lo hi H Q
noncomputable def aCut (d : D) (l u : Option Int) (n : Nat) (Q : D → Nat → Prop) : Prop := match d with
  | .lst ds => Q (.lst (cutL ds l u)) n
  | .tup ds => ¬ (HT.sIx ds.length 0 l = 0 ∧ HT.sIx ds.length ds.length u = ds.length) ∧ Q (.tup (cutL ds l u)) n
  | .str z => z.length ≤ 1000000 ∧ Q (.str (cutS z l u)) n
  | _ => False
noncomputable def aSl (fa : AE) (fl fu : Env' → Nat → (Option Int → Nat → Prop) → Prop) : AE := fun ρ n Q => fa ρ n fun d n1 => fl ρ n1 fun l n2 => fu ρ n2 fun u n3 => aCut d l u n3 Q
instance {te : TE} {tl tu : TO} {fa : AE} {fl fu : Env' → Nat → (Option Int → Nat → Prop) → Prop} [DE K te fa] [DO K tl fl] [DO K tu fu] : DE K (tSl (rSlA K) te tl tu) (aSl fa fl fu) := ⟨fun W σ ρ n H Q Qa hQ hE o h =>
  DE.run (te := te) (f := fa) W σ ρ n H _ _ (fun d n1 h1 H1 x l1 o1 ax => DO.run (te := tl) (f := fl) W σ ρ n1 H1 _ _ (fun l n2 h2 H2 l2 o2 => DO.run (te := tu) (f := fu) W σ ρ n2 H2 _ _ (fun u n3 h3 H3 l3 o3 => by
    have hQ3 := hQ.le (l1.trans (l2.trans l3))
    unfold aCut at h3
    split at h3
    · cases At.le o1 (l2.trans l3) _ ax with
      | lst r s a =>
        refine .inl ⟨_, _, rfl, SqL.of s, fun p hp => hQ3.new o3 h3 hp ?_⟩
        refine .lst (o3.fresh hp) upd_same ?_
        unfold cutV cutL
        rw [a.length]
        exact take_at _ (drop_at _ (AtAll.le o3 (Wd.le_same (same_upd hp)) _ a))
    · cases At.le o1 (l2.trans l3) _ ax with
      | tup s a =>
        refine .inr (.inl ⟨_, _, rfl, s, by rw [a.length]; exact h3.1, fun p hp => hQ3.new o3 h3.2 hp ?_⟩)
        refine .tup (.inl (.inl upd_same)) ?_
        unfold cutV cutL
        rw [a.length]
        exact take_at _ (drop_at _ (AtAll.le o3 (Wd.le_same (same_upd hp)) _ a))
    · cases ax
      exact .inr (.inr ⟨_, rfl, Nat.le_trans h3.1 lim, hQ3.now o3 h3.2 (.str _)⟩)
    · exact h3.elim) (hE.le o (l1.trans l2)) o2 h2) (hE.le o l1) o1 h1) hE o h⟩
theorem k_sl {X : Cx} (hK : X.K = K) : SlR X (rSlA K) := hK ▸ SlR.or sl_list (SlR.or sl_tup sl_str)
/-! texts and truths -/
noncomputable def rJoin (K : PySem.W.Frag) : V → List V → Hp → VK → Prop := fun x xs H Q => ∃ a p, ∃ ys : List Str, x = .str a ∧ xs = [.ref p] ∧ (SqL K H p (ys.map V.str) ∨ SqT K H p (ys.map V.str)) ∧ (ys.map (·.length)).sum + ys.length * a.length ≤ 16777216 ∧ Q (.str (Txt.join a ys)) H
noncomputable def tJoinK (K : PySem.W.Frag) (to te : TE) : TE := tM1 (rJoin K) to te
theorem k_join {X : Cx} {o e : Expr} {to te : TE} {apos pos : Pos} (hK : X.K = K) (ho : PE X o to) (he : PE X e te) (hs : starEach [e] X.env = [(false, eval e X.env)] := by rfl) (hbase : attributeBase o "join" X.env (eval o X.env) = eval o X.env := by rfl) (hline : (apos.endLine == pos.line) = true := by rfl) :
    PE X (.Call (.Attribute o "join" apos) [e] [] pos) (tJoinK K to te) := hK ▸ pe_join ho he hs hbase hline
noncomputable def aJoin (fa fb : AE) : AE := fun ρ n Q => fa ρ n fun x n1 => match x with
  | .str a => fb ρ n1 fun y n2 => (match y with
    | .lst ds => ∃ ys : List Str, ds = ys.map D.str ∧ (ys.map (·.length)).sum + ys.length * a.length ≤ 16777216 ∧ Q (.str (Txt.join a ys)) n2
    | .tup ds => ∃ ys : List Str, ds = ys.map D.str ∧ (ys.map (·.length)).sum + ys.length * a.length ≤ 16777216 ∧ Q (.str (Txt.join a ys)) n2
    | _ => False)
  | _ => False
theorem strs_at {W : Wd} {H : Hp} : ∀ {ys : List Str} {vs : List V}, AtAll K W H vs (ys.map D.str) → vs = ys.map V.str
  | [], _, h => by cases h; rfl
  | y :: ys, _, h => by
    cases h with
    | cons a r => cases a; rw [List.map_cons, strs_at r]
theorem ints_at {W : Wd} {H : Hp} : ∀ {ys : List Int} {vs : List V}, AtAll K W H vs (ys.map D.int) → vs = ys.map V.int
  | [], _, h => by cases h; rfl
  | y :: ys, _, h => by
    cases h with
    | cons a r => cases a; rw [List.map_cons, ints_at r]
theorem at_ints {W : Wd} {H : Hp} : ∀ ys : List Int, AtAll K W H (ys.map V.int) (ys.map D.int)
  | [] => .nil
  | y :: ys => .cons (.int y) (at_ints ys)
instance {to te : TE} {fa fb : AE} [DE K to fa] [DE K te fb] : DE K (tJoinK K to te) (aJoin fa fb) := ⟨fun W σ ρ n H Q Qa hQ hE o h =>
  DE.run (te := to) (f := fa) W σ ρ n H _ _ (fun d n1 h1 H1 x l1 o1 ax => by
    cases ax with
    | str a =>
      refine ⟨⟨_, rfl⟩, DE.run (te := te) (f := fb) W σ ρ n1 H1 _ _ (fun e n2 h2 H2 y l2 o2 ay => ?_) (hE.le o l1) o1 h1⟩
      cases ay with
      | lst r s b =>
        obtain ⟨ys, rfl, hl, q⟩ := h2
        rw [strs_at b] at s
        exact ⟨_, _, ys, rfl, rfl, .inl (SqL.of s), hl, (hQ.le (l1.trans l2)).now o2 q (.str _)⟩
      | tup s b =>
        obtain ⟨ys, rfl, hl, q⟩ := h2
        rw [strs_at b] at s
        exact ⟨_, _, ys, rfl, rfl, .inr s, hl, (hQ.le (l1.trans l2)).now o2 q (.str _)⟩
      | _ => exact h2.elim
    | _ => exact h1.elim) hE o h⟩
/-! int(..), str(..) of a number -/
noncomputable def rInt : List V → Hp → VK → Prop := fun xs H Q => (∃ i, xs = [.int i] ∧ Q (.int i) H) ∨ ∃ k, xs = [.bl k] ∧ Q (.int (if k then 1 else 0)) H
theorem k_int {X : Cx} : CallR X (.type "int") rInt := call_int1
noncomputable def aInt : List D → Nat → (D → Nat → Prop) → Prop
  | [.int i], n, Q => Q (.int i) n
  | [.bl b], n, Q => Q (.int (if b then 1 else 0)) n
  | _, _, _ => False
instance : DL K rInt aInt := ⟨fun W n H xs ds Q Qa hQ o a h => by
  unfold aInt at h
  split at h
  · cases a with
    | cons a r =>
      cases r
      cases a
      exact .inl ⟨_, rfl, hQ.now o h (.int _)⟩
  · cases a with
    | cons a r =>
      cases r
      cases a
      exact .inr ⟨_, rfl, hQ.now o h (.int _)⟩
  · exact h.elim⟩
/-! all, any, sum, max, min of a list -/
theorem k_sum {X : Cx} (hK : X.K = K) (hc : X.calm = true) : CallR X (.builtin "sum") (rSum K) := hK ▸ cr_sum hc
theorem k_max1 {X : Cx} (hK : X.K = K) (hc : X.calm = true) : CallR X (.builtin "max") (rMax K) := hK ▸ cr_max hc
noncomputable def aSum : List D → Nat → (D → Nat → Prop) → Prop := fun ds n Q => ∃ ns : List Int, ds = [.lst (ns.map D.int)] ∧ Q (.int ns.sum) n
instance : DL K (rSum K) aSum := ⟨fun W n H xs ds Q Qa hQ o a h => by
  obtain ⟨ns, rfl, q⟩ := h
  cases a with
  | cons a r =>
    cases r
    cases a with
    | lst _ s b => rw [ints_at b] at s; exact ⟨_, ns, rfl, SqL.of s, hQ.now o q (.int _)⟩⟩
noncomputable def aMax1 : List D → Nat → (D → Nat → Prop) → Prop := fun ds n Q => ∃ ns : List Int, ds = [.lst (ns.map D.int)] ∧ 0 < ns.length ∧ ∀ m, m ∈ ns → (∀ y, y ∈ ns → y ≤ m) → Q (.int m) n
instance : DL K (rMax K) aMax1 := ⟨fun W n H xs ds Q Qa hQ o a h => by
  obtain ⟨ns, rfl, hl, q⟩ := h
  cases a with
  | cons a r =>
    cases r
    cases a with
    | lst _ s b => rw [ints_at b] at s; exact ⟨_, ns, rfl, SqL.of s, hl, fun m h1 h2 => hQ.now o (q m h1 h2) (.int _)⟩⟩
/-! x in xs -/
end
/-! ### the mirror, third part: targets, what is walked, statements -/
section
variable {K : PySem.W.Frag}
/-! targets -/
noncomputable abbrev Upd (K : PySem.W.Frag) (W : Wd) (H : Hp) : List (Nat × V) → List (Nat × D) → Prop := Paired fun z u => z.1 = u.1 ∧ At K W H z.2 u.2
noncomputable def setAll : L2.St → List (Nat × V) → L2.St
  | σ, [] => σ
  | σ, z :: r => setAll (σ.set z.1 (some z.2)) r
noncomputable def eSetAll : Env' → List (Nat × D) → Env'
  | ρ, [] => ρ
  | ρ, u :: r => eSetAll (eSet ρ u.1 (some u.2)) r
theorem setAll_append : ∀ (σ : L2.St) (a b : List (Nat × V)), setAll σ (a ++ b) = setAll (setAll σ a) b
  | σ, [], b => rfl
  | σ, z :: r, b => setAll_append (σ.set z.1 (some z.2)) r b
theorem paired_append {α β : Type} {F : α → β → Prop} : ∀ {l l' : List α} {m m' : List β}, Paired F l m → Paired F l' m' → Paired F (l ++ l') (m ++ m')
  | _, _, _, _, .nil, h => h
  | _, _, _, _, .cons a r, h => .cons a (paired_append r h)
class DG (K : PySem.W.Frag) (g : TG) (f : outParam (D → Option (List (Nat × D)))) : Prop where
  run : ∀ (W : Wd) (σ : L2.St) (H : Hp) (v : V) (d : D) (us : List (Nat × D)) (Q : L2.St → Hp → Prop), At K W H v d → f d = some us → (∀ zs, Upd K W H zs us → Q (setAll σ zs) H) → g v σ H Q
class DGs (K : PySem.W.Frag) (g : TGs) (f : outParam (List D → Option (List (Nat × D)))) : Prop where
  run : ∀ (W : Wd) (σ : L2.St) (H : Hp) (vs : List V) (ds : List D) (us : List (Nat × D)) (Q : L2.St → Hp → Prop), AtAll K W H vs ds → f ds = some us → (∀ zs, Upd K W H zs us → Q (setAll σ zs) H) → g vs σ H Q
noncomputable def aName (i : Nat) : D → Option (List (Nat × D)) := fun d => some [(i, d)]
instance {i : Nat} : DG K (gName i) (aName i) := ⟨fun W σ H v d us Q a e h => by
  cases e
  exact h [(i, v)] (.cons ⟨rfl, a⟩ .nil)⟩
noncomputable def aGNil : List D → Option (List (Nat × D))
  | [] => some []
  | _ => none
noncomputable def aGCons (f : D → Option (List (Nat × D))) (g : List D → Option (List (Nat × D))) : List D → Option (List (Nat × D))
  | d :: r => (match f d, g r with
    | some a, some b => some (a ++ b)
    | _, _ => none)
  | [] => none
instance : DGs K gNil aGNil := ⟨fun W σ H vs ds us Q a e h => by
  cases a with
  | nil => cases e; exact ⟨rfl, h [] .nil⟩
  | cons _ _ => cases e⟩
instance {t : TG} {u : TGs} {f : D → Option (List (Nat × D))} {g : List D → Option (List (Nat × D))} [DG K t f] [DGs K u g] : DGs K (gCons t u) (aGCons f g) := ⟨fun W σ H vs ds us Q a e h => by
  cases a with
  | nil => cases e
  | @cons v vs d ds a r =>
    unfold aGCons at e
    cases e1 : f d with
    | none => simp only [e1] at e; cases e
    | some x =>
      cases e2 : g ds with
      | none => simp only [e1, e2] at e; cases e
      | some y =>
        simp only [e1, e2] at e
        cases e
        refine ⟨_, _, rfl, DG.run (g := t) (f := f) W σ H _ _ x _ a e1 fun zs hz => ?_⟩
        refine DGs.run (g := u) (f := g) W (setAll σ zs) H _ _ y _ r e2 fun ws hw => ?_
        rw [← setAll_append]
        exact h _ (paired_append hz hw)⟩
noncomputable def gTupK (K : PySem.W.Frag) (k : Nat) (t : TGs) : TG := fun v σ H Q => gTup K k t v σ H Q ∨ gLst K k t v σ H Q
theorem k_gtup {X : Cx} {es : List Expr} {k : Nat} {t : TGs} {pos : Pos} {m : Nat} (hK : X.K = K) (hc : X.calm = true) (h : PGs X es t)
    (hn : (assignEach es X.env).length = m := by rfl) (hst : (assignEach es X.env).findIdx? (·.1) = none := by rfl) : PG X (.Tuple es k pos) (gTupK K m t) := by
  subst hK
  refine ⟨fun pins s σ H v u Q I r hw => ?_⟩
  rcases hw with hw | hw
  · exact (pg_tup hc h hn hst).run pins s σ H v u Q I r hw
  · exact (pg_lst hc h hn hst).run pins s σ H v u Q I r hw
noncomputable def aGTup (k : Nat) (g : List D → Option (List (Nat × D))) : D → Option (List (Nat × D))
  | .tup ds => (match Nat.beq ds.length k with
    | true => g ds
    | false => none)
  | .lst ds => (match Nat.beq ds.length k with
    | true => g ds
    | false => none)
  | _ => none
instance {k : Nat} {t : TGs} {g : List D → Option (List (Nat × D))} [DGs K t g] : DG K (gTupK K k t) (aGTup k g) := ⟨fun W σ H v d us Q a e h => by
  unfold aGTup at e
  split at e
  · split at e
    · rename_i hb
      cases a with
      | tup s a => exact .inl ⟨_, _, rfl, s, by rw [a.length]; exact Nat.eq_of_beq_eq_true hb, DGs.run (g := t) (f := g) W σ H _ _ us Q a e h⟩
    · cases e
  · split at e
    · rename_i hb
      cases a with
      | lst r s a => exact .inr ⟨_, _, rfl, SqL.of s, by rw [a.length]; exact Nat.eq_of_beq_eq_true hb, DGs.run (g := t) (f := g) W σ H _ _ us Q a e h⟩
    · cases e
  · cases e⟩
theorem wipe_set {σ : L2.St} {i : Nat} {v : Option V} : ∀ {vs : List Nat}, i ∈ vs → wipe (σ.set i v) vs = wipe σ vs
  | [], h => by cases h
  | w :: vs, h => by
    show (wipe (σ.set i v) vs).set w none = (wipe σ vs).set w none
    by_cases hi : i ∈ vs
    · rw [wipe_set hi]
    · have e : i = w := by
        rcases List.mem_cons.mp h with z | z
        · exact z
        · exact absurd z hi
      subst e
      have : ∀ us : List Nat, i ∉ us → wipe (σ.set i v) us = (wipe σ us).set i v := fun us => by
        induction us with
        | nil => intro _; rfl
        | cons u us ih =>
          intro hn
          show (wipe (σ.set i v) us).set u none = ((wipe σ us).set u none).set i v
          rw [ih (fun z => hn (List.mem_cons_of_mem _ z)), List.set_comm _ _ (fun z => hn (by rw [z]; exact List.mem_cons_self))]
      rw [this vs hi, List.set_set]
theorem wipe_setAll {vs : List Nat} : ∀ {zs : List (Nat × V)} {σ : L2.St}, (∀ z ∈ zs, z.1 ∈ vs) → wipe (setAll σ zs) vs = wipe σ vs
  | [], _, _ => rfl
  | z :: r, σ, h => by
    show wipe (setAll (σ.set z.1 (some z.2)) r) vs = _
    rw [wipe_setAll fun y hy => h y (List.mem_cons_of_mem _ hy), wipe_set (h z List.mem_cons_self)]
theorem upd_slots {W : Wd} {H : Hp} {p : Nat → Prop} : ∀ {zs : List (Nat × V)} {us : List (Nat × D)}, Upd K W H zs us → (∀ u ∈ us, p u.1) → ∀ z ∈ zs, p z.1
  | _, _, .nil, _, z, h => by cases h
  | _, _, .cons ⟨e, _⟩ r, hu, z, h => by
    rcases List.mem_cons.mp h with rfl | h
    · rw [e]
      exact hu _ List.mem_cons_self
    · exact upd_slots r (fun u hu' => hu u (List.mem_cons_of_mem _ hu')) z h
theorem EnvAt.setAll {W : Wd} {H : Hp} : ∀ {zs : List (Nat × V)} {us : List (Nat × D)} {σ : L2.St} {ρ : Env'}, EnvAt K W H σ ρ → Upd K W H zs us → EnvAt K W H (setAll σ zs) (eSetAll ρ us)
  | _, _, _, _, h, .nil => h
  | _, _, _, _, h, .cons (a := (i, v)) (b := (j, d)) ⟨e, a⟩ r => by
    cases (show i = j from e)
    have := EnvAt.setAll (h.set (i := i) a) r
    exact this
/-! what is walked -/
noncomputable def Walks (K : PySem.W.Frag) (W : Wd) (J : It) (H : Hp) (ds : List D) : Prop := ∀ (W' : Wd), (∀ a, W'.rs a → ¬ W.rs a → H a = none) → W'.dk = W.dk → ∀ (H2 : Hp) (n2 : Nat), W'.le H H2 → W'.ok K n2 H2 → ∀ i : Nat,
  (∀ d, ds[i]? = some d → J.go i H2 ∧ ∀ x H3, J.yld i H2 x H3 → Same H2 H3 ∧ At K W' H3 x d) ∧ (ds.length ≤ i → J.stop i H2)
noncomputable abbrev AI := Env' → Nat → (List D → Nat → Prop) → Prop
class DI (K : PySem.W.Frag) (wi : TI) (f : outParam AI) : Prop where
  run : ∀ (W : Wd) (σ : L2.St) (ρ : Env') (n : Nat) (H : Hp) (R : It → Hp → Prop) (Qa : List D → Nat → Prop), (∀ ds n', Qa ds n' → ∀ J H', W.le H H' → W.ok K n' H' → Walks K W J H' ds → R J H') → EnvAt K W H σ ρ → W.ok K n H → f ρ n Qa → wi σ H R
theorem Wd.ok.lk' {W W' : Wd} {H : Hp} {n : Nat} (o : W.ok K n H) (hr : ∀ a, W'.rs a → ¬ W.rs a → H a = none) : W'.lk H := fun a r ob e => by
  by_cases hw : W.rs a
  · exact o.lk a hw ob e
  · rw [hr a r hw] at e
    cases e
noncomputable def iAny (K : PySem.W.Frag) (tl : TE) : TI := fun σ H R => tl σ H fun x H1 => ∃ a, x = .ref a ∧ (((∃ xs, SqL K H1 a xs) ∧ R (Itl K a) H1) ∨ ((∃ xs, SqT K H1 a xs) ∧ R (Itt K a) H1))
theorem k_iter {X : Cx} {tg l : Expr} {tl : TE} (hK : X.K = K) (hl : PE X l tl) : PI X tg l (iAny K tl) := by
  subst hK
  refine ⟨fun pins s σ H R I h => ?_⟩
  refine thn (hl.run pins s σ H _ I h) fun v s1 ⟨x, H1, I1, r1, q1⟩ => ?_
  obtain ⟨a, e, q1⟩ := q1
  subst e
  cases r1
  rcases q1 with ⟨⟨xs, hq⟩, q⟩ | ⟨⟨xs, hq⟩, q⟩
  · obtain ⟨its, rv, p, hz⟩ := I1.list hq
    refine wpAny_pyIter_list p.isList ?_
    refine ⟨s1.heap.objs.size, [s1.heap.objs.size], _, _, H1, rfl, I1.kept (t' := s1.toks) fun b o e => Heap.get?_push_of_some _ e, turn_list a _, ⟨_, Heap.get?_push_size _ rfl, rfl, rfl⟩, fun b hb => ?_, q⟩
    have e : b = s1.heap.objs.size := by simpa using hb
    subst e
    exact I1.fpOk (Nat.le_refl _) (I1.hok.fresh (Nat.le_refl _))
  · obtain ⟨its, rv, p, hz⟩ := I1.tuple hq
    refine wpAny_pyIter_tuple (show s1.heap.IsTuple a its.toArray from p) ?_
    refine ⟨s1.heap.objs.size, [s1.heap.objs.size], _, _, H1, rfl, I1.kept (t' := s1.toks) fun b o e => Heap.get?_push_of_some _ e, turn_tuple a _, ⟨_, Heap.get?_push_size _ rfl, rfl, rfl⟩, fun b hb => ?_, q⟩
    have e : b = s1.heap.objs.size := by simpa using hb
    subst e
    exact I1.fpOk (Nat.le_refl _) (I1.hok.fresh (Nat.le_refl _))
noncomputable def aIter (f : AE) : AI := fun ρ n Q => f ρ n fun d n1 => match d with
  | .tup ds => Q ds n1
  | .lst ds => Q ds n1
  | _ => False
instance {tl : TE} {f : AE} [DE K tl f] : DI K (iAny K tl) (aIter f) := ⟨fun W σ ρ n H R Qa hQ hE o h =>
  DE.run (te := tl) (f := f) W σ ρ n H _ _ (fun d n1 h1 H1 x l1 o1 ax => by
    split at h1
    · cases ax with
      | tup s a =>
        refine ⟨_, rfl, .inr ⟨⟨_, s⟩, hQ _ _ h1 _ H1 l1 o1 fun W' hr hd H2 n2 l2 o2 i => ?_⟩⟩
        have s2 := sqt_lk (o1.lk' hr) l2 s
        refine ⟨fun d hd' => ?_, fun hi => ⟨_, s2, by rw [a.length]; exact hi⟩⟩
        obtain ⟨v, e1, e2⟩ := a.get hd'
        refine ⟨⟨_, v, s2, e1⟩, fun x H3 ⟨e3, e4⟩ => ?_⟩
        subst e3
        have := e4 _ s2
        rw [e1] at this
        cases this
        exact ⟨Same.refl _, At.lk (o1.lk' hr) l2 _ (At.ext hr hd _ e2)⟩
    · cases ax with
      | lst r s a =>
        refine ⟨_, rfl, .inl ⟨⟨_, SqL.of s⟩, hQ _ _ h1 _ H1 l1 o1 fun W' hr hd H2 n2 l2 o2 i => ?_⟩⟩
        have s2 : SqL K H2 _ _ := SqL.of (l2 _ _ (fun z => by rw [hr _ z r] at s; cases s) s)
        refine ⟨fun d hd' => ?_, fun hi => ⟨_, s2, by rw [a.length]; exact hi⟩⟩
        obtain ⟨v, e1, e2⟩ := a.get hd'
        refine ⟨⟨_, v, s2, e1⟩, fun x H3 ⟨e3, e4⟩ => ?_⟩
        subst e3
        have := e4 _ s2
        rw [e1] at this
        cases this
        exact ⟨Same.refl _, At.lk (o1.lk' hr) l2 _ (At.ext hr hd _ e2)⟩
    · exact h1.elim) hE o h⟩
noncomputable def rangeD (lo : Int) : Nat → List D
  | 0 => []
  | k + 1 => .int lo :: rangeD (lo + 1) k
theorem rangeD_length (lo : Int) : ∀ k, (rangeD lo k).length = k
  | 0 => rfl
  | k + 1 => by rw [rangeD, List.length_cons, rangeD_length]
theorem rangeD_get : ∀ {lo : Int} {k i : Nat} {d : D}, (rangeD lo k)[i]? = some d → i < k ∧ d = .int (lo + i)
  | lo, 0, i, d, h => by cases h
  | lo, k + 1, 0, d, h => by
    cases h
    exact ⟨Nat.succ_pos _, by rw [Int.natCast_zero, Int.add_zero]⟩
  | lo, k + 1, i + 1, d, h => by
    obtain ⟨h1, h2⟩ := rangeD_get (lo := lo + 1) (k := k) (i := i) h
    refine ⟨Nat.succ_lt_succ h1, ?_⟩
    rw [h2]
    congr 1
    omega
noncomputable def aRange1 (g : AA) : AI := fun ρ n Q => g ρ n fun ds n1 => match ds with
  | [.int j] => (-(2 ^ 62) ≤ j ∧ j < 2 ^ 62) ∧ Q (rangeD 0 j.toNat) n1
  | _ => False
theorem range_walks {W : Wd} {lo : Int} {k : Nat} {H : Hp} : Walks K W (Itr lo k) H (rangeD lo k) := fun W' hr hd H2 n2 l2 o2 i => by
  refine ⟨fun d e => ?_, fun hi => by rw [rangeD_length] at hi; exact hi⟩
  obtain ⟨h1, rfl⟩ := rangeD_get e
  refine ⟨h1, fun x H3 ⟨e3, e4⟩ => ?_⟩
  subst e3 e4
  exact ⟨Same.refl _, .int _⟩
instance {ta : TA} {g : AA} [DA K ta g] : DI K (iRng1 ta) (aRange1 g) := ⟨fun W σ ρ n H R Qa hQ hE o h =>
  DA.run (te := ta) (f := g) W σ ρ n H _ _ (fun ds n1 h1 H1 vs l1 o1 ax => by
    split at h1
    · cases ax with
      | cons a r =>
        cases r
        cases a
        exact ⟨_, rfl, h1.1.1, h1.1.2, hQ _ _ h1.2 _ H1 l1 o1 range_walks⟩
    · exact h1.elim) hE o h⟩
/-! zip, enumerate -/
noncomputable def zipD : List D → List D → List D
  | a :: as, b :: bs => .tup [a, b] :: zipD as bs
  | _, _ => []
theorem zipD_get : ∀ {as bs : List D} {i : Nat} {d : D}, (zipD as bs)[i]? = some d → ∃ a b, as[i]? = some a ∧ bs[i]? = some b ∧ d = .tup [a, b]
  | [], _, _, _, h => by cases h
  | _ :: _, [], _, _, h => by cases h
  | a :: as, b :: bs, 0, d, h => by cases h; exact ⟨a, b, rfl, rfl, rfl⟩
  | a :: as, b :: bs, i + 1, d, h => zipD_get (as := as) (bs := bs) (i := i) h
theorem zipD_length : ∀ {as bs : List D}, (zipD as bs).length = min as.length bs.length
  | [], bs => by simp [zipD]
  | _ :: _, [] => by simp [zipD]
  | a :: as, b :: bs => by rw [zipD, List.length_cons, List.length_cons, List.length_cons, zipD_length, Nat.succ_min_succ]
noncomputable def enumD (k : Nat) : List D → List D
  | [] => []
  | a :: as => .tup [.int k, a] :: enumD (k + 1) as
theorem enumD_get : ∀ {as : List D} {k i : Nat} {d : D}, (enumD k as)[i]? = some d → ∃ a, as[i]? = some a ∧ d = .tup [.int ((k + i : Nat) : Int), a]
  | [], _, _, _, h => by cases h
  | a :: as, k, 0, d, h => by cases h; exact ⟨a, rfl, rfl⟩
  | a :: as, k, i + 1, d, h => by
    obtain ⟨b, h1, h2⟩ := enumD_get (as := as) (k := k + 1) (i := i) h
    exact ⟨b, h1, by rw [h2]; congr 3; omega⟩
theorem enumD_length : ∀ {as : List D} {k : Nat}, (enumD k as).length = as.length
  | [], _ => rfl
  | a :: as, k => by rw [enumD, List.length_cons, List.length_cons, enumD_length]
end
/-! ### the mirror, fourth part: zip, enumerate, for, comprehensions, defs -/
section
variable {K : PySem.W.Frag}
theorem sql_lk {W : Wd} {H H' : Hp} {a : Addr} {xs : List V} (l : W.le H H') (r : ¬ W.rs a) (s : H a = some (.lst xs)) : SqL K H' a xs := SqL.of (l _ _ r s)
noncomputable def iZipK (K : PySem.W.Frag) (ta : TA) : TI := RZ.iZipA K ta
theorem k_zip {X : Cx} {e e2 : Expr} {ta : TA} {p pos tpos : Pos} {elts : List Expr} {kk : Nat} (hK : X.K = K) (hg : Gl X "zip") (hm : X.mg "zip" = none) (ha : PA X [e, e2] ta)
    (hs : starEach [e, e2] X.env = (false, eval e X.env) :: starEach [e2] X.env := by rfl) (hpl : (backTo pos (starEach [e2] X.env)).any (·.1) = false := by rfl) :
    PI X (.Tuple elts kk tpos) (.Call (.Name "zip" p) [e, e2] [] pos) (iZipK K ta) := hK ▸ RZ.pi_zipA hg hm ha hs hpl
noncomputable def aZip (g : AA) : AI := fun ρ n Q => g ρ n fun ds n1 => match ds with
  | [.lst as, .lst bs] => Q (zipD as bs) n1
  | [.tup as, .tup bs] => Q (zipD as bs) n1
  | _ => False
instance {ta : TA} {g : AA} [DA K ta g] : DI K (iZipK K ta) (aZip g) := ⟨fun W σ ρ n H R Qa hQ hE o h =>
  DA.run (te := ta) (f := g) W σ ρ n H _ _ (fun ds n1 h1 H1 vs l1 o1 ax => by
    split at h1
    · cases ax with
      | cons a r =>
        cases r with
        | cons b r =>
          cases r
          cases a with
          | lst ra sa a =>
            cases b with
            | lst rb sb b =>
              refine ⟨_, _, _, _, rfl, .inl ⟨SqL.of sa, SqL.of sb, hQ _ _ h1 _ H1 l1 o1 fun W' hr hd H2 n2 l2 o2 i => ?_⟩⟩
              have s2 := sql_lk (K := K) l2 (fun z => by rw [hr _ z ra] at sa; cases sa) sa
              have s3 := sql_lk (K := K) l2 (fun z => by rw [hr _ z rb] at sb; cases sb) sb
              refine ⟨fun d e => ?_, fun hi => ⟨_, _, s2, s3, ?_⟩⟩
              · obtain ⟨x, y, e1, e2, rfl⟩ := zipD_get e
                obtain ⟨v, e1', a1⟩ := a.get e1
                obtain ⟨u, e2', a2⟩ := b.get e2
                refine ⟨⟨_, _, v, u, s2, s3, e1', e2'⟩, fun z H3 ⟨T, x', y', ez, hT, eH, e3, e4⟩ => ?_⟩
                have q1 := e3 _ s2
                have q2 := e4 _ s3
                rw [e1'] at q1
                rw [e2'] at q2
                cases q1
                cases q2
                subst ez eH
                have st : Same H2 (upd H2 T (.tup [v, u])) := same_upd hT
                refine ⟨st, .tup (.inl (.inl upd_same)) (.cons ?_ (.cons ?_ .nil))⟩
                · exact At.le o2 (Wd.le_same st) _ (At.lk (o1.lk' hr) l2 _ (At.ext hr hd _ a1))
                · exact At.le o2 (Wd.le_same st) _ (At.lk (o1.lk' hr) l2 _ (At.ext hr hd _ a2))
              · rw [zipD_length] at hi
                rw [a.length, b.length]
                omega
    · cases ax with
      | cons a r =>
        cases r with
        | cons b r =>
          cases r
          cases a with
          | tup sa a =>
            cases b with
            | tup sb b =>
              refine ⟨_, _, _, _, rfl, .inr ⟨sa, sb, hQ _ _ h1 _ H1 l1 o1 fun W' hr hd H2 n2 l2 o2 i => ?_⟩⟩
              have s2 := sqt_lk (o1.lk' hr) l2 sa
              have s3 := sqt_lk (o1.lk' hr) l2 sb
              refine ⟨fun d e => ?_, fun hi => ⟨_, _, s2, s3, ?_⟩⟩
              · obtain ⟨x, y, e1, e2, rfl⟩ := zipD_get e
                obtain ⟨v, e1', a1⟩ := a.get e1
                obtain ⟨u, e2', a2⟩ := b.get e2
                refine ⟨⟨_, _, v, u, s2, s3, e1', e2'⟩, fun z H3 ⟨T, x', y', ez, hT, eH, e3, e4⟩ => ?_⟩
                have q1 := e3 _ s2
                have q2 := e4 _ s3
                rw [e1'] at q1
                rw [e2'] at q2
                cases q1
                cases q2
                subst ez eH
                have st : Same H2 (upd H2 T (.tup [v, u])) := same_upd hT
                refine ⟨st, .tup (.inl (.inl upd_same)) (.cons ?_ (.cons ?_ .nil))⟩
                · exact At.le o2 (Wd.le_same st) _ (At.lk (o1.lk' hr) l2 _ (At.ext hr hd _ a1))
                · exact At.le o2 (Wd.le_same st) _ (At.lk (o1.lk' hr) l2 _ (At.ext hr hd _ a2))
              · rw [zipD_length] at hi
                rw [a.length, b.length]
                omega
    · exact h1.elim) hE o h⟩
/-! comprehensions -/
noncomputable def wipeA (ρ : Env') : List Nat → Env'
  | [] => ρ
  | v :: vs => eSet (wipeA ρ vs) v none
theorem EnvAt.wipe {W : Wd} {H : Hp} {σ : L2.St} {ρ : Env'} (h : EnvAt K W H σ ρ) : ∀ vs : List Nat, EnvAt K W H (L2.wipe σ vs) (wipeA ρ vs)
  | [] => h
  | v :: vs => by
    have ih := EnvAt.wipe h vs
    refine ⟨by show ((L2.wipe σ vs).set v none).length = (eSet (wipeA ρ vs) v none).length; rw [List.length_set, eSet_length]; exact ih.1, fun i d e => ?_⟩
    have e' : eGet (eSet (wipeA ρ vs) v none) i = some d := e
    by_cases hv : v = i
    · subst hv
      cases (eGet_set e').2
    · rw [eGet_ne hv] at e'
      obtain ⟨x, h1, h2⟩ := ih.2 i d e'
      exact ⟨x, by show ((L2.wipe σ vs).set v none)[i]? = _; rw [List.getElem?_set_ne hv]; exact h1, h2⟩
theorem wipe_wipe (σ : L2.St) (vs : List Nat) : wipe (wipe σ vs) vs = wipe σ vs := by
  have : ∀ us : List Nat, (∀ i ∈ us, i ∈ vs) → wipe (wipe σ us) vs = wipe σ vs := fun us => by
    induction us with
    | nil => intro _; rfl
    | cons u us ih =>
      intro h
      show wipe ((wipe σ us).set u none) vs = _
      rw [wipe_set (h u List.mem_cons_self), ih fun i hi => h i (List.mem_cons_of_mem _ hi)]
  exact this vs fun i hi => hi
noncomputable def aPutC (vs : List Nat) (g : D → Option (List (Nat × D))) (d : D) (ρ : Env') (Q : Env' → Prop) : Prop := match g d with
  | some us => (match us.all fun u => vs.contains u.1 with
    | true => Q (eSetAll ρ us)
    | false => False)
  | none => False
noncomputable def aLcGo (vs : List Nat) (G : D → Option (List (Nat × D))) (c : AT) (e : AE) (ρ : Env') (Q : D → Nat → Prop) : List D → List D → Nat → Prop
  | acc, [], n => Q (.lst acc) n
  | acc, d :: r, n => aPutC vs G d ρ fun ρ1 => c ρ1 n fun b n2 => aIte b (e ρ1 n2 fun y n3 => aLcGo vs G c e ρ Q (acc ++ [y]) r n3) (aLcGo vs G c e ρ Q acc r n2)
noncomputable def aLc (I : AI) (G : D → Option (List (Nat × D))) (c : AT) (e : AE) (vs : List Nat) : AE := fun ρ n Q => I ρ n fun ds n1 => ds.length ≤ 1000000 ∧ aLcGo vs G c e (wipeA ρ vs) Q [] ds n1
theorem Wd.le_add {W : Wd} {p : Addr} {xs : HO} {H H1 H2 : Hp} (hp : H p = none) (l : W.le H H1) (l2 : (W.add (p, xs)).le H1 H2) : W.le H H2 := fun a o r e => by
  have ne : a ≠ p := ne_of_none e hp
  refine l2 a o ?_ (l a o r e)
  rintro (z | z)
  · exact r (.inl z)
  · rcases List.mem_cons.mp z with z | z
    · exact ne z
    · exact r (.inr z)
theorem Wd.ok_put {W : Wd} {p : Addr} {ys : HO} {n : Nat} {H : Hp} (hm : Mt ys) (hp : ¬ W.rs p) (hl : H p = none ∨ ∃ xs, H p = some (.lst xs)) (o : W.ok K n H) : (W.add (p, ys)).ok K n (upd H p ys) := by
  refine ⟨fun d b e => ?_, fun q hq => ?_, fun d b e q hq => ?_⟩
  · obtain ⟨c, D, l⟩ := o.deck d b e
    have n1 : p ≠ d := fun z => hp (.inl ⟨d, b, e, .inl z⟩)
    have n2 : p ≠ b := fun z => hp (.inl ⟨d, b, e, .inr z⟩)
    refine ⟨c, ?_, l⟩
    obtain ⟨⟨s, ns, cs, i, k, h1, h2, h3, h4⟩, ne⟩ := D
    refine ⟨⟨s, ns, cs, i, k, ?_, ?_, h3.upd hl, h4⟩, ne⟩
    · rw [upd_ne (Ne.symm n1)]; exact h1
    · rw [upd_ne (Ne.symm n2)]; exact h2
  · rcases List.mem_cons.mp hq with rfl | hq
    · exact ⟨upd_same, hm⟩
    · rw [upd_ne fun z => hp (.inr (List.mem_map.mpr ⟨q, hq, z⟩))]
      exact o.owns q hq
  · rcases List.mem_cons.mp hq with rfl | hq
    · exact ⟨fun z => hp (.inl ⟨d, b, e, .inl z⟩), fun z => hp (.inl ⟨d, b, e, .inr z⟩)⟩
    · exact o.dis d b e q hq
theorem Wd.ok.drop {W : Wd} {q : Addr × HO} {n : Nat} {H : Hp} (o : (W.add q).ok K n H) : W.ok K n H := ⟨o.deck, fun p hp => o.owns p (List.mem_cons_of_mem _ hp), fun d b e p hp => o.dis d b e p (List.mem_cons_of_mem _ hp)⟩
theorem Wd.le_more {W : Wd} {q : Addr × HO} {H H' : Hp} (l : W.le H H') : (W.add q).le H H' := fun a o r e => l a o (fun z => r (by
  rcases z with z | z
  · exact .inl z
  · exact .inr (List.mem_cons_of_mem _ z))) e
theorem Wd.le_own {W : Wd} {p : Addr} {xs : HO} {ob : HO} {H : Hp} : (W.add (p, xs)).le H (upd H p ob) := fun a o r e => by
  rw [upd_ne fun z => r (.inr (by rw [z]; exact List.mem_cons_self))]
  exact e
theorem EnvAt.ext {W W' : Wd} {H : Hp} {σ : L2.St} {ρ : Env'} (hr : ∀ a, W'.rs a → ¬ W.rs a → H a = none) (hd : W'.dk = W.dk) (h : EnvAt K W H σ ρ) : EnvAt K W' H σ ρ := ⟨h.1, fun i d e => let ⟨v, e', a⟩ := h.2 i d e; ⟨v, e', At.ext hr hd d a⟩⟩
theorem EnvAt.lk {W : Wd} {H H' : Hp} {σ : L2.St} {ρ : Env'} (h : EnvAt K W H σ ρ) (o : W.lk H) (l : W.le H H') : EnvAt K W H' σ ρ := ⟨h.1, fun i d e => let ⟨v, e', a⟩ := h.2 i d e; ⟨v, e', At.lk o l d a⟩⟩
theorem Wd.rs_new {W : Wd} {p : Addr} {xs : HO} {H : Hp} (hp : H p = none) : ∀ a, (W.add (p, xs)).rs a → ¬ W.rs a → H a = none := fun a z r => by
  rcases z with z | z
  · exact absurd (.inl z) r
  · rcases List.mem_cons.mp z with z | z
    · have z' : a = p := z
      rw [z']
      exact hp
    · exact absurd (.inr z) r
instance {wi : TI} {g : TG} {tt : TT} {te : TE} {vs : List Nat} {I : AI} {G : D → Option (List (Nat × D))} {c : AT} {e : AE} [DI K wi I] [DG K g G] [DT K tt c] [DE K te e] : DE K (tLc wi g tt te vs) (aLc I G c e vs) := ⟨fun W σ ρ n H Q Qa hQ hE o h => by
  refine DI.run (wi := wi) (f := I) W σ ρ n H _ _ (fun ds n1 h1 J H1 l1 o1 hw Dl hDl => ?_) hE o h
  obtain ⟨hlen, h1⟩ := h1
  have nrs : ¬ W.rs Dl := o1.fresh hDl
  refine ⟨fun i m H' => m = ds.length - i ∧ i ≤ ds.length ∧ ∃ n' us acc, aLcGo vs G c e (wipeA ρ vs) Qa acc (ds.drop i) n' ∧ (W.add (Dl, .lst us)).ok K n' H' ∧ AtAll K (W.add (Dl, .lst us)) H' us acc ∧ W.le H1 H' ∧ us.length ≤ i, ⟨_, rfl, Nat.zero_le _, n1, [], [], h1, Wd.ok_put trivial nrs (.inl hDl) o1, .nil, Wd.le_same (same_upd hDl), Nat.le_refl _⟩, ?_⟩
  rintro i m H2 ⟨rfl, hi, n2, us, acc, h2, o2, a2, l2, hul⟩
  have rn := Wd.rs_new (W := W) (xs := .lst us) hDl
  obtain ⟨w1, w2⟩ := hw (W.add (Dl, .lst us)) rn rfl H2 n2 (Wd.le_more l2) o2 i
  by_cases hlt : i < ds.length
  · rw [List.drop_eq_getElem_cons hlt] at h2
    obtain ⟨hgo, hy⟩ := w1 ds[i] (List.getElem?_eq_getElem hlt)
    refine .inr ⟨hgo, fun H' => ∃ m', m' < ds.length - i ∧ m' = ds.length - (i + 1) ∧ i + 1 ≤ ds.length ∧ ∃ n' us acc, aLcGo vs G c e (wipeA ρ vs) Qa acc (ds.drop (i + 1)) n' ∧ (W.add (Dl, .lst us)).ok K n' H' ∧ AtAll K (W.add (Dl, .lst us)) H' us acc ∧ W.le H1 H' ∧ us.length ≤ i + 1, fun H' q => q, fun x H3 hx => ?_⟩
    obtain ⟨s3, a3⟩ := hy x H3 hx
    have l3 : (W.add (Dl, .lst us)).le H2 H3 := Wd.le_same s3
    have o3 := o2.same s3
    have hE3 : EnvAt K (W.add (Dl, .lst us)) H3 (wipe σ vs) (wipeA ρ vs) := (((hE.le o l1).ext rn rfl).lk (o1.lk' rn) ((Wd.le_more l2).trans l3)).wipe vs
    unfold aLcGo aPutC at h2
    split at h2
    · rename_i xs ex
      split at h2
      · rename_i hc
        refine DG.run (g := g) (f := G) _ (wipe σ vs) H3 x _ xs _ a3 ex fun zs hz => ?_
        have hE4 := hE3.setAll hz
        have hv : ∀ z ∈ zs, z.1 ∈ vs := upd_slots hz fun u hu => List.contains_iff_mem.mp (List.all_eq_true.mp hc u hu)
        refine ⟨by rw [wipe_setAll hv, wipe_wipe], DT.run (te := tt) (f := c) _ _ _ n2 H3 _ _ (fun b n5 h5 H5 l5 o5 => ?_) hE4 o3 h2⟩
        have l25 := l3.trans l5
        cases b with
        | true =>
          rw [if_pos rfl]
          refine DE.run (te := te) (f := e) _ _ _ n5 H5 _ _ (fun y n6 h6 H6 v l6 o6 a6 => ?_) (hE4.le o3 l5) o5 (h5.1 rfl)
          have hD6 : H6 Dl = some (.lst us) := (o6.owns (Dl, .lst us) List.mem_cons_self).1
          have l26 := l25.trans l6
          refine ⟨us, hD6, Nat.lt_of_lt_of_le (show us.length < 1000000 by omega) lim, _, by omega, rfl, hlt, n6, us ++ [v], acc ++ [y], h6, Wd.ok_put trivial nrs (.inr ⟨_, hD6⟩) o6.drop, ?_, Wd.le_add hDl l2 (l26.trans (Wd.le_own (ob := .lst (us ++ [v])))), by rw [List.length_append, List.length_singleton]; omega⟩
          have key : AtAll K (W.add (Dl, .lst us)) H6 (us ++ [v]) (acc ++ [y]) := (AtAll.le o2 l26 _ a2).append (.cons a6 .nil)
          exact AtAll.weak (W := W.add (Dl, .lst us)) (W' := W.add (Dl, .lst (us ++ [v]))) (fun a z => z) rfl _ (AtAll.le o6 (Wd.le_own (ob := .lst (us ++ [v]))) _ key)
        | false =>
          rw [if_neg Bool.false_ne_true]
          exact ⟨_, by omega, rfl, hlt, n5, us, acc, h5.2 rfl, o5, AtAll.le o2 l25 _ a2, Wd.le_add hDl l2 l25, by omega⟩
      · exact h2.elim
    · exact h2.elim
  · have ei : i = ds.length := by omega
    subst ei
    rw [List.drop_length] at h2
    have hD2 : H2 Dl = some (.lst us) := (o2.owns (Dl, .lst us) List.mem_cons_self).1
    exact .inl ⟨w2 (Nat.le_refl _), hQ _ _ h2 H2 _ (l1.trans l2) o2.drop (.lst nrs hD2 (AtAll.weak (fun a z => Wd.rs_add z) rfl _ a2))⟩⟩
/-! reversed copies -/
noncomputable def tRevK (K : PySem.W.Frag) (te : TE) : TE := tRevL K te
theorem k_rev {X : Cx} {e : Expr} {te : TE} {k : Nat} {p1 p2 p3 pos : Pos} (hK : X.K = K) (he : PE X e te) : PE X (.Subscript e (.Slice none none (some (.UnaryOp .USub (.Constant (.int 1) k p1) p2)) p3) pos) (tRevK K te) := hK ▸ pe_revL he
noncomputable def aRev (f : AE) : AE := fun ρ n Q => f ρ n fun d n1 => match d with
  | .lst ds => Q (.lst ds.reverse) n1
  | _ => False
instance {te : TE} {f : AE} [DE K te f] : DE K (tRevK K te) (aRev f) := ⟨fun W σ ρ n H Q Qa hQ hE o h =>
  DE.run (te := te) (f := f) W σ ρ n H _ _ (fun d n1 h1 H1 x l1 o1 ax => by
    split at h1
    · cases ax with
      | lst r s a => exact ⟨_, _, rfl, SqL.of s, fun p hp => (hQ.le l1).new o1 h1 hp (.lst (o1.fresh hp) upd_same (AtAll.le o1 (Wd.le_same (same_upd hp)) _ (rev_at a)))⟩
    · exact h1.elim) hE o h⟩
end
/-! ### the mirror, fifth part: statements, defs -/
section
variable {K : PySem.W.Frag}
/-! ### statements: lists (and dicts) that a def builds, at the slots ow -/
noncomputable def Wd.plus (W : Wd) (U : List (Addr × HO)) : Wd := { W with own := U ++ W.own }
inductive OwAt (K : PySem.W.Frag) (W : Wd) (H : Hp) : HO → D → Prop
  | lst {us : List V} {ds : List D} : AtAll K W H us ds → OwAt K W H (.lst us) (.lst ds)
  | dic {ks : List Key} {us : List V} {ds : List D} : ks.length = us.length → AtAll K W H us ds → OwAt K W H (.dK (ks.zip us)) (.dic ks ds)
structure SOk (K : PySem.W.Frag) (W : Wd) (ow : List Nat) (n : Nat) (H : Hp) (σ : L2.St) (ρ : Env') (U : List (Addr × HO)) : Prop where
  nd : (U.map (·.1)).Nodup
  nr : ∀ u ∈ U, ¬ W.rs u.1
  ok : (W.plus U).ok K n H
  len : σ.length = ρ.length
  env : ∀ i d, i ∉ ow → eGet ρ i = some d → ∃ v, σ[i]? = some (some v) ∧ At K (W.plus U) H v d
  own : ∀ i d, i ∈ ow → eGet ρ i = some d → ∃ u ∈ U, σ[i]? = some (some (.ref u.1)) ∧ OwAt K (W.plus U) H u.2 d
  dst : ∀ i j p, i ∈ ow → j ∈ ow → i ≠ j → σ[i]? = some (some (.ref p)) → σ[j]? = some (some (.ref p)) → eGet ρ i = none ∨ eGet ρ j = none
structure Stp (W : Wd) (U : List (Addr × HO)) (H : Hp) (U' : List (Addr × HO)) (H' : Hp) : Prop where
  le : (W.plus U).le H H'
  new : ∀ a, (W.plus U').rs a → ¬ (W.plus U).rs a → H a = none
  old : ∀ a, (W.plus U).rs a → (W.plus U').rs a
theorem Stp.refl {W : Wd} {U : List (Addr × HO)} {H : Hp} : Stp W U H U H := ⟨Wd.le_refl, fun a h g => absurd h g, fun a h => h⟩
theorem Stp.trans {W : Wd} {U U1 U2 : List (Addr × HO)} {H H1 H2 : Hp} (s : Stp W U H U1 H1) (t : Stp W U1 H1 U2 H2) : Stp W U H U2 H2 := by
  have key : ∀ a o, ¬ (W.plus U).rs a → H a = some o → ¬ (W.plus U1).rs a := fun a o r e z => by
    rw [s.new a z r] at e
    cases e
  refine ⟨fun a o r e => t.le a o (key a o r e) (s.le a o r e), fun a z r => ?_, fun a h => t.old a (s.old a h)⟩
  by_cases h1 : (W.plus U1).rs a
  · exact s.new a h1 r
  · have h2 := t.new a z h1
    cases e : H a with
    | none => rfl
    | some o =>
      rw [s.le a o r e] at h2
      cases h2
theorem Wd.rs_plus {W : Wd} {U : List (Addr × HO)} {a : Addr} : (W.plus U).rs a ↔ a ∈ U.map (·.1) ∨ W.rs a := by
  constructor
  · rintro (h | h)
    · exact .inr (.inl h)
    · have h' : a ∈ (U ++ W.own).map (·.1) := h
      rw [List.map_append] at h'
      rcases List.mem_append.mp h' with h | h
      · exact .inl h
      · exact .inr (.inr h)
  · rintro (h | h | h)
    · refine .inr (show a ∈ (U ++ W.own).map (·.1) from ?_)
      rw [List.map_append]
      exact List.mem_append_left _ h
    · exact .inl h
    · refine .inr (show a ∈ (U ++ W.own).map (·.1) from ?_)
      rw [List.map_append]
      exact List.mem_append_right _ h
section
variable {W : Wd} {ow : List Nat} {n : Nat} {H H1 : Hp} {σ : L2.St} {ρ : Env'} {U : List (Addr × HO)}
theorem wipeA_get : ∀ {ow : List Nat} {i : Nat} {d : D}, eGet (wipeA ρ ow) i = some d → i ∉ ow ∧ eGet ρ i = some d
  | [], i, d, h => ⟨fun z => (by cases z), h⟩
  | w :: ow, i, d, h => by
    have h' : eGet (eSet (wipeA ρ ow) w none) i = some d := h
    by_cases e : w = i
    · subst e
      cases (eGet_set h').2
    · rw [eGet_ne e] at h'
      obtain ⟨h1, h2⟩ := wipeA_get h'
      exact ⟨fun z => (List.mem_cons.mp z).elim (fun q => e q.symm) h1, h2⟩
theorem wipeA_length : ∀ ow : List Nat, (wipeA ρ ow).length = ρ.length
  | [] => rfl
  | w :: ow => by
    show (eSet (wipeA ρ ow) w none).length = _
    rw [eSet_length, wipeA_length ow]
/-- the lists that are built hidden -/
theorem SOk.hid (s : SOk K W ow n H σ ρ U) : EnvAt K (W.plus U) H σ (wipeA ρ ow) := ⟨by rw [wipeA_length]; exact s.len, fun i d e => let ⟨h1, h2⟩ := wipeA_get e; s.env i d h1 h2⟩
theorem SOk.base (s : SOk K W ow n H σ ρ U) : W.ok K n H := ⟨s.ok.deck, fun p hp => s.ok.owns p (List.mem_append_right _ hp), fun d b e p hp => s.ok.dis d b e p (List.mem_append_right _ hp)⟩
/-- .. as plain lists -/
theorem SOk.opn (s : SOk K W ow n H σ ρ U) : EnvAt K W H σ ρ := by
  have hw : ∀ a, W.rs a → (W.plus U).rs a := fun a h => Wd.rs_plus.mpr (.inr h)
  refine ⟨s.len, fun i d e => ?_⟩
  by_cases hi : i ∈ ow
  · obtain ⟨⟨q, ob⟩, hu, e1, a⟩ := s.own i d hi e
    refine ⟨_, e1, ?_⟩
    have h1 := (s.ok.owns _ (List.mem_append_left _ hu)).1
    cases a with
    | lst a => exact .lst (s.nr _ hu) h1 (AtAll.weak hw rfl _ a)
    | dic l a => exact .dic (s.nr _ hu) h1 l (AtAll.weak hw rfl _ a)
  · obtain ⟨v, e1, a⟩ := s.env i d hi e
    exact ⟨v, e1, At.weak hw rfl _ a⟩
theorem OwAt.le {ob : HO} {d : D} (o : W.ok K n H) (l : W.le H H1) (h : OwAt K W H ob d) : OwAt K W H1 ob d := by
  cases h with
  | lst a => exact .lst (AtAll.le o l _ a)
  | dic e a => exact .dic e (AtAll.le o l _ a)
/-- behind what was done with the built ones hidden -/
theorem SOk.le {n1 : Nat} (s : SOk K W ow n H σ ρ U) (l : (W.plus U).le H H1) (o : (W.plus U).ok K n1 H1) : SOk K W ow n1 H1 σ ρ U :=
  ⟨s.nd, s.nr, o, s.len, fun i d h e => let ⟨v, e1, a⟩ := s.env i d h e; ⟨v, e1, At.le s.ok l _ a⟩, fun i d h e => let ⟨u, hu, e1, a⟩ := s.own i d h e; ⟨u, hu, e1, a.le s.ok l⟩, s.dst⟩
/-- behind what was done with them as plain lists -/
theorem SOk.lo {n1 : Nat} (s : SOk K W ow n H σ ρ U) (l : W.le H H1) (o : W.ok K n1 H1) : SOk K W ow n1 H1 σ ρ U := by
  have l' : (W.plus U).le H H1 := fun a ob r e => l a ob (fun z => r (Wd.rs_plus.mpr (.inr z))) e
  refine s.le l' ⟨o.deck, fun p hp => ?_, s.ok.dis⟩
  rcases List.mem_append.mp hp with hp' | hp'
  · obtain ⟨h1, h2⟩ := s.ok.owns p hp
    exact ⟨l _ _ (s.nr p hp') h1, h2⟩
  · exact o.owns p hp'
theorem lo_le (l : W.le H H1) : (W.plus U).le H H1 := fun a ob r e => l a ob (fun z => r (Wd.rs_plus.mpr (.inr z))) e
theorem SOk.set {i : Nat} {v : V} {d : D} (s : SOk K W ow n H σ ρ U) (hi : i ∉ ow) (a : At K (W.plus U) H v d) : SOk K W ow n H (σ.set i (some v)) (eSet ρ i (some d)) U := by
  refine ⟨s.nd, s.nr, s.ok, by rw [List.length_set, eSet_length]; exact s.len, fun j e hj he => ?_, fun j e hj he => ?_, fun j k p hj hk ne h1 h2 => ?_⟩
  · by_cases hij : i = j
    · subst hij
      obtain ⟨hl, he⟩ := eGet_set he
      cases he
      exact ⟨v, by rw [List.getElem?_set_self (by rw [s.len]; exact hl)], a⟩
    · rw [eGet_ne hij] at he
      rw [List.getElem?_set_ne hij]
      exact s.env j e hj he
  · have hij : i ≠ j := fun z => hi (z ▸ hj)
    rw [eGet_ne hij] at he
    rw [List.getElem?_set_ne hij]
    exact s.own j e hj he
  · have hij : i ≠ j := fun z => hi (z ▸ hj)
    have hik : i ≠ k := fun z => hi (z ▸ hk)
    rw [List.getElem?_set_ne hij] at h1
    rw [List.getElem?_set_ne hik] at h2
    rw [eGet_ne hij, eGet_ne hik]
    exact s.dst j k p hj hk ne h1 h2
theorem SOk.setAll : ∀ {zs : List (Nat × V)} {us : List (Nat × D)} {σ : L2.St} {ρ : Env'}, SOk K W ow n H σ ρ U → Upd K (W.plus U) H zs us → (∀ u ∈ us, u.1 ∉ ow) → SOk K W ow n H (R.setAll σ zs) (eSetAll ρ us) U
  | _, _, _, _, s, .nil, _ => s
  | _, _, _, _, s, .cons (a := (i, v)) (b := (j, d)) ⟨e, a⟩ r, h => by
    cases (show i = j from e)
    have := SOk.setAll (s.set (h _ List.mem_cons_self) a) r fun u hu => h u (List.mem_cons_of_mem _ hu)
    exact this
end
structure AEn where
  nx : Env' → Nat → Prop
  rt : D → Nat → Prop
  bk : Env' → Nat → Prop := fun _ _ => False
  ct : Env' → Nat → Prop := fun _ _ => False
  ex : Env' → Addr → List Str → List D → Nat → Prop := fun _ _ _ _ _ => False
/-- an error's fields: its dict at d -/
noncomputable def XdAt (K : PySem.W.Frag) (W : Wd) (H : Hp) (d : Option Addr) (ns : List Str) (ds : List D) : Prop := At K W H (.ref 0) (.xcp 0 0 d ns ds)
theorem XdAt.any {K : PySem.W.Frag} {W : Wd} {H : Hp} {d : Option Addr} {ns : List Str} {ds : List D} (h : XdAt K W H d ns ds) (a C : Addr) : At K W H (.ref a) (.xcp a C d ns ds) := by
  unfold XdAt at h
  cases h with
  | xcp0 => exact .xcp0
  | xcp1 s e b => exact .xcp1 s e b
noncomputable def W0 : WX := fun _ _ _ _ => False
/-- what is wanted of an error that is raised: as behind a statement, the error's fields at d -/
noncomputable def WantsX (K : PySem.W.Frag) (W : Wd) (ow : List Nat) (U : List (Addr × HO)) (H : Hp) (Xa : Env' → Addr → List Str → List D → Nat → Prop) (Wx : WX) : Prop :=
  ∀ ρ' C ns ds n', Xa ρ' C ns ds n' → ∀ U' σ' H' d, Stp W U H U' H' → SOk K W ow n' H' σ' ρ' U' → XdAt K (W.plus U') H' d ns ds → Wx (.ref C) d σ' H'
theorem WantsX.le {W : Wd} {ow : List Nat} {U U1 : List (Addr × HO)} {H H1 : Hp} {Xa : Env' → Addr → List Str → List D → Nat → Prop} {Wx : WX} (h : WantsX K W ow U H Xa Wx) (s : Stp W U H U1 H1) : WantsX K W ow U1 H1 Xa Wx := fun ρ' C ns ds n' q U' σ' H' d l' a x => h ρ' C ns ds n' q U' σ' H' d (s.trans l') a x
noncomputable def WantsE (K : PySem.W.Frag) (W : Wd) (ow : List Nat) (U : List (Addr × HO)) (H : Hp) (Qa : Env' → Nat → Prop) (Q : L2.St → Hp → Prop) : Prop :=
  ∀ ρ' n', Qa ρ' n' → ∀ U' σ' H', Stp W U H U' H' → SOk K W ow n' H' σ' ρ' U' → Q σ' H'
theorem WantsE.le {W : Wd} {ow : List Nat} {U U1 : List (Addr × HO)} {H H1 : Hp} {Qa : Env' → Nat → Prop} {Q : L2.St → Hp → Prop} (h : WantsE K W ow U H Qa Q) (s : Stp W U H U1 H1) : WantsE K W ow U1 H1 Qa Q := fun ρ' n' q U' σ' H' l' a => h ρ' n' q U' σ' H' (s.trans l') a
/-- what is wanted of what is told: the built ones are plain lists then -/
noncomputable def WantsR (K : PySem.W.Frag) (W : Wd) (U : List (Addr × HO)) (H : Hp) (Qa : D → Nat → Prop) (Q : VK) : Prop := ∀ d n', Qa d n' → ∀ U1 H1 H' v, Stp W U H U1 H1 → W.le H1 H' → W.ok K n' H' → At K W H' v d → Q v H'
theorem WantsR.le {W : Wd} {U U1 : List (Addr × HO)} {H H1 : Hp} {Qa : D → Nat → Prop} {Q : VK} (h : WantsR K W U H Qa Q) (s : Stp W U H U1 H1) : WantsR K W U1 H1 Qa Q := fun d n' q U' H' H2 v l' l2 o a => h d n' q U' H' H2 v (s.trans l') l2 o a
structure EndsOk (K : PySem.W.Frag) (Wx : WX) (W : Wd) (ow : List Nat) (U : List (Addr × HO)) (H : Hp) (Ea : AEn) (E : Ends) : Prop where
  nx : WantsE K W ow U H Ea.nx E.nx
  rt : WantsR K W U H Ea.rt E.rt
  bk : WantsE K W ow U H Ea.bk E.bk
  ct : WantsE K W ow U H Ea.ct E.ct
  ex : WantsX K W ow U H Ea.ex Wx
theorem EndsOk.le {Wx : WX} {W : Wd} {ow : List Nat} {U U1 : List (Addr × HO)} {H H1 : Hp} {Ea : AEn} {E : Ends} (h : EndsOk K Wx W ow U H Ea E) (l : Stp W U H U1 H1) : EndsOk K Wx W ow U1 H1 Ea E := ⟨h.nx.le l, h.rt.le l, h.bk.le l, h.ct.le l, h.ex.le l⟩
noncomputable abbrev AS := AEn → Env' → Nat → Prop
class DS (K : PySem.W.Frag) (Wx : WX) (ow : List Nat) (t : TS) (f : outParam AS) : Prop where
  run : ∀ (W : Wd) (U : List (Addr × HO)) (σ : L2.St) (ρ : Env') (n : Nat) (H : Hp) (E : Ends) (Ea : AEn), EndsOk K Wx W ow U H Ea E → SOk K W ow n H σ ρ U → f Ea ρ n → t E σ H
variable {ow : List Nat} {Wx : WX}
noncomputable def aNext : AS := fun E ρ n => E.nx ρ n
noncomputable def aSeq (f g : AS) : AS := fun E ρ n => f { E with nx := fun ρ' n' => g E ρ' n' } ρ n
instance : DS K Wx ow tNext aNext := ⟨fun W U σ ρ n H E Ea hD s h => hD.nx _ _ h U σ H Stp.refl s⟩
instance {t u : TS} {f g : AS} [DS K Wx ow t f] [DS K Wx ow u g] : DS K Wx ow (tSeq t u) (aSeq f g) := ⟨fun W U σ ρ n H E Ea hD s h =>
  DS.run (ow := ow) (t := t) (f := f) W U σ ρ n H _ { Ea with nx := fun ρ' n' => g Ea ρ' n' } ⟨fun ρ1 n1 h1 U1 σ1 H1 l1 s1 => DS.run (ow := ow) (t := u) (f := g) W U1 σ1 ρ1 n1 H1 E Ea (hD.le l1) s1 h1, hD.rt, hD.bk, hD.ct, hD.ex⟩ s h⟩
instance : DS K Wx ow tNever (fun _ _ _ => False) := ⟨fun W U σ ρ n H E Ea hD s h => h⟩
theorem Stp.hid {W : Wd} {U : List (Addr × HO)} {H H1 : Hp} (l : (W.plus U).le H H1) : Stp W U H U H1 := ⟨l, fun a h g => absurd h g, fun a h => h⟩
noncomputable def aRet (f : AE) : AS := fun E ρ n => f ρ n E.rt
instance {te : TE} {f : AE} [DE K te f] : DS K Wx ow (tRet te) (aRet f) := ⟨fun W U σ ρ n H E Ea hD s h => DE.run (te := te) (f := f) W σ ρ n H _ _ (fun d n1 h1 H1 x l1 o1 ax => hD.rt d n1 h1 U H H1 x Stp.refl l1 o1 ax) s.opn s.base h⟩
noncomputable def aIfS (c : AT) (f g : AS) : AS := fun E ρ n => c ρ n fun b n1 => aIte b (f E ρ n1) (g E ρ n1)
instance {tc : TT} {t u : TS} {c : AT} {f g : AS} [DT K tc c] [DS K Wx ow t f] [DS K Wx ow u g] : DS K Wx ow (tIfS tc t u) (aIfS c f g) := ⟨fun W U σ ρ n H E Ea hD s h =>
  DT.run (te := tc) (f := c) W σ ρ n H _ _ (fun b n1 h1 H1 l1 o1 => by
    have st : Stp W U H U H1 := .hid (lo_le l1)
    cases b with
    | true => rw [if_pos rfl]; exact DS.run (ow := ow) (t := t) (f := f) W U σ ρ n1 H1 E Ea (hD.le st) (s.lo l1 o1) (h1.1 rfl)
    | false => rw [if_neg Bool.false_ne_true]; exact DS.run (ow := ow) (t := u) (f := g) W U σ ρ n1 H1 E Ea (hD.le st) (s.lo l1 o1) (h1.2 rfl)) s.opn s.base h⟩
/-- what a target stores -/
noncomputable def aPut (ow : List Nat) (g : D → Option (List (Nat × D))) (d : D) (ρ : Env') (Q : Env' → Prop) : Prop := match g d with
  | some us => (match us.all fun u => !ow.contains u.1 with
    | true => Q (eSetAll ρ us)
    | false => False)
  | none => False
noncomputable def aAsg (ow : List Nat) (f : AE) (g : D → Option (List (Nat × D))) : AS := fun E ρ n => f (wipeA ρ ow) n fun d n1 => aPut ow g d ρ fun ρ' => E.nx ρ' n1
theorem put_run {W : Wd} {U : List (Addr × HO)} {g : TG} {a : D → Option (List (Nat × D))} [DG K g a] {σ : L2.St} {ρ : Env'} {n : Nat} {H : Hp} {v : V} {d : D} {Qa : Env' → Prop} {Q : L2.St → Hp → Prop} (s : SOk K W ow n H σ ρ U) (ax : At K (W.plus U) H v d) (h : aPut ow a d ρ Qa)
    (hQ : ∀ ρ' σ', Qa ρ' → SOk K W ow n H σ' ρ' U → Q σ' H) : g v σ H Q := by
  unfold aPut at h
  split at h
  · rename_i us e
    split at h
    · rename_i hc
      refine DG.run (g := g) (f := a) (W.plus U) σ H v d us Q ax e fun zs hz => hQ _ _ h (s.setAll hz fun u hu hin => ?_)
      have := List.all_eq_true.mp hc u hu
      rw [List.contains_iff_mem.mpr hin] at this
      cases this
    · exact h.elim
  · exact h.elim
instance {te : TE} {g : TG} {f : AE} {a : D → Option (List (Nat × D))} [DE K te f] [DG K g a] : DS K Wx ow (tAsg te g) (aAsg ow f a) := ⟨fun W U σ ρ n H E Ea hD s h =>
  DE.run (te := te) (f := f) (W.plus U) σ _ n H _ _ (fun d n1 h1 H1 x l1 o1 ax => put_run (g := g) (a := a) (s.le l1 o1) ax h1 fun ρ' σ' q s' => hD.nx _ _ q U σ' H1 (.hid l1) s') s.hid s.ok h⟩
/-- a scalar that is reckoned of the built lists too -/
noncomputable def tOpen (te : TE) : TE := te
mutual
noncomputable def D.sc : D → Bool
  | .non => true | .bl _ => true | .int _ => true | .str _ => true | .tup ds => scAll ds
  | _ => false
noncomputable def scAll : List D → Bool
  | [] => true
  | d :: ds => d.sc && scAll ds
end
mutual
theorem sc_at' {W W' : Wd} {H : Hp} : ∀ (d : D) {v : V}, d.sc = true → At K W H v d → At K W' H v d
  | .non, _, _, h => by cases h; exact .non
  | .bl b, _, _, h => by cases h; exact .bl b
  | .int i, _, _, h => by cases h; exact .int i
  | .str x, _, _, h => by cases h; exact .str x
  | .ty t, _, e, _ => Bool.noConfusion e
  | .cls a, _, e, _ => Bool.noConfusion e
  | .tup ds, _, e, h => by
    cases h with
    | tup s a => exact .tup s (scAll_at ds e a)
  | .lst ds, _, e, _ => Bool.noConfusion e
  | .dic ks ds, _, e, _ => Bool.noConfusion e
  | .ins C ns ds, _, e, _ => Bool.noConfusion e
  | .deck, _, e, _ => Bool.noConfusion e
  | .xcp _ _ _ _ _, _, e, _ => Bool.noConfusion e
theorem scAll_at {W W' : Wd} {H : Hp} : ∀ (ds : List D) {vs : List V}, scAll ds = true → AtAll K W H vs ds → AtAll K W' H vs ds
  | [], _, _, h => by cases h; exact .nil
  | d :: ds, _, e, h => by
    have e' : (d.sc && scAll ds) = true := e
    rw [Bool.and_eq_true] at e'
    cases h with
    | cons a r => exact .cons (sc_at' d e'.1 a) (scAll_at ds e'.2 r)
end
theorem sc_at {W W' : Wd} {H : Hp} {v : V} {d : D} (h : d.sc = true) (a : At K W H v d) : At K W' H v d := sc_at' d h a
noncomputable def aAsgO (ow : List Nat) (f : AE) (g : D → Option (List (Nat × D))) : AS := fun E ρ n => f ρ n fun d n1 => match d.sc with
  | true => aPut ow g d ρ fun ρ' => E.nx ρ' n1
  | false => False
instance (priority := 1100) {te : TE} {g : TG} {f : AE} {a : D → Option (List (Nat × D))} [DE K te f] [DG K g a] : DS K Wx ow (tAsg (tOpen te) g) (aAsgO ow f a) := ⟨fun W U σ ρ n H E Ea hD s h =>
  DE.run (te := te) (f := f) W σ ρ n H _ _ (fun d n1 h1 H1 x l1 o1 ax => by
    split at h1
    · rename_i hs
      exact put_run (g := g) (a := a) (s.lo l1 o1) (sc_at hs ax) h1 fun ρ' σ' q s' => hD.nx _ _ q U σ' H1 (.hid (lo_le l1)) s'
    · exact h1.elim) s.opn s.base h⟩
theorem k_open {X : Cx} {e : Expr} {te : TE} (h : PE X e te) : PE X e (tOpen te) := h
noncomputable def aPar (ow : List Nat) (i j : Nat) (g : AA) : AS := fun E ρ n => g (wipeA ρ ow) n fun ds n1 => match ds, ow.contains i || ow.contains j with
  | [d, e], false => E.nx (eSet (eSet ρ i (some d)) j (some e)) n1
  | _, _ => False
instance {i j : Nat} {ta : TA} {g : AA} [DA K ta g] : DS K Wx ow (tPar i j ta) (aPar ow i j g) := ⟨fun W U σ ρ n H E Ea hD s h =>
  DA.run (te := ta) (f := g) (W.plus U) σ _ n H _ _ (fun ds n1 h1 H1 vs l1 o1 ax => by
    split at h1
    · rename_i hc
      rw [Bool.or_eq_false_iff] at hc
      cases ax with
      | cons a r =>
        cases r with
        | cons b r =>
          cases r
          refine ⟨_, _, rfl, hD.nx _ _ h1 U _ H1 (.hid l1) (((s.le l1 o1).set (fun z => ?_) a).set (fun z => ?_) b)⟩
          · rw [List.contains_iff_mem.mpr z] at hc
            cases hc.1
          · rw [List.contains_iff_mem.mpr z] at hc
            cases hc.2
    · exact h1.elim) s.hid s.ok h⟩
/-! while -/
noncomputable def aWhile (c : AT) (f : AS) : AS := fun E ρ n => ∃ Wv : Nat → Env' → Nat → Prop, (∃ m, Wv m ρ n) ∧ ∀ m ρ n, Wv m ρ n →
  c ρ n fun b n1 => aIte b (f { E with nx := fun ρ' n' => ∃ m', m' < m ∧ Wv m' ρ' n', ct := fun ρ' n' => ∃ m', m' < m ∧ Wv m' ρ' n', bk := E.nx } ρ n1) (E.nx ρ n1)
instance {tc : TT} {tb : TS} {c : AT} {f : AS} [DT K tc c] [DS K Wx ow tb f] : DS K Wx ow (tWhile tc tb) (aWhile c f) := ⟨fun W U σ ρ n H E Ea hD s h => by
  obtain ⟨Wv, ⟨m, w0⟩, turn⟩ := h
  refine ⟨fun m σ' H' => ∃ ρ' n' U', Wv m ρ' n' ∧ SOk K W ow n' H' σ' ρ' U' ∧ Stp W U H U' H', ⟨m, ρ, n, U, w0, s, Stp.refl⟩, ?_⟩
  rintro m σ1 H1 ⟨ρ1, n1, U1, w1, s1, l1⟩
  refine DT.run (te := tc) (f := c) W σ1 ρ1 n1 H1 _ _ (fun b n2 h2 H2 l2 o2 => ?_) s1.opn s1.base (turn m ρ1 n1 w1)
  have st := l1.trans (.hid (lo_le l2))
  cases b with
  | true =>
    rw [if_pos rfl]
    refine ⟨fun σ' H' => ∃ m', m' < m ∧ ∃ ρ' n' U', Wv m' ρ' n' ∧ SOk K W ow n' H' σ' ρ' U' ∧ Stp W U H U' H', fun σ' H' q => q, ?_⟩
    have again : WantsE K W ow U1 H2 (fun ρ' n' => ∃ m', m' < m ∧ Wv m' ρ' n') fun σ' H' => ∃ m', m' < m ∧ ∃ ρ' n' U', Wv m' ρ' n' ∧ SOk K W ow n' H' σ' ρ' U' ∧ Stp W U H U' H' := fun ρ' n' ⟨m', lt, wv⟩ U' σ' H' l' s' => ⟨m', lt, ρ', n', U', wv, s', st.trans l'⟩
    exact DS.run (ow := ow) (t := tb) (f := f) W U1 σ1 ρ1 n2 H2 _ { Ea with nx := fun ρ' n' => ∃ m', m' < m ∧ Wv m' ρ' n', ct := fun ρ' n' => ∃ m', m' < m ∧ Wv m' ρ' n', bk := Ea.nx } ⟨again, hD.rt.le st, hD.nx.le st, again, hD.ex.le st⟩ (s1.lo l2 o2) (h2.1 rfl)
  | false =>
    rw [if_neg Bool.false_ne_true]
    exact hD.nx _ _ (h2.2 rfl) U1 σ1 H2 st (s1.lo l2 o2)⟩
/-! for -/
noncomputable def aForGo (ow : List Nat) (G : D → Option (List (Nat × D))) (f : AS) (E : AEn) : List D → Env' → Nat → Prop
  | [], ρ, n => E.nx ρ n
  | d :: r, ρ, n => aPut ow G d ρ fun ρ1 => f { E with nx := aForGo ow G f E r, ct := aForGo ow G f E r, bk := E.nx } ρ1 n
noncomputable def aFor (ow : List Nat) (I : AI) (G : D → Option (List (Nat × D))) (f : AS) : AS := fun E ρ n => I (wipeA ρ ow) n fun ds n1 => aForGo ow G f E ds ρ n1
instance {wi : TI} {g : TG} {tb : TS} {I : AI} {G : D → Option (List (Nat × D))} {f : AS} [DI K wi I] [DG K g G] [DS K Wx ow tb f] : DS K Wx ow (tFor wi g tb) (aFor ow I G f) := ⟨fun W U σ ρ n H E Ea hD s h =>
  DI.run (wi := wi) (f := I) (W.plus U) σ _ n H _ _ (fun ds n1 h1 J H1 l1 o1 hw => by
    refine ⟨fun i m σ' H' => m = ds.length - i ∧ i ≤ ds.length ∧ ∃ ρ' n' U', aForGo ow G f Ea (ds.drop i) ρ' n' ∧ SOk K W ow n' H' σ' ρ' U' ∧ Stp W U H1 U' H', ⟨_, rfl, Nat.zero_le _, ρ, n1, U, h1, s.le l1 o1, Stp.refl⟩, ?_⟩
    rintro i m σ2 H2 ⟨rfl, hi, ρ2, n2, U2, h2, s2, l2⟩
    obtain ⟨w1, w2⟩ := hw (W.plus U2) l2.new rfl H2 n2 (fun a o r e => l2.le a o (fun z => r (l2.old a z)) e) s2.ok i
    by_cases hlt : i < ds.length
    · rw [List.drop_eq_getElem_cons hlt] at h2
      obtain ⟨hgo, hy⟩ := w1 ds[i] (List.getElem?_eq_getElem hlt)
      refine .inr ⟨hgo, fun σ' H' => ∃ m', m' < ds.length - i ∧ m' = ds.length - (i + 1) ∧ i + 1 ≤ ds.length ∧ ∃ ρ' n' U', aForGo ow G f Ea (ds.drop (i + 1)) ρ' n' ∧ SOk K W ow n' H' σ' ρ' U' ∧ Stp W U H1 U' H', fun σ' H' q => q, fun x H3 hx => ?_⟩
      obtain ⟨s3, a3⟩ := hy x H3 hx
      have l3 : (W.plus U2).le H2 H3 := Wd.le_same s3
      refine put_run (g := g) (a := G) (s2.le l3 (s2.ok.same s3)) a3 h2 fun ρ4 σ4 h4 s4 => ?_
      have l14 := l2.trans (.hid l3)
      have again : WantsE K W ow U2 H3 (aForGo ow G f Ea (ds.drop (i + 1))) fun σ' H' => ∃ m', m' < ds.length - i ∧ m' = ds.length - (i + 1) ∧ i + 1 ≤ ds.length ∧ ∃ ρ' n' U', aForGo ow G f Ea (ds.drop (i + 1)) ρ' n' ∧ SOk K W ow n' H' σ' ρ' U' ∧ Stp W U H1 U' H' :=
        fun ρ' n' q U' σ' H' l' s' => ⟨_, by omega, rfl, hlt, ρ', n', U', q, s', l14.trans l'⟩
      have lt := (Stp.hid l1).trans l14
      exact DS.run (ow := ow) (t := tb) (f := f) W U2 σ4 ρ4 n2 H3 _ { Ea with nx := aForGo ow G f Ea (ds.drop (i + 1)), ct := aForGo ow G f Ea (ds.drop (i + 1)), bk := Ea.nx } ⟨again, hD.rt.le lt, hD.nx.le lt, again, hD.ex.le lt⟩ s4 h4
    · have e : i = ds.length := by omega
      subst e
      rw [List.drop_length] at h2
      exact .inl ⟨w2 (Nat.le_refl _), hD.nx _ _ h2 U2 σ2 H2 ((Stp.hid l1).trans l2) s2⟩) s.hid s.ok h⟩
/-! a list is begun, a thing is put at its end -/
noncomputable def tOwnL (i : Nat) (ta : TA) : TS := tAsg (tLst ta) (gName i)
theorem k_own {X : Cx} {st : Stmt} {i : Nat} {ta : TA} (h : PS X st (tAsg (tLst ta) (gName i))) : PS X st (tOwnL i ta) := h
noncomputable def aOwnL (ow : List Nat) (i : Nat) (g : AA) : AS := fun E ρ n => g (wipeA ρ ow) n fun ds n1 => match Nat.ble ds.length 1000, ow.contains i with
  | true, true => E.nx (eSet ρ i (some (.lst ds))) n1
  | _, _ => False
theorem SOk.new {W : Wd} {n : Nat} {H : Hp} {σ : L2.St} {ρ : Env'} {U : List (Addr × HO)} {i : Nat} {p : Addr} {us : List V} {ds : List D} (s : SOk K W ow n H σ ρ U) (hi : i ∈ ow) (hp : H p = none) (a : AtAll K (W.plus U) H us ds) :
    Stp W U H ((p, .lst us) :: U) (upd H p (.lst us)) ∧ SOk K W ow n (upd H p (.lst us)) (σ.set i (some (.ref p))) (eSet ρ i (some (.lst ds))) ((p, .lst us) :: U) := by
  have nrs : ¬ (W.plus U).rs p := s.ok.fresh hp
  have rn := Wd.rs_new (W := W.plus U) (xs := .lst us) hp
  have sm : Same H (upd H p (.lst us)) := same_upd hp
  have ho : (W.plus ((p, .lst us) :: U)).ok K n (upd H p (.lst us)) := Wd.ok_put (W := W.plus U) trivial nrs (.inl hp) s.ok
  have lk : (W.plus ((p, .lst us) :: U)).lk H := s.ok.lk' rn
  have le2 : (W.plus ((p, .lst us) :: U)).le H (upd H p (.lst us)) := Wd.le_same sm
  refine ⟨⟨Wd.le_same sm, rn, fun b z => Wd.rs_add z⟩, ⟨?_, ?_, ho, by rw [List.length_set, eSet_length]; exact s.len, ?_, ?_, ?_⟩⟩
  · refine List.nodup_cons.mpr ⟨fun z => nrs (Wd.rs_plus.mpr (.inl z)), s.nd⟩
  · intro u hu
    rcases List.mem_cons.mp hu with rfl | hu
    · exact fun z => nrs (Wd.rs_plus.mpr (.inr z))
    · exact s.nr u hu
  · intro j d hj he
    have hij : i ≠ j := fun z => hj (z ▸ hi)
    rw [eGet_ne hij] at he
    rw [List.getElem?_set_ne hij]
    obtain ⟨v, e1, a1⟩ := s.env j d hj he
    exact ⟨v, e1, At.lk lk le2 _ (At.ext rn rfl _ a1)⟩
  · intro j d hj he
    by_cases hij : i = j
    · subst hij
      obtain ⟨hl, he⟩ := eGet_set he
      cases he
      exact ⟨(p, .lst us), List.mem_cons_self, by rw [List.getElem?_set_self (by rw [s.len]; exact hl)], .lst (AtAll.lk lk le2 _ (AtAll.ext rn rfl _ a))⟩
    · rw [eGet_ne hij] at he
      rw [List.getElem?_set_ne hij]
      obtain ⟨⟨q, ob⟩, hu, e1, a1⟩ := s.own j d hj he
      refine ⟨_, List.mem_cons_of_mem _ hu, e1, ?_⟩
      cases a1 with
      | lst a1 => exact .lst (AtAll.lk lk le2 _ (AtAll.ext rn rfl _ a1))
      | dic l a1 => exact .dic l (AtAll.lk lk le2 _ (AtAll.ext rn rfl _ a1))
  · intro j k q hj hk ne h1 h2
    have fr : ∀ m, m ∈ ow → i ≠ m → σ[m]? = some (some (.ref p)) → eGet ρ m = none := fun m hm _ hσ => by
      cases e : eGet ρ m with
      | none => rfl
      | some d =>
        obtain ⟨u, hu, e1, _⟩ := s.own m d hm e
        rw [hσ] at e1
        have : p = u.1 := V.ref.inj (Option.some.inj (Option.some.inj e1))
        exact absurd (Wd.rs_plus.mpr (.inl (List.mem_map.mpr ⟨u, hu, this.symm⟩))) nrs
    by_cases hij : i = j
    · subst hij
      rw [List.getElem?_set_ne ne] at h2
      by_cases hl : i < σ.length
      · rw [List.getElem?_set_self hl] at h1
        cases h1
        rw [eGet_ne ne]
        exact .inr (fr k hk ne h2)
      · rw [List.getElem?_eq_none (by rw [List.length_set]; omega)] at h1
        cases h1
    · rw [List.getElem?_set_ne hij] at h1
      rw [eGet_ne hij]
      by_cases hik : i = k
      · subst hik
        by_cases hl : i < σ.length
        · rw [List.getElem?_set_self hl] at h2
          cases h2
          exact .inl (fr j hj hij h1)
        · rw [List.getElem?_eq_none (by rw [List.length_set]; omega)] at h2
          cases h2
      · rw [List.getElem?_set_ne hik] at h2
        rw [eGet_ne hik]
        exact s.dst j k q hj hk ne h1 h2
instance {i : Nat} {ta : TA} {g : AA} [DA K ta g] : DS K Wx ow (tOwnL i ta) (aOwnL ow i g) := ⟨fun W U σ ρ n H E Ea hD s h =>
  DA.run (te := ta) (f := g) (W.plus U) σ _ n H _ _ (fun ds n1 h1 H1 vs l1 o1 ax => by
    split at h1
    · rename_i hb hc
      refine ⟨size63 (by rw [ax.length]; exact Nat.le_of_ble_eq_true hb), fun p hp => ?_⟩
      obtain ⟨st, s2⟩ := (s.le l1 o1).new (List.contains_iff_mem.mp hc) hp ax
      exact hD.nx _ _ h1 _ _ _ ((Stp.hid l1).trans st) s2
    · exact h1.elim) s.hid s.ok h⟩
/-- the contents of one built thing change -/
noncomputable def putO (U : List (Addr × HO)) (p : Addr) (ob : HO) : List (Addr × HO) := U.map fun u => if u.1 = p then (p, ob) else u
theorem putO_fst (U : List (Addr × HO)) (p : Addr) (ob : HO) : (putO U p ob).map (·.1) = U.map (·.1) := by
  unfold putO
  rw [List.map_map]
  refine List.map_congr_left fun u _ => ?_
  show (if u.1 = p then (p, ob) else u).1 = u.1
  split
  · rename_i e; exact e.symm
  · rfl
theorem SOk.put {W : Wd} {n : Nat} {H : Hp} {σ : L2.St} {ρ : Env'} {U : List (Addr × HO)} {i : Nat} {p : Addr} {ob ob' : HO} {d' : D} (s : SOk K W ow n H σ ρ U) (hi : i ∈ ow) (hl : eGet ρ i ≠ none) (hσ : σ[i]? = some (some (.ref p))) (hU : (p, ob) ∈ U) (hob : ∃ xs, ob = .lst xs) (hm : Mt ob') (a : OwAt K (W.plus U) H ob' d') :
    Stp W U H (putO U p ob') (upd H p ob') ∧ SOk K W ow n (upd H p ob') σ (eSet ρ i (some d')) (putO U p ob') := by
  have hfst := putO_fst U p ob'
  have hrs : ∀ b, (W.plus (putO U p ob')).rs b ↔ (W.plus U).rs b := fun b => by rw [Wd.rs_plus, Wd.rs_plus, hfst]
  have hpr : (W.plus U).rs p := Wd.rs_plus.mpr (.inl (List.mem_map.mpr ⟨_, hU, rfl⟩))
  have le1 : (W.plus U).le H (upd H p ob') := fun b o r e => by
    rw [upd_ne fun z => r (by rw [z]; exact hpr)]
    exact e
  obtain ⟨hp1, _⟩ := s.ok.owns (p, ob) (List.mem_append_left _ hU)
  have npw : ¬ W.rs p := s.nr _ hU
  have hdk : ∀ d b, W.dk = some (d, b) → p ≠ d ∧ p ≠ b := fun d b e => s.ok.dis d b e _ (List.mem_append_left _ hU)
  have ok' : (W.plus (putO U p ob')).ok K n (upd H p ob') := by
    refine ⟨fun d b e => ?_, fun q hq => ?_, fun d b e q hq => ?_⟩
    · obtain ⟨c, D, l⟩ := s.ok.deck d b e
      refine ⟨c, ?_, l⟩
      obtain ⟨⟨s', ns, cs, i', k, h1, h2, h3, h4⟩, ne⟩ := D
      obtain ⟨n1, n2⟩ := hdk d b e
      obtain ⟨xs, rfl⟩ := hob
      refine ⟨⟨s', ns, cs, i', k, ?_, ?_, h3.upd (.inr ⟨_, hp1⟩), h4⟩, ne⟩
      · rw [upd_ne (Ne.symm n1)]; exact h1
      · rw [upd_ne (Ne.symm n2)]; exact h2
    · rcases List.mem_append.mp hq with hq | hq
      · obtain ⟨u, hu, e⟩ := List.mem_map.mp hq
        split at e
        · subst e
          exact ⟨upd_same, hm⟩
        · rename_i hne
          subst e
          rw [upd_ne hne]
          exact s.ok.owns u (List.mem_append_left _ hu)
      · have hq1 : q.1 ≠ p := fun z => npw (.inr (List.mem_map.mpr ⟨q, hq, z⟩))
        rw [upd_ne hq1]
        exact s.ok.owns q (List.mem_append_right _ hq)
    · rcases List.mem_append.mp hq with hq | hq
      · have : q.1 ∈ U.map (·.1) := by rw [← hfst]; exact List.mem_map.mpr ⟨q, hq, rfl⟩
        obtain ⟨u, hu, e'⟩ := List.mem_map.mp this
        rw [← e']
        exact s.ok.dis d b e u (List.mem_append_left _ hu)
      · exact s.ok.dis d b e q (List.mem_append_right _ hq)
  have wk : ∀ {v : V} {d : D}, At K (W.plus U) H v d → At K (W.plus (putO U p ob')) (upd H p ob') v d := fun h => At.weak (fun b z => (hrs b).mp z) rfl _ (At.le s.ok le1 _ h)
  have wka : ∀ {vs : List V} {ds : List D}, AtAll K (W.plus U) H vs ds → AtAll K (W.plus (putO U p ob')) (upd H p ob') vs ds := fun h => AtAll.weak (fun b z => (hrs b).mp z) rfl _ (AtAll.le s.ok le1 _ h)
  have wko : ∀ {o : HO} {d : D}, OwAt K (W.plus U) H o d → OwAt K (W.plus (putO U p ob')) (upd H p ob') o d := fun h => by
    cases h with
    | lst h => exact .lst (wka h)
    | dic l h => exact .dic l (wka h)
  refine ⟨⟨le1, fun b z r => absurd ((hrs b).mp z) r, fun b z => (hrs b).mpr z⟩, ⟨by rw [hfst]; exact s.nd, ?_, ok', by rw [eSet_length]; exact s.len, ?_, ?_, ?_⟩⟩
  · intro u hu
    have : u.1 ∈ U.map (·.1) := by rw [← hfst]; exact List.mem_map.mpr ⟨u, hu, rfl⟩
    obtain ⟨w, hw, e⟩ := List.mem_map.mp this
    rw [← e]
    exact s.nr w hw
  · intro j d hj he
    have hij : i ≠ j := fun z => hj (z ▸ hi)
    rw [eGet_ne hij] at he
    obtain ⟨v, e1, a1⟩ := s.env j d hj he
    exact ⟨v, e1, wk a1⟩
  · intro j d hj he
    by_cases hij : i = j
    · subst hij
      cases (eGet_set he).2
      exact ⟨(p, ob'), List.mem_map.mpr ⟨_, hU, by rw [if_pos rfl]⟩, hσ, wko a⟩
    · rw [eGet_ne hij] at he
      obtain ⟨u, hu, e1, a1⟩ := s.own j d hj he
      have hup : u.1 ≠ p := fun z => by
        rw [z] at e1
        rcases s.dst i j p hi hj hij hσ e1 with h | h
        · exact hl h
        · rw [h] at he; cases he
      exact ⟨u, List.mem_map.mpr ⟨u, hu, by rw [if_neg hup]⟩, e1, wko a1⟩
  · intro j k q hj hk ne h1 h2
    rcases s.dst j k q hj hk ne h1 h2 with h | h
    · by_cases hij : i = j
      · subst hij
        exact absurd h hl
      · exact .inl (by rw [eGet_ne hij]; exact h)
    · by_cases hik : i = k
      · subst hik
        exact absurd h hl
      · exact .inr (by rw [eGet_ne hik]; exact h)
noncomputable def tApp (K : PySem.W.Frag) (i : Nat) (te : TE) : TS := tDrop (tBM K "list" rAppend (tVar i) (tCons te tNil))
theorem k_app {X : Cx} {st : Stmt} {i : Nat} {te : TE} (hK : X.K = K) (h : PS X st (tDrop (tBM X.K "list" rAppend (tVar i) (tCons te tNil)))) : PS X st (tApp K i te) := hK ▸ h
noncomputable def aApp (ow : List Nat) (i : Nat) (f : AE) : AS := fun E ρ n => match eGet ρ i, ow.contains i with
  | some (.lst ds), true => f (wipeA ρ ow) n fun d n1 => ds.length < 1000000 ∧ E.nx (eSet ρ i (some (.lst (ds ++ [d])))) n1
  | _, _ => False
theorem app_run {W : Wd} {U : List (Addr × HO)} {σ : L2.St} {ρ : Env'} {n : Nat} {H : Hp} {i : Nat} {p : Addr} {v : V} {ds : List D} {d : D} {Q : Hp → Prop} (s : SOk K W ow n H σ ρ U) (hi : i ∈ ow) (he : eGet ρ i = some (.lst ds)) (hl : ds.length < 1000000) (hσ : σ[i]? = some (some (.ref p))) (ax : At K (W.plus U) H v d)
    (hQ : ∀ U' H', Stp W U H U' H' → SOk K W ow n H' σ (eSet ρ i (some (.lst (ds ++ [d])))) U' → Q H') : ∃ l xs y, V.ref p = .ref l ∧ [v] = [y] ∧ H l = some (.lst xs) ∧ xs.length < sizeLine ∧ Q (upd H l (.lst (xs ++ [y]))) := by
  obtain ⟨u, hu, e1, a⟩ := s.own i _ hi he
  rw [hσ] at e1
  have ep : p = u.1 := V.ref.inj (Option.some.inj (Option.some.inj e1))
  subst ep
  obtain ⟨p, ob⟩ := u
  cases a with
  | lst a =>
    rename_i us
    have hp1 := (s.ok.owns _ (List.mem_append_left _ hu)).1
    obtain ⟨st, s2⟩ := s.put hi (by rw [he]; exact fun z => nomatch z) hσ hu ⟨_, rfl⟩ (ob' := .lst (us ++ [v])) trivial (.lst (a.append (.cons ax .nil)))
    exact ⟨_, us, v, rfl, rfl, hp1, Nat.lt_of_lt_of_le (by rw [a.length]; exact hl) lim, hQ _ _ st s2⟩
instance {i : Nat} {te : TE} {f : AE} [DE K te f] : DS K Wx ow (tApp K i te) (aApp ow i f) := ⟨fun W U σ ρ n H E Ea hD s h => by
  unfold aApp at h
  split at h
  · rename_i ds he hc
    have hi := List.contains_iff_mem.mp hc
    obtain ⟨u, hu, e1, a⟩ := s.own i _ hi he
    have hp1 := (s.ok.owns _ (List.mem_append_left _ hu)).1
    refine ⟨_, e1, ?_, DE.run (te := te) (f := f) (W.plus U) σ _ n H _ _ (fun d n1 h1 H1 x l1 o1 ax => ?_) s.hid s.ok h⟩
    · obtain ⟨p, ob⟩ := u
      cases a with
      | lst a => exact .inl ⟨rfl, _, SqL.of hp1⟩
    · exact app_run (s.le l1 o1) hi he h1.1 e1 ax fun U' H' st s' => hD.nx _ _ h1.2 U' σ H' ((Stp.hid l1).trans st) s'
  · exact h.elim⟩
/-! a def -/
noncomputable def startA : Nat → List D → Env'
  | 0, _ => []
  | k + 1, [] => none :: startA k []
  | k + 1, d :: ds => some d :: startA k ds
theorem startA_none : ∀ {k i : Nat} {d : D}, eGet (startA k []) i = some d → False
  | 0, _, _, h => by cases h
  | k + 1, 0, _, h => by cases h
  | k + 1, i + 1, _, h => startA_none (k := k) (i := i) h
theorem startA_at {W : Wd} {H : Hp} : ∀ {k : Nat} {vs : List V} {ds : List D}, AtAll K W H vs ds → ∀ (i : Nat) (d : D), eGet (startA k ds) i = some d → ∃ v, vs[i]? = some v ∧ At K W H v d
  | 0, _, _, _, _, _, e => by cases e
  | k + 1, _, [], h, i, d, e => (startA_none e).elim
  | k + 1, _, _ :: _, h, 0, d, e => by
    cases h with
    | cons a r => cases e; exact ⟨_, rfl, a⟩
  | k + 1, _, _ :: ds, h, i + 1, d, e => by
    cases h with
    | cons a r => exact startA_at (k := k) r i d e
theorem startA_length : ∀ (k : Nat) (ds : List D), (startA k ds).length = k
  | 0, _ => rfl
  | k + 1, [] => by rw [startA, List.length_cons, startA_length]
  | k + 1, _ :: ds => by rw [startA, List.length_cons, startA_length]
theorem start_at {W : Wd} {H : Hp} {N : List Str} {k : Nat} {vs : List V} {ds : List D} (hk : N.length = k) (hl : ds.length ≤ k) (h : AtAll K W H vs ds) : EnvAt K W H (L2.start N vs) (startA k ds) := by
  unfold L2.start
  have hv := h.length
  refine ⟨by rw [startA_length]; simp; omega, fun i d e => ?_⟩
  obtain ⟨v, e1, a⟩ := startA_at h i d e
  refine ⟨v, ?_, a⟩
  have hi : i < vs.length := (List.getElem?_eq_some_iff.mp e1).1
  rw [List.getElem?_append_left (by rw [List.length_map]; exact hi), List.getElem?_map, e1]
  rfl
noncomputable def aTop (Q : D → Nat → Prop) : AEn := { nx := fun _ n => Q .non n, rt := Q }
theorem le_start {W : Wd} {U : List (Addr × HO)} {H H' : Hp} (s : Stp W [] H U H') : W.le H H' := s.le
theorem startA_big : ∀ {k i : Nat} {ds : List D}, ds.length ≤ i → eGet (startA k ds) i = none
  | 0, _, _, _ => rfl
  | k + 1, 0, [], _ => rfl
  | k + 1, i + 1, [], h => startA_big (k := k) (i := i) (ds := []) (Nat.zero_le _)
  | k + 1, 0, _ :: _, h => absurd h (Nat.not_succ_le_zero _)
  | k + 1, i + 1, _ :: ds, h => startA_big (k := k) (i := i) (ds := ds) (Nat.le_of_succ_le_succ h)
theorem start_ok {W : Wd} {n : Nat} {H : Hp} {N : List Str} {k : Nat} {vs : List V} {ds : List D} (hk : N.length = k) (hl : ds.length ≤ k) (ho : ∀ i ∈ ow, ds.length ≤ i) (h : AtAll K W H vs ds) (o : W.ok K n H) : SOk K W ow n H (L2.start N vs) (startA k ds) [] := by
  have e := start_at hk hl h
  refine ⟨List.nodup_nil, fun u hu => (by cases hu), o, e.1, fun i d _ he => e.2 i d he, fun i d hi he => ?_, fun i j p hi _ _ _ _ => .inl (startA_big (ho i hi))⟩
  rw [startA_big (ho i hi)] at he
  cases he
theorem fn_mir {P : Program} {w : World} {mg : Str → Option Value} {base : Heap} {x qual : Str} {st : Stmt} {f : Addr} {fd : FuncData} {N ps : List Str} {k : Nat} {A : ASp} (ow : List Nat) (kk : Nat) (hk : N.length = kk) (hp : ps.length ≤ kk) (ho : ∀ i ∈ ow, ps.length ≤ i) (F : Fun K x qual st f fd) (S : FnScope N ps (defScope st))
    (hbody : ∀ (cdv : Value) (Ar : Around) (outer : List Env) (s : Shared) (H : Hp) (E : XK), Room k (Ar.deeper (envOfC qual (defScope st) s.heap.objs.size f cdv)) →
      ∃ (t : TS) (fa : AS), PSs (cxOf CX0 P w K mg base N qual (defScope st) f cdv Ar outer s H E).nox (defBody st) t ∧ DS K W0 ow t fa ∧ ∀ ds n Q, ds.length = ps.length → A ds n Q → fa (aTop Q) (startA kk ds) n) : FnOk P w K mg base CX0 (k + 1) f fd ps (spOf K ps.length A) := by
  refine F.ok S (fun vs H Q E h => ?_) (fun cdv Ar outer s H vs Q E hr h => ?_)
  · obtain ⟨W, n, ds, Qa, a, hl, _⟩ := h
    rw [a.length, hl]
  · obtain ⟨W, n, ds, Qa, a, hl, o, hQ, hA⟩ := h
    obtain ⟨t, fa, h1, h2, h3⟩ := hbody cdv Ar outer s H E hr
    refine ⟨t, h1, DS.run (Wx := W0) (ow := ow) (t := t) (f := fa) W [] (L2.start N vs) (startA kk ds) n H _ (aTop Qa) ⟨fun ρ' n' q U' σ' H' l' s' => hQ _ _ q H' _ (le_start l') s'.base .non, fun d n' q U1 H1 H' v l' l2 o' a' => hQ _ _ q H' v ((le_start l').trans l2) o' a', fun _ _ q => q.elim, fun _ _ q => q.elim, fun _ _ _ _ _ q => q.elim⟩ (start_ok hk (by omega) (fun i hi => by rw [hl]; exact ho i hi) a o) (h3 ds n Qa hl hA)⟩
end
/-! ### max and min of tuples in the mirror -/
section
variable {K : PySem.W.Frag}
open MM
mutual
noncomputable def D.kt : D → KT
  | .int i => .n i
  | .tup ds => .t (ktAll ds)
  | _ => .t []
noncomputable def ktAll : List D → List KT
  | [] => []
  | d :: ds => d.kt :: ktAll ds
end
theorem ktAll_map : ∀ ds : List D, ktAll ds = ds.map D.kt
  | [] => rfl
  | d :: ds => by rw [ktAll, ktAll_map ds, List.map_cons]
/-- a tree of numbers in tuples, so deep at most -/
noncomputable def D.kd : Nat → D → Prop
  | _, .int _ => True
  | d + 1, .tup ds => ∀ x ∈ ds, D.kd d x
  | _, _ => False
theorem at_vat {W : Wd} {H : Hp} : ∀ (d : Nat) (e : D) {v : V}, e.kd d → At K W H v e → VAt K H d v e.kt
  | d, .int i, v, _, h => by
    cases h
    cases d <;> rfl
  | d + 1, .tup ds, v, hk, h => by
    cases h with
    | @tup a xs _ s b =>
      refine ⟨a, xs, rfl, s, by rw [ktAll_map, List.length_map, b.length], fun j x k hx hk' => ?_⟩
      obtain ⟨y, hy, ay⟩ := b.get' hx
      rw [ktAll_map, List.getElem?_map, hy] at hk'
      cases hk'
      exact at_vat d y (hk y (List.mem_iff_getElem?.mpr ⟨j, hy⟩)) ay
  | 0, .tup _, _, hk, _ => hk.elim
  | d, .non, _, hk, _ => by cases d <;> exact hk.elim
  | d, .bl _, _, hk, _ => by cases d <;> exact hk.elim
  | d, .str _, _, hk, _ => by cases d <;> exact hk.elim
  | d, .ty _, _, hk, _ => by cases d <;> exact hk.elim
  | d, .cls _, _, hk, _ => by cases d <;> exact hk.elim
  | d, .lst _, _, hk, _ => by cases d <;> exact hk.elim
  | d, .dic _ _, _, hk, _ => by cases d <;> exact hk.elim
  | d, .ins _ _ _, _, hk, _ => by cases d <;> exact hk.elim
  | d, .deck, _, hk, _ => by cases d <;> exact hk.elim
  | d, .xcp _ _ _ _ _, _, hk, _ => by cases d <;> exact hk.elim
noncomputable def rMaxT (K : PySem.W.Frag) : List V → Hp → VK → Prop := rBestT true K
noncomputable def rMinT (K : PySem.W.Frag) : List V → Hp → VK → Prop := rBestT false K
theorem k_maxT {X : Cx} (hK : X.K = K) (hc : X.calm = true) (hu : X.A.units + 64 < cLine) : CallR X (.builtin "max") (rMaxT K) := (k_bestT hK hc hu).1
theorem k_minT {X : Cx} (hK : X.K = K) (hc : X.calm = true) (hu : X.A.units + 64 < cLine) : CallR X (.builtin "min") (rMinT K) := (k_bestT hK hc hu).2
noncomputable def aBestT (sgn : Bool) : List D → Nat → (D → Nat → Prop) → Prop := fun ds n Q => ∃ (es : List D) (d : Nat), ds = [.lst es] ∧ es ≠ [] ∧ d ≤ 60 ∧ (∀ e ∈ es, e.kd d) ∧ (∀ e ∈ es, ∀ e' ∈ es, shp d e.kt e'.kt) ∧ ∀ e ∈ es, (∀ e' ∈ es, (if sgn then ltK d e.kt e'.kt else ltK d e'.kt e.kt) = false) → Q e n
theorem bestT_run {sgn : Bool} (W : Wd) (n : Nat) (H : Hp) (xs : List V) (ds : List D) (Q : VK) (Qa : D → Nat → Prop) (hQ : Wants K W H Qa Q) (o : W.ok K n H) (a : AtAll K W H xs ds) (h : aBestT sgn ds n Qa) : rBestT sgn K xs H Q := by
  obtain ⟨es, d, rfl, hne, hd, hk, hs, q⟩ := h
  cases a with
  | cons a r =>
    cases r
    cases a with
    | @lst p us _ nr s b =>
      refine ⟨p, us, es.map D.kt, d, rfl, SqL.of s, fun z => ?_, hd, by rw [List.length_map, b.length], fun i u k hu hk' => ?_, fun k hk1 k' hk2 => ?_, fun i u k hu hk' hb => ?_⟩
      · subst z
        cases b
        exact hne rfl
      · obtain ⟨y, hy, ay⟩ := b.get' hu
        rw [List.getElem?_map, hy] at hk'
        cases hk'
        exact at_vat d y (hk y (List.mem_iff_getElem?.mpr ⟨i, hy⟩)) ay
      · obtain ⟨e, he, rfl⟩ := List.mem_map.mp hk1
        obtain ⟨e', he', rfl⟩ := List.mem_map.mp hk2
        exact hs e he e' he'
      · obtain ⟨y, hy, ay⟩ := b.get' hu
        rw [List.getElem?_map, hy] at hk'
        cases hk'
        exact hQ.now o (q y (List.mem_iff_getElem?.mpr ⟨i, hy⟩) fun e' he' => hb _ (List.mem_map.mpr ⟨e', he', rfl⟩)) ay
instance : DL K (rMaxT K) (aBestT true) := ⟨fun W n H xs ds Q Qa hQ o a h => bestT_run W n H xs ds Q Qa hQ o a h⟩
instance : DL K (rMinT K) (aBestT false) := ⟨fun W n H xs ds Q Qa hQ o a h => bestT_run W n H xs ds Q Qa hQ o a h⟩
end
/-! ### sorted -/
noncomputable abbrev Pt := Int × Int
noncomputable def lexLe (p q : Pt) : Prop := p.1 < q.1 ∨ (p.1 = q.1 ∧ p.2 ≤ q.2)
noncomputable def pt (p : Pt) : D := .tup [.int p.1, .int p.2]
section
variable {K : PySem.W.Frag}
open Classical in
noncomputable def kz (zs : List (V × Pt)) (x : V) : Pt := if h : ∃ p, (x, p) ∈ zs then Classical.choose h else (0, 0)
theorem kz_is {zs : List (V × Pt)} {x : V} {p : Pt} (hu : ∀ q, (x, q) ∈ zs → q = p) (hm : (x, p) ∈ zs) : kz zs x = p := by
  unfold kz
  have h : ∃ p, (x, p) ∈ zs := ⟨p, hm⟩
  rw [dif_pos h]
  exact hu _ (Classical.choose_spec h)
noncomputable def rSrtP (K : PySem.W.Frag) : List V → Hp → VK → Prop := fun vs H Q => ∃ (a : Addr) (zs : List (V × Pt)), vs = [V.ref a] ∧ SqL K H a (zs.map Prod.fst) ∧ (∀ z ∈ zs, ∃ t, z.1 = V.ref t ∧ SqT K H t [.int z.2.1, .int z.2.2]) ∧
  ∀ (ws : List (V × Pt)) (p : Addr), ws.Perm zs → (ws.map Prod.snd).Pairwise lexLe → H p = none → Q (.ref p) (upd H p (.lst (ws.map Prod.fst)))
theorem k_sortP {X : Cx} (hK : X.K = K) : CallR X (.builtin "sorted") (rSrtP K) := by
  subst hK
  intro pins s σ H vs us Q I r h
  obtain ⟨a, zs, rfl, hs, hx, q⟩ := h
  obtain ⟨its, rv, hl, hz⟩ := I.list hs
  obtain ⟨u, rfl, ru⟩ := vals1 r
  obtain rfl : u = Value.ref a := ru
  have hk : ∀ z ∈ zs, kz zs z.1 = z.2 := fun z hm => kz_is (fun p' hq => by
    obtain ⟨t, e, ht⟩ := hx z hm
    obtain ⟨t', e', ht'⟩ := hx _ hq
    rw [e] at e'
    cases e'
    have := I.tuple_inj ht ht'
    simp only [List.cons.injEq, V.int.injEq, and_true] at this
    exact Prod.ext this.1.symm this.2.symm) hm
  have hxs : ∀ x ∈ zs.map Prod.fst, ∃ t, x = V.ref t ∧ SqT X.K H t [.int (kz zs x).1, .int (kz zs x).2] := fun x hm => by
    obtain ⟨z, hz', rfl⟩ := List.mem_map.mp hm
    obtain ⟨t, e, ht⟩ := hx z hz'
    exact ⟨t, e, by rw [hk z hz']; exact ht⟩
  obtain ⟨e1, e2⟩ := refs_back rv fun x m => by
    obtain ⟨t, e, _⟩ := hxs x m
    exact ⟨t, e⟩
  refine SrtO.sorted_pairsO (k := fun u => kz zs (backV u)) hl.isList (by rw [← rv.length]; exact hz) (fun v hv => ?_) fun h' d out h1 h2 kp hd hn => ?_
  · obtain ⟨t, rfl⟩ := e2 v hv
    have hm : V.ref t ∈ zs.map Prod.fst := by rw [e1]; exact List.mem_map.mpr ⟨_, hv, rfl⟩
    obtain ⟨t', e, ht⟩ := hxs _ hm
    cases e
    obtain ⟨its2, r2, ⟨o, ho, hc, n, hd⟩, _⟩ := I.tuple ht
    obtain ⟨u1, u2, rfl, ri, rj⟩ := vals2 r2
    obtain ⟨t1, rfl⟩ := ri
    obtain ⟨t2, rfl⟩ := rj
    exact ⟨t, o, t1, t2, n, rfl, ho, hc, hd⟩
  · have h3 : ∀ u ∈ out, ∃ a, u = Value.ref a := fun u hu => e2 u (h2.perm.mem_iff.mp hu)
    obtain ⟨n, hn⟩ := hn
    have hb : SrtO.Stb (ltP (kz zs)) (out.map backV) (zs.map Prod.fst) := by
      rw [e1]
      exact SrtO.Stb.map (ltP_swo (kz zs)) backV h2
    have hw : ((out.map backV).map fun y => (y, kz zs y)).Perm zs := by
      have e3 : (zs.map Prod.fst).map (fun y => (y, kz zs y)) = zs := by
        rw [List.map_map]
        conv => rhs; rw [← List.map_id zs]
        exact List.map_congr_left fun z hz' => by
          show (z.1, kz zs z.1) = z
          rw [hk z hz']
      have := hb.perm.map fun y => (y, kz zs y)
      rw [e3] at this
      exact this
    have hf : ((out.map backV).map fun y => (y, kz zs y)).map Prod.fst = out.map backV := by
      rw [List.map_map]
      exact List.map_id _
    refine ⟨.ref d, upd H d (.lst (out.map backV)), I.laid (t' := s.toks) kp hd ⟨?_, out, n, vals_back h3, hn⟩, rfl, ?_⟩
    · rw [hb.len]
      exact hz
    · have := q _ d hw ?_ (I.hok.fresh hd)
      · rw [hf] at this
        exact this
      · have hs2 := SrtO.srtd_map (lt := ltP (kz zs)) (f := backV) h1
        rw [List.map_map, List.pairwise_map]
        refine List.Pairwise.imp (fun {a b} h => ?_) hs2
        have := SrtO.lexB_no.mp h
        show lexLe (kz zs a) (kz zs b)
        unfold lexLe
        omega
noncomputable def aSrtP : List D → Nat → (D → Nat → Prop) → Prop := fun ds n Q => ∃ ps : List Pt, ds = [.lst (ps.map pt)] ∧ ∀ rs : List Pt, rs.Perm ps → rs.Pairwise lexLe → Q (.lst (rs.map pt)) n
theorem pts_zip {W : Wd} {H : Hp} : ∀ {ps : List Pt} {us : List V}, AtAll K W H us (ps.map pt) → ∃ zs : List (V × Pt), zs.map Prod.fst = us ∧ zs.map Prod.snd = ps ∧ ∀ z ∈ zs, (∃ t, z.1 = V.ref t ∧ SqT K H t [.int z.2.1, .int z.2.2]) ∧ At K W H z.1 (pt z.2)
  | [], _, h => by cases h; exact ⟨[], rfl, rfl, fun z hz => by cases hz⟩
  | p :: ps, _, h => by
    cases h with
    | @cons v vs _ _ a r =>
      obtain ⟨zs, h1, h2, h3⟩ := pts_zip r
      refine ⟨(v, p) :: zs, by rw [List.map_cons, h1], by rw [List.map_cons, h2], fun z hz => ?_⟩
      rcases List.mem_cons.mp hz with rfl | hz
      · refine ⟨?_, a⟩
        cases a with
        | tup s a =>
          cases a with
          | cons a b =>
            cases b with
            | cons b c =>
              cases a
              cases b
              cases c
              exact ⟨_, rfl, s⟩
      · exact h3 z hz
theorem zip_at {W : Wd} {H : Hp} : ∀ {ws : List (V × Pt)}, (∀ z ∈ ws, At K W H z.1 (pt z.2)) → AtAll K W H (ws.map Prod.fst) ((ws.map Prod.snd).map pt)
  | [], _ => .nil
  | w :: ws, h => .cons (h w List.mem_cons_self) (zip_at fun z hz => h z (List.mem_cons_of_mem _ hz))
instance : DL K (rSrtP K) aSrtP := ⟨fun W n H xs ds Q Qa hQ o a h => by
  obtain ⟨ps, rfl, h⟩ := h
  cases a with
  | cons a r =>
    cases r
    cases a with
    | @lst l us _ nr s a =>
      obtain ⟨zs, h1, h2, h3⟩ := pts_zip a
      subst h1 h2
      refine ⟨l, zs, rfl, SqL.of s, fun z hz => (h3 z hz).1, fun ws p hp hpw hn => hQ.new o (h (ws.map Prod.snd) (hp.map _) hpw) hn ?_⟩
      exact .lst (o.fresh hn) upd_same (AtAll.le o (Wd.le_same (same_upd hn)) _ (zip_at fun z hz => (h3 z (hp.mem_iff.mp hz)).2))⟩
/-! texts -/
end
/-! ### sorted rows: tuples whose first items are texts, no two alike -/
section
open PySem PyProof.Rows Srt SrtO
noncomputable def ltS (a b : Str) : Bool := decide (a.cps.toList < b.cps.toList)
theorem ltS_swo {α : Type} (k : α → Str) : Swo fun x y => ltS (k x) (k y) := by
  refine ⟨fun x y h => ?_, fun x y z h1 h2 => ?_⟩
  · exact decide_eq_false (List.lt_asymm (of_decide_eq_true h))
  · have a : (k x).cps.toList ≤ (k y).cps.toList := of_decide_eq_false h1
    have b : (k y).cps.toList ≤ (k z).cps.toList := of_decide_eq_false h2
    exact decide_eq_false (List.le_trans a b)
noncomputable def IsRow (h : Heap) (v : Value) (nm : Str) : Prop := ∃ (a : Addr) (o : Obj) (t : Tok) (r : List Value) (n : Nat), v = .ref a ∧ h.get? a = some o ∧ o.cls = .type "tuple" ∧ o.data = .seq (Value.str nm t :: r).toArray n
theorem IsRow.keeps {h h' : Heap} {v : Value} {nm : Str} (H : IsRow h v nm) (k : ∀ b o, h.get? b = some o → o.cls = .type "tuple" → h'.get? b = some o) : IsRow h' v nm := by
  obtain ⟨a, o, t, r, n, e, ho, hc, hd⟩ := H
  exact ⟨a, o, t, r, n, e, k _ _ ho hc, hc, hd⟩
variable {prog : Program} {w : World} {A : Around} {E : Value → Shared → Prop} {s : Shared}
theorem kat_same {b : Bool} {Q : Bool → Shared → Prop} (h : Q false s) : ∀ (l : List Value) (i : Nat), PySem.W.KatLex prog w A b false Q (l.zip l) i s
  | [], i => PySem.W.kat_nil h
  | v :: l, i => PySem.W.kat_cons (SeqAt.EqAt.same v prog w _ _ (PySem.W.kat_yes (kat_same h l (i + 1))))
theorem row_cmp {vs : List Value} {k : Value → Str} (hp : ∀ v ∈ vs, IsRow s.heap v (k v)) (hd : ∀ v ∈ vs, ∀ u ∈ vs, k v = k u → v = u) : Cmp prog w A s (tuples' true) (fun p => p.1 ∈ vs) (lt2 fun v u => ltS (k v) (k u)) := by
  intro p q hm hm'
  have h1 := hp _ hm
  have h2 := hp _ hm'
  show wpAny (model prog w) A (keyLt' (tuples' true) p.1 q.1) (fun r s' => s' = s ∧ r = ltS (k p.1) (k q.1)) (fun _ _ => False) s
  by_cases e : k p.1 = k q.1
  · have e2 := hd _ hm _ hm' e
    rw [← e2]
    obtain ⟨a, o, t, r, n, e1, ho, hc, hd1⟩ := h1
    generalize k p.1 = nm at *
    rw [e1]
    refine PySem.W.kat_lt ho hd1 ho hd1 ?_
    have e5 : decide ((Value.str nm t :: r).toArray.size < (Value.str nm t :: r).toArray.size) = false := decide_eq_false (Nat.lt_irrefl _)
    rw [e5]
    exact kat_same ⟨rfl, ((ltS_swo id).refl nm).symm⟩ _ 0
  · obtain ⟨a, o, t, r, n, e1, ho, hc, hd1⟩ := h1
    obtain ⟨a', o', t', r', n', e1', ho', hc', hd1'⟩ := h2
    generalize k p.1 = nm at *
    generalize k q.1 = nm' at *
    rw [e1, e1']
    refine PySem.W.kat_lt ho hd1 ho' hd1' ?_
    refine PySem.W.kat_cons (SeqAt.EqAt.str_str nm t nm' t' prog w _ _ ?_)
    have e4 : (nm == nm') = false := by simpa using e
    rw [e4]
    exact PySem.W.kat_no (oneLt_str ⟨rfl, rfl⟩)
theorem row_firsts {h : Heap} : ∀ {vs : List Value}, (∀ v ∈ vs, ∃ nm, IsRow h v nm) → ∃ fs, PySem.W.KatTups h vs fs ∧ fs.length = vs.length ∧ ∀ f ∈ fs, ∃ nm t, f = Value.str nm t
  | [], _ => ⟨[], .nil, rfl, fun f hf => by cases hf⟩
  | v :: vs, H => by
    obtain ⟨fs, h1, h2, h3⟩ := row_firsts (vs := vs) fun u hu => H u (List.mem_cons_of_mem _ hu)
    obtain ⟨nm, a, o, t, r, n, rfl, ho, hc, hd⟩ := H v List.mem_cons_self
    refine ⟨.str nm t :: fs, .cons ho hc hd rfl h1, by rw [List.length_cons, List.length_cons, h2], fun f hf => ?_⟩
    rcases List.mem_cons.mp hf with rfl | hf
    · exact ⟨nm, t, rfl⟩
    · exact h3 f hf
theorem rows_sortable {a : Addr} {vs : List Value} {k : Value → Str} (h0 : 0 < vs.length) (hp : ∀ v ∈ vs, IsRow s.heap v (k v)) (hd : ∀ v ∈ vs, ∀ u ∈ vs, k v = k u → v = u) (ha : ∀ o, s.heap.get? a = some o → o.cls ≠ .type "tuple") : SortableO prog w A s a vs fun v u => ltS (k v) (k u) := by
  intro h' keep
  have hp' : ∀ v ∈ vs, IsRow h' v (k v) := fun v hm => (hp v hm).keeps fun b o e c => keep b o (fun z => by subst z; exact ha o e c) e
  obtain ⟨fs, h1, h2, h3⟩ := row_firsts fun v hm => ⟨_, hp' v hm⟩
  refine ⟨tuples' true, fun Q E hq => ?_, row_cmp hp' hd⟩
  refine PySem.W.kat_kind (T := .type "str") h1 (by omega) (fun f hm => ?_) (by rfl) ?_
  · obtain ⟨x, t, rfl⟩ := h3 f hm
    exact PySem.W.Looks.now
  · have e : (Value.type "str" != Value.type "tuple") = true := by first | decide +kernel | rfl | decide
    rw [e]
    exact hq
theorem sorted_rows {l : Addr} {vs : List Value} {k : Value → Str} {Q : Value → Shared → Prop} (hl : s.heap.IsList l vs.toArray) (hz : vs.length ≤ sizeLine) (hp : ∀ v ∈ vs, IsRow s.heap v (k v)) (hd : ∀ v ∈ vs, ∀ u ∈ vs, k v = k u → v = u)
    (h : ∀ (h' : Heap) (d : Addr) (out : List Value), Srtd (fun v u => ltS (k v) (k u)) out → Stb (fun v u => ltS (k v) (k u)) out vs → (∀ b o, s.heap.get? b = some o → h'.get? b = some o) → s.heap.objs.size ≤ d → (∃ n, h'.get? d = some (seqObj "list" out.toArray n)) → Q (.ref d) { s with heap := h' }) :
    wpAny (model prog w) A (call (.builtin "sorted") [.ref l]) Q E s := by
  refine sorted_ord (ltS_swo k) hl hz (fun h2 h₁ a ha kk => ?_) fun out hs hb => ?_
  · refine rows_sortable (s := { s with heap := h₁ }) (by omega) (fun v hm => (hp v hm).keeps fun b o e _ => (kk b o e).2) hd fun o e => ?_
    have e' : some o = some (seqObj "list" vs.toArray 0) := e.symm.trans ha
    cases e'
    intro c
    exact absurd (Value.type.inj c) (by decide)
  · exact h _ _ out hs hb (fun b o e => sortedAll_old e) (Nat.le_succ _) (sortedAll_at s.heap vs out.toArray)
end
section
variable {K : PySem.W.Frag}
noncomputable abbrev Rw := Str × List D
noncomputable def rowT (r : Rw) : D := .tup (.str r.1 :: r.2)
open Classical in
noncomputable def kr (zs : List (V × Rw)) (x : V) : Rw := if h : ∃ p, (x, p) ∈ zs then Classical.choose h else (Str.ofString "", [])
theorem nodup_inj {α β : Type} {f : α → β} : ∀ {l : List α}, (l.map f).Nodup → ∀ x ∈ l, ∀ y ∈ l, f x = f y → x = y
  | [], _, x, hx, _, _, _ => by cases hx
  | a :: l, h, x, hx, y, hy, e => by
    rw [List.map_cons, List.nodup_cons] at h
    rcases List.mem_cons.mp hx with e1 | h1
    · rcases List.mem_cons.mp hy with e2 | h2
      · rw [e1, e2]
      · exact absurd (List.mem_map.mpr ⟨y, h2, by rw [← e, e1]⟩) h.1
    · rcases List.mem_cons.mp hy with e2 | h2
      · exact absurd (List.mem_map.mpr ⟨x, h1, by rw [e, e2]⟩) h.1
      · exact nodup_inj h.2 x h1 y h2 e
noncomputable def rSrtR (K : PySem.W.Frag) : List V → Hp → VK → Prop := fun vs H Q => ∃ (a : Addr) (zs : List (V × Rw)), vs = [V.ref a] ∧ SqL K H a (zs.map Prod.fst) ∧ (∀ z ∈ zs, ∃ t r, z.1 = V.ref t ∧ SqT K H t (.str z.2.1 :: r)) ∧ (zs.map fun z => z.2.1).Nodup ∧
  ∀ (ws : List (V × Rw)) (p : Addr), ws.Perm zs → ws.Pairwise (fun x y => ltS y.2.1 x.2.1 = false) → H p = none → Q (.ref p) (upd H p (.lst (ws.map Prod.fst)))
theorem k_sortR {X : Cx} (hK : X.K = K) : CallR X (.builtin "sorted") (rSrtR K) := by
  subst hK
  intro pins s σ H vs us Q I r h
  obtain ⟨a, zs, rfl, hs, hx, hnd, q⟩ := h
  obtain ⟨its, rv, hl, hz⟩ := I.list hs
  obtain ⟨u, rfl, ru⟩ := vals1 r
  obtain rfl : u = Value.ref a := ru
  have hk : ∀ z ∈ zs, kr zs z.1 = z.2 := fun z hm => by
    have h : ∃ p, (z.1, p) ∈ zs := ⟨z.2, hm⟩
    unfold kr
    rw [dif_pos h]
    have hq := Classical.choose_spec h
    obtain ⟨t, r, e, ht⟩ := hx z hm
    obtain ⟨t', r', e', ht'⟩ := hx _ hq
    rw [e] at e'
    cases e'
    have := I.tuple_inj ht ht'
    have e2 : z.2.1 = (Classical.choose h).1 := by
      have := (List.cons.inj this).1
      exact V.str.inj this
    have e3 := nodup_inj hnd _ hq z hm e2.symm
    exact congrArg Prod.snd e3
  have hxs : ∀ x ∈ zs.map Prod.fst, ∃ t r, x = V.ref t ∧ SqT X.K H t (.str (kr zs x).1 :: r) := fun x hm => by
    obtain ⟨z, hz', rfl⟩ := List.mem_map.mp hm
    obtain ⟨t, r, e, ht⟩ := hx z hz'
    exact ⟨t, r, e, by rw [hk z hz']; exact ht⟩
  obtain ⟨e1, e2⟩ := refs_back rv fun x m => by
    obtain ⟨t, r, e, _⟩ := hxs x m
    exact ⟨t, e⟩
  refine sorted_rows (k := fun u => (kr zs (backV u)).1) hl.isList (by rw [← rv.length]; exact hz) (fun v hv => ?_) (fun v hv u hu e => ?_) fun h' d out h1 h2 kp hd hn => ?_
  · obtain ⟨t, rfl⟩ := e2 v hv
    have hm : V.ref t ∈ zs.map Prod.fst := by rw [e1]; exact List.mem_map.mpr ⟨_, hv, rfl⟩
    obtain ⟨t', r, e, ht⟩ := hxs _ hm
    cases e
    obtain ⟨its2, r2, ⟨o, ho, hc, n, hd⟩, _⟩ := I.tuple ht
    cases r2 with
    | cons ri rr =>
      obtain ⟨t1, rfl⟩ := ri
      exact ⟨t, o, t1, _, n, rfl, ho, hc, hd⟩
  · obtain ⟨t, rfl⟩ := e2 v hv
    obtain ⟨t', rfl⟩ := e2 u hu
    have hm : V.ref t ∈ zs.map Prod.fst := by rw [e1]; exact List.mem_map.mpr ⟨_, hv, rfl⟩
    have hm' : V.ref t' ∈ zs.map Prod.fst := by rw [e1]; exact List.mem_map.mpr ⟨_, hu, rfl⟩
    obtain ⟨z, hz1, ez⟩ := List.mem_map.mp hm
    obtain ⟨z', hz1', ez'⟩ := List.mem_map.mp hm'
    have e' : (kr zs (V.ref t)).1 = (kr zs (V.ref t')).1 := e
    rw [← ez, ← ez', hk z hz1, hk z' hz1'] at e'
    have e3 := nodup_inj hnd z hz1 z' hz1' e'
    rw [e3, ez'] at ez
    cases ez
    rfl
  · have h3 : ∀ u ∈ out, ∃ a, u = Value.ref a := fun u hu => e2 u (h2.perm.mem_iff.mp hu)
    obtain ⟨n, hn⟩ := hn
    have hb : SrtO.Stb (fun x y => ltS (kr zs x).1 (kr zs y).1) (out.map backV) (zs.map Prod.fst) := by
      rw [e1]
      exact SrtO.Stb.map (ltS_swo fun x => (kr zs x).1) backV h2
    have hw : ((out.map backV).map fun y => (y, kr zs y)).Perm zs := by
      have e3 : (zs.map Prod.fst).map (fun y => (y, kr zs y)) = zs := by
        rw [List.map_map]
        conv => rhs; rw [← List.map_id zs]
        exact List.map_congr_left fun z hz' => by
          show (z.1, kr zs z.1) = z
          rw [hk z hz']
      have := hb.perm.map fun y => (y, kr zs y)
      rw [e3] at this
      exact this
    have hf : ((out.map backV).map fun y => (y, kr zs y)).map Prod.fst = out.map backV := by
      rw [List.map_map]
      exact List.map_id _
    refine ⟨.ref d, upd H d (.lst (out.map backV)), I.laid (t' := s.toks) kp hd ⟨?_, out, n, vals_back h3, hn⟩, rfl, ?_⟩
    · rw [hb.len]
      exact hz
    · have := q _ d hw ?_ (I.hok.fresh hd)
      · rw [hf] at this
        exact this
      · have hs2 := SrtO.srtd_map (lt := fun x y => ltS (kr zs x).1 (kr zs y).1) (f := backV) h1
        rw [List.pairwise_map]
        exact List.Pairwise.imp (fun {a b} h => h) hs2
noncomputable def aSrtR : List D → Nat → (D → Nat → Prop) → Prop := fun ds n Q => ∃ ps : List Rw, ds = [.lst (ps.map rowT)] ∧ (ps.map Prod.fst).Nodup ∧ ∀ rs : List Rw, rs.Perm ps → rs.Pairwise (fun x y => ltS y.1 x.1 = false) → Q (.lst (rs.map rowT)) n
theorem rws_zip {W : Wd} {H : Hp} : ∀ {ps : List Rw} {us : List V}, AtAll K W H us (ps.map rowT) → ∃ zs : List (V × Rw), zs.map Prod.fst = us ∧ zs.map Prod.snd = ps ∧ ∀ z ∈ zs, (∃ t r, z.1 = V.ref t ∧ SqT K H t (.str z.2.1 :: r)) ∧ At K W H z.1 (rowT z.2)
  | [], _, h => by cases h; exact ⟨[], rfl, rfl, fun z hz => by cases hz⟩
  | p :: ps, _, h => by
    cases h with
    | @cons v vs _ _ a r =>
      obtain ⟨zs, h1, h2, h3⟩ := rws_zip r
      refine ⟨(v, p) :: zs, by rw [List.map_cons, h1], by rw [List.map_cons, h2], fun z hz => ?_⟩
      rcases List.mem_cons.mp hz with rfl | hz
      · refine ⟨?_, a⟩
        cases a with
        | tup s a =>
          cases a with
          | cons a b =>
            cases a
            exact ⟨_, _, rfl, s⟩
      · exact h3 z hz
theorem rzip_at {W : Wd} {H : Hp} : ∀ {ws : List (V × Rw)}, (∀ z ∈ ws, At K W H z.1 (rowT z.2)) → AtAll K W H (ws.map Prod.fst) ((ws.map Prod.snd).map rowT)
  | [], _ => .nil
  | w :: ws, h => .cons (h w List.mem_cons_self) (rzip_at fun z hz => h z (List.mem_cons_of_mem _ hz))
instance : DL K (rSrtR K) aSrtR := ⟨fun W n H xs ds Q Qa hQ o a h => by
  obtain ⟨ps, rfl, hnd, h⟩ := h
  cases a with
  | cons a r =>
    cases r
    cases a with
    | @lst l us _ nr s a =>
      obtain ⟨zs, h1, h2, h3⟩ := rws_zip a
      subst h1 h2
      refine ⟨l, zs, rfl, SqL.of s, fun z hz => (h3 z hz).1, by rw [List.map_map] at hnd; exact hnd, fun ws p hp hpw hn => hQ.new o (h (ws.map Prod.snd) (hp.map _) (List.pairwise_map.mpr hpw)) hn ?_⟩
      exact .lst (o.fresh hn) upd_same (AtAll.le o (Wd.le_same (same_upd hn)) _ (rzip_at fun z hz => (h3 z (hp.mem_iff.mp hz)).2))⟩
end
/-! ### loops in the mirror -/
section
theorem aFor_ind {ow : List Nat} {G : D → Option (List (Nat × D))} {f : AS} {E : AEn} (I : List D → Env' → Nat → Prop)
    (hs : ∀ d r ρ n, I (d :: r) ρ n → (∀ ρ' n', I r ρ' n' → aForGo ow G f E r ρ' n') → aPut ow G d ρ fun ρ1 => f { E with nx := aForGo ow G f E r, ct := aForGo ow G f E r, bk := E.nx } ρ1 n)
    (hd : ∀ ρ n, I [] ρ n → E.nx ρ n) : ∀ {ds : List D} {ρ : Env'} {n : Nat}, I ds ρ n → aForGo ow G f E ds ρ n
  | [], ρ, n, h => hd ρ n h
  | d :: r, ρ, n, h => hs d r ρ n h fun ρ' n' h' => aFor_ind I hs hd h'
theorem aLc_ind {vs : List Nat} {G : D → Option (List (Nat × D))} {c : AT} {e : AE} {ρ : Env'} {Q : D → Nat → Prop} (I : List D → List D → Nat → Prop)
    (hs : ∀ acc d r n, I acc (d :: r) n → (∀ acc' n', I acc' r n' → aLcGo vs G c e ρ Q acc' r n') → aPutC vs G d ρ fun ρ1 => c ρ1 n fun b n2 => aIte b (e ρ1 n2 fun y n3 => aLcGo vs G c e ρ Q (acc ++ [y]) r n3) (aLcGo vs G c e ρ Q acc r n2))
    (hd : ∀ acc n, I acc [] n → Q (.lst acc) n) : ∀ {acc ds : List D} {n : Nat}, I acc ds n → aLcGo vs G c e ρ Q acc ds n
  | acc, [], n, h => hd acc n h
  | acc, d :: r, n, h => hs acc d r n h fun acc' n' h' => aLc_ind I hs hd h'
end
/-! ### zip of any two things that go item by item -/
namespace RX
open PySem
/-- an iterator it over what stands at l: its states, its items -/
structure Src (prog : Program) (w : World) (it l : Addr) (J : Nat → Heap → Prop) (get : Nat → Option Value) : Prop where
  keep : ∀ {k : Nat} {g g' : Heap} {c : Addr}, it ≠ c → l ≠ c → Heap.ExtBut c g g' → J k g → J k g'
  step : ∀ {A : Around} {E : Value → Shared → Prop} {s : Shared} {Q : Value → Shared → Prop} {k : Nat} {x : Value}, J k s.heap → get k = some x → (∀ g, J (k + 1) g → Heap.SameBut it s.heap g → Q x { s with heap := g }) → wpAny (model prog w) A (Builtin.SmallTypes.nextOf (.ref it)) Q E s
  stop : ∀ {A : Around} {E : Value → Shared → Prop} {s : Shared} {Q : Value → Shared → Prop} {k : Nat}, A.handled = none → J k s.heap → get k = none → (∀ g e, Heap.ExtBut it s.heap g → (∃ o, g.get? e = some o ∧ o.cls = .type "StopIteration") → E (.ref e) { s with heap := g }) → wpAny (model prog w) A (Builtin.SmallTypes.nextOf (.ref it)) Q E s
  here : ∀ {k : Nat} {g : Heap}, J k g → ∃ o, g.get? it = some o ∧ ∀ v, o.data ≠ .cell v
theorem srcT {prog : Program} {w : World} {it l : Addr} (hne : l ≠ it) (xs : Array Value) : Src prog w it l (fun k g => g.IsTupleIter it l k ∧ g.IsTuple l xs) (fun k => xs[k]?) where
  keep := fun h1 h2 e j => ⟨j.1.extBut e h1, j.2.extBut e h2⟩
  step := fun j hx q => RZ.nextOf_tuple_item j.1 j.2 hx fun g h1 h2 => q g ⟨h1, j.2.extBut h2.extBut hne⟩ h2
  stop := fun hh j hx q => RZ.nextOf_tuple_end hh j.1 j.2 hx q
  here := fun j => by obtain ⟨o, ho, _, hd⟩ := j.1; exact ⟨o, ho, fun v e => by rw [hd] at e; cases e⟩
/-! zip(a tuple, a list) -/
end RX
/-! ### enumerate of a tuple -/
namespace RX
open PySem
section
variable {prog : Program} {w : World} {A : Around} {E : Value → Shared → Prop} {s : Shared} {e it l : Addr} {J : Nat → Heap → Prop} {get : Nat → Option Value}
theorem enum_item {k : Nat} {x old : Value} {Q : Value → Shared → Prop} (S : Src prog w it l J get) (ee : IsEnum s.heap e it k old) (j : J k s.heap) (hx : get k = some x) (n1 : e ≠ it) (n2 : l ≠ e)
    (q : ∀ g, IsEnumOut g e it ((k : Int) + 1) x s.heap.objs.size → J (k + 1) g → g.get? s.heap.objs.size = some { cls := .type "tuple", data := .seq #[.int k s.toks, x] } → (∀ b o, b ≠ e → b ≠ it → s.heap.get? b = some o → g.get? b = some o) → Q (.ref s.heap.objs.size) { s with heap := g, toks := s.toks + 1 }) :
    wpAny (model prog w) A (Builtin.«enumerate.__next__» ⟨[.ref e], []⟩) (fun fin s' => ∃ v, fin = .done (.ret v) ∧ Q v s') E s := by
  obtain ⟨hp, gn, dp, tk, os⟩ := s
  show wpAny _ _ (field (.ref e) 2 >>= _) _ _ _; refine wpAny_bind (wpAny_field ee rfl (x := .ref it) rfl (wpAny_bind (S.step (s := ⟨hp, gn, dp, tk, os⟩) j hx fun ha ja sa => ?_)))
  replace sa : Heap.SameBut it hp ha := sa
  have ea : IsEnum ha e it k old := (sa.2 e n1).trans ee
  show wpAny _ _ (field (.ref e) 3 >>= _) _ _ ⟨ha, gn, dp, tk, os⟩; refine wpAny_bind (wpAny_field ea rfl (x := rawInt k) rfl ?_)
  show wpAny _ _ (field (.ref e) 4 >>= _) _ _ ⟨ha, gn, dp, tk, os⟩; refine wpAny_bind (wpAny_field ea rfl (x := .none) rfl ?_)
  show wpAny _ _ (mkInt k >>= _) _ _ ⟨ha, gn, dp, tk, os⟩; refine wpAny_bind (wpAny_mkInt ?_)
  show wpAny _ _ (setField (.ref e) 3 (rawInt ((k : Int) + 1)) >>= _) _ _ ⟨ha, gn, dp, tk + 1, os⟩; refine wpAny_bind (wpAny_setField_rec ea (by simp) fun hb eb sb => ?_)
  replace sb : Heap.SameBut e ha hb := sb
  replace eb : IsEnum hb e it ((k : Int) + 1) old := eb
  show wpAny _ _ (setField (.ref e) 4 .none >>= _) _ _ ⟨hb, gn, dp, tk + 1, os⟩; refine wpAny_bind (wpAny_setField_rec eb (by simp) fun hc ec sc => ?_)
  replace sc : Heap.SameBut e hb hc := sc
  replace ec : IsEnum hc e it ((k : Int) + 1) old := ec
  show wpAny _ _ (newTuple [.int k tk, x] >>= _) _ _ ⟨hc, gn, dp, tk + 1, os⟩; refine wpAny_bind (wpAny_newTuple ?_)
  have size : hc.objs.size = hp.objs.size := by rw [sc.1, sb.1, sa.1]
  have low : e < hp.objs.size := Heap.lt_size ee
  have kc : ∀ b o, b ≠ e → b ≠ it → hp.get? b = some o → hc.get? b = some o := fun b o c1 c2 v => sc.extBut b o c1 (sb.extBut b o c1 (sa.extBut b o c2 v))
  have jc : J (k + 1) hc := S.keep n1.symm n2 sc.extBut (S.keep n1.symm n2 sb.extBut ja)
  obtain ⟨hd, ehd⟩ : ∃ hd, hd = hc.push { cls := .type "tuple", data := .seq #[.int k tk, x] } := ⟨_, rfl⟩
  have gd : Heap.ExtBut e hc hd := fun b o _ v => by rw [ehd]; exact Heap.get?_push_of_some _ v
  have ed : IsEnum hd e it ((k : Int) + 1) old := by rw [ehd]; exact Heap.get?_push_of_some _ ec
  have td : hd.get? hp.objs.size = some { cls := .type "tuple", data := .seq #[.int k tk, x] } := by rw [ehd, ← size]; exact Heap.get?_push_size _ rfl
  have jd : J (k + 1) hd := S.keep n1.symm n2 gd jc
  have kd : ∀ b o, b ≠ e → b ≠ it → hp.get? b = some o → hd.get? b = some o := fun b o c1 c2 v => gd b o c1 (kc b o c1 c2 v)
  rw [← ehd, size]
  show wpAny _ _ (Builtin.SmallTypes.ownedTupleIsFree (.ref e) >>= _) _ _ ⟨hd, gn, dp, tk + 1, os⟩; refine wpAny_bind ?_; unfold Builtin.SmallTypes.ownedTupleIsFree
  refine wpAny_bind (wpAny_field ed rfl (x := .none) rfl (wpAny_pure ?_)); simp only [if_true]
  refine wpAny_bind (wpAny_rule (wpAny_bind (wpAny_field ed rfl (x := old) rfl (wpAny_bind (wpAny_setField_rec ed (by simp) fun hf ef sf => ?_)))))
  replace sf : Heap.SameBut e hd hf := sf
  replace ef : IsEnum hf e it ((k : Int) + 1) x := ef
  show wpAny _ _ (Builtin.SmallTypes.ownedTupleHandOut (.ref e) (.ref hp.objs.size) >>= _) _ _ ⟨hf, gn, dp, tk + 1, os⟩; refine wpAny_bind ?_; unfold Builtin.SmallTypes.ownedTupleHandOut
  refine wpAny_bind (wpAny_setField_rec ef (by simp) fun hg eg sg => ?_)
  replace sg : Heap.SameBut e hf hg := sg
  replace eg : IsEnumOut hg e it ((k : Int) + 1) x hp.objs.size := eg
  refine wpAny_setField_rec eg (by simp) fun hh eh sh => ?_
  replace sh : Heap.SameBut e hg hh := sh
  replace eh : IsEnumOut hh e it ((k : Int) + 1) x hp.objs.size := eh
  have all : Heap.ExtBut e hd hh := fun b o c v => sh.extBut b o c (sg.extBut b o c (sf.extBut b o c v))
  exact wpAny_bind (wpAny_letGo (wpAny_pure ⟨_, rfl, q hh eh (S.keep n1.symm n2 all jd) (all _ _ (Nat.ne_of_gt low) td) fun b o c1 c2 v => all b o c1 (kd b o c1 c2 v)⟩))
theorem enum_next {k : Nat} {x old : Value} {Q : Option Value → Shared → Prop} (S : Src prog w it l J get) (ee : IsEnum s.heap e it k old) (j : J k s.heap) (hx : get k = some x) (n1 : e ≠ it) (n2 : l ≠ e)
    (q : ∀ g, IsEnumOut g e it ((k : Int) + 1) x s.heap.objs.size → J (k + 1) g → g.get? s.heap.objs.size = some { cls := .type "tuple", data := .seq #[.int k s.toks, x] } → (∀ b o, b ≠ e → b ≠ it → s.heap.get? b = some o → g.get? b = some o) → Q (some (.ref s.heap.objs.size)) { s with heap := g, toks := s.toks + 1 }) :
    wpAny (model prog w) A (pyNext (.ref e)) Q E s := by
  have ty : s.TypeIs (.ref e) "enumerate" := ⟨_, ee, rfl⟩
  unfold pyNext
  refine wpAny_bind (wpAny_attempt (wpAny_callSpecial?_slot (name := Str.ofString "__next__") ty F.slot_enumerate_next (wpAny_call_entry F.slot_enumerate_next ty F.entry_enumerate_next (enum_item S ee j hx n1 n2 fun g b1 b2 b3 b4 => ?_) (F.args_enumerate_next_1 _))))
  exact wpAny_pure (q g b1 b2 b3 b4)
theorem enum_end {k : Nat} {old : Value} {Q : Option Value → Shared → Prop} (hn : A.handled = none) (S : Src prog w it l J get) (ee : IsEnum s.heap e it k old) (j : J k s.heap) (hx : get k = none) (q : ∀ g, Heap.ExtBut it s.heap g → Q none { s with heap := g }) : wpAny (model prog w) A (pyNext (.ref e)) Q E s := by
  have ty : s.TypeIs (.ref e) "enumerate" := ⟨_, ee, rfl⟩
  unfold pyNext
  refine wpAny_bind (wpAny_attempt (wpAny_callSpecial?_slot (name := Str.ofString "__next__") ty F.slot_enumerate_next (wpAny_call_entry F.slot_enumerate_next ty F.entry_enumerate_next ?_ (F.args_enumerate_next_1 _))))
  show wpAny _ _ (field (.ref e) 2 >>= _) _ _ _; refine wpAny_bind (wpAny_field ee rfl (x := .ref it) rfl (wpAny_bind (S.stop (A := A.in1) (s := s) hn j hx fun g v ev ⟨o, ho, hc⟩ => ?_)))
  exact wpAny_bind (wpAny_isInstance (T := "StopIteration") (b := true) ⟨o, ho, hc⟩ isSubtype_stop (wpAny_pure (q _ ev)))
end
noncomputable abbrev eT (h : Heap) (l : Addr) : Heap := (h.push { cls := .type "tuple_iterator", data := .fields #[.ref l, .int 0 0] }).push { cls := .type "enumerate", data := .fields #[.none, .bool false, .ref h.objs.size, rawInt 0, .none, .none] }
theorem new_enumT (l : Addr) (xs : Array Value) : Meets (Builtin.«enumerate.__new__» ⟨[.type "enumerate", .ref l], []⟩) (fun _ R s => s.heap.IsTuple l xs ∧ R (.ok (.ret (.ref (s.heap.objs.size + 1)))) { s with heap := eT s.heap l }) :=
  .of_wp fun prog w A R s h => by
    obtain ⟨hp, g, d, tk, os⟩ := s
    obtain ⟨t1, h⟩ := h
    have sub := sub_enumerate
    have u1 : Heap.IsTuple (Shared.heap ⟨hp, g, d, tk, os⟩) l xs := t1
    wp_walk using wpAny_pyIter_tuple u1
    refine wpAny_stack_any fun st => wpAny_pure ?_
    split
    · rename_i c _ _ _ _ _
      cases (c == Value.type "enumerate") <;> (wp_walk using wpAny_pyIter_tuple u1; refine ⟨_, rfl, ?_⟩; simp only [Heap.size_push] at h ⊢; exact h)
    · wp_walk using wpAny_pyIter_tuple u1
      refine ⟨_, rfl, ?_⟩
      simp only [Heap.size_push] at h ⊢
      exact h
theorem call_enumT {prog : Program} {w : World} {A : Around} {E : Value → Shared → Prop} {s : Shared} {l : Addr} {xs : Array Value} {Q : Value → Shared → Prop} (t1 : s.heap.IsTuple l xs)
    (h : ∀ g, IsEnum g (s.heap.objs.size + 1) s.heap.objs.size 0 .none → g.IsTupleIter s.heap.objs.size l 0 → (∀ b o, s.heap.get? b = some o → g.get? b = some o) → Q (.ref (s.heap.objs.size + 1)) { s with heap := g }) :
    wpAny (model prog w) A (call (.type "enumerate") [.ref l]) Q E s := by
  refine callType_new F.called_enumerate (by decide) (F.typeCall_enumerate_1 _) (F.newCall_enumerate_1 _) (fun obj => F.args_object_init_2 obj _) F.entry_enumerate_new (new_enumT l xs) ⟨t1, ?_⟩
  have up : ∀ (g : Heap) (o : Obj) (c : Addr) (o' : Obj), g.get? c = some o' → (g.push o).get? c = some o' := fun g o c o' e => Heap.get?_push_of_some _ e
  have at_ : ∀ (g : Heap) (o : Obj) (c : Addr), g.objs.size = c → o.isFreed = false → (g.push o).get? c = some o := fun g o c e f => by
    subst e
    exact Heap.get?_push_size _ f
  have ee : IsEnum (eT s.heap l) (s.heap.objs.size + 1) s.heap.objs.size 0 .none := at_ _ _ _ (by simp only [Heap.size_push]) rfl
  have w1 : (eT s.heap l).get? s.heap.objs.size = some { cls := .type "tuple_iterator", data := .fields #[.ref l, .int 0 0] } := up _ _ _ _ (at_ _ _ _ rfl rfl)
  exact ⟨⟨_, ee, rfl⟩, h _ ee ⟨_, w1, rfl, rfl⟩ fun c o e => up _ _ _ _ (up _ _ _ _ e)⟩
end RX
namespace RX
open PySem PySem.Spec PyProof.Rows L2
/-- a tuple's items with their places, in new pairs -/
noncomputable def IteT (K : PySem.W.Frag) (a : Addr) : It :=
  ⟨fun i H => ∃ (xs : List V) (x : V), SqT K H a xs ∧ xs[i]? = some x,
   fun i H v H' => ∃ T x, v = .ref T ∧ H T = none ∧ H' = upd H T (.tup [.int (i : Nat), x]) ∧ ∀ xs, SqT K H a xs → xs[i]? = some x,
   fun i H => ∃ xs : List V, SqT K H a xs ∧ xs.length ≤ i⟩
theorem turnE {P : Program} {w : World} {K : PySem.W.Frag} {elts : List Expr} {kk : Nat} {tpos : Pos} (a e it : Addr) :
    Turn P w K (.Tuple elts kk tpos) (IteT K a) [e, it] e (fun i h => (∃ old, IsEnum h e it ((i : Nat) : Int) old) ∧ h.IsTupleIter it a i ∧ e ≠ it ∧ a ≠ e ∧ a ≠ it) where
  mem := List.mem_cons_self
  obj := fun i h ⟨⟨old, he⟩, ⟨o, ho, _, hd⟩, _⟩ b hb => by
    simp only [List.mem_cons, List.not_mem_nil, or_false] at hb
    rcases hb with rfl | rfl
    · exact ⟨_, he, fun v z => nomatch z⟩
    · exact ⟨o, ho, fun v z => by rw [hd] at z; cases z⟩
  keep := fun i h h' ⟨⟨old, he⟩, t1, ne⟩ k => ⟨⟨old, k e (by simp) _ he⟩, t1.at fun o z => k it (by simp) o z, ne⟩
  item := by
    intro X hP hw hK hc i pins s σ H E I fp ⟨⟨old, he⟩, t1, n1, n2, n3⟩ ⟨xs, x, qx, ex⟩
    subst hP hw hK
    obtain ⟨its, rv, pa, _⟩ := I.tuple qx
    obtain ⟨u, eu, ru⟩ := rv.get ex
    have low : e < s.heap.objs.size := Heap.lt_size he
    have low2 : it < s.heap.objs.size := let ⟨_, z, _⟩ := t1; Heap.lt_size z
    refine enum_next (srcT n3 its.toArray) he ⟨t1, pa⟩ (x := u) (by simpa using eu) n1 n2 fun g eg jg tg kp => ?_
    refine ⟨_, rfl, wpAny_letOwnedTupleGo_enum (s := { s with heap := g, toks := s.toks + 1 }) eg fun g2 eg2 sb => ?_⟩
    have tg2 : g2.get? s.heap.objs.size = some { cls := .type "tuple", data := .seq #[.int i s.toks, u] } := (sb.2 _ (Nat.ne_of_gt low)).trans tg
    have made : ObjOk X.prog X.w (upd H s.heap.objs.size (.tup [.int (i : Nat), x])) g2 s.heap.objs.size (.tup [.int (i : Nat), x]) := ⟨(by decide : 2 ≤ sizeLine), [.int i s.toks, u], .cons ⟨_, rfl⟩ (.cons ru .nil), ⟨_, tg2, rfl, _, rfl⟩⟩
    have I2 : Inv X pins σ (upd H s.heap.objs.size (.tup [.int (i : Nat), x])) { s with heap := g2, toks := s.toks + 1 } := I.turnedNew (ch := [e, it]) (fun b o nb z => by
      simp only [List.mem_cons, List.not_mem_nil, or_false, not_or] at nb
      exact (sb.2 b nb.1).trans (kp b o nb.1 nb.2 z)) fp (Nat.le_refl _) made
    refine ⟨.ref s.heap.objs.size, _, I2, rfl, ⟨_, x, rfl, I.hok.fresh (Nat.le_refl _), rfl, fun l hl => by rw [I.tuple_inj hl qx]; exact ex⟩, ⟨⟨u, ?_⟩, jg.1.at fun o z => (sb.2 it n1.symm).trans z, n1, n2, n3⟩, fun b hb => ?_⟩
    · rw [show ((i + 1 : Nat) : Int) = (i : Int) + 1 by omega]
      exact eg2
    · have lt : b < s.heap.objs.size := by
        have old := hb
        simp only [List.mem_cons, List.not_mem_nil, or_false] at old
        rcases old with rfl | rfl
        · exact low
        · exact low2
      rw [upd_ne (Nat.ne_of_lt lt)]
      exact (fp b hb).1
  done := by
    intro X hP hw hK hc i pins s σ H E I fp ⟨⟨old, he⟩, t1, n1, n2, n3⟩ ⟨xs, qx, last⟩
    subst hP hw hK
    obtain ⟨its, rv, pa, _⟩ := I.tuple qx
    obtain ⟨f0, f1, f2, f3, f4, f5⟩ := fp it (by simp)
    have len := rv.length
    exact enum_end (I.ok.hd hc) (srcT n3 its.toArray) he ⟨t1, pa⟩ (by simp; omega) fun g ev => ⟨rfl, I.turned (t' := s.toks) (fun b o nb z => ev b o nb z) f0 f1 f3 f4 f5⟩
  self := fun A i s Q E ⟨⟨_, he⟩, _⟩ h => wpAny_pyIter_enum he h
noncomputable def iEnumT (K : PySem.W.Frag) (ta : TA) : TI := fun σ H R => ta σ H fun vs H1 => ∃ a xs, vs = [.ref a] ∧ SqT K H1 a xs ∧ R (IteT K a) H1
theorem pi_enumT {X : Cx} {e : Expr} {ta : TA} {p pos tpos : Pos} {elts : List Expr} {kk : Nat} (hg : Gl X "enumerate") (hm : X.mg "enumerate" = none) (ha : PA X [e] ta) (hs : starEach [e] X.env = [(false, eval e X.env)] := by rfl) :
    PI X (.Tuple elts kk tpos) (.Call (.Name "enumerate" p) [e] [] pos) (iEnumT X.K ta) := by
  refine ⟨fun pins s σ H R I h => Call_ (ld_blt I hg hm boot_enumerate (PyProof.Rows.callWith_type1 (thn (ha.run pos pins s σ H _ I h) fun us s1 ⟨vs, H1, I1, r1, a, xs, ev, qx, q⟩ => ?_) hs rfl))⟩
  subst ev
  cases r1 with
  | cons ra rr =>
  cases rr
  cases ra
  obtain ⟨its, rv, pa, _⟩ := I1.tuple qx
  obtain ⟨oa, ea, _⟩ := id pa
  have low := Heap.lt_size ea
  refine call_enumT (show s1.heap.IsTuple a its.toArray from pa) fun g he t1 kp => wpAny_pyIter_enum he ⟨s1.heap.objs.size + 1, [s1.heap.objs.size + 1, s1.heap.objs.size], _, _, H1, rfl, I1.kept (t' := s1.toks) kp, turnE a (s1.heap.objs.size + 1) s1.heap.objs.size, ⟨⟨.none, he⟩, t1, Nat.succ_ne_self _, Nat.ne_of_lt (Nat.lt_succ_of_lt low), Nat.ne_of_lt low⟩, fun b hb => ?_, q⟩
  have up : s1.heap.objs.size ≤ b := by
    simp only [List.mem_cons, List.not_mem_nil, or_false] at hb
    rcases hb with rfl | rfl <;> first | exact Nat.le_add_right _ _ | exact Nat.le_refl _
  exact I1.fpOk up (I1.hok.fresh up)
end RX
section
variable {K : PySem.W.Frag}
noncomputable def iEnumTK (K : PySem.W.Frag) (ta : TA) : TI := RX.iEnumT K ta
theorem k_enumT {X : Cx} {e : Expr} {ta : TA} {p pos tpos : Pos} {elts : List Expr} {kk : Nat} (hK : X.K = K) (hg : Gl X "enumerate") (hm : X.mg "enumerate" = none) (ha : PA X [e] ta) (hs : starEach [e] X.env = [(false, eval e X.env)] := by rfl) :
    PI X (.Tuple elts kk tpos) (.Call (.Name "enumerate" p) [e] [] pos) (iEnumTK K ta) := hK ▸ RX.pi_enumT hg hm ha hs
noncomputable def aEnumT (g : AA) : AI := fun ρ n Q => g ρ n fun ds n1 => match ds with
  | [.tup as] => Q (enumD 0 as) n1
  | _ => False
instance {ta : TA} {g : AA} [DA K ta g] : DI K (iEnumTK K ta) (aEnumT g) := ⟨fun W σ ρ n H R Qa hQ hE o h =>
  DA.run (te := ta) (f := g) W σ ρ n H _ _ (fun ds n1 h1 H1 vs l1 o1 ax => by
    split at h1
    · cases ax with
      | cons a r =>
        cases r
        cases a with
        | tup sa a =>
          refine ⟨_, _, rfl, sa, hQ _ _ h1 _ H1 l1 o1 fun W' hr hd H2 n2 l2 o2 i => ?_⟩
          have s2 := sqt_lk (o1.lk' hr) l2 sa
          refine ⟨fun d e => ?_, fun hi => ⟨_, s2, by rw [a.length]; rw [enumD_length] at hi; exact hi⟩⟩
          obtain ⟨x, e1, rfl⟩ := enumD_get e
          obtain ⟨v, e1', a1⟩ := a.get e1
          refine ⟨⟨_, v, s2, e1'⟩, fun z H3 ⟨T, x', ez, hT, eH, e3⟩ => ?_⟩
          have q1 := e3 _ s2
          rw [e1'] at q1
          cases q1
          subst ez eH
          have st : Same H2 (upd H2 T (.tup [.int i, v])) := same_upd hT
          refine ⟨st, .tup (.inl (.inl upd_same)) (.cons ?_ (.cons ?_ .nil))⟩
          · rw [Nat.zero_add]
            exact .int _
          · exact At.le o2 (Wd.le_same st) _ (At.lk (o1.lk' hr) l2 _ (At.ext hr hd _ a1))
    · exact h1.elim) hE o h⟩
end
/-! ### defs with a default -/
/-! ### list(zip(a, b)) of two tuples -/
section
open PySem
open PySem.Sem (wp)
variable {prog : Program} {w : World} {A : Around} {E : Value → Shared → Prop} {s : Shared}
/-- a zip whose first pair is held -/
noncomputable abbrev IsZipH (h : Heap) (z TI TO T0 : Addr) (b : Bool) : Prop :=
  h.get? z = some { cls := .type "zip", dict := none, data := .fields #[rawInt T0, .bool b, .bool false, .ref TI, .ref TO], slots := #[] }
theorem wpAny_alive {M : Model} {a : Addr} {Q : Option Obj → Shared → Prop} (h : Q (s.heap.get? a) s) : wpAny M A (loadIfAlive a) Q E s := fun Γ p hΓ => by
  unfold loadIfAlive
  rw [Sem.wp_loadIfAlive]
  exact h
theorem owned_held {z TI TO T0 : Addr} {b : Bool} {oT : Obj} {Q : Bool → Shared → Prop} (hz : IsZipH s.heap z TI TO T0 b) (hT : s.heap.get? T0 = some oT)
    (hQ : ∀ h', IsZipH h' z TI TO T0 true → Heap.SameBut z s.heap h' → Q false { s with heap := h' }) : wpAny (model prog w) A (Builtin.SmallTypes.ownedTupleIsFree (.ref z)) Q E s := by
  unfold Builtin.SmallTypes.ownedTupleIsFree
  refine wpAny_bind (wpAny_field hz rfl (x := rawInt T0) rfl ?_)
  show wpAny _ _ (loadIfAlive (Int.toNat (T0 : Int)) >>= _) _ _ _
  refine wpAny_bind (wpAny_alive ?_)
  rw [Int.toNat_natCast, hT]
  show wpAny _ _ (field (.ref z) 1 >>= _) _ _ _
  refine wpAny_bind (wpAny_field hz rfl (x := .bool b) rfl ?_)
  cases b with
  | true =>
    exact wpAny_pure (hQ s.heap hz (Heap.SameBut.refl ..))
  | false =>
    show wpAny _ _ (setField (.ref z) 1 (.bool true) >>= _) _ _ _
    refine wpAny_bind (wpAny_setField_rec hz (by simp) fun h1 hz1 hs1 => wpAny_pure ?_)
    exact hQ h1 hz1 hs1
theorem zipH_item {z TI TO i1 i2 l1 l2 T0 : Addr} {k1 k2 : Nat} {xs ys : Array Value} {x y : Value} {bb : Bool} {oT : Obj} {Q : Value → Shared → Prop} (D : ZipApart z TI TO i1 i2 l1 l2)
    (hz : IsZipH s.heap z TI TO T0 bb) (hT0 : s.heap.get? T0 = some oT) (hTI : IsPair s.heap TI (.ref i1) (.ref i2))
    (h1 : s.heap.IsTupleIter i1 l1 k1) (h2 : s.heap.IsTupleIter i2 l2 k2) (hl1 : s.heap.IsTuple l1 xs) (hl2 : s.heap.IsTuple l2 ys) (hx : xs[k1]? = some x) (hy : ys[k2]? = some y)
    (hQ : ∀ h', IsZipH h' z TI TO T0 true → h'.IsTupleIter i1 l1 (k1 + 1) → h'.IsTupleIter i2 l2 (k2 + 1) → IsPair h' s.heap.objs.size x y →
      (∀ c o, c ≠ z → c ≠ i1 → c ≠ i2 → s.heap.get? c = some o → h'.get? c = some o) → Q (.ref s.heap.objs.size) { s with heap := h' }) :
    wpAny (model prog w) A (Builtin.«zip.__next__» ⟨[.ref z], []⟩) (fun fin s' => ∃ v, fin = .done (.ret v) ∧ Q v s') E s := by
  show wpAny _ _ (field (.ref z) 2 >>= _) _ _ _
  refine wpAny_bind (wpAny_field hz rfl (x := .bool false) rfl ?_)
  show wpAny _ _ (field (.ref z) 3 >>= _) _ _ _
  refine wpAny_bind (wpAny_field hz rfl (x := .ref TI) rfl ?_)
  refine wpAny_bind (wpAny_seqItems hTI rfl ?_)
  show wpAny _ _ (Builtin.SmallTypes.ownedTupleIsFree (.ref z) >>= _) _ _ _
  refine wpAny_bind (owned_held hz hT0 fun h₁ hz₁ hs₁ => ?_)
  simp only [Bool.false_eq_true, if_false]
  refine wpAny_bind ?_
  rw [show (#[Value.ref i1, Value.ref i2] : Array Value) = [Value.ref i1, Value.ref i2].toArray from rfl, List.forIn_toArray]
  simp only [List.forIn_cons, List.forIn_nil]
  refine wpAny_bind (wpAny_bind (wpAny_holding ?_))
  show wpAny _ _ (Builtin.SmallTypes.nextOf (.ref i1) >>= _) _ _ _
  refine wpAny_bind (RZ.nextOf_tuple_item (h1.extBut hs₁.extBut D.i1z) (hl1.extBut hs₁.extBut D.l1z) hx fun h₂ h1₂ hs₂ => wpAny_pure (wpAny_pure ?_))
  show wpAny _ _ (_ >>= _) _ _ _
  refine wpAny_bind (wpAny_bind (wpAny_holding ?_))
  show wpAny _ _ (Builtin.SmallTypes.nextOf (.ref i2) >>= _) _ _ _
  refine wpAny_bind (RZ.nextOf_tuple_item ((h2.extBut hs₁.extBut D.i2z).extBut hs₂.extBut D.i12.symm) ((hl2.extBut hs₁.extBut D.l2z).extBut hs₂.extBut D.l2i1) hy fun h₃ h2₃ hs₃ => wpAny_pure (wpAny_pure (wpAny_pure ?_)))
  show wpAny _ _ (newTuple [x, y] >>= _) _ _ _
  refine wpAny_bind (wpAny_newTuple (wpAny_pure ⟨_, rfl, ?_⟩))
  have hsz : h₃.objs.size = s.heap.objs.size := by rw [hs₃.1, hs₂.1, hs₁.1]
  have hz₃ : IsZipH h₃ z TI TO T0 true := hs₃.extBut _ _ D.i2z.symm (hs₂.extBut _ _ D.i1z.symm hz₁)
  have up : ∀ c o, h₃.get? c = some o → (h₃.push { cls := .type "tuple", data := .seq #[x, y] }).get? c = some o := fun c o e => Heap.get?_push_of_some _ e
  show Q (.ref h₃.objs.size) _
  rw [hsz]
  refine hQ _ (up _ _ hz₃) ((h1₂.extBut hs₃.extBut D.i12).at fun o e => up _ o e) (h2₃.at fun o e => up _ o e) ?_ fun c o c1 c2 c3 e => up _ _ (hs₃.extBut _ _ c3 (hs₂.extBut _ _ c2 (hs₁.extBut _ _ c1 e)))
  rw [← hsz]
  exact Heap.get?_push_size _ rfl
theorem zipH_end {z TI TO i1 i2 l1 l2 T0 : Addr} {k1 : Nat} {xs : Array Value} {bb : Bool} {oT : Obj} {Q : Fin → Shared → Prop} (hh : A.handled = none) (D : ZipApart z TI TO i1 i2 l1 l2)
    (hz : IsZipH s.heap z TI TO T0 bb) (hT0 : s.heap.get? T0 = some oT) (hTI : IsPair s.heap TI (.ref i1) (.ref i2))
    (h1 : s.heap.IsTupleIter i1 l1 k1) (hl1 : s.heap.IsTuple l1 xs) (hend : xs[k1]? = none)
    (hE : ∀ h' e, (∀ c o, c ≠ z → c ≠ i1 → s.heap.get? c = some o → h'.get? c = some o) → (∃ o, h'.get? e = some o ∧ o.cls = .type "StopIteration") → E (.ref e) { s with heap := h' }) :
    wpAny (model prog w) A (Builtin.«zip.__next__» ⟨[.ref z], []⟩) Q E s := by
  show wpAny _ _ (field (.ref z) 2 >>= _) _ _ _
  refine wpAny_bind (wpAny_field hz rfl (x := .bool false) rfl ?_)
  show wpAny _ _ (field (.ref z) 3 >>= _) _ _ _
  refine wpAny_bind (wpAny_field hz rfl (x := .ref TI) rfl ?_)
  refine wpAny_bind (wpAny_seqItems hTI rfl ?_)
  show wpAny _ _ (Builtin.SmallTypes.ownedTupleIsFree (.ref z) >>= _) _ _ _
  refine wpAny_bind (owned_held hz hT0 fun h₁ hz₁ hs₁ => ?_)
  simp only [Bool.false_eq_true, if_false]
  refine wpAny_bind ?_
  rw [show (#[Value.ref i1, Value.ref i2] : Array Value) = [Value.ref i1, Value.ref i2].toArray from rfl, List.forIn_toArray]
  simp only [List.forIn_cons, List.forIn_nil]
  refine wpAny_bind (wpAny_bind (wpAny_holding ?_))
  show wpAny _ _ (Builtin.SmallTypes.nextOf (.ref i1) >>= _) _ _ _
  refine wpAny_bind (RZ.nextOf_tuple_end hh (h1.extBut hs₁.extBut D.i1z) (hl1.extBut hs₁.extBut D.l1z) hend fun h₂ e hs₂ he => ?_)
  exact hE h₂ e (fun c o c1 c3 x => hs₂ _ _ c3 (hs₁.extBut _ _ c1 x)) he
theorem next_zipH_item {z TI TO i1 i2 l1 l2 T0 : Addr} {k1 k2 : Nat} {xs ys : Array Value} {x y : Value} {bb : Bool} {oT : Obj} {Q : Option Value → Shared → Prop} (D : ZipApart z TI TO i1 i2 l1 l2)
    (hz : IsZipH s.heap z TI TO T0 bb) (hT0 : s.heap.get? T0 = some oT) (hTI : IsPair s.heap TI (.ref i1) (.ref i2))
    (h1 : s.heap.IsTupleIter i1 l1 k1) (h2 : s.heap.IsTupleIter i2 l2 k2) (hl1 : s.heap.IsTuple l1 xs) (hl2 : s.heap.IsTuple l2 ys) (hx : xs[k1]? = some x) (hy : ys[k2]? = some y)
    (hQ : ∀ h', IsZipH h' z TI TO T0 true → h'.IsTupleIter i1 l1 (k1 + 1) → h'.IsTupleIter i2 l2 (k2 + 1) → IsPair h' s.heap.objs.size x y →
      (∀ c o, c ≠ z → c ≠ i1 → c ≠ i2 → s.heap.get? c = some o → h'.get? c = some o) → Q (some (.ref s.heap.objs.size)) { s with heap := h' }) :
    wpAny (model prog w) A (pyNext (.ref z)) Q E s := by
  have hT : s.TypeIs (.ref z) "zip" := ⟨_, hz, rfl⟩
  unfold pyNext
  exact wpAny_bind (wpAny_attempt (wpAny_callSpecial?_slot (name := Str.ofString "__next__") hT F.slot_zip_next
    (wpAny_call_entry F.slot_zip_next hT F.entry_zip_next
      (zipH_item D hz hT0 hTI h1 h2 hl1 hl2 hx hy fun h' a1 a2 a3 a4 a5 => wpAny_pure (hQ h' a1 a2 a3 a4 a5)) (F.args_zip_next_1 _))))
theorem next_zipH_end {z TI TO i1 i2 l1 l2 T0 : Addr} {k1 : Nat} {xs : Array Value} {bb : Bool} {oT : Obj} {Q : Option Value → Shared → Prop} (hh : A.handled = none) (D : ZipApart z TI TO i1 i2 l1 l2)
    (hz : IsZipH s.heap z TI TO T0 bb) (hT0 : s.heap.get? T0 = some oT) (hTI : IsPair s.heap TI (.ref i1) (.ref i2))
    (h1 : s.heap.IsTupleIter i1 l1 k1) (hl1 : s.heap.IsTuple l1 xs) (hend : xs[k1]? = none)
    (hQ : ∀ h', (∀ c o, c ≠ z → c ≠ i1 → s.heap.get? c = some o → h'.get? c = some o) → Q none { s with heap := h' }) : wpAny (model prog w) A (pyNext (.ref z)) Q E s := by
  have hT : s.TypeIs (.ref z) "zip" := ⟨_, hz, rfl⟩
  unfold pyNext
  refine wpAny_bind (wpAny_attempt (wpAny_callSpecial?_slot (name := Str.ofString "__next__") hT F.slot_zip_next
    (wpAny_call_entry F.slot_zip_next hT F.entry_zip_next (zipH_end hh D hz hT0 hTI h1 hl1 hend fun h' e hk he => ?_) (F.args_zip_next_1 _))))
  obtain ⟨o, ho, hc⟩ := he
  refine wpAny_bind (wpAny_isInstance (T := "StopIteration") (b := true) ⟨o, ho, hc⟩ isSubtype_stop ?_)
  exact wpAny_pure (hQ _ hk)
theorem zip_no_len : typeLookup (.type "zip") "__len__" = pure none := by rw [typeLookup_type, builtinLookup_eq_fast]; kernel_rfl
theorem zip_no_hint : typeLookup (.type "zip") "__length_hint__" = pure none := by rw [typeLookup_type, builtinLookup_eq_fast]; kernel_rfl
end
/-- pairs, laid -/
noncomputable def PairsAt (H : Hp) (xs ys : List V) (ts : List Addr) : Prop := ∀ (i : Nat) (t : Addr), ts[i]? = some t → ∃ x y, xs[i]? = some x ∧ ys[i]? = some y ∧ H t = some (.tup [x, y])
section
open PySem
variable {X : Cx} {pins : List (Addr × Obj)} {σ : L2.St}
noncomputable def ZSt (h : Heap) (z TI TO : Addr) (ts : List Addr) : Prop := (ts = [] ∧ IsZip h z TI TO .none ∧ ∃ x y, IsPair h TO x y) ∨ ∃ T0 r b, ts = T0 :: r ∧ IsZipH h z TI TO T0 b
theorem zip_loop {A : Around} {a b z TI TO i1 i2 S : Addr} {xs ys : List V} {res : Value} {Rr : Result → Shared → Prop} {H0 : Hp} (hh : A.handled = none) (D : ZipApart z TI TO i1 i2 a b) (hS0 : H0 S = none)
    (hlen : xs.length = ys.length) (hsz : xs.length ≤ 1000000) :
    ∀ (k : Nat) (s : Shared) (H : Hp) (ts : List Addr), xs.length - ts.length = k → ts.length ≤ xs.length → Inv X pins σ H s → ZSt s.heap z TI TO ts → IsPair s.heap TI (.ref i1) (.ref i2) →
      s.heap.IsTupleIter i1 a ts.length → s.heap.IsTupleIter i2 b ts.length → SqT X.K H a xs → SqT X.K H b ys → H S = some (.lst (ts.map V.ref)) → PairsAt H xs ys ts → (∀ c o, H0 c = some o → H c = some o) →
      (∀ c ∈ [z, TI, TO, i1, i2], FpOk X pins H c) → (∀ c ∈ [z, TI, TO, i1, i2], c < s.heap.objs.size) →
      (∀ s' H' ts', Inv X pins σ H' s' → (∀ c o, H0 c = some o → H' c = some o) → H' S = some (.lst (ts'.map V.ref)) → ts'.length = xs.length → PairsAt H' xs ys ts' → Rr (.ok (.ret res)) s') →
      codeAny (model X.prog X.w) A (.builtin "list.extend.loop" ⟨[.ref S, .ref z, res], []⟩) Rr s := by
  intro k
  induction k with
  | zero =>
    intro s H ts hk hi I hz hTI h1 h2 qa qb hS hP hold hf hbd hR
    have hin : ts.length = xs.length := by omega
    obtain ⟨its, rv, p, _⟩ := I.tuple qa
    obtain ⟨its2, rv2, p2, _⟩ := I.tuple qb
    have hend : its.toArray[ts.length]? = none := by
      have := rv.length
      simp
      omega
    refine codeAny_builtin F.entry_extend_loop ?_
    rw [Around.under_plainId F.plain_extend_loop _]
    show wpAny _ A.in1 (pyNext (.ref z) >>= _) _ _ s
    refine wpAny_bind ?_
    have fin : ∀ h' : Heap, (∀ c o, c ≠ z → c ≠ TO → c ≠ i1 → c ≠ i2 → s.heap.get? c = some o → h'.get? c = some o) → Rr (.ok (.ret res)) { s with heap := h' } := fun h' hk' =>
      hR _ H ts (I.turnedL (t' := s.toks) (ch := [z, TI, TO, i1, i2]) (fun c o hb q => hk' c o (fun e => hb (by simp [e])) (fun e => hb (by simp [e])) (fun e => hb (by simp [e])) (fun e => hb (by simp [e])) q) hf) hold hS hin hP
    rcases hz with ⟨_, hz, x0, y0, hTO⟩ | ⟨T0, r, bb, rfl, hz⟩
    · exact RZ.pyNext_zipT_end (show A.in1.handled = none from hh) D hz hTI hTO h1 h2 p p2 (.inl hend) fun h' hk' => wpAny_pure (fin h' hk')
    · obtain ⟨x, y, _, _, hT0⟩ := hP 0 T0 rfl
      obtain ⟨_, its0, _, ⟨oT, hoT, _⟩⟩ : ObjOk X.prog X.w H s.heap T0 (.tup [x, y]) := I.hok T0 _ hT0
      exact next_zipH_end (show A.in1.handled = none from hh) D hz hoT hTI h1 p hend fun h' hk' => wpAny_pure (fin h' fun c o c1 _ c3 _ e => hk' c o c1 c3 e)
  | succ k ih =>
    intro s H ts hk hi I hz hTI h1 h2 qa qb hS hP hold hf hbd hR
    have hlt : ts.length < xs.length := by omega
    obtain ⟨its, rv, p, _⟩ := I.tuple qa
    obtain ⟨its2, rv2, p2, _⟩ := I.tuple qb
    have hx : xs[ts.length]? = some xs[ts.length] := List.getElem?_eq_getElem hlt
    have hlt2 : ts.length < ys.length := by omega
    have hy : ys[ts.length]? = some ys[ts.length] := List.getElem?_eq_getElem hlt2
    generalize xs[ts.length] = x at hx
    generalize ys[ts.length] = y at hy
    obtain ⟨u, hu, ru⟩ := rv.get hx
    obtain ⟨u2, hu2, ru2⟩ := rv2.get hy
    refine codeAny_builtin F.entry_extend_loop ?_
    rw [Around.under_plainId F.plain_extend_loop _]
    show wpAny _ A.in1 (pyNext (.ref z) >>= _) _ _ s
    refine wpAny_bind ?_
    have fin : ∀ h' : Heap, ZSt h' z TI TO (ts ++ [s.heap.objs.size]) → h'.IsTupleIter i1 a (ts.length + 1) → h'.IsTupleIter i2 b (ts.length + 1) → IsPair h' s.heap.objs.size u u2 →
        (∀ c o, c ≠ z → c ≠ TO → c ≠ i1 → c ≠ i2 → s.heap.get? c = some o → h'.get? c = some o) →
        wpAny (model X.prog X.w) A.in1 (updateSeq S (·.push (.ref s.heap.objs.size)) >>= fun _ => again (.builtin "list.extend.loop" ⟨[.ref S, .ref z, res], []⟩))
          (fun fin s' => match fin with | .done f => Rr (.ok f) s' | .again c' => c'.quiet = true ∧ codeAny (model X.prog X.w) A c' Rr s') (fun e s' => Rr (.error e) s') { s with heap := h' } := fun h' hz' h1' h2' hT hk' => by
      have hTI' : IsPair h' TI (.ref i1) (.ref i2) := hk' TI _ D.TIz D.TITO D.TIi1 D.TIi2 hTI
      have new : ObjOk X.prog X.w (upd H s.heap.objs.size (.tup [x, y])) h' s.heap.objs.size (.tup [x, y]) :=
        ⟨by show 2 ≤ sizeLine; decide, [u, u2], .cons ru (.cons ru2 .nil), ⟨_, hT, rfl, _, rfl⟩⟩
      have I1 : Inv X pins σ (upd H s.heap.objs.size (.tup [x, y])) { s with heap := h' } :=
        I.turnedNew (t' := s.toks) (ch := [z, TI, TO, i1, i2]) (fun c o hb q => hk' c o (fun e => hb (by simp [e])) (fun e => hb (by simp [e])) (fun e => hb (by simp [e])) (fun e => hb (by simp [e])) q) hf (Nat.le_refl _) new
      have fr : H s.heap.objs.size = none := I.hok.fresh (Nat.le_refl _)
      have sm : ∀ c o, H c = some o → upd H s.heap.objs.size (.tup [x, y]) c = some o := fun c o e => by
        rw [upd_ne (ne_of_none e fr)]
        exact e
      have hS1 := sm S _ hS
      obtain ⟨hz1, itsS, nS, rvS, eS⟩ : ObjOk X.prog X.w _ h' S (.lst (ts.map V.ref)) := I1.hok S _ hS1
      have lS : itsS.length = ts.length := by
        have := rvS.length
        simp at this
        omega
      have line := sizeLine_eq
      refine wpAny_bind (wpAny_updateSeq (s := { s with heap := h' }) eS rfl (wpAny_pure ⟨plainId_quiet F.plain_extend_loop _, ?_⟩) (by simp; omega) (by simp; omega))
      have eS2 := Heap.get?_update_self (Obj.mapSeq (·.push (Value.ref s.heap.objs.size))) eS rfl
      have I2 : Inv X pins σ (upd (upd H s.heap.objs.size (.tup [x, y])) S (.lst ((ts ++ [s.heap.objs.size]).map V.ref))) { s with heap := h'.update S (Obj.mapSeq (·.push (Value.ref s.heap.objs.size))) } :=
        I1.write (x := S) (e := S) (t' := s.toks) (by rw [hS1]; trivial) (.inl rfl) (fun c o hc e => (Heap.get?_update_other _ _ (Ne.symm hc)).trans e) ⟨_, eS2⟩ ⟨by rw [List.length_map, List.length_append]; simp; omega, itsS ++ [.ref s.heap.objs.size], _, by
            rw [List.map_append]
            exact rvS.append (.cons rfl .nil), by
            rw [eS2]
            simp [Obj.mapSeq]
            rfl⟩
      have nS' : ∀ c, H c = none → c ≠ S := fun c e e' => by
        rw [e', hS] at e
        cases e
      have oth : ∀ c o, c ≠ S → h'.get? c = some o → (h'.update S (Obj.mapSeq (·.push (Value.ref s.heap.objs.size)))).get? c = some o := fun c o hc e => (Heap.get?_update_other _ _ (Ne.symm hc)).trans e
      have up : ∀ c o, c ≠ S → H c = some o → upd (upd H s.heap.objs.size (.tup [x, y])) S (.lst ((ts ++ [s.heap.objs.size]).map V.ref)) c = some o := fun c o hc e => by
        rw [upd_ne hc]
        exact sm c o e
      have nz := fun c hc => nS' c (hf c hc).1
      have TS : s.heap.objs.size ≠ S := nS' _ fr
      refine ih _ _ (ts ++ [s.heap.objs.size]) (by rw [List.length_append]; simp; omega) (by rw [List.length_append]; simp; omega) I2 ?_ (oth _ _ (nz TI (by simp)) hTI') ?_ ?_ ?_ ?_ (by rw [upd_same]) ?_ ?_ ?_ ?_ hR
      · rcases hz' with ⟨e, _⟩ | ⟨T0, r, bb, e, hz'⟩
        · simp at e
        · exact .inr ⟨T0, r, bb, e, oth _ _ (nz z (by simp)) hz'⟩
      · rw [List.length_append]
        exact h1'.at fun o e => oth _ o (nz i1 (by simp)) e
      · rw [List.length_append]
        exact h2'.at fun o e => oth _ o (nz i2 (by simp)) e
      · rcases qa with (g | ⟨ob, g⟩) | g
        · exact .inl (.inl (up _ _ (fun e => by rw [e, hS] at g; cases g) g))
        · exact .inl (.inr ⟨ob, up _ _ (fun e => by rw [e, hS] at g; cases g) g⟩)
        · exact .inr g
      · rcases qb with (g | ⟨ob, g⟩) | g
        · exact .inl (.inl (up _ _ (fun e => by rw [e, hS] at g; cases g) g))
        · exact .inl (.inr ⟨ob, up _ _ (fun e => by rw [e, hS] at g; cases g) g⟩)
        · exact .inr g
      · intro i t e
        by_cases hi' : i < ts.length
        · rw [List.getElem?_append_left hi'] at e
          obtain ⟨x', y', e1, e2, e3⟩ := hP i t e
          exact ⟨x', y', e1, e2, up _ _ (fun e' => by rw [e', hS] at e3; cases e3) e3⟩
        · have hi2 : i = ts.length := by
            have := (List.getElem?_eq_some_iff.mp e).1
            simp at this
            omega
          subst hi2
          have : t = s.heap.objs.size := by
            rw [List.getElem?_append_right (Nat.le_refl _)] at e
            simpa using e.symm
          subst this
          exact ⟨x, y, hx, hy, by rw [upd_ne TS, upd_same]⟩
      · intro c o e
        refine up c o (fun e' => ?_) (hold c o e)
        rw [e', hS0] at e
        cases e
      · intro c hc
        obtain ⟨g1, g2⟩ := hf c hc
        refine ⟨?_, g2⟩
        rw [upd_ne (nz c hc), upd_ne (Nat.ne_of_lt (hbd c hc))]
        exact g1
      · intro c hc
        exact Nat.lt_trans (hbd c hc) (Heap.lt_size (oth _ _ TS hT))
    rcases hz with ⟨rfl, hz, x0, y0, hTO⟩ | ⟨T0, r, bb, rfl, hz⟩
    · exact RZ.pyNext_zipT_item D hz hTI hTO h1 h2 p p2 (x := u) (y := u2) (by simpa using hu) (by simpa using hu2) fun h' z' TO' h1' h2' hT hsz' hk' => fin h' (.inr ⟨_, [], false, rfl, z'⟩) h1' h2' hT hk'
    · obtain ⟨x', y', _, _, hT0⟩ := hP 0 T0 rfl
      obtain ⟨_, its0, _, ⟨oT, hoT, _⟩⟩ : ObjOk X.prog X.w H s.heap T0 (.tup [x', y']) := I.hok T0 _ hT0
      exact next_zipH_item D hz hoT hTI h1 h2 p p2 (x := u) (y := u2) (by simpa using hu) (by simpa using hu2) fun h' z' h1' h2' hT hk' => fin h' (.inr ⟨T0, r ++ [s.heap.objs.size], true, rfl, z'⟩) h1' h2' hT fun c o c1 _ c3 c4 e => hk' c o c1 c3 c4 e
/-- the call list(z) of a zip at its start -/
theorem call_list_zip {A : Around} {a b z TI TO i1 i2 : Addr} {xs ys : List V} {Q : Value → Shared → Prop} {E : Value → Shared → Prop} {s : Shared} {H : Hp} (hh : A.handled = none) (D : ZipApart z TI TO i1 i2 a b)
    (hlen : xs.length = ys.length) (hsz : xs.length ≤ 1000000) (I : Inv X pins σ H s) (hz : IsZip s.heap z TI TO .none) (hTI : IsPair s.heap TI (.ref i1) (.ref i2)) (hTO : ∃ x y, IsPair s.heap TO x y)
    (h1 : s.heap.IsTupleIter i1 a 0) (h2 : s.heap.IsTupleIter i2 b 0) (qa : SqT X.K H a xs) (qb : SqT X.K H b ys) (hf : ∀ c ∈ [z, TI, TO, i1, i2], FpOk X pins H c) (hbd : ∀ c ∈ [z, TI, TO, i1, i2], c < s.heap.objs.size)
    (hQ : ∀ s' H' ts S, Inv X pins σ H' s' → H S = none → (∀ c o, H c = some o → H' c = some o) → H' S = some (.lst (ts.map V.ref)) → ts.length = xs.length → PairsAt H' xs ys ts → Q (.ref S) s') :
    wpAny (model X.prog X.w) A (call (.type "list") [.ref z]) Q E s := by
  refine callType_codes (Q₁ := fun obj s₁ => obj = .ref s.heap.objs.size ∧ s₁ = { s with heap := s.heap.push { cls := .type "list", data := .seq #[] } }) F.called_list (F.typeCall_list_1 _) F.entry_list_init
    (code_list_new _ ⟨rfl, rfl⟩) fun obj s₁ h₁ => ?_
  obtain ⟨rfl, rfl⟩ := h₁
  have hS : (s.heap.push { cls := .type "list", data := .seq #[] }).get? s.heap.objs.size = some { cls := .type "list", data := .seq #[] } := Heap.get?_push_size _ rfl
  refine ⟨⟨_, hS, rfl⟩, F.args_list_init_2 _ _, ?_⟩
  obtain ⟨S, hSd⟩ : ∃ S, S = s.heap.objs.size := ⟨_, rfl⟩
  rw [← hSd] at hS ⊢
  have fr : H S = none := I.hok.fresh (Nat.le_of_eq hSd.symm)
  have k0 : ∀ c o, s.heap.get? c = some o → (s.heap.push { cls := .type "list", data := .seq #[] }).get? c = some o := fun c o e => Heap.get?_push_of_some _ e
  have nS : ∀ c o, s.heap.get? c = some o → c ≠ S := fun c o e => Nat.ne_of_lt (Nat.lt_of_lt_of_eq (Heap.lt_size e) hSd.symm)
  have hSz : S ≠ z := Nat.ne_of_gt (Nat.lt_of_lt_of_eq (hbd z (by simp)) hSd.symm)
  generalize s.heap.push { cls := .type "list", data := .seq #[] } = g0 at hS k0 ⊢
  show wpAny _ A.in1.in1 (do let old ← Builtin.List.listItems (.ref S); Builtin.List.listUpdate (.ref S) (fun _ => #[]); letGo old.toList.reverse; Builtin.List.listExtendWith (.ref S) (.ref z) .none) _ _ _
  refine wpAny_bind ?_
  unfold Builtin.List.listItems
  refine wpAny_bind (wpAny_seqItems (s := { s with heap := g0 }) hS rfl (wpAny_pure ?_))
  show wpAny _ A.in1.in1 (updateSeq S (fun _ => #[]) >>= fun _ => letGo (#[] : Array Value).toList.reverse >>= fun _ => Builtin.List.listExtendWith (.ref S) (.ref z) .none) _ _ _
  refine wpAny_bind (wpAny_updateSeq (s := { s with heap := g0 }) hS rfl ?_)
  have hS₂ := Heap.get?_update_self (Obj.mapSeq (fun _ => (#[] : Array Value))) hS rfl
  have oth : ∀ c o, s.heap.get? c = some o → (g0.update S (Obj.mapSeq (fun _ => (#[] : Array Value)))).get? c = some o := fun c o e => (Heap.get?_update_other _ _ (Ne.symm (nS c o e))).trans (k0 c o e)
  generalize g0.update S (Obj.mapSeq (fun _ => (#[] : Array Value))) = g1 at hS₂ oth ⊢
  refine wpAny_bind (wpAny_letGo ?_)
  have hT : ({ s with heap := g1 } : Shared).TypeIs (.ref z) "zip" := ⟨_, oth _ _ hz, rfl⟩
  unfold Builtin.List.listExtendWith
  refine wpAny_bind (wpAny_typeOf hT ?_)
  have e1 : Builtin.List.listSameRef (.ref S) (.ref z) = false := by simp [Builtin.List.listSameRef, hSz]
  have e2 : (Value.type "zip" == Value.type "list") = false := by decide
  have e3 : (Value.type "zip" == Value.type "tuple") = false := by decide
  simp only [e1, e2, e3, Bool.or_false, Bool.false_eq_true, if_false]
  refine wpAny_bind (wpAny_pyIter_zip (s := { s with heap := g1 }) (oth _ _ hz) ?_)
  refine wpAny_bind (wpAny_holding ?_)
  unfold Builtin.List.listLengthHint
  refine wpAny_bind (wpAny_specialOf hT zip_no_len ?_)
  show wpAny _ A.in1.in1 (specialOf (Value.ref z) (Str.ofString "__length_hint__") >>= _) _ _ _
  refine wpAny_bind (wpAny_specialOf hT zip_no_hint ?_)
  refine wpAny_pure ?_
  show wpAny _ A.in1.in1 (rule "list.extend.makes-room" >>= fun _ => Builtin.List.listTouch (.ref S) >>= fun _ =>
    again (.builtin "list.extend.loop" ⟨[.ref S, .ref z, .none], []⟩)) _ _ _
  refine wpAny_bind (wpAny_rule ?_)
  refine wpAny_bind ?_
  show wpAny _ A.in1.in1 (updateSeq S (·.push .none) >>= fun _ => updateSeq S (·.pop)) _ _ _
  refine wpAny_bind (wpAny_updateSeq (s := { s with heap := g1 }) hS₂ rfl ?_)
  have hS₃ := Heap.get?_update_self (Obj.mapSeq (·.push Value.none)) hS₂ rfl
  refine wpAny_updateSeq (hz := by seq_fits) (s := { s with heap := g1.update S (Obj.mapSeq (·.push Value.none)) }) hS₃ rfl ?_
  have hS₄ := Heap.get?_update_self (Obj.mapSeq (·.pop)) hS₃ rfl
  have oth2 : ∀ c o, s.heap.get? c = some o → ((g1.update S (Obj.mapSeq (·.push Value.none))).update S (Obj.mapSeq (·.pop))).get? c = some o :=
    fun c o e => (Heap.get?_update_other _ _ (Ne.symm (nS c o e))).trans ((Heap.get?_update_other _ _ (Ne.symm (nS c o e))).trans (oth c o e))
  generalize (g1.update S (Obj.mapSeq (·.push Value.none))).update S (Obj.mapSeq (·.pop)) = g2 at hS₄ oth2 ⊢
  have I2 : Inv X pins σ (upd H S (.lst [])) { s with heap := g2 } := I.laid (t' := s.toks) oth2 (Nat.le_of_eq hSd.symm) (show ObjOk X.prog X.w _ g2 _ (.lst []) from ⟨Nat.zero_le _, [], _, .nil, hS₄⟩)
  have sm : ∀ c o, H c = some o → upd H S (.lst []) c = some o := fun c o e => by
    rw [upd_ne (ne_of_none e fr)]
    exact e
  refine wpAny_pure ⟨plainId_quiet F.plain_extend_loop _, zip_loop (A := A.in1) (H0 := H) (X := X) (pins := pins) (σ := σ) hh D fr hlen hsz _ _ (upd H S (.lst [])) [] rfl (Nat.zero_le _) I2 (.inl ⟨rfl, oth2 _ _ hz, let ⟨x, y, e⟩ := hTO; ⟨x, y, oth2 _ _ e⟩⟩) (oth2 _ _ hTI) (h1.at fun o e => oth2 _ o e) (h2.at fun o e => oth2 _ o e) ?_ ?_ (by rw [upd_same]; rfl) (fun i t e => by cases e) sm ?_ ?_ fun s' H' ts' I' k' q' l' p' => ⟨rfl, hQ s' H' ts' S I' fr k' q' l' p'⟩⟩
  · rcases qa with (g | ⟨ob, g⟩) | g
    · exact .inl (.inl (sm _ _ g))
    · exact .inl (.inr ⟨ob, sm _ _ g⟩)
    · exact .inr g
  · rcases qb with (g | ⟨ob, g⟩) | g
    · exact .inl (.inl (sm _ _ g))
    · exact .inl (.inr ⟨ob, sm _ _ g⟩)
    · exact .inr g
  · intro c hc
    obtain ⟨q1, q2⟩ := hf c hc
    refine ⟨?_, q2⟩
    rw [upd_ne (Nat.ne_of_lt (Nat.lt_of_lt_of_eq (hbd c hc) hSd.symm))]
    exact q1
  · intro c hc
    exact Nat.lt_trans (Nat.lt_of_lt_of_eq (hbd c hc) hSd.symm) (Heap.lt_size hS₄)
/-- list(zip(a, b)) of two tuples of one length -/
noncomputable def tLZip (K : PySem.W.Frag) (ta : TA) : TE := fun σ H Q => ta σ H fun vs H1 => ∃ a b xs ys, vs = [.ref a, .ref b] ∧ SqT K H1 a xs ∧ SqT K H1 b ys ∧ xs.length = ys.length ∧ xs.length ≤ 1000000 ∧
  ∀ H' ts S, H1 S = none → (∀ c o, H1 c = some o → H' c = some o) → H' S = some (.lst (ts.map V.ref)) → ts.length = xs.length → PairsAt H' xs ys ts → Q (.ref S) H'
theorem k_lzip {K : PySem.W.Frag} {e e2 : Expr} {ta : TA} {p p0 pos pos0 : Pos} (hK : X.K = K) (hc : X.calm = true) (hg0 : Gl X "list") (hm0 : X.mg "list" = none) (hg : Gl X "zip") (hm : X.mg "zip" = none) (ha : PA X [e, e2] ta)
    (hs : starEach [e, e2] X.env = (false, eval e X.env) :: starEach [e2] X.env := by rfl) (hpl : (backTo pos (starEach [e2] X.env)).any (·.1) = false := by rfl)
    (hs0 : starEach [Expr.Call (.Name "zip" p) [e, e2] [] pos] X.env = (false, eval (Expr.Call (.Name "zip" p) [e, e2] [] pos) X.env) :: starEach [] X.env := by rfl) :
    PE X (.Call (.Name "list" p0) [.Call (.Name "zip" p) [e, e2] [] pos] [] pos0) (tLZip K ta) := by
  subst hK
  refine ⟨fun pins s σ H Q I h => ?_⟩
  refine Call_ (ld_blt I hg0 hm0 PyProof.Rows.boot_list (PyProof.Rows.callWith_type1 ?_ hs0 rfl))
  rw [hs0]
  show wpAny _ _ (spliced ((false, _) :: backTo pos0 (starEach [] X.env))) _ _ s
  refine Calls.spliced_cons ?_
  refine Call_ (ld_blt I hg hm PyProof.Rows.boot_zip (PyProof.Rows.callWith_type1 (thn (ha.run pos pins s σ H _ I h) fun us s1 ⟨vs, H1, I1, r1, q1⟩ => ?_) hs hpl))
  obtain ⟨a, b, xs, ys, ex, qa, qb, hlen, hsz, q⟩ := q1
  subst ex
  cases r1 with
  | cons r rr =>
    cases rr with
    | cons r' rr =>
      cases rr
      cases r
      cases r'
      obtain ⟨its, rv, p1, _⟩ := I1.tuple qa
      obtain ⟨its2, rv2, p2, _⟩ := I1.tuple qb
      obtain ⟨o1, ho1, _⟩ := id p1
      obtain ⟨o2, ho2, _⟩ := id p2
      refine RZ.call_zipT (show s1.heap.IsTuple a its.toArray from p1) (show s1.heap.IsTuple b its2.toArray from p2) fun h' hz hTI hTO h1 h2 hsz' hk => ?_
      have I2 : Inv X pins σ H1 { s1 with heap := h' } := I1.kept (t' := s1.toks) hk
      have five : ∀ c, c ∈ [s1.heap.objs.size + 4, s1.heap.objs.size + 2, s1.heap.objs.size + 3, s1.heap.objs.size, s1.heap.objs.size + 1] → s1.heap.objs.size ≤ c ∧ c < s1.heap.objs.size + 5 := fun c hcm => by
        have e' : c = s1.heap.objs.size + 4 ∨ c = s1.heap.objs.size + 2 ∨ c = s1.heap.objs.size + 3 ∨ c = s1.heap.objs.size ∨ c = s1.heap.objs.size + 1 := by simpa using hcm
        omega
      refine Calls.spliced_nil ?_
      refine call_list_zip (X := X) (pins := pins) (σ := σ) (I2.ok.hd hc) (PySem.W.ktu_apart s1.heap.objs.size a b (Heap.lt_size ho1) (Heap.lt_size ho2)) hlen hsz I2 hz hTI ⟨_, _, hTO⟩ h1 h2 qa qb (fun c hcm => I1.fpOk (five c hcm).1 (I1.hok.fresh (five c hcm).1)) (fun c hcm => by
        show c < h'.objs.size
        rw [hsz']
        exact (five c hcm).2) fun s' H' ts S I' hS k' q' l' p' => ⟨.ref S, H', I', rfl, q H' ts S hS k' q' l' p'⟩
end
section
variable {K : PySem.W.Frag}
theorem pairs_at {W : Wd} {H : Hp} : ∀ (ts : List Addr) (xs ys : List V) (as bs : List D), AtAll K W H xs as → AtAll K W H ys bs → xs.length = ys.length → ts.length = xs.length → PairsAt H xs ys ts → AtAll K W H (ts.map V.ref) (zipD as bs)
  | [], xs, ys, as, bs, ha, hb, hl, ht, hp => by
    cases xs with
    | nil =>
      cases ha
      exact .nil
    | cons x xs => cases ht
  | t :: ts, xs, ys, as, bs, ha, hb, hl, ht, hp => by
    cases xs with
    | nil => cases ht
    | cons x xs =>
      cases ys with
      | nil => cases hl
      | cons y ys =>
        cases ha with
        | cons a1 a2 =>
          cases hb with
          | cons b1 b2 =>
            obtain ⟨x', y', e1, e2, e3⟩ := hp 0 t rfl
            cases e1
            cases e2
            exact .cons (.tup (SqT.of e3) (.cons a1 (.cons b1 .nil))) (pairs_at ts xs ys _ _ a2 b2 (Nat.succ.inj hl) (Nat.succ.inj ht) fun i t' e => hp (i + 1) t' e)
noncomputable def aLZip (g : AA) : AE := fun ρ n Q => g ρ n fun ds n1 => match ds with
  | [.tup as, .tup bs] => as.length = bs.length ∧ as.length ≤ 1000000 ∧ Q (.lst (zipD as bs)) n1
  | _ => False
instance {ta : TA} {g : AA} [DA K ta g] : DE K (tLZip K ta) (aLZip g) := ⟨fun W σ ρ n H Q Qa hQ hE o h =>
  DA.run (te := ta) (f := g) W σ ρ n H _ _ (fun ds n1 h1 H1 vs l1 o1 ax => by
    split at h1
    · obtain ⟨e1, e2, h1⟩ := h1
      cases ax with
      | cons a r =>
        cases r with
        | cons b r =>
          cases r
          cases a with
          | tup sa aa =>
            cases b with
            | tup sb ab =>
              have la := aa.length
              have lb := ab.length
              refine ⟨_, _, _, _, rfl, sa, sb, by omega, by omega, fun H' ts S hS k' q' l' p' => ?_⟩
              have sm : Same H1 H' := k'
              exact hQ _ _ h1 H' _ (l1.trans (Wd.le_same sm)) (o1.same sm) (.lst (o1.fresh hS) q' (pairs_at ts _ _ _ _ (AtAll.le o1 (Wd.le_same sm) _ aa) (AtAll.le o1 (Wd.le_same sm) _ ab) (by omega) l' p'))
    · exact h1.elim) hE o h⟩
end
/-! ### own errors whose __init__ says super().__init__(..) and stores fields -/
section
open NdefX PySem.W
/-- what the text says of C's own __init__, at f -/
structure SupI (P : Program) (K : PySem.W.Frag) (qual : Str) (pa : Arguments) (body : List Stmt) (sc : Scope) (C f : Addr) (fd : FuncData) : Prop where
  fn : ∃ (oc : Value) (od : Option Addr) (kV doc pm ct : Value) (an : Option Addr) (cda cc : Addr) (osl : Array (Option Value)) (ccl : Value) (cdd : Option Addr) (vs : Array Value) (ccs : Array (Option Value)) (file : Str) (tf : Tok) (cl : Value) (cld : Option Addr) (csl : Array (Option Value)),
    fd = ksFn "__init__" qual pa body sc .none kV doc pm an (.ref cda) ct cc ∧ K.lookup f = some ⟨oc, od, .func fd, osl⟩ ∧ codeIn K (.ref cda) qual = true ∧ K.lookup cda = some ⟨ccl, cdd, .fields vs, ccs⟩ ∧ vs[2]? = some (.str file tf) ∧ ((P.main.file : Str) == file) = true ∧ K.lookup cc = some ⟨cl, cld, .cell (some (.ref C)), csl⟩
  top : (P.main.scope.names.lookup ("super" : Str)).isSome = false
  sup : ks_superIn K C C "__init__" = some (some (.builtin "ValueError.__init__"))
  ve : subIn K (.ref C) (.type "ValueError") = some true
  op : nsIn K cStatics "thirdparty.any" = some none
  gl : nsIn K mainGlobals "super" = some none
  mro : mroIn K C (.ref C) = some true
theorem mw_call {prog : Program} {w : World} {A : Around} {E : Value → Shared → Prop} {h : Heap} {g : Array GenState} {d : Drawn} {t : Nat} {os : OsState}
    {nm q : Str} {C N : Addr} {bs bm : List Value} {hdct : Bool} {sn : List Str} {sub : List Value} {ab : Bool} {col : Option Bool} {dd : Option Addr} {k0 k1 k2 k3 k5 : Option Value} {u e t0 : Addr} {rest : List Value} {Q : Value → Shared → Prop}
    (hC : h.get? C = some (excClassObj nm q C N bs bm hdct sn sub ab col dd k0 k1 k2 k3 k5 "ValueError.__new__")) (he : h.get? e = some ({ cls := .ref C, dict := none, data := .fields #[.ref t0, .none, .none, .none, .bool false, .none] } : Obj)) (hu : h.get? u = some (kxs_mw "ValueError.__init__" e)) (hrest : rest.length ≤ sizeLine)
    (hq : ∀ h' t1, (∀ b o, b ≠ e → h.get? b = some o → h'.get? b = some o) → h'.get? e = some ({ cls := .ref C, dict := none, data := .fields #[.ref t1, .none, .none, .none, .bool false, .none] } : Obj) → Q .none ⟨h', g, d, t, os⟩) :
    wpAny (model prog w) A (call (.ref u) rest) Q E ⟨h, g, d, t, os⟩ := by
  refine wpAny_call (codeAny_of_tree ?_)
  show wpAny _ A.in1 (callAny (.ref u) ⟨rest, []⟩) _ _ _
  simp only [callAny]
  refine wpAny_bind (wpAny_load hu ?_)
  simp only [kxs_mw, show (Value.type "method-wrapper" == Value.type "method" || Value.type "method-wrapper" == Value.type "builtin_function_or_method" || Value.type "method-wrapper" == Value.type "method-wrapper") = true by decide, if_true]
  refine KFB.if_so (by decide) ?_
  refine wpAny_bind (check_bound_init F.excBase_ValueError.toExcCallFacts hC he rfl ?_)
  refine wpAny_bind (wpAny_pure (wpAny_pure ?_))
  refine ⟨plainId_quiet F.excBase_ValueError.init.plain _, codeAny_builtin F.excBase_ValueError.initEntry ?_⟩
  rw [Around.under_plainId F.excBase_ValueError.init.plain _]
  wp_walk
  refine hq _ h.objs.size (fun b o hb ho => ?_) ?_
  · rw [Heap.get?_update_other _ _ (Ne.symm hb)]
    exact Heap.get?_push_of_some _ ho
  · rw [Heap.get?_update_self _ (Heap.get?_push_of_some _ he) rfl]
    rfl
theorem fn_super {CX : CXT} {P : Program} {w : World} {K : PySem.W.Frag} {mg : Str → Option Value} {base : Heap} {k : Nat} {qual : Str} {pa : Arguments} {sc : Scope} {C f : Addr} {fd : FuncData} {N ps : List Str} {sp : Sp} {e : Expr} {es : List Expr} {rest : List Stmt} {p0 p1 p2 p3 p4 : Pos} {ar : Arg} {body : List Stmt}
    (S : SupI P K qual pa body sc C f fd) (hbd : body = .Expr (.Call (.Attribute (.Call (.Name "super" p0) [] [] p1) "__init__" p2) (e :: es) [] p3) p4 :: rest) (O : OexC K C) (SC : NScope N (("self" : Str) :: ps) ["__class__"] sc) (hks : sc.names.lookup ("super" : Str) = some .globalImplicit)
    (hpa : (pa.posonlyargs ++ pa.args).head? = some ar) (har : ar.arg = "self") (len : ∀ vs H Q E, sp vs H Q E → vs.length = (("self" : Str) :: ps).length)
    (hev : ∀ env, ∃ pl : Sem Bool, eval (.Call (.Attribute (.Call (.Name "super" p0) [] [] p1) "__init__" p2) (e :: es) [] p3) env = (do
      let ov ← attributeBase (.Call (.Name "super" p0) [] [] p1) "__init__" env (eval (.Call (.Name "super" p0) [] [] p1) env)
      standAt p2.atName
      let (f, first) ← holding [ov] (getMethod ov "__init__" pl)
      callWith p3 f first (backTo p3 (starEach (e :: es) env)) []))
    (hi : ∀ L a cd cc, interactive (ksEnv qual sc L a cd cc) = false) (hsw : ∀ env, swapsWith (.Call (.Attribute (.Call (.Name "super" p0) [] [] p1) "__init__" p2) (e :: es) [] p3) none p4.line env = pure false)
    (he : ∀ env, starEach (e :: es) env = (false, eval e env) :: starEach es env) (hpl : ∀ env pos, (backTo pos (starEach es env)).any (·.1) = false)
    (hbody : ∀ (cda cc : Addr) (A : Around) (outer : List Env) (s : Shared) (H : Hp) (vs : List V) (Q : VK) (E : XK), Room k (A.deeper (ksEnv qual sc s.heap.objs.size f (.ref cda) cc)) → sp vs H Q E →
      ∃ (ta : TA) (t : TS) (a : Addr) (wr : List V), PA (ncx CX P w K mg base N ⟨"__init__", qual, pa, body, sc, [("__class__", cc)], cda⟩ f A outer s H E) (e :: es) ta ∧ PSs (ncx CX P w K mg base N ⟨"__init__", qual, pa, body, sc, [("__class__", cc)], cda⟩ f A outer s H E) rest t ∧ vs = .ref a :: wr ∧ H a = some (exo a C none) ∧
        ta (startF N vs [none]) H fun us H1 => us.length ≤ 1000 ∧ H1 a = some (exo a C none) ∧ t { nx := fun _ H' => Q .non H', rt := Q } (startF N vs [none]) H1) : FnOk P w K mg base CX (k + 1) f fd (("self" : Str) :: ps) sp := by
  refine ⟨len, fun A outer s H args us vs Q E hr e0 hb r hsp => ?_⟩
  obtain ⟨oc, od, kV, doc, pm, ct, an, cda, cc, osl, ccl, cdd, cvs, ccs, file, tf, cl, cld, csl, rfl, lk, hcd, hcode, hvs, hfile, hcell⟩ := S.fn
  obtain ⟨ta, t, a, wr, hPA, hPS, rfl, hHa, hrun⟩ := hbody cda cc A outer s H vs Q E (hr.deeper _) hsp
  have hl := len _ _ _ _ hsp
  have KX : K.In s.heap := e0.mod.kin.keeps fun b o e => (e0.bs b o e).1
  have lim : s.heap.NoLimit := e0.mod.nolimit.keeps fun b o e => (e0.bs b o e).1
  refine ks_codeAny_call_defAt (binds := (("self" : Str) :: ps).zip us) hr.depth (KX _ _ lk) rfl lim (codeRec_of KX hcd) rfl hb SC.nocell (fun x hx => SC.par x.1 (List.of_mem_zip hx).1) (fun h₁ hns kp => ?_) SC.co SC.gen SC.kind
  have CA : CellsAt [("__class__", cc)] ["__class__"] [none] s.heap H := by
    have hc := e0.bs cc _ (e0.mod.kin _ _ hcell)
    refine ⟨rfl, fun y c hy => ?_, fun x y c h1 h2 => ?_, fun i y hy => ?_⟩
    · have e1 : c = cc := by
        simp only [List.lookup] at hy
        split at hy <;> simp_all
      subst e1
      exact ⟨hc.2, _, _, hc.1, rfl⟩
    · simp only [List.lookup] at h1 h2
      split at h1 <;> split at h2 <;> simp_all
    · match i, hy with
      | 0, hy =>
        cases hy
        exact ⟨cc, by simp [List.lookup], fun v hv => by cases hv⟩
      | i + 1, hy => cases hy
  have I : Inv (ncx CX P w K mg base N ⟨"__init__", qual, pa, body, sc, [("__class__", cc)], cda⟩ f A outer s H E) [] (startF N (V.ref a :: wr) [none]) H { s with heap := h₁, toks := s.toks + ((("self" : Str) :: ps).zip us).length } := inv_startN SC hr.hd e0 hl r CA hns kp
  obtain ⟨nm, q, Nc, bs, bm, sn, sub, ab, col, dd, k0, k1, k2, k3, k5, hC, hbm⟩ := O.cls
  obtain ⟨cdD, hD⟩ : ∃ cdD, clsIn K C = some cdD := by
    unfold clsIn
    rw [hC]
    exact ⟨_, rfl⟩
  obtain ⟨oD, hD1, hD2⟩ : ∃ oD, h₁.get? C = some oD ∧ oD.data = .cls cdD := by
    unfold clsIn at hD
    split at hD
    · rename_i c d cd' sl ho
      cases hD
      exact ⟨_, I.kIn _ _ ho, rfl⟩
    · cases hD
  obtain ⟨mb, hmb1, hmb2⟩ := I.mod.blt
  obtain ⟨u0, ur, rfl⟩ : ∃ u0 ur, us = u0 :: ur := by
    cases r with
    | cons a b => exact ⟨_, _, rfl⟩
  have hu0 : u0 = Value.ref a := by
    cases r with
    | cons a b => exact a
  subst hu0
  obtain ⟨t0, hx⟩ := exo_at I.hok hHa
  have hkc : sc.names.lookup ("__class__" : Str) = some .free := SC.frk _ (by simp)
  have hka : sc.names.lookup ("self" : Str) = some .local := SC.par _ (by simp)
  have ndP : ((("self" : Str) :: ps)).Nodup := by
    have q := SC.nd.sublist (List.take_sublist ((("self" : Str) :: ps).length + (["__class__"] : List Str).length) N)
    rw [SC.pre] at q
    exact (List.nodup_append.mp q).1
  rw [show ∀ env, execs body env = execs (.Expr (.Call (.Attribute (.Call (.Name "super" p0) [] [] p1) "__init__" p2) (e :: es) [] p3) p4 :: rest) env from fun env => by rw [hbd]]
  obtain ⟨pl, hev⟩ := hev (ksEnv qual sc s.heap.objs.size f (.ref cda) cc)
  refine ks_wpAt_execs_cons (ks_wpAt_Expr_any (ks_wpAt_MethodCall (ks_wpAt_super_base hks hkc (by decide) rfl (I.kIn _ _ lk) rfl hpa rfl (I.kIn _ _ hcode) rfl hvs hfile S.top ?_) hev) (hi _ _ _ _) (hsw _))
  refine ks_loadName_global SC.kind hks (Calls.loadGlobal_builtin (I.mod.glob.keeps I.bk) (mg_none_of I.mod.kin I.mod.glob S.gl) (hmb1.keeps I.bk) ((hmb2 "super" (by decide)).trans (by decide +kernel : bootBuiltins "super" = some (.type "super"))) ⟨rfl, ?_⟩)
  refine wpAny_loadName_free SC.kind hkc (c := cc) rfl ⟨_, I.kIn _ _ hcell, rfl⟩ ?_
  rw [har]
  refine wpAny_loadName_local SC.kind hka hns (zip_look (i := 0) ndP rfl rfl) ?_
  refine ks_wpAny_isType_cls hD1 hD2 ⟨rfl, ?_⟩
  refine ks_wpAny_call_super hD1 hD2 hx rfl (fun c z => by cases z) (looks_mroIn I.kIn S.mro) (fun h2 e2 k2' => ?_)
  have I2 := I.kept (t' := s.toks + (((("self" : Str) :: ps)).zip (Value.ref a :: ur)).length) k2'
  obtain ⟨t2, hx2⟩ := exo_at I2.hok hHa
  have J2 : InstAt h2 a ({ cls := .ref C, dict := none, data := .fields #[.ref t2, .none, .none, .none, .bool false, .none] } : Obj) C none := ⟨hx2, rfl, rfl, trivial⟩
  have hf : alongIn K "__init__" ((cdD.mro.dropWhile (· != .ref C)).drop 1) = some (some (.builtin "ValueError.__init__")) := by
    have z := S.sup
    unfold ks_superIn at z
    rw [hD] at z
    exact z
  refine kxs_getMethod kxs_ValueError e2 (looks_opaque I2.kIn S.op) (l₀ := cdD.mro) (fun A Q E s k q => wpAny_bind ((looks_clsIn I2.kIn hD) A _ E s k (wpAny_pure q))) rfl I2.kIn hf (J2.type.andThen (looks_subIn I2.kIn S.ve)) (ks_ne I2.kIn J2 hD) (by decide) ?_
  have I3 := I2.kept (t' := s.toks + (((("self" : Str) :: ps)).zip (Value.ref a :: ur)).length + 1) (h' := h2.push (kxs_mw "ValueError.__init__" a)) fun b o z => Heap.get?_push_of_some _ z
  have I4 := I3.pins_of (pins' := [(h2.objs.size, kxs_mw "ValueError.__init__" a)]) fun p hp => by
    rw [List.mem_singleton.mp hp]
    exact ⟨Heap.get?_push_at rfl rfl, I2.hok.fresh (Nat.le_refl _), Nat.ne_of_gt I2.lt, I2.nofs (Nat.le_refl _), fun v z => by cases z⟩
  show wpAny _ _ (callWith p3 (.ref h2.objs.size) [] (backTo p3 (starEach (e :: es) _)) []) _ _ _
  rw [he]
  refine kxs_callWith (i := "ValueError.__init__") (x := a) (by show (false || (backTo p3 (starEach es _)).any (·.1)) = false; rw [hpl]; rfl) ?_
  have hsp := hPA.run p3 _ _ _ _ _ I4 hrun
  rw [he] at hsp
  refine Calls.evalArgs_plain (wpAny_mono hsp (fun vs4 s4 h4 => ?_) fun _ _ z => z)
  obtain ⟨wvs, H4, I5, r5, hlen, hH4, q4⟩ := h4
  obtain ⟨hu5, _⟩ := I5.pin (h2.objs.size, kxs_mw "ValueError.__init__" a) (List.mem_append_right _ List.mem_cons_self)
  refine ⟨hu5, ?_⟩
  obtain ⟨t5, hx5⟩ := exo_at I5.hok hH4
  have hC5 := I5.kIn _ _ hC
  obtain ⟨h5, g5, d5, tk5, os5⟩ := s4
  refine mw_call hC5 hx5 hu5 (by rw [List.nil_append, ← Paired.length r5, sizeLine_eq]; omega) fun h6 t6 k6 hx6 => ?_
  have J := I5.write (t' := tk5) (x := a) (e := a) (o := exo a C none) (by rw [hH4]; exact True.intro) (.inl rfl) k6 ⟨_, hx6⟩ (exo_ok hx6)
  have eu : upd H4 a (exo a C none) = H4 := by
    funext b
    by_cases hb : b = a
    · rw [hb, upd_same, hH4]
    · rw [upd_ne hb]
  rw [eu] at J
  have J' := J.pins_of (pins' := []) fun p hp => by cases hp
  refine wpAt_of_wpAny (wpAny_mono (hPS.run [] _ _ H4 _ J' q4) (fun fl s' hs => ?_) fun e s' hs => hs)
  have fin : ∀ {σ' : L2.St} {H' : Hp} {v : V} {u : Value}, Inv (ncx CX P w K mg base N ⟨"__init__", qual, pa, body, sc, [("__class__", cc)], cda⟩ f A outer s H E) [] σ' H' s' → L2.RelV v u → Q v H' → CE outer P w H s Q u s' :=
    fun {σ' H' v u} J rv q => ⟨v, H', J.os, J.bare, J.base, J.hok, rv, q⟩
  cases fl with
  | ret u =>
    obtain ⟨v, σ', H', J, rv, q⟩ := hs
    exact fin J rv q
  | next =>
    obtain ⟨σ', H', J, q⟩ := hs
    exact fin (v := V.non) (u := Value.none) J rfl q
  | brk =>
    obtain ⟨_, _, _, q⟩ := hs
    exact False.elim q
  | cont =>
    obtain ⟨_, _, _, q⟩ := hs
    exact False.elim q
end
section
open PySem.W
/-- C(e, ..), the context None (L2N) -/
theorem pmk_oexN {X : Cx} {CX : CXT} {x : Str} {e : Expr} {es : List Expr} {ta : TA} {p pos : Pos} {C fI : Addr} {k : Nat} {fd : FuncData} {ps : List Str} {sp : Sp} (T : OexC X.K C) (iC : PySem.W.findIn X.K (.ref C) "__init__" = some (some (.ref fI))) (tI : PySem.W.typeIn X.K (.ref fI) = some (.type "function"))
    (F1 : FnOk X.prog X.w X.K X.mg X.base CX k fI fd ps sp) (hr : Room (k + 1) X.A) (hb : Binds X.K fd ps []) (hx : Passes CX X (fun _ _ _ => False)) (hg : Gl X x) (hm : X.mg x = some (.ref C)) (ha : PA X (e :: es) ta)
    (hdb : (x == ("__debug__" : Str)) = false := by decide) (he : starEach (e :: es) X.env = (false, eval e X.env) :: starEach es X.env := by rfl) (hpl : (backTo pos (starEach es X.env)).any (·.1) = false := by rfl) :
    L2N.PMk X (.Call (.Name x p) (e :: es) [] pos) (tMkO C sp [] ta) := by
  intro pins s σ H Q I h
  obtain ⟨nm, q, N, bs, bm, sn, sub, ab, col, dd, k0, k1, k2, k3, k5, hC, hbm⟩ := T.cls
  refine wpAny_Call_Name_kw (ld_glob I hg hm ?_ hdb)
  refine PySem.W.callWith_K (h₀ := X.base) I.ok.mod.kin T.kC (thn (ha.run pos pins s σ H _ I h) fun us s1 ⟨vs, H1, I1, r1, hz, q1⟩ => ⟨I1.kIn, ?_⟩) he hpl
  show wpAny _ _ (call (.ref C) us) _ _ _
  obtain ⟨hp, g, dr, tk, os⟩ := s1
  have hsz : hp.objs.size ≤ hp.objs.size + 1 := Nat.le_succ _
  have hn : H1 (hp.objs.size + 1) = none := I1.hok.fresh hsz
  have hq := q1 (hp.objs.size + 1) hn
  have kk : ∀ b o, hp.get? b = some o → ((hp.push (PySem.W.kdv_tup us)).push (PySem.HandSPX.excO C hp.objs.size)).get? b = some o := fun b o e => Heap.get?_push_of_some _ (Heap.get?_push_of_some _ e)
  have hget : ((hp.push (PySem.W.kdv_tup us)).push (PySem.HandSPX.excO C hp.objs.size)).get? (hp.objs.size + 1) = some (PySem.HandSPX.excO C hp.objs.size) := by heap_get
  have I2 : Inv X pins σ (upd H1 (hp.objs.size + 1) (exo (hp.objs.size + 1) C none)) ⟨(hp.push (PySem.W.kdv_tup us)).push (PySem.HandSPX.excO C hp.objs.size), g, dr, tk, os⟩ :=
    I1.laid (t' := tk) (a := hp.objs.size + 1) (o := exo (hp.objs.size + 1) C none) (h' := (hp.push (PySem.W.kdv_tup us)).push (PySem.HandSPX.excO C hp.objs.size)) kk hsz (exo_ok hget)
  have r2 : Vals (V.ref (hp.objs.size + 1) :: (vs ++ [])) (Value.ref (hp.objs.size + 1) :: (us ++ [])) := .cons rfl (r1.append .nil)
  have hl : (Value.ref (hp.objs.size + 1) :: us ++ []).length = ps.length := by
    have e := r2.length
    rw [F1.len _ _ _ _ hq] at e
    exact e.symm
  have hus : us.length ≤ sizeLine := by
    rw [← Paired.length r1, sizeLine_eq]
    omega
  refine wpAny_call (PySem.HandSPX.call_own F.excBase_ValueError (fun Y => PySem.HandSPX.refsVE_contains Y bm hbm) (I1.kIn _ _ hC) (PySem.W.looks_findIn I1.kIn iC) (fun self => PySem.W.bind_fn I1.kIn self tI) hus
    (codeAny_mono (F1.run _ X.stack _ _ ⟨Value.ref (hp.objs.size + 1) :: us, []⟩ (Value.ref (hp.objs.size + 1) :: us ++ []) _ _ (fun _ _ _ => False) (hr.make C us []) (I2.env0.make C us []) (show BindsTo _ fd _ (ps.zip (Value.ref (hp.objs.size + 1) :: us ++ [])) from hb _ (Value.ref (hp.objs.size + 1) :: us) I2.kIn hl) (show Vals (V.ref (hp.objs.size + 1) :: (vs ++ [])) (Value.ref (hp.objs.size + 1) :: us ++ []) from r2) hq) fun r s' hq' => ?_))
  cases r with
  | error er => exact hx pins σ _ _ er s' I2 hq'
  | ok fl =>
    cases fl with
    | ret u =>
      obtain ⟨v, H2, os2, bare2, un2, hok2, rv, ev, d, fs, ea, ed, hd1, q2⟩ := hq'
      subst ev
      obtain ⟨h2, g2, d2, t2, os'⟩ := s'
      obtain ⟨t0, G, J, kG, ge, hoe, na⟩ := mk_end0 (d2 := d2) (t2 := t2) I1 hsz kk un2 hok2 os2 bare2 ea ed hd1
      exact ⟨rv, hp.objs.size + 1, _, _, ⟨G, g2, d2, t2, os'⟩, _, .ref C, some d, rfl, J, kG, ge, hoe, ⟨rfl, rfl, fun vs hv => by cases hv; rfl⟩, rfl, rfl, na, rfl, bare2, raises_own T.exC T.tyC, q2⟩
    | next => exact False.elim hq'
    | brk => exact False.elim hq'
    | cont => exact False.elim hq'
/-! isinstance of a caught error, with fields or without -/
theorem findObj_dataA {K : Frag} {od : Option Obj} {C : Addr} {name : Str} {a g : Value} (hc : (clsIn K C).isSome = true) (ha : findIn K (.ref C) name = some (some a)) (hg : specialIn K a "__get__" = some (some g)) (ht : takesIn K a = some true) : findObj K C od name = some (.bind g a) := by
  obtain ⟨cd, hc⟩ := Option.isSome_iff_exists.mp hc
  unfold findObj
  rw [hc, Option.bind_some, ha, Option.bind_some]
  simp [hg, ht]
theorem kin_classEA {prog : Program} {w : World} {A : Around} {E : Value → Shared → Prop} {s : Shared} {K : Frag} {x D : Addr} {ox : Obj} {od : Option Obj} {Q : Option Value → Shared → Prop} (C : ExcC K D)
    (X : K.In s.heap) (I : InstAt s.heap x ox D od) (h : Q (some (.ref D)) { s with toks := s.toks + 1 }) : wpAny (model prog w) A (getAttr? (.ref x) "__class__") Q E s := by
  have hf : findObj K D od "__class__" = some (.bind (.builtin "getset_descriptor.__get__") (.builtin "object.__class__")) := findObj_dataA (by obtain ⟨cd, hc, _⟩ := any_some C.hd; rw [hc]; rfl) C.ha C.hn C.ht
  obtain ⟨hp, g, d, t, os⟩ := s
  have L0 := I.type (M := model prog w)
  have L1 := looks_findIn (M := model prog w) X C.hg
  have L2 := looks_findIn (M := model prog w) X C.hk
  have L3 := looks_find (M := model prog w) X I hf
  have sub : Looks (model prog w) hp (isInstance (.ref x) (.type "BaseException")) true := L0.andThen (looks_subIn X C.hs)
  have hx0 : (false && onTheHeap (Value.builtin "BaseException.__getattribute__")) = false := rfl
  have hx2 : (Value.builtin "BaseException.__getattribute__" == Value.builtin "object.__getattribute__") = false := by decide +kernel
  have hx1 : (onTheHeap (Value.ref D) && Value.builtin "BaseException.__getattribute__" == Value.builtin "object.__getattribute__") = false := by rw [hx2]; rfl
  unfold getAttr? getAttrBy? getAttrBy
  refine wpAny_bind (wpAny_mkText (wpAny_bind (wpAny_attempt (wpAny_holding (wpAny_bind (L0.at (wpAny_bind (L1.at ?_))))))))
  show wpAny _ _ (if (onTheHeap (Value.ref D) && Value.builtin "BaseException.__getattribute__" == Value.builtin "object.__getattribute__") = true then _ else _) _ _ _
  rw [hx1, if_neg Bool.false_ne_true]
  unfold getAttrByItsOwn hookBefore
  refine wpAny_bind ?_
  rw [if_pos (show onTheHeap (Value.ref D) = true from rfl)]
  refine L2.at ?_
  refine wpAny_bind (wpAny_attempt (wpAny_holding ?_))
  unfold callGetattribute
  rw [hx0, if_neg Bool.false_ne_true]
  unfold boundAndCalled
  rw [PySem.F.excAttr_ValueError.ga.bind (.ref x)]
  refine wpAny_bind (wpAny_pure ?_)
  show wpAny _ _ (call (.builtin "BaseException.__getattribute__") [.ref x, .str "__class__" t]) _ _ _
  refine wpAny_call (codeAny_call_builtin PySem.F.excAttr_ValueError.ga.plain PySem.F.entry_bexc_ga ?_)
  refine @check_slot (model prog w) _ _ ⟨hp, g, d, t + 1, os⟩ "BaseException.__getattribute__" "BaseException" "__getattribute__" (.ref x) [.str "__class__" t] [] _ (by decide +kernel) (by decide +kernel) sub (PySem.F.args_bexc_ga (.ref x) (.str "__class__" t)) ?_
  unfold Builtin.«object.__getattribute__»
  refine wpAny_bind (wpAny_of_eq (a := ((Value.ref x : Value), [Value.str "__class__" t])) (by first | rfl | (simp only [slotArgs]; rfl)) ?_)
  refine wpAny_bind (wpAny_pure (wpAny_bind (L0.at (wpAny_bind (L3.at ?_)))))
  show wpAny _ _ (holding [Value.builtin "object.__class__"] (call (.builtin "getset_descriptor.__get__") [.builtin "object.__class__", .ref x, .ref D]) >>= ret) _ _ _
  refine wpAny_bind (wpAny_holding (wpAny_call (class_get (s := ⟨hp, g, d, t + 1, os⟩) (ox := ox) (od := od) X I C.hm ?_)))
  refine wpAny_pure ?_
  show wpAny _ _ (handedOut (.ref D)) _ _ _
  rw [handedOut_of (v := .ref D) rfl]
  first
    | exact wpAny_pure (wpAny_pure h)
    | exact wpAny_pure h
    | exact wpAny_pure (wpAny_bind (wpAny_pure (wpAny_pure h)))
theorem kitx_excA {K : Frag} {x D : Addr} {ox : Obj} (C : ExcC K D) : KitX K (.ref x) (.ref D) (fun h => ∃ od, InstAt h x ox D od) where
  ty := fun _ _ _ ⟨_, I⟩ => I.type
  it := fun _ _ X _ => by
    obtain ⟨cdD, hcD, _⟩ := any_some C.hd
    unfold clsIn at hcD
    split at hcD
    · rename_i c' d' cd' sl' ho
      intro A' Q' E' s' k q
      unfold isType loadHead
      exact wpAny_bind (wpAny_loadPart (k _ _ (X _ _ ho)) (wpAny_pure q))
    · cases hcD
  ne := fun h tp dd its n sl X htp => by
    obtain ⟨cdD, hcD, _⟩ := any_some C.hd
    refine Bool.eq_false_iff.mpr fun q => ?_
    have e : D = tp := Value.ref.inj (beq_iff_eq.mp q)
    subst e
    unfold clsIn at hcD
    split at hcD
    · rename_i c' d' cd' sl' ho
      have z := (X _ _ ho).symm.trans htp
      cases z
    · cases hcD
  ca := fun X ⟨_, I⟩ k => kin_classEA C X I k
end
/-! ### errors in the mirror: raise, calls that may raise, try -/
section
variable {K : PySem.W.Frag} {ow : List Nat} {Wx : WX}
noncomputable abbrev AX := Addr → List Str → List D → Nat → Prop
/-- what is wanted of an error that a def lets out -/
noncomputable def WantsD (K : PySem.W.Frag) (W : Wd) (H : Hp) (Xa : AX) (E : XK) : Prop := ∀ C ns ds n', Xa C ns ds n' → ∀ H' d, W.le H H' → W.ok K n' H' → XdAt K W H' d ns ds → E (.ref C) d H'
theorem WantsD.le {W : Wd} {H H1 : Hp} {Xa : AX} {E : XK} (h : WantsD K W H Xa E) (l : W.le H H1) : WantsD K W H1 Xa E := fun C ns ds n' q H' d l' o x => h C ns ds n' q H' d (l.trans l') o x
noncomputable abbrev ASX := List D → Nat → (D → Nat → Prop) → AX → Prop
/-- the promise of a def that may raise -/
noncomputable def spE (K : PySem.W.Frag) (k : Nat) (B : ASX) : Sp := fun vs H Q E => ∃ (W : Wd) (n : Nat) (ds : List D) (Qa : D → Nat → Prop) (Xa : AX), AtAll K W H vs ds ∧ ds.length = k ∧ W.ok K n H ∧ Wants K W H Qa Q ∧ WantsD K W H Xa E ∧ B ds n Qa Xa
theorem XdAt.weak {W W' : Wd} {H : Hp} {d : Option Addr} {ns : List Str} {ds : List D} (hr : ∀ a, W'.rs a → W.rs a) (hd : W'.dk = W.dk) (h : XdAt K W H d ns ds) : XdAt K W' H d ns ds := At.weak hr hd _ h
noncomputable def aTopX (Q : D → Nat → Prop) (X : AX) : AEn := { nx := fun _ n => Q .non n, rt := Q, ex := fun _ C ns ds n => X C ns ds n }
theorem fn_mirX {P : Program} {w : World} {mg : Str → Option Value} {base : Heap} {x qual : Str} {st : Stmt} {f : Addr} {fd : FuncData} {N ps : List Str} {k : Nat} {B : ASX} (ow : List Nat) (kk : Nat) (hk : N.length = kk) (hp : ps.length ≤ kk) (ho : ∀ i ∈ ow, ps.length ≤ i) (F : Fun K x qual st f fd) (S : FnScope N ps (defScope st))
    (hbody : ∀ (cdv : Value) (Ar : Around) (outer : List Env) (s : Shared) (H : Hp) (E : XK), Room k (Ar.deeper (envOfC qual (defScope st) s.heap.objs.size f cdv)) →
      ∃ (t : TS) (fa : AS), PSs (cxOf (L2N.CX P w) P w K mg base N qual (defScope st) f cdv Ar outer s H E) (defBody st) t ∧ DS K (fun c d _ H => E c d H) ow t fa ∧ ∀ ds n Q X, ds.length = ps.length → B ds n Q X → fa (aTopX Q X) (startA kk ds) n) : FnOk P w K mg base (L2N.CX P w) (k + 1) f fd ps (spE K ps.length B) := by
  obtain ⟨oc, od, kV, doc, pm, an, cdv, ct, osl, rfl, lk, hcd⟩ := F.ex
  refine fn_of lk hcd S (fun vs H Q E h => ?_) fun Ar outer s H vs Q E hr h => ?_
  · obtain ⟨W, n, ds, Qa, Xa, a, hl, _⟩ := h
    rw [a.length, hl]
  · obtain ⟨W, n, ds, Qa, Xa, a, hl, o, hQ, hX, hA⟩ := h
    obtain ⟨t, fa, h1, h2, h3⟩ := hbody cdv Ar outer s H E hr
    refine ⟨t, h1, DS.run (Wx := fun c d _ H => E c d H) (ow := ow) (t := t) (f := fa) W [] (L2.start N vs) (startA kk ds) n H _ (aTopX Qa Xa) ⟨fun ρ' n' q U' σ' H' l' s' => hQ _ _ q H' _ (le_start l') s'.base .non, fun d n' q U1 H1 H' v l' l2 o' a' => hQ _ _ q H' v ((le_start l').trans l2) o' a', fun _ _ q => q.elim, fun _ _ q => q.elim, fun ρ' C ns es n' q U' σ' H' d l' s' xd => ?_⟩ (start_ok hk (by omega) (fun i hi => by rw [hl]; exact ho i hi) a o) (h3 ds n Qa Xa hl hA)⟩
    exact hX C ns es n' q H' d (le_start l') s'.base (xd.weak (fun a h => Wd.rs_plus.mpr (.inr h)) rfl)
/-! a call that may raise, at a statement's top -/
noncomputable def tCallE (K : PySem.W.Frag) (k : Nat) (B : ASX) (Wx : WX) (ta : TA) : TE := tCallS (spE K k B) (WE Wx) ta
theorem callE_run {k : Nat} {B : ASX} {ta : TA} {g : AA} [DA K ta g] {W : Wd} {σ : L2.St} {ρ : Env'} {n : Nat} {H : Hp} {Q : VK} {Qa : D → Nat → Prop} {Xa : AX} (hQ : Wants K W H Qa Q) (hX : WantsD K W H Xa (WE Wx σ)) (hE : EnvAt K W H σ ρ) (o : W.ok K n H)
    (h : g ρ n fun ds n1 => match Nat.beq ds.length k with
      | true => B ds n1 Qa Xa
      | false => False) : tCallE K k B Wx ta σ H Q :=
  DA.run (te := ta) (f := g) W σ ρ n H _ _ (fun ds n1 h1 H1 xs l1 o1 ax => by
    split at h1
    · rename_i e
      exact ⟨W, n1, ds, Qa, Xa, ax, Nat.eq_of_beq_eq_true e, o1, hQ.le l1, hX.le l1, h1⟩
    · exact h1.elim) hE o h
noncomputable def aCX (k : Nat) (B : ASX) (g : AA) (ow : List Nat) (Q : AEn → Env' → D → Nat → Prop) : AS := fun E ρ n => g (wipeA ρ ow) n fun ds n1 => match Nat.beq ds.length k with
  | true => B ds n1 (Q E ρ) (E.ex ρ)
  | false => False
theorem wants_ex {W : Wd} {U : List (Addr × HO)} {σ : L2.St} {ρ : Env'} {n : Nat} {H : Hp} {E : Ends} {Ea : AEn} (hD : EndsOk K Wx W ow U H Ea E) (s : SOk K W ow n H σ ρ U) : WantsD K (W.plus U) H (Ea.ex ρ) (WE Wx σ) := fun C ns ds n' q H' d l' o' xd => hD.ex ρ C ns ds n' q U σ H' d (.hid l') (s.le l' o') xd
instance (priority := 1200) {k : Nat} {B : ASX} {ta : TA} {g : AA} {gt : TG} {a : D → Option (List (Nat × D))} [DA K ta g] [DG K gt a] : DS K Wx ow (tAsg (tCallE K k B Wx ta) gt) (aCX k B g ow fun E ρ d n2 => aPut ow a d ρ fun ρ' => E.nx ρ' n2) := ⟨fun W U σ ρ n H E Ea hD s h =>
  callE_run (g := g) (W := W.plus U) (fun d n2 h2 H2 v l2 o2 av => put_run (g := gt) (a := a) (s.le l2 o2) av h2 fun ρ' σ' q s' => hD.nx _ _ q U σ' H2 (.hid l2) s') (wants_ex hD s) s.hid s.ok h⟩
/-! raise -/
noncomputable def tRse (tm : L2.St → Hp → XK → Prop) (Wx : WX) : TS := fun _ σ H => tm σ H fun cls d H' => Wx cls d σ H'
theorem k_rse {X : Cx} {W : WX} {e : Expr} {t : L2.St → Hp → XK → Prop} {pos : Pos} (hc : X.calm = true) (tk : L2N.Takes X W) (he : L2N.PMk X e t) : PS X (.Raise (some e) none pos) (tRse t W) := L2N.ps_raise hc tk he
/-- the promise of an own __init__: the fields ns, of what is handed in -/
noncomputable def spIni (K : PySem.W.Frag) (C : Addr) (ns : List Str) (G : List D → Prop) : Sp := fun vs H Q _ => ∃ (a : Addr) (ws : List V) (W : Wd) (ds : List D) (n : Nat), vs = .ref a :: ws ∧ AtAll K W H ws ds ∧ W.ok K n H ∧ G ds ∧ ws.length = ns.length ∧ H a = some (exo a C none) ∧
  ∀ (dx : Addr) (H' : Hp), H dx = none → dx ≠ a → H' a = some (exo a C (some dx)) → H' dx = some (exd dx (ns.zip ws).reverse) → (∀ b, b ≠ a → b ≠ dx → H' b = H b) → Q .non H'
theorem zip_rev : ∀ {ns : List Str} {ws : List V}, ns.length = ws.length → (ns.zip ws).reverse = ns.reverse.zip ws.reverse
  | [], [], _ => rfl
  | [], _ :: _, h => by cases h
  | _ :: _, [], h => by cases h
  | x :: ns, y :: ws, h => by
    have h' : ns.length = ws.length := Nat.succ.inj h
    rw [List.zip_cons_cons, List.reverse_cons, List.reverse_cons, List.reverse_cons, List.zip_append (by rw [List.length_reverse, List.length_reverse]; exact h'), zip_rev h']
    rfl
noncomputable def aRseO (C : Addr) (ns : List Str) (G : List D → Prop) (g : AA) (ow : List Nat) : AS := fun E ρ n => g (wipeA ρ ow) n fun ds n1 => (G ds ∧ ds.length = ns.length ∧ ns.length ≤ 900) ∧ E.ex ρ C ns.reverse ds.reverse n1
instance {C : Addr} {ns : List Str} {G : List D → Prop} {ta : TA} {g : AA} [DA K ta g] : DS K Wx ow (tRse (tMkO C (spIni K C ns G) [] ta) Wx) (aRseO C ns G g ow) := ⟨fun W U σ ρ n H E Ea hD s h => by
  refine DA.run (te := ta) (f := g) (W.plus U) σ _ n H _ _ (fun ds n1 h1 H1 xs l1 o1 ax => ?_) s.hid s.ok h
  obtain ⟨⟨hG, hl, hz⟩, q⟩ := h1
  have hx := ax.length
  refine ⟨by omega, fun a ha => ?_⟩
  have sm : Same H1 (upd H1 a (exo a C none)) := same_upd ha
  refine ⟨a, xs ++ [], W.plus U, ds, n1, rfl, by rw [List.append_nil]; exact AtAll.le o1 (Wd.le_same sm) _ ax, o1.same sm, hG, by rw [List.append_nil]; omega, upd_same, fun dx H' h1 h2 h3 h4 h5 => ?_⟩
  have h1' : H1 dx = none := by rw [upd_ne h2] at h1; exact h1
  refine ⟨rfl, dx, _, h3, h4, h1', ?_⟩
  have eH : upd (del H' a) dx (.xd (ns.zip (xs ++ [])).reverse) = upd H1 dx (.xd (ns.zip (xs ++ [])).reverse) := by
    funext b
    by_cases e1 : b = dx
    · rw [e1, upd_same, upd_same]
    · rw [upd_ne e1, upd_ne e1]
      by_cases e2 : b = a
      · rw [e2, del_same, ha]
      · rw [del_ne e2, h5 b e2 e1, upd_ne e2]
  rw [eH, List.append_nil, zip_rev (by omega)]
  have sm2 : Same H1 (upd H1 dx (.xd (ns.reverse.zip xs.reverse))) := same_upd h1'
  have l2 : (W.plus U).le H1 (upd H1 dx (.xd (ns.reverse.zip xs.reverse))) := Wd.le_same sm2
  refine hD.ex ρ C _ _ n1 q U σ _ (some dx) (.hid (l1.trans l2)) (s.le (l1.trans l2) (o1.same sm2)) ?_
  exact At.xcp1 upd_same (by rw [List.length_reverse, List.length_reverse]; omega) (AtAll.le o1 l2 _ (rev_at ax))⟩
/-! try -/
noncomputable def tTry (K : PySem.W.Frag) (c : Value) (i : Nat) (tb : WX → TS) (ts : Addr → Value → Option Addr → TS) (Wout : WX) : TS := fun D σ H => tb (wAs K c i ts Wout D) D σ H
theorem SOk.clear {W : Wd} {n : Nat} {H : Hp} {σ : L2.St} {ρ : Env'} {U : List (Addr × HO)} {i : Nat} (s : SOk K W ow n H σ ρ U) : SOk K W ow n H (σ.set i none) (eSet ρ i none) U := by
  have key : ∀ j d, eGet (eSet ρ i none) j = some d → i ≠ j ∧ eGet ρ j = some d := fun j d e => by
    by_cases hij : i = j
    · subst hij
      cases (eGet_set e).2
    · rw [eGet_ne hij] at e
      exact ⟨hij, e⟩
  refine ⟨s.nd, s.nr, s.ok, by rw [List.length_set, eSet_length]; exact s.len, fun j d hj he => ?_, fun j d hj he => ?_, fun j k p hj hk ne h1 h2 => ?_⟩
  · obtain ⟨hij, he⟩ := key j d he
    rw [List.getElem?_set_ne hij]
    exact s.env j d hj he
  · obtain ⟨hij, he⟩ := key j d he
    rw [List.getElem?_set_ne hij]
    exact s.own j d hj he
  · have hij : i ≠ j := fun z => by
      subst z
      by_cases hl : i < σ.length
      · rw [List.getElem?_set_self hl] at h1
        cases h1
      · rw [List.getElem?_eq_none (by simpa using hl)] at h1
        cases h1
    have hik : i ≠ k := fun z => by
      subst z
      by_cases hl : i < σ.length
      · rw [List.getElem?_set_self hl] at h2
        cases h2
      · rw [List.getElem?_eq_none (by simpa using hl)] at h2
        cases h2
    rw [List.getElem?_set_ne hij] at h1
    rw [List.getElem?_set_ne hik] at h2
    rw [eGet_ne hij, eGet_ne hik]
    exact s.dst j k p hj hk ne h1 h2
noncomputable def aTry (K : PySem.W.Frag) (ow : List Nat) (c : Value) (i : Nat) (fb : AS) (fs : Addr → Value → Option Addr → AS) : AS := fun E ρ n =>
  i ∉ ow ∧ fb { E with ex := fun ρ' C ns ds n' => ∃ b, PySem.W.exmOne K (.ref C) c = some b ∧ (b = true → ∀ a d, fs a (.ref C) d { nx := fun ρ2 n2 => E.nx (eSet ρ2 i none) n2, rt := E.rt, bk := fun ρ2 n2 => E.bk (eSet ρ2 i none) n2, ct := fun ρ2 n2 => E.ct (eSet ρ2 i none) n2 } (eSet ρ' i (some (.xcp a C d ns ds))) n') ∧ (b = false → E.ex ρ' C ns ds n') } ρ n
instance {c : Value} {i : Nat} {tb : WX → TS} {ts : Addr → Value → Option Addr → TS} {fb : AS} {fs : Addr → Value → Option Addr → AS} [hb : ∀ W', DS K W' ow (tb W') fb] [hs : ∀ a cls d, DS K W0 ow (ts a cls d) (fs a cls d)] : DS K Wx ow (tTry K c i tb ts Wx) (aTry K ow c i fb fs) := ⟨fun W U σ ρ n H E Ea hD s h => by
  obtain ⟨hi, h⟩ := h
  refine (hb (wAs K c i ts Wx E)).run W U σ ρ n H E _ ?_ s h
  refine ⟨hD.nx, hD.rt, hD.bk, hD.ct, fun ρ' C ns ds n' q U' σ' H' d st so xd => ?_⟩
  obtain ⟨b, e1, e2, e3⟩ := q
  refine ⟨b, e1, fun eb a ha => ?_, fun eb => hD.ex ρ' C ns ds n' (e3 eb) U' σ' H' d st so xd⟩
  refine (hs a (.ref C) d).run W U' (σ'.set i (some (.ref a))) (eSet ρ' i (some (.xcp a C d ns ds))) n' H' _ _ ?_ (so.set hi (xd.any a C)) (e2 eb a d)
  refine ⟨fun ρ2 n2 q U2 σ2 H2 st2 s2 => ?_, fun d2 n2 q U1 H1 H2 v l1 l2 o2 a2 => hD.rt d2 n2 q U1 H1 H2 v (st.trans l1) l2 o2 a2, fun ρ2 n2 q U2 σ2 H2 st2 s2 => ?_, fun ρ2 n2 q U2 σ2 H2 st2 s2 => ?_, fun _ _ _ _ _ q => q.elim⟩
  · exact hD.nx _ _ q U2 _ H2 (st.trans st2) s2.clear
  · exact hD.bk _ _ q U2 _ H2 (st.trans st2) s2.clear
  · exact hD.ct _ _ q U2 _ H2 (st.trans st2) s2.clear⟩
/-! a caught error's field, its class -/
noncomputable def aXf (a : Addr) (cls : Value) (d : Option Addr) (C : Addr) (f : Str) (fa : AE) : AE := fun ρ n Q => fa ρ n fun x n1 => match x with
  | .xcp a' _ d' ns ds => (a' = a ∧ cls = .ref C ∧ d = d') ∧ ∃ v, (ns.zip ds).lookup f = some v ∧ Q v n1
  | _ => False
instance {a : Addr} {cls : Value} {d : Option Addr} {C : Addr} {f : Str} {te : TE} {fa : AE} [DE K te fa] : DE K (tXf a cls d C f te) (aXf a cls d C f fa) := ⟨fun W σ ρ n H Q Qa hQ hE o h =>
  DE.run (te := te) (f := fa) W σ ρ n H _ _ (fun x n1 h1 H1 v l1 o1 ax => by
    split at h1
    · obtain ⟨⟨rfl, rfl, rfl⟩, y, e, q⟩ := h1
      cases ax with
      | xcp0 => cases e
      | @xcp1 _ _ dx ns xs ds s e' b =>
        obtain ⟨z, h1, h2⟩ := lookup_at b e
        exact ⟨rfl, rfl, dx, _, z, rfl, s, h1, (hQ.le l1).now o1 q h2⟩
    · exact h1.elim) hE o h⟩
theorem k_callE {X : Cx} {e : Expr} {k : Nat} {B : ASX} {W : WX} {ta : TA} (h : PE X e (tCallS (spE K k B) (WE W) ta)) : PE X e (tCallE K k B W ta) := h
theorem takesN0 {X : Cx} : L2N.Takes X W0 := fun u s' ⟨_, _, _, _, _, _, _, _, _, _, _, _, _, _, _, _, w⟩ => w.elim
theorem k_try {X : Cx} {x n : Str} {c : Value} {i : Nat} {body suite : List Stmt} {b₀ : Stmt} {np pos pos' : Pos} {tb : WX → TS} {ts : Addr → Value → Option Addr → TS} {Wout : WX} (hK : X.K = K) (hs : X.stack = X.env :: X.outer) (hf : X.env.frame = some X.env.locals) (hN : X.N.Nodup) (hi : X.N[i]? = some n) (hln : X.env.kindOf n = some .local) (hc : Names X x c) (tk : L2N.Takes X Wout)
    (hb : ∀ (W : WX) (pn : List (Addr × Obj)) (xe : Value → Shared → Prop), L2N.Takes (X.tr pn xe) W → PassesOwn (model X.prog X.w) X.A X.env xe → PSs (X.tr pn xe) body (tb W))
    (hsu : ∀ (a : Addr) (oe : Obj) (cls : Value) (d : Option Addr) (pn : List (Addr × Obj)), L2N.Zn cls d oe → (∃ vs, oe.data = .fields vs) → PSs (X.suite a ((a, oe) :: pn)) (b₀ :: suite) (ts a cls d)) :
    PS X (.Try body [.ExceptHandler (some (.Name x np)) (some n) (b₀ :: suite) pos'] [] [] pos) (tTry K c i tb ts Wout) := hK ▸ L2N.ps_try_as hs hf hN hi hln hc tk hb hsu
/-! a suite in which the error's class is known -/
noncomputable def tOwnM (D : Addr) (cls : Value) (t : TS) : TS := fun e σ H => cls = .ref D ∧ t e σ H
theorem suite_ownM {X : Cx} {ss : List Stmt} {t : TS} {D : Addr} {oe : Obj} {cls : Value} {d : Option Addr} (hz : L2N.Zn cls d oe) (h : L2N.Zn (.ref D) d oe → PSs X ss t) : PSs X ss (tOwnM D cls t) := ⟨fun pins s σ H E I q => by
  obtain ⟨rfl, q⟩ := q
  exact (h hz).run pins s σ H E I q⟩
noncomputable def aOwnM (D : Addr) (cls : Value) (f : AS) : AS := fun E ρ n => cls = .ref D ∧ f E ρ n
instance {D : Addr} {cls : Value} {t : TS} {f : AS} [DS K Wx ow t f] : DS K Wx ow (tOwnM D cls t) (aOwnM D cls f) := ⟨fun W U σ ρ n H E Ea hD s h => ⟨h.1, DS.run (ow := ow) (t := t) (f := f) W U σ ρ n H E Ea hD s h.2⟩⟩
/-! isinstance(e, C) -/
noncomputable def rIsX (K : PySem.W.Frag) (D a : Addr) (d : Option Addr) : List V → Hp → VK → Prop := fun xs H Q => (d = none ∨ ∃ (dx : Addr) (fs : List (Str × V)), d = some dx ∧ H dx = some (.xd fs)) ∧ rIsE K D a xs H Q
noncomputable def cvD : D → Option Value
  | .cls c => some (.ref c)
  | .ty t => some (.type t.nm)
  | _ => none
theorem cv_rel {W : Wd} {H : Hp} {y : V} {u cv : Value} {c : D} (e : cvD c = some cv) (a : At K W H y c) (ru : RelV y u) : u = cv := by
  cases c with
  | cls c => cases e; cases a; exact ru
  | ty t => cases e; cases a; exact ru
  | _ => cases e
noncomputable def aIsX (K : PySem.W.Frag) (C0 a : Addr) (d : Option Addr) : List D → Nat → (D → Nat → Prop) → Prop
  | [.xcp a' _ d' _ _, c], n, Q => (a' = a ∧ d' = d) ∧ ∃ cv b, cvD c = some cv ∧ PySem.W.kitOne K (.ref C0) cv = some b ∧ Q (.bl b) n
  | _, _, _ => False
instance {C a : Addr} {d : Option Addr} : DL K (rIsX K C a d) (aIsX K C a d) := ⟨fun W n H xs ds Q Qa hQ o av h => by
  unfold aIsX at h
  split at h
  · obtain ⟨⟨rfl, rfl⟩, cv, b, e1, e2, q⟩ := h
    cases av with
    | @cons x _ _ _ a1 r =>
      cases r with
      | @cons y _ _ _ a2 r =>
        cases r
        have e3 : ∀ u, RelV y u → u = cv := fun u ru => cv_rel e1 a2 ru
        cases a1 with
        | xcp0 => exact ⟨.inl rfl, y, cv, b, rfl, e3, e2, hQ.now o q (.bl _)⟩
        | xcp1 s e a3 => exact ⟨.inr ⟨_, _, rfl, s⟩, y, cv, b, rfl, e3, e2, hQ.now o q (.bl _)⟩
  · exact h.elim⟩
end
/-! ### list.count of truths -/
section
variable {K : PySem.W.Frag}
noncomputable def isB (k : Bool) : Value → Bool
  | .bool b => b == k
  | _ => false
theorem isB_eq {A : Around} {s : Shared} {k : Bool} : ∀ {bs : List Bool} {us : List Value}, Vals (bs.map V.bl) us → (∀ y ∈ us, SeqAt.EqAt A s y (.bool k) (isB k y)) ∧ us.countP (isB k) = bs.count k
  | [], us, h => by
    cases h
    exact ⟨fun y hy => (by cases hy), rfl⟩
  | b :: bs, us, h => by
    cases h with
    | cons r rs =>
      obtain ⟨h1, h2⟩ := isB_eq (A := A) (s := s) (k := k) rs
      cases r
      refine ⟨fun y hy => ?_, ?_⟩
      · rcases List.mem_cons.mp hy with e | e
        · rw [e]
          exact SeqAt.EqAt.bool_bool b k
        · exact h1 y e
      · rw [List.countP_cons, List.count_cons, h2]
        rfl
noncomputable def rCntB (K : PySem.W.Frag) : V → List V → Hp → VK → Prop := fun x xs H Q => ∃ (p : Addr) (bs : List Bool) (k : Bool), x = .ref p ∧ xs = [.bl k] ∧ SqL K H p (bs.map V.bl) ∧ Q (.int (bs.count k : Nat)) H
theorem mt_cntB {X : Cx} : MtR X "list.count" (rCntB X.K) := by
  intro pins s σ H x xs v us Q I rx rxs h
  obtain ⟨p, bs, k, rfl, rfl, sq, q⟩ := h
  cases rx
  obtain ⟨u, rfl, ru⟩ := rxs.one
  cases ru
  obtain ⟨is, rel, ⟨⟨cl, di, da, slo⟩, m, get, h1, _, h2⟩, _⟩ := I.list sq
  dsimp only at h1 h2
  subst h1 h2
  refine call_meets PySem.F.slot_list_count ⟨_, get, rfl⟩ PySem.F.entry_list_count (PySem.F.args_list_count_2 _ _) (SeqAt.list_countAt p is.toArray m di slo (.bool k) (isB k)) ⟨get, fun y hy => (isB_eq rel).1 y (by simpa using hy), ?_⟩
  have ec : is.toArray.toList.countP (isB k) = bs.count k := (isB_eq (A := X.A.in1) (s := s) rel).2
  refine ⟨.int (bs.count k : Nat), H, I.tok _, ⟨s.toks, ?_⟩, q⟩
  rw [ec]
noncomputable def tCntB (K : PySem.W.Frag) (to te : TE) : TE := tBM K "list" (rCntB K) to (tCons te tNil)
theorem k_cntB {X : Cx} {e : Expr} {to te : TE} (hK : X.K = K) (h : PE X e (tBM X.K "list" (rCntB X.K) to (tCons te tNil))) : PE X e (tCntB K to te) := hK ▸ h
noncomputable def aCntB (fa fb : AE) : AE := fun ρ n Q => fa ρ n fun d n1 => ∃ bs : List Bool, d = .lst (bs.map D.bl) ∧ fb ρ n1 fun e n2 => ∃ k, e = .bl k ∧ Q (.int (bs.count k : Nat)) n2
theorem at_bools {W : Wd} {H : Hp} : ∀ {bs : List Bool} {vs : List V}, AtAll K W H vs (bs.map D.bl) → vs = bs.map V.bl
  | [], _, h => by cases h; rfl
  | b :: bs, _, h => by
    cases h with
    | cons a r =>
      cases a
      rw [at_bools r]
      rfl
instance {to te : TE} {fa fb : AE} [DE K to fa] [DE K te fb] : DE K (tCntB K to te) (aCntB fa fb) := ⟨fun W σ ρ n H Q Qa hQ hE o h =>
  DE.run (te := to) (f := fa) W σ ρ n H _ _ (fun d n1 h1 H1 x l1 o1 ax => by
    obtain ⟨bs, rfl, h1⟩ := h1
    obtain ⟨p, rfl, hs⟩ : ∃ p, x = .ref p ∧ SqL K H1 p (bs.map V.bl) := by
      cases ax with
      | lst r s a => exact ⟨_, rfl, at_bools a ▸ SqL.of s⟩
    refine ⟨.inl ⟨rfl, _, hs⟩, ?_⟩
    refine DE.run (te := te) (f := fb) W σ ρ n1 H1 _ _ (fun e n2 h2 H2 y l2 o2 ay => ?_) (hE.le o l1) o1 h1
    obtain ⟨k, rfl, q⟩ := h2
    cases ay
    have hs2 : SqL K H2 p (bs.map V.bl) := by
      cases At.le o1 l2 _ ax with
      | lst r s a => exact at_bools a ▸ SqL.of s
    exact ⟨p, bs, k, rfl, rfl, hs2, ((hQ.le l1).le l2).now o2 q (.int _)⟩) hE o h⟩
end
/-! ### defs that are handed a caught error, called within its suite -/
section
open L2H
variable {K : PySem.W.Frag} {ow : List Nat} {Wx : WX}
/-- as FnH of the kit, the promise knows the error p -/
structure FnX (P : Program) (w : World) (K : PySem.W.Frag) (mg : Str → Option Value) (base : Heap) (k : Nat) (f : Addr) (fd : FuncData) (ps : List Str) (sp : Addr × Obj → Sp) : Prop where
  lenX : ∀ p vs H Q E, sp p vs H Q E → vs.length = ps.length
  runX : ∀ (B : Around) (out : List Env) (z : Shared) (H : Hp) (args : Args) (us : List Value) (vs : List V) (Q : VK) (E : XK) (p : Addr × Obj), RoomH k B → Hot1 B p → PinOk out H z p → Env0 P w K mg base B out z H → BindsTo z fd args (ps.zip us) → Vals vs us → sp p vs H Q E →
    codeAny (model P w) B (.call (.ref f) args) (CR CX0 out P w H z Q E) z
theorem FnX.mono {P : Program} {w : World} {K : PySem.W.Frag} {mg : Str → Option Value} {base : Heap} {j k : Nat} {f : Addr} {fd : FuncData} {ps : List Str} {sp : Addr × Obj → Sp} (F : FnX P w K mg base j f fd ps sp) (h : j ≤ k) : FnX P w K mg base k f fd ps sp :=
  ⟨F.lenX, fun B out z H args us vs Q E p hr => F.runX B out z H args us vs Q E p (hr.mono h)⟩
theorem fn_ofX {P : Program} {w : World} {K : PySem.W.Frag} {mg : Str → Option Value} {base : Heap} {k : Nat} {f : Addr} {nm qn : Str} {pa : Arguments} {bd : List Stmt} {sc : Scope} {dV kV doc pm cdv ct oc : Value} {an od : Option Addr}
    {osl : Array (Option Value)} {N ps : List Str} {sp : Addr × Obj → Sp} (lk : K.lookup f = some ⟨oc, od, .func (PySem.W.fnOf nm qn pa bd sc dV kV doc pm an cdv ct), osl⟩) (hcd : PySem.W.codeIn K cdv qn = true) (S : FnScope N ps sc)
    (len : ∀ p vs H Q E, sp p vs H Q E → vs.length = ps.length)
    (hbody : ∀ (B : Around) (out : List Env) (z : Shared) (H : Hp) (vs : List V) (Q : VK) (E : XK) (p : Addr × Obj), Hot1 B p → RoomH k (B.deeper (envOfC qn sc z.heap.objs.size f cdv)) → sp p vs H Q E →
      ∃ t, PSs (cxH CX0 P w K mg base N qn sc f cdv B out z H E p) bd t ∧ t { nx := fun _ H' => Q .non H', rt := Q } (L2.start N vs) H) :
    FnX P w K mg base (k + 1) f (PySem.W.fnOf nm qn pa bd sc dV kV doc pm an cdv ct) ps sp := by
  refine ⟨len, fun B out z H args us vs Q E p room hot pin e0 bnd rel hsp => ?_⟩
  have kz : K.In z.heap := e0.mod.kin.keeps fun b o e => (e0.bs b o e).1
  have nolim : z.heap.NoLimit := e0.mod.nolimit.keeps fun b o e => (e0.bs b o e).1
  have kinds : ∀ y ∈ ps.zip us, sc.names.lookup y.1 = some .local ∨ (sc.names.lookup y.1 = some .cell ∧ ((cellsFrom (z.heap.objs.size + 1) sc.names []).lookup y.1).isSome = true) := fun y hy => by
    have hm := (List.of_mem_zip (show (y.1, y.2) ∈ ps.zip us from hy)).1
    exact (S.par y.1 hm).imp id fun q => ⟨q, PySem.W.cellsFrom_some _ _ _ (.inl q)⟩
  refine codeAny_call_function room.depth (kz _ _ lk) rfl S.co S.gen rfl (PySem.W.codeRec_of kz hcd) (bnd _ _ _ _ (wpAny_newFunctionEnv_cells S.kind kinds fun ev hev z1 ic => ?_))
  subst hev
  obtain ⟨t, ht, hq⟩ := hbody B out z H vs Q E p hot (room.deeper _) hsp
  have J0 : Inv (cxH CX0 P w K mg base N qn sc f cdv B out z H E p) [] (L2.start N vs) H z1 := inv_startH S pin e0 (len _ _ _ _ _ hsp) rel ic
  refine ⟨nolim.keeps ic.toInCall.keep, codeAny_func (wpAny_mono (ht.run [] z1 (L2.start N vs) H _ J0 hq) (fun fl z' hz => ?_) fun _ _ hz => hz)⟩
  match fl, hz with
  | .ret _, ⟨v, _, H', J, rv, q⟩ => exact ⟨v, H', J.os, J.bare, J.base, J.hok, rv, q⟩
  | .next, ⟨_, H', J, q⟩ => exact ⟨V.non, H', J.os, J.bare, J.base, J.hok, rfl, q⟩
  | .brk, ⟨_, _, _, q⟩ => exact q.elim
  | .cont, ⟨_, _, _, q⟩ => exact q.elim
/-- the promise of a def whose argument is the caught error of class D, its fields at d -/
noncomputable abbrev ASH := Addr → Option Addr → ASp
noncomputable def spH (K : PySem.W.Frag) (C : Addr) (k : Nat) (A : ASH) : Addr × Obj → Sp := fun p vs H Q _ => ∃ (W : Wd) (n : Nat) (ds : List D) (Qa : D → Nat → Prop) (d : Option Addr), AtAll K W H vs ds ∧ ds.length = k ∧ W.ok K n H ∧ Wants K W H Qa Q ∧ (L2N.Zn (.ref C) d p.2 ∧ ∃ fs, p.2.data = .fields fs) ∧ A p.1 d ds n Qa
theorem fn_mirH {P : Program} {w : World} {mg : Str → Option Value} {base : Heap} {x qual : Str} {st : Stmt} {f : Addr} {fd : FuncData} {N ps : List Str} {k : Nat} {A : ASH} (C : Addr) (ow : List Nat) (kk : Nat) (hk : N.length = kk) (hp : ps.length ≤ kk) (ho : ∀ i ∈ ow, ps.length ≤ i) (F : Fun K x qual st f fd) (S : FnScope N ps (defScope st))
    (hbody : ∀ (cdv : Value) (Ar : Around) (outer : List Env) (s : Shared) (H : Hp) (E : XK) (a : Addr) (oe : Obj) (d : Option Addr), Hot1 Ar (a, oe) → RoomH k (Ar.deeper (envOfC qual (defScope st) s.heap.objs.size f cdv)) → L2N.Zn (.ref C) d oe → (∃ fs, oe.data = .fields fs) →
      ∃ (t : TS) (fa : AS), PSs (cxH CX0 P w K mg base N qual (defScope st) f cdv Ar outer s H E (a, oe)) (defBody st) t ∧ DS K W0 ow t fa ∧ ∀ ds n Q, ds.length = ps.length → A a d ds n Q → fa (aTop Q) (startA kk ds) n) : FnX P w K mg base (k + 1) f fd ps (spH K C ps.length A) := by
  obtain ⟨oc, od, kV, doc, pm, an, cdv, ct, osl, rfl, lk, hcd⟩ := F.ex
  refine fn_ofX lk hcd S (fun p vs H Q E h => ?_) fun Ar outer s H vs Q E p hot hr h => ?_
  · obtain ⟨W, n, ds, Qa, d, a, hl, _⟩ := h
    rw [a.length, hl]
  · obtain ⟨W, n, ds, Qa, d, a, hl, o, hQ, ⟨hz, hf⟩, hA⟩ := h
    obtain ⟨t, fa, h1, h2, h3⟩ := hbody cdv Ar outer s H E p.1 p.2 d hot hr hz hf
    exact ⟨t, h1, DS.run (Wx := W0) (ow := ow) (t := t) (f := fa) W [] (L2.start N vs) (startA kk ds) n H _ (aTop Qa) ⟨fun ρ' n' q U' σ' H' l' s' => hQ _ _ q H' _ (le_start l') s'.base .non, fun d n' q U1 H1 H' v l' l2 o' a' => hQ _ _ q H' v ((le_start l').trans l2) o' a', fun _ _ q => q.elim, fun _ _ q => q.elim, fun _ _ _ _ _ q => q.elim⟩ (start_ok hk (by omega) (fun i hi => by rw [hl]; exact ho i hi) a o) (h3 ds n Qa hl hA)⟩
/-! such a call -/
noncomputable def tCallH (K : PySem.W.Frag) (k : Nat) (A : ASH) (a : Addr) (d : Option Addr) (ta : TA) : TE := fun σ H Q => ta σ H fun vs H1 => ∃ (W : Wd) (n : Nat) (ds : List D) (Qa : D → Nat → Prop), AtAll K W H1 vs ds ∧ ds.length = k ∧ W.ok K n H1 ∧ Wants K W H1 Qa Q ∧ A a d ds n Qa
theorem pe_callHX {X : Cx} {k j : Nat} {f : Addr} {fd : FuncData} {ps : List Str} {C : Addr} {A : ASH} {a : Addr} {oe : Obj} {d : Option Addr} {x : Str} {e : Expr} {es : List Expr} {ta : TA} {q pos : Pos} (hz : L2N.Zn (.ref C) d oe) (hf : ∃ fs, oe.data = .fields fs) (hot : Hot1 X.A (a, oe)) (hpn : (a, oe) ∈ X.pn)
    (F : FnX X.prog X.w X.K X.mg X.base j f fd ps (spH X.K C k A)) (hr : RoomH j X.A) (hg : Gl X x) (hm : X.mg x = some (.ref f)) (hk : PySem.W.keepIn X.K (.ref f) = true) (hb : Binds X.K fd ps [])
    (ha : PA X (e :: es) ta) (hdb : (x == ("__debug__" : Str)) = false := by decide) (he : starEach (e :: es) X.env = (false, eval e X.env) :: starEach es X.env := by rfl) (hpl : (backTo pos (starEach es X.env)).any (·.1) = false := by rfl) :
    PE X (.Call (.Name x q) (e :: es) [] pos) (tCallH X.K k A a d ta) := ⟨fun pins s σ H Q I h => by
  refine wpAny_Call_Name_kw (ld_glob I hg hm (PySem.W.callWith_K (h₀ := X.base) I.ok.mod.kin hk (thn (ha.run pos pins s σ H _ I h) fun us s1 ⟨vs, H1, I1, rv, hsp⟩ => ⟨I1.kIn, ?_⟩) he hpl) hdb)
  obtain ⟨W, n, ds, Qa, h1, h2, h3, h4, h5⟩ := hsp
  have hsp' : spH X.K C k A (a, oe) vs H1 Q (fun _ _ _ => False) := ⟨W, n, ds, Qa, d, h1, h2, h3, h4, ⟨hz, hf⟩, h5⟩
  have hl : us.length = ps.length := by rw [← rv.length]; exact F.lenX _ _ _ _ _ hsp'
  have bnd := hb s1 us I1.kIn (by rw [List.append_nil]; exact hl)
  rw [List.append_nil] at bnd
  have PN := I1.pin (a, oe) (List.mem_append_left _ hpn)
  have pin : PinOk X.stack H1 s1 (a, oe) := ⟨PN.1, PN.2.1, fun hm => (List.mem_cons.mp (I1.stkSub a hm)).elim PN.2.2.1 PN.2.2.2.1, PN.2.2.2.2⟩
  refine wpAny_call (codeAny_mono (F.runX X.A X.stack s1 H1 ⟨us, []⟩ us vs Q (fun _ _ _ => False) (a, oe) hr hot pin I1.env0 bnd rv hsp') fun r z' hq => ?_)
  match r, hq with
  | .error er, hq => exact hq.elim
  | .ok (.ret _), hq => exact I1.after hq
  | .ok .next, hq => exact hq.elim
  | .ok .brk, hq => exact hq.elim
  | .ok .cont, hq => exact hq.elim⟩
theorem k_callH {X : Cx} {k j : Nat} {f : Addr} {fd : FuncData} {ps : List Str} {C : Addr} {A : ASH} {a : Addr} {oe : Obj} {d : Option Addr} {x : Str} {e : Expr} {es : List Expr} {ta : TA} {q pos : Pos} (hK : X.K = K) (hz : L2N.Zn (.ref C) d oe) (hf : ∃ fs, oe.data = .fields fs) (hot : Hot1 X.A (a, oe)) (hpn : (a, oe) ∈ X.pn)
    (F : FnX X.prog X.w K X.mg X.base j f fd ps (spH K C k A)) (hr : RoomH j X.A) (hg : Gl X x) (hm : X.mg x = some (.ref f)) (hk : PySem.W.keepIn K (.ref f) = true) (hb : Binds K fd ps [])
    (ha : PA X (e :: es) ta) (hdb : (x == ("__debug__" : Str)) = false := by decide) (he : starEach (e :: es) X.env = (false, eval e X.env) :: starEach es X.env := by rfl) (hpl : (backTo pos (starEach es X.env)).any (·.1) = false := by rfl) :
    PE X (.Call (.Name x q) (e :: es) [] pos) (tCallH K k A a d ta) := by
  subst hK
  exact pe_callHX hz hf hot hpn F hr hg hm hk hb ha hdb he hpl
noncomputable def aCallH (k : Nat) (A : ASH) (a : Addr) (d : Option Addr) (g : AA) : AE := fun ρ n Q => g ρ n fun ds n1 => match Nat.beq ds.length k with
  | true => A a d ds n1 Q
  | false => False
instance {k : Nat} {A : ASH} {a : Addr} {d : Option Addr} {ta : TA} {g : AA} [DA K ta g] : DE K (tCallH K k A a d ta) (aCallH k A a d g) := ⟨fun W σ ρ n H Q Qa hQ hE o h =>
  DA.run (te := ta) (f := g) W σ ρ n H _ _ (fun ds n1 h1 H1 xs l1 o1 ax => by
    split at h1
    · rename_i e
      exact ⟨W, n1, ds, Qa, ax, Nat.eq_of_beq_eq_true e, o1, hQ.le l1, h1⟩
    · exact h1.elim) hE o h⟩
theorem hot_suite {X : Cx} {a : Addr} {oe : Obj} {cls : Value} {d : Option Addr} {pn : List (Addr × Obj)} (hz : L2N.Zn cls d oe) (hf : ∃ fs, oe.data = .fields fs) : Hot1 (X.suite a ((a, oe) :: pn)).A (a, oe) := by
  obtain ⟨fs, e⟩ := hf
  exact ⟨rfl, fs, e, hz.2.2 fs e⟩
/-! isinstance of it, wherever it is pinned -/
theorem call_isXg {X : Cx} {a D : Addr} {oe : Obj} {d : Option Addr} (hK : X.K = K) (C : ExcC K D) (hz : L2N.Zn (.ref D) d oe) (hf : ∃ vs, oe.data = .fields vs) (hpn : (a, oe) ∈ X.pn) : CallR X (.builtin "isinstance") (rIsX K D a d) := by
  subst hK
  intro pins s σ H xs us Q I r h
  obtain ⟨hdd, c, cv, b, rfl, hcv, e, q⟩ := h
  cases r with
  | cons rx rr =>
    cases rr with
    | cons rt rr =>
      cases rr
      cases rx
      have ec := hcv _ rt
      subst ec
      obtain ⟨hget, _⟩ := I.pin (a, oe) (List.mem_append.mpr (.inl hpn))
      obtain ⟨vs, hv⟩ := hf
      have J : ∃ od, PySem.W.InstAt s.heap a oe D od := by
        rcases hdd with hd | ⟨dx, fs, hd, hx⟩
        · obtain ⟨oc, od, oda, osl⟩ := oe
          obtain ⟨h1, h2, _⟩ := hz
          dsimp only at h1 h2 hv
          subst h1 h2 hv
          subst hd
          exact ⟨none, hget, rfl, rfl, trivial⟩
        · have hx' : ObjOk X.prog X.w H s.heap dx (.xd fs) := I.hok dx _ hx
          obtain ⟨mA, hns, hr⟩ := hx'
          obtain ⟨od, ho, hl⟩ := lookIn_ns hns
          exact ⟨some od, hget, hz.1, by unfold PySem.W.notCls; rw [hv] <;> rfl, by rw [hz.2.1, hd]; exact ho⟩
      exact PySem.W.kia_one (kitx_excA (x := a) (ox := oe) C) I.kIn J e (fun z => nomatch z) fun tk => ⟨.bl b, H, I.kept (t' := tk) fun _ _ z => z, rfl, q⟩
end
theorem _root_.L2H.RoomH.units {k : Nat} {A : Around} (r : L2H.RoomH k A) : A.units + 64 < cLine := by
  have h := r.un
  omega
theorem roomH_at {k j : Nat} {A : Around} {v : Option Value} (r : Room k A) (h : j ≤ k := by decide) : L2H.RoomH j (A.mark v) := ⟨by have h1 := r.dp; show A.depth + 3 * j + 5 < _; omega, by have h1 := r.un; show A.units + 16 * j + 200 < _; omega⟩
class Sx (P : Program) (K : PySem.W.Frag) (A : Ad) : Prop where
  S_Over : SupI P K "Over.__init__" (defArgs s_m_Over___init__) (defBody s_m_Over___init__) (defScope s_m_Over___init__) A.c_Over A.f_m_Over___init__ A.fd_m_Over___init__
  O_Over : OexC K A.c_Over
  bI_Over : Binds K A.fd_m_Over___init__ ["self", "one", "other"] []
  iC_Over : PySem.W.findIn K (.ref A.c_Over) "__init__" = some (some (.ref A.f_m_Over___init__))
  tI_Over : PySem.W.typeIn K (.ref A.f_m_Over___init__) = some (.type "function")
  n_Over_one : PySem.W.findIn K (.ref A.c_Over) "one" = some none
  n_Over_other : PySem.W.findIn K (.ref A.c_Over) "other" = some none
  X_Over : XfC K A.c_Over
  E_Over : ExcC K A.c_Over
  e_Over_Over : PySem.W.exmOne K (.ref A.c_Over) (.ref A.c_Over) = some true
/-! ### own errors: the promise of their __init__ -/
theorem str_len_app (z w : Str) : (z ++ w).length = z.length + w.length := by
  show (z.cps ++ w.cps).size = _
  exact Array.size_append
section
variable {P : Program} {w : World} {K : PySem.W.Frag} {mg : Str → Option Value} {base : Heap} {A : Ad}
theorem ok_ini_Over [Sx P K A] : FnOk P w K mg base CX0 1 A.f_m_Over___init__ A.fd_m_Over___init__ ["self", "one", "other"] (spIni K A.c_Over ["one", "other"] fun ds => ∃ x y : Str, ds = [.str x, .str y] ∧ x.length ≤ 1000 ∧ y.length ≤ 1000) := by
  refine fn_super (k := 0) (Sx.S_Over (P := P) (A := A)) rfl (Sx.O_Over (P := P) (A := A)) nsc_Over rfl rfl rfl (fun vs H Q E h => ?_) (fun env => ⟨_, rfl⟩) (fun _ _ _ _ => rfl) (fun _ => rfl) (fun _ => rfl) (fun _ _ => rfl) (fun cda cc A' outer s H vs Q E hr h => ?_)
  · obtain ⟨a, ws, W, ds, n, rfl, _, _, _, hl, _⟩ := h
    rw [List.length_cons, hl]
    rfl
  · obtain ⟨a, ws, W, ds, n, rfl, hat, ok, ⟨x, y, rfl, hx, hy⟩, hl, ha, hq⟩ := h
    obtain ⟨u, v, rfl⟩ : ∃ u v, ws = [u, v] := by
      match ws, hl with
      | [u, v], _ => exact ⟨u, v, rfl⟩
    cases hat with
    | cons a1 r1 =>
    cases r1 with
    | cons a2 r2 =>
    cases a1
    cases a2
    refine ⟨_, _, a, [.str x, .str y], pa_cons (pe_joined (.cons pe_str (.cons (pe_fmt (pv 1)) (.cons pe_str (.cons (pe_fmt (pv 2)) .nil))))) pa_nil, pss_cons (ps_ost (pv 0) (pv 1)) (pss_one (ps_ost (pv 0) (pv 2))), rfl, ha, ?_⟩
    have L : ∀ z w : Str, z.length ≤ 5000 → w.length ≤ 1000 → (z ++ w).length ≤ z.length + 1000 := fun z w h1 h2 => by
      rw [str_len_app]
      omega
    have big := lim
    have hz0 : (Str.empty ++ Str.ofString "two bodies are over one another: ").length ≤ 100 := by decide +kernel
    have hc : (Str.ofString ", ").length ≤ 1000 := by decide +kernel
    have hz1 := L (Str.empty ++ Str.ofString "two bodies are over one another: ") x (by omega) hx
    have hz2 := L (Str.empty ++ Str.ofString "two bodies are over one another: " ++ x) (Str.ofString ", ") (by omega) hc
    have hz3 := L (Str.empty ++ Str.ofString "two bodies are over one another: " ++ x ++ Str.ofString ", ") y (by omega) hy
    refine ⟨_, rfl, Nat.le_trans hz0 (Nat.le_trans (by decide) big), ?_⟩
    refine ⟨.str x, rfl, .inl ⟨x, rfl, Nat.le_trans hx (Nat.le_trans (by decide) big), x, rfl, by omega, ?_⟩⟩
    refine ⟨_, rfl, by omega, ?_⟩
    refine ⟨.str y, rfl, .inl ⟨y, rfl, Nat.le_trans hy (Nat.le_trans (by decide) big), y, rfl, by omega, ?_⟩⟩
    refine ⟨show 1 ≤ 1000 by decide, ha, ?_⟩
    refine ⟨.str x, rfl, .ref a, rfl, a, A.c_Over, rfl, Sx.O_Over (P := P) (K := K) (A := A), Sx.n_Over_one (P := P) (K := K) (A := A), .inl ⟨ha, fun dx h1 h2 => ?_⟩⟩
    refine ⟨.str y, rfl, .ref a, rfl, a, A.c_Over, rfl, Sx.O_Over (P := P) (K := K) (A := A), Sx.n_Over_other (P := P) (K := K) (A := A), .inr ⟨dx, [("one", .str x)], upd_same, by rw [upd_ne h2, upd_same], show 1 ≤ 900 by decide, ?_⟩⟩
    exact hq dx _ h1 h2 (by rw [upd_ne (Ne.symm h2), upd_same]) (by rw [upd_same]; rfl) fun b b1 b2 => by rw [upd_ne b2, upd_ne b1, upd_ne b2]
end
/-! ### dict comprehensions, places of dicts, comprehensions of two fors -/
/-! a list some times over; truths that are the same -/
/-! ### a built list is lengthened in its place (found += ..) -/
section
variable {K : PySem.W.Frag} {ow : List Nat} {Wx : WX}
noncomputable def tExt (i : Nat) (te : TE) : TS := tAug i te rExt2
theorem k_ext {X : Cx} {st : Stmt} {i : Nat} {te : TE} (h : PS X st (tAug i te rExt2)) : PS X st (tExt i te) := h
theorem ip_ext {X : Cx} : PIp X .Add rExt2 := iop_ext
noncomputable def aExt (ow : List Nat) (i : Nat) (f : AE) : AS := fun E ρ n => match eGet ρ i, ow.contains i with
  | some (.lst ds), true => f (wipeA ρ ow) n fun e n1 => (match e with
    | .lst es => ds.length + es.length ≤ 1000000 ∧ E.nx (eSet ρ i (some (.lst (ds ++ es)))) n1
    | _ => False)
  | _, _ => False
theorem set_same {σ : L2.St} {i : Nat} {v : Option V} (h : σ[i]? = some v) : σ.set i v = σ := by
  refine List.ext_getElem? fun j => ?_
  by_cases e : i = j
  · subst e
    rw [List.getElem?_set_self (List.getElem?_eq_some_iff.mp h).1, h]
  · rw [List.getElem?_set_ne e]
instance {i : Nat} {te : TE} {f : AE} [DE K te f] : DS K Wx ow (tExt i te) (aExt ow i f) := ⟨fun W U σ ρ n H E Ea hD s h => by
  unfold aExt at h
  split at h
  · rename_i ds he hc
    have hi := List.contains_iff_mem.mp hc
    obtain ⟨u, hu, e1, a0⟩ := s.own i _ hi he
    refine ⟨_, e1, DE.run (te := te) (f := f) (W.plus U) σ _ n H _ _ (fun e n1 h1 H1 y l1 o1 ay => ?_) s.hid s.ok h⟩
    have s2 := s.le l1 o1
    obtain ⟨u', hu', e1', a⟩ := s2.own i _ hi he
    have eu : u.1 = u'.1 := by
      rw [e1] at e1'
      exact V.ref.inj (Option.some.inj (Option.some.inj e1'))
    have hp1 := (s2.ok.owns _ (List.mem_append_left _ hu')).1
    obtain ⟨p, ob⟩ := u'
    have eu' : u.1 = p := eu
    split at h1
    · rename_i es
      cases a with
      | lst a =>
        rename_i us
        cases ay with
        | @lst b zs _ r' s3 a' =>
          obtain ⟨st, s4⟩ := s2.put hi (by rw [he]; exact fun z => nomatch z) e1' hu' ⟨_, rfl⟩ (ob' := .lst (us ++ zs)) trivial (.lst (a.append a'))
          refine ⟨p, b, us, zs, by rw [eu'], rfl, hp1, s3, ?_, ?_⟩
          · rw [a.length, a'.length]
            exact Nat.le_trans h1.1 lim
          · show E.nx (σ.set i (some (.ref p))) _
            rw [show σ.set i (some (.ref p)) = σ from set_same e1']
            exact hD.nx _ _ h1.2 _ _ _ ((Stp.hid l1).trans st) s4
    · exact h1.elim
  · exact h.elim⟩
end
/-! ### found += f(..), where f may raise -/
section
variable {K : PySem.W.Frag} {ow : List Nat} {Wx : WX}
noncomputable def aExtX (ow : List Nat) (i k : Nat) (B : ASX) (g : AA) : AS := fun E ρ n => match eGet ρ i, ow.contains i with
  | some (.lst ds), true => g (wipeA ρ ow) n fun as n1 => match Nat.beq as.length k with
    | true => B as n1 (fun e n2 => match e with
      | .lst es => ds.length + es.length ≤ 1000000 ∧ E.nx (eSet ρ i (some (.lst (ds ++ es)))) n2
      | _ => False) (E.ex ρ)
    | false => False
  | _, _ => False
instance (priority := 1200) {i k : Nat} {B : ASX} {ta : TA} {g : AA} [DA K ta g] : DS K Wx ow (tExt i (tCallE K k B Wx ta)) (aExtX ow i k B g) := ⟨fun W U σ ρ n H E Ea hD s h => by
  unfold aExtX at h
  split at h
  · rename_i ds he hc
    have hi := List.contains_iff_mem.mp hc
    obtain ⟨u, hu, e1, a0⟩ := s.own i _ hi he
    refine ⟨_, e1, callE_run (g := g) (W := W.plus U) (Qa := fun e n2 => match e with
      | .lst es => ds.length + es.length ≤ 1000000 ∧ Ea.nx (eSet ρ i (some (.lst (ds ++ es)))) n2
      | _ => False) (fun e n1 h1 H1 y l1 o1 ay => ?_) (wants_ex hD s) s.hid s.ok h⟩
    have s2 := s.le l1 o1
    obtain ⟨u', hu', e1', a⟩ := s2.own i _ hi he
    have eu : u.1 = u'.1 := by
      rw [e1] at e1'
      exact V.ref.inj (Option.some.inj (Option.some.inj e1'))
    have hp1 := (s2.ok.owns _ (List.mem_append_left _ hu')).1
    obtain ⟨p, ob⟩ := u'
    have eu' : u.1 = p := eu
    dsimp only at h1
    split at h1
    · rename_i es
      cases a with
      | lst a =>
        rename_i us
        cases ay with
        | @lst b zs _ r' s3 a' =>
          obtain ⟨st, s4⟩ := s2.put hi (by rw [he]; exact fun z => nomatch z) e1' hu' ⟨_, rfl⟩ (ob' := .lst (us ++ zs)) trivial (.lst (a.append a'))
          refine ⟨p, b, us, zs, by rw [eu'], rfl, hp1, s3, ?_, ?_⟩
          · rw [a.length, a'.length]
            exact Nat.le_trans h1.1 lim
          · show E.nx (σ.set i (some (.ref p))) _
            rw [show σ.set i (some (.ref p)) = σ from set_same e1']
            exact hD.nx _ _ h1.2 _ _ _ ((Stp.hid l1).trans st) s4
    · exact h1.elim
  · exact h.elim⟩
end
/-! ### zip of a tuple and a list, slices of any tuple -/
section
variable {K : PySem.W.Frag}
noncomputable def rSlW (K : PySem.W.Frag) : V → Option Int → Option Int → Hp → VK → Prop := L2.rSlA K
theorem k_slW {X : Cx} (hK : X.K = K) : SlR X (rSlW K) := hK ▸ sl_tupA
noncomputable def aCutW (d : D) (l u : Option Int) (n : Nat) (Q : D → Nat → Prop) : Prop := match d with
  | .tup ds => Q (.tup (cutL ds l u)) n
  | _ => False
noncomputable def aSlW (fa : AE) (fl fu : Env' → Nat → (Option Int → Nat → Prop) → Prop) : AE := fun ρ n Q => fa ρ n fun d n1 => fl ρ n1 fun l n2 => fu ρ n2 fun u n3 => aCutW d l u n3 Q
theorem cutL_whole {ds : List D} {l u : Option Int} (h : HT.sIx ds.length 0 l = 0 ∧ HT.sIx ds.length ds.length u = ds.length) : cutL ds l u = ds := by
  unfold cutL
  rw [h.1, h.2]
  simp
instance {te : TE} {tl tu : TO} {fa : AE} {fl fu : Env' → Nat → (Option Int → Nat → Prop) → Prop} [DE K te fa] [DO K tl fl] [DO K tu fu] : DE K (tSl (rSlW K) te tl tu) (aSlW fa fl fu) := ⟨fun W σ ρ n H Q Qa hQ hE o h =>
  DE.run (te := te) (f := fa) W σ ρ n H _ _ (fun d n1 h1 H1 x l1 o1 ax => DO.run (te := tl) (f := fl) W σ ρ n1 H1 _ _ (fun l n2 h2 H2 l2 o2 => DO.run (te := tu) (f := fu) W σ ρ n2 H2 _ _ (fun u n3 h3 H3 l3 o3 => by
    have hQ3 := hQ.le (l1.trans (l2.trans l3))
    unfold aCutW at h3
    split at h3
    · cases At.le o1 (l2.trans l3) _ ax with
      | tup s a =>
        refine ⟨_, _, rfl, s, fun hw => ?_, fun _ p hp => hQ3.new o3 h3 hp ?_⟩
        · rw [a.length] at hw
          rw [cutL_whole hw] at h3
          exact hQ3.now o3 h3 (.tup s a)
        · refine .tup (.inl (.inl upd_same)) ?_
          unfold cutV cutL
          rw [a.length]
          exact take_at _ (drop_at _ (AtAll.le o3 (Wd.le_same (same_upd hp)) _ a))
    · exact h3.elim) (hE.le o (l1.trans l2)) o2 h2) (hE.le o l1) o1 h1) hE o h⟩
end
/-! ### zip of a list and a tuple -/
/-! ### a text is no dict -/
/-! ### things of any kind against texts: a dict is no text -/
section
variable {K : PySem.W.Frag}
/-- what may stand beside a text -/
noncomputable def Cmp (d : D) : Prop := (∃ ks ds, d = .dic ks ds) ∨ (d.isD = true ∧ SeqAt.shaped d.pd = true)
end
/-! ### sorted texts, a new dict -/
/-! ### a tuple twice over -/
section
variable {K : PySem.W.Frag}
noncomputable def rCatAK (K : PySem.W.Frag) : R2 := rCatA K
theorem k_catA {X : Cx} (hK : X.K = K) : OpR X (binaryOp .Add) (rCatAK K) := hK ▸ op_catA
noncomputable def aCatA : D → D → Nat → (D → Nat → Prop) → Prop
  | .tup ds, .tup es, n, Q => ds.length + es.length ≤ 1000000 ∧ Q (.tup (ds ++ es)) n
  | _, _, _, _ => False
instance : D2 K (rCatAK K) aCatA := ⟨fun W n H x y d e Q Qa hQ o ax ay h => by
  unfold aCatA at h
  split at h
  · obtain ⟨h1, h2⟩ := h
    cases ax with
    | tup s a =>
      cases ay with
      | tup s' a' =>
        refine ⟨_, _, _, _, rfl, rfl, s, s', by rw [a.length, a'.length]; exact Nat.le_trans h1 lim, fun z => ?_, fun _ z => ?_, fun _ _ p hp => hQ.new o h2 hp ?_⟩
        · subst z
          cases a
          exact hQ.now o h2 (.tup s' a')
        · subst z
          cases a'
          rw [List.append_nil] at h2
          exact hQ.now o h2 (.tup s a)
        · exact .tup (.inl (.inl upd_same)) ((AtAll.le o (Wd.le_same (same_upd hp)) _ a).append (AtAll.le o (Wd.le_same (same_upd hp)) _ a'))
  · exact h.elim⟩
end
section
variable {P : Program} {w : World} {K : PySem.W.Frag} {mg : Str → Option Value} {base : Heap} {A : Ad}
/-! CUT -/
/-! ### the deck in the mirror -/
noncomputable def a_l_take : ASp := fun ds n Q => ∃ m : Int, ds = [.deck, .int m] ∧ 0 < m ∧ m.natAbs.log2 < 9000 ∧ 1 ≤ n ∧ ∀ r, 0 ≤ r → r < m → Q (.int r) (n - 1)
theorem ok_l_take (T : Tx K mg A) : FnOk P w K mg base CX0 3 A.f_l_take A.fd_l_take ["_law_deck", "_law_many"] (spOf K 2 a_l_take) := (ok0_l_take T).imp fun vs H Q E h => by
  obtain ⟨W, n, ds, Qa, a, hl, o, hQ, m, rfl, hm, hlog, hn, q⟩ := h
  cases a with
  | cons a r =>
    cases r with
    | cons b r =>
      cases r
      cases b
      cases a with
      | @deck d b e =>
        obtain ⟨c, D, lc⟩ := o.deck d b e
        refine ⟨d, b, c, m, rfl, D, by omega, hm, hlog, fun H' r D' kp h0 h1 => hQ _ _ (q r h0 h1) H' _ (fun x ob nr hx => kp x ob (fun z => nr (.inl ⟨d, b, e, .inl z⟩)) (fun z => nr (.inl ⟨d, b, e, .inr z⟩)) hx) ⟨fun d' b' e' => ?_, fun p hp => ?_, o.dis⟩ (.int r)⟩
        · rw [e] at e'
          cases e'
          exact ⟨c + 1, D', by omega⟩
        · obtain ⟨h1, h2⟩ := o.owns p hp
          obtain ⟨n1, n2⟩ := o.dis d b e p hp
          exact ⟨kp _ _ n1 n2 h1, h2⟩
/-! ### the law's own def -/
noncomputable def sp_law (K : PySem.W.Frag) : Sp := fun vs H Q _ => ∃ (a : Addr) (ns : List Int), vs = [.ref a] ∧ Only H ∧ SqL K H a (ns.map V.int) ∧ ns.length ≤ 63 ∧ ∀ H', Q (.bl true) H'
theorem law_start {W : Wd} {ow : List Nat} {n : Nat} {H : Hp} {N : List Str} {k i : Nat} {a d b : Addr} (hk : N.length = k) (h0 : 0 < k) (hi : i ∉ ow) (hd : W.dk = some (d, b)) (o : W.ok K n H) : SOk K W ow n H ((L2.start N [.ref a]).set i (some (.ref d))) (eSet (startA k []) i (some .deck)) [] := by
  have hg : ∀ j e, eGet (eSet (startA k []) i (some .deck)) j = some e → i = j ∧ e = .deck ∧ i < k := fun j e he => by
    by_cases hij : i = j
    · subst hij
      obtain ⟨h1, h2⟩ := eGet_set he
      rw [startA_length] at h1
      exact ⟨rfl, (Option.some.inj h2).symm, h1⟩
    · rw [eGet_ne hij] at he
      exact (startA_none he).elim
  have hlen : (L2.start N [V.ref a]).length = k := by
    unfold L2.start
    rw [List.length_append, List.length_map, List.length_replicate]
    show 1 + (N.length - 1) = k
    omega
  refine ⟨List.nodup_nil, fun u hu => (by cases hu), o, by rw [List.length_set, eSet_length, startA_length, hlen], fun j e _ he => ?_, fun j e hj he => ?_, fun j m p hj hm _ _ _ => .inl ?_⟩
  · obtain ⟨rfl, rfl, hlt⟩ := hg j e he
    exact ⟨_, List.getElem?_set_self (by rw [hlen]; exact hlt), .deck hd⟩
  · obtain ⟨rfl, _⟩ := hg j e he
    exact absurd hj hi
  · cases e : eGet (eSet (startA k []) i (some .deck)) j with
    | none => rfl
    | some e' =>
      obtain ⟨rfl, _⟩ := hg j e' e
      exact absurd hj hi
theorem law_mir {P : Program} {w : World} {mg : Str → Option Value} {base : Heap} {x qual : Str} {st : Stmt} {f : Addr} {fd : FuncData} {N : List Str} {k : Nat} (ow : List Nat) (kk i : Nat) (hk : N.length = kk) (h0 : 0 < kk) (hi : i ∉ ow) (F : Fun K x qual st f fd) (S : FnScope N ["_law_script"] (defScope st))
    (hbody : ∀ (cdv : Value) (Ar : Around) (outer : List Env) (s : Shared) (H : Hp) (E : XK), Room k (Ar.deeper (envOfC qual (defScope st) s.heap.objs.size f cdv)) →
      ∃ (t : TS) (fa : AS), PSs (cxOf CX0 P w K mg base N qual (defScope st) f cdv Ar outer s H E).nox (defBody st) (tSeq (tAsg (tCall (sp_l_deck K) [] E0 (tCons (tVar 0) tNil)) (gName i)) t) ∧ DS K W0 ow t fa ∧ fa (aTop fun d _ => d = .bl true) (eSet (startA kk []) i (some .deck)) 900000) : FnOk P w K mg base CX0 (k + 1) f fd ["_law_script"] (sp_law K) := by
  refine F.ok S (fun vs H Q E h => ?_) (fun cdv Ar outer s H vs Q E hr h => ?_)
  · obtain ⟨a, ns, rfl, _⟩ := h
    rfl
  · obtain ⟨a, ns, rfl, hO, hS, hn, q⟩ := h
    obtain ⟨t, fa, h1, h2, h3⟩ := hbody cdv Ar outer s H E hr
    refine ⟨_, h1, ?_⟩
    refine ⟨.ref a, rfl, a, ns, rfl, Sc.mk hO hS, hn, fun H' d b hd hb D sm => ?_⟩
    refine DS.run (K := K) (Wx := W0) (ow := ow) (t := t) (f := fa) ⟨some (d, b), []⟩ [] _ _ 900000 H' _ (aTop fun d _ => d = .bl true) ⟨fun ρ' n' z => (by cases z), fun d' n' z U1 H1 H2 v _ _ _ a' => ?_, fun _ _ q => q.elim, fun _ _ q => q.elim, fun _ _ _ _ _ q => q.elim⟩ (law_start hk h0 hi rfl ⟨fun d' b' e' => ?_, fun p hp => (by cases hp), fun _ _ _ p hp => (by cases hp)⟩) h3
    · subst z
      cases a'
      exact q _
    · cases e'
      exact ⟨0, D, by omega⟩
/-! ### shares in the mirror -/
noncomputable def sh (q : Rat) : D := .tup [.int q.num, .int (q.den : Int)]
theorem sh_of {t u a b : Int} (h : IsSh t u) (hb : b ≠ 0) (c : t * b = u * a) : D.tup [.int t, .int u] = sh (Rat.divInt a b) := by
  obtain ⟨h1, h2⟩ := rep_divInt h hb c
  rw [h1, h2]
  rfl
theorem mulA {n m : Nat} {x y : Int} (h : Bd n x) (g : Bd m y) (hn : n ≤ 400000) (hm : m ≤ 400000) : CMulA x y := .inr (h.mulW g hn hm)
theorem divA {n : Nat} {x y : Int} (h : Bd n y) (h0 : 0 < y) (hn : n < 9000) : CDivA x y := .inr (h.divW h0 hn)
theorem dIte {p : Prop} [Decidable p] {a b : Prop} (h : p → a) (g : ¬ p → b) : aIte (decide p) a b := ⟨fun e => h (of_decide_eq_true e), fun e => g (of_decide_eq_false e)⟩
/-! ### bounds of a fraction's two numbers, each by itself -/
noncomputable def Bq (n d : Nat) (q : Rat) : Prop := Bd n q.num ∧ Bd d (q.den : Int)
theorem BdQ.q {n : Nat} {q : Rat} (h : BdQ n q) : Bq n n q := h
theorem Bq.le {n d m e : Nat} {q : Rat} (h : Bq n d q) (l : n ≤ m) (k : d ≤ e) : Bq m e q := ⟨h.1.le l, h.2.le k⟩
theorem divInt_bq {a b : Int} {n d : Nat} (hb : 0 < b) (ha : Bd n a) (hn : Bd d b) : Bq n d (Rat.divInt a b) := by
  have h := low_bd (isSh_q (Rat.divInt a b)) hb (by rw [← divInt_cross (by omega), Int.mul_comm])
  exact ⟨ha.of_le h.1, hn.of_le h.2⟩
theorem Bq.add {n d m e s : Nat} {p q : Rat} (h : Bq n d p) (g : Bq m e q) (h1 : n + e ≤ s) (h2 : m + d ≤ s) : Bq (s + 1) (d + e) (p + q) := by
  rw [add_divInt]
  exact divInt_bq (Int.mul_pos (den_pos p) (den_pos q)) (((h.1.mul g.2).le h1).add ((g.1.mul h.2).le h2)) (h.2.mul g.2)
theorem Bq.mul {n d m e : Nat} {p q : Rat} (h : Bq n d p) (g : Bq m e q) : Bq (n + m) (d + e) (p * q) := by
  rw [mul_divInt]
  exact divInt_bq (Int.mul_pos (den_pos p) (den_pos q)) (h.1.mul g.1) (h.2.mul g.2)
theorem Bq.neg {n d : Nat} {q : Rat} (h : Bq n d q) : Bq n d (-q) := by
  refine ⟨?_, h.2⟩
  rw [Rat.neg_num]
  exact h.1.neg
theorem Bq.sub {n d m e s : Nat} {p q : Rat} (h : Bq n d p) (g : Bq m e q) (h1 : n + e ≤ s) (h2 : m + d ≤ s) : Bq (s + 1) (d + e) (p - q) := by
  rw [Rat.sub_eq_add_neg]
  exact h.add g.neg h1 h2
noncomputable def a_gcd : ASp := fun ds n Q => ∃ a b : Int, ds = [.int a, .int b] ∧ Q (.int (gcdI a b)) n
/-! ### common divisors of numbers of any length -/
noncomputable def rSrtI (K : PySem.W.Frag) : List V → Hp → VK → Prop := rSorted K
theorem k_sortI {X : Cx} (hK : X.K = K) : CallR X (.builtin "sorted") (rSrtI K) := hK ▸ cr_sorted
noncomputable def aSrtI : List D → Nat → (D → Nat → Prop) → Prop := fun ds n Q => ∃ ns : List Int, ds = [.lst (ns.map D.int)] ∧ ns.length < 64 ∧ ∀ ys : List Int, ys.Perm ns → ys.Pairwise (· ≤ ·) → Q (.lst (ys.map D.int)) n
instance : DL K (rSrtI K) aSrtI := ⟨fun W n H xs ds Q Qa hQ o a h => by
  obtain ⟨zs, rfl, hl, h⟩ := h
  cases a with
  | cons a r =>
    cases r
    cases a with
    | @lst l us _ nr s a =>
      obtain rfl := ints_at a
      exact ⟨l, zs, rfl, SqL.of s, hl, fun ys p hp hs hn => hQ.new o (h ys hp hs) hn (.lst (o.fresh hn) upd_same (at_ints ys))⟩⟩
/-! ### long numbers: what a run of divided keeps -/
structure LI (x0 y0 x y a b c d e p q r t : Int) : Prop where
  ee : e = 1 ∨ e = -1
  ha : a = e * p
  hb : b = -(e * q)
  hc : c = -(e * r)
  hd : d = e * t
  p0 : 0 ≤ p
  q0 : 0 ≤ q
  r0 : 0 ≤ r
  t1 : 1 ≤ t
  hx : x0 = t * x + q * y
  hy : y0 = r * x + p * y
  det : p * t - q * r = e
  y0' : 0 ≤ y
  yx : y ≤ x
  fst : (p = 1 ∧ q = 0 ∧ r = 0 ∧ t = 1) ∨ (1 ≤ q ∧ q ≤ t ∧ 1 ≤ r ∧ r ≤ t ∧ p ≤ q ∧ y < x ∧ 1152921504606846976 ≤ x ∧ (1 ≤ p ∨ (r = 1 ∧ e = -1)))
theorem LI.start {x0 y0 : Int} (h : 0 ≤ y0) (h2 : y0 ≤ x0) : LI x0 y0 x0 y0 1 0 0 1 1 1 0 0 1 :=
  ⟨.inl rfl, rfl, rfl, rfl, rfl, by decide, by decide, by decide, by decide, by omega, by omega, rfl, h, h2, .inl ⟨rfl, rfl, rfl, rfl⟩⟩
theorem LI.step {x0 y0 x y a b c d e p q r t : Int} (h : LI x0 y0 x y a b c d e p q r t) (hy : 1152921504606846976 ≤ y) :
    LI x0 y0 y (x - x / y * y) c d (a - x / y * c) (b - x / y * d) (-e) r t (p + x / y * r) (q + x / y * t) ∧ x - x / y * y < y := by
  obtain ⟨ee, ha, hb, hc, hd, p0, q0, r0, t1, hx, hY, det, y0', yx, fst⟩ := h
  have hm : 1 ≤ x / y := Int.le_ediv_of_mul_le (by omega) (by omega)
  have hr0 : 0 ≤ x - x / y * y := by
    have := Int.mul_ediv_self_le (x := x) (k := y) (by omega)
    rw [Int.mul_comm] at this
    omega
  have hr1 : x - x / y * y < y := by
    have h1 := Int.lt_mul_ediv_self_add (x := x) (k := y) (by omega)
    rw [Int.mul_comm] at h1
    omega
  obtain ⟨m, hme⟩ : ∃ m, x / y = m := ⟨_, rfl⟩
  rw [hme] at hm hr0 hr1 ⊢
  have mt : t ≤ m * t := by
    have := Int.mul_le_mul_of_nonneg_right hm (show 0 ≤ t by omega)
    omega
  have mr : r ≤ m * r := by
    have := Int.mul_le_mul_of_nonneg_right hm r0
    omega
  refine ⟨⟨by omega, by grind, by grind, by grind, by grind, r0, by omega, by omega, by omega, by grind, by grind, by grind, hr0, by omega, .inr ?_⟩, hr1⟩
  rcases fst with ⟨rfl, rfl, rfl, rfl⟩ | ⟨f1, f2, f3, f4, f5, f6, f7, f8⟩
  · exact ⟨t1, by omega, by omega, by omega, by omega, hr1, hy, .inr ⟨by omega, by omega⟩⟩
  · have h3 : m * r ≤ m * t := Int.mul_le_mul_of_nonneg_left f4 (by omega)
    exact ⟨t1, by omega, by omega, by omega, f4, hr1, hy, .inl f3⟩
/-- what the two new numbers are worth -/
theorem LI.worth {x0 y0 x y a b c d e p q r t S u v e1 e2 : Int} (h : LI x0 y0 x y a b c d e p q r t) (hu : u = S * x0 + e1) (hv : v = S * y0 + e2) :
    a * u + b * v = S * x + e * (p * e1 - q * e2) ∧ c * u + d * v = S * y + e * (t * e2 - r * e1) := by
  obtain ⟨ee, ha, hb, hc, hd, p0, q0, r0, t1, hx, hY, det, y0', yx, fst⟩ := h
  clear fst yx y0' t1 r0 q0 p0
  subst hu hv ha hb hc hd hx hY
  have d1 : p * t = e + q * r := by omega
  have hee : e * e = 1 := by rcases ee with rfl | rfl <;> rfl
  constructor
  · have : e * p * (S * (t * x + q * y) + e1) + -(e * q) * (S * (r * x + p * y) + e2) = e * (S * x) * (p * t - q * r) + e * (p * e1 - q * e2) := by grind
    rw [this, det]
    have : e * (S * x) * e = (e * e) * (S * x) := by grind
    rw [this, hee, Int.one_mul]
  · have : -(e * r) * (S * (t * x + q * y) + e1) + e * t * (S * (r * x + p * y) + e2) = e * (S * y) * (p * t - q * r) + e * (t * e2 - r * e1) := by grind
    rw [this, det]
    have : e * (S * y) * e = (e * e) * (S * y) := by grind
    rw [this, hee, Int.one_mul]
/-- the numbers become less -/
theorem sgn_in {e A L : Int} (he : e = 1 ∨ e = -1) (h1 : -L ≤ A) (h2 : A ≤ L) : -L ≤ e * A ∧ e * A ≤ L := by
  rcases he with rfl | rfl
  · rw [Int.one_mul]
    exact ⟨h1, h2⟩
  · rw [Int.neg_mul, Int.one_mul]
    exact ⟨Int.neg_le_neg h2, Int.neg_le_of_neg_le h1⟩
theorem sub_in {A B L : Int} (a0 : 0 ≤ A) (a1 : A ≤ L) (b0 : 0 ≤ B) (b1 : B ≤ L) : -L ≤ A - B ∧ A - B ≤ L := ⟨by omega, by omega⟩
theorem absA {Y G L X v : Int} (Y0 : 0 ≤ Y) (g1 : -L ≤ G) (g2 : G ≤ L) (hL : L < X) (hv : Y + X ≤ v) : (Y + G).natAbs < v.natAbs := by omega
theorem absB {Y T E L X v : Int} (Y0 : 0 ≤ Y) (E0 : 0 ≤ E) (T0 : 0 ≤ T) (g2 : T ≤ L) (hL : L < X) (hY : Y + E < X) (hv : X ≤ v) : (Y + -1 * (T - 1 * E)).natAbs < v.natAbs := by omega
theorem absC {Y G L v : Int} (Y0 : 0 ≤ Y) (g1 : -L ≤ G) (g2 : G ≤ L) (hL : L < Y) (hv : Y ≤ v) : (Y + G).natAbs ≤ 2 * v.natAbs := by omega
theorem LI.less {x0 y0 x y a b c d e p q r t S u v e1 e2 : Int} (h : LI x0 y0 x y a b c d e p q r t) (hu : u = S * x0 + e1) (hv : v = S * y0 + e2)
    (S0 : 0 < S) (l1 : 0 ≤ e1) (u1 : e1 < S) (l2 : 0 ≤ e2) (u2 : e2 < S) (hb : b ≠ 0) (hx0 : x0 < 1329227995784915872903807060280344576) (hy : y < 1152921504606846976) :
    (c * u + d * v).natAbs < v.natAbs ∧ (a * u + b * v).natAbs ≤ 2 * v.natAbs := by
  obtain ⟨w1, w2⟩ := h.worth hu hv
  rw [w1, w2]
  clear w1 w2 hu
  have hb' := h.hb
  have y0' := h.y0'
  have r0 := h.r0
  rcases h.fst with ⟨_, rfl, _, _⟩ | ⟨f1, f2, f3, f4, f5, f6, f7, f8⟩
  · exact absurd (by rw [hb', Int.mul_zero, Int.neg_zero]) hb
  · clear hb' hb
    have S0' := Int.le_of_lt S0
    have S1 : 0 ≤ S - 1 := Int.sub_nonneg_of_le S0
    have t0 : 0 ≤ t := Int.le_trans (by decide) h.t1
    have xp : 0 < x := Int.lt_of_lt_of_le (by decide) f7
    have x0' := Int.le_of_lt xp
    have e1S := Int.le_sub_one_of_lt u1
    have e2S := Int.le_sub_one_of_lt u2
    have tx : t ≤ x := by
      rcases Int.lt_or_le t 1152921504606846976 with z | z
      · exact Int.le_trans (Int.le_of_lt z) f7
      · have h1 := Int.mul_le_mul z f7 (by decide) t0
        have h2 := Int.mul_nonneg h.q0 y0'
        rw [h.hx] at hx0
        exact absurd (Int.lt_of_le_of_lt (Int.le_trans h1 (Int.le_add_of_nonneg_right h2)) hx0) (Int.lt_irrefl _)
    have y0x : x ≤ y0 := by
      have h1 := Int.mul_le_mul_of_nonneg_right f3 x0'
      rw [Int.one_mul] at h1
      rw [h.hy]
      exact Int.le_trans h1 (Int.le_add_of_nonneg_right (Int.mul_nonneg h.p0 y0'))
    have Sx : S * x ≤ v := by
      rw [hv]
      exact Int.le_trans (Int.mul_le_mul_of_nonneg_left y0x S0') (Int.le_add_of_nonneg_right l2)
    have tS : t * (S - 1) < S * x := by
      have h1 := Int.mul_le_mul_of_nonneg_right tx S1
      rw [Int.mul_sub x, Int.mul_one, Int.mul_comm x] at h1
      exact Int.lt_of_le_of_lt h1 (Int.sub_lt_self _ xp)
    have Sy0 : 0 ≤ S * y := Int.mul_nonneg S0' y0'
    have te0 := Int.mul_nonneg t0 l2
    have te := Int.mul_le_mul_of_nonneg_left e2S t0
    refine ⟨?_, ?_⟩
    · rcases f8 with f8 | ⟨f8, f9⟩
      · obtain ⟨g1, g2⟩ := sub_in te0 te (Int.mul_nonneg r0 l1) (Int.le_trans (Int.mul_le_mul_of_nonneg_left e1S r0) (Int.mul_le_mul_of_nonneg_right f4 S1))
        obtain ⟨g1, g2⟩ := sgn_in h.ee g1 g2
        refine absA Sy0 g1 g2 tS ?_
        have h1 := Int.mul_le_mul_of_nonneg_right f3 x0'
        have h2 := Int.mul_le_mul_of_nonneg_right f8 y0'
        rw [Int.one_mul] at h1 h2
        have h3 := Int.mul_le_mul_of_nonneg_left (Int.add_le_add h1 h2) S0'
        rw [← h.hy, Int.mul_add, Int.add_comm] at h3
        rw [hv]
        exact Int.le_trans h3 (Int.le_add_of_nonneg_right l2)
      · subst f8 f9
        refine absB Sy0 l1 te0 te tS ?_ Sx
        have h1 := Int.mul_le_mul_of_nonneg_left (Int.add_one_le_of_lt f6) S0'
        rw [Int.mul_add, Int.mul_one] at h1
        exact Int.lt_of_lt_of_le (Int.add_lt_add_left u1 _) h1
    · obtain ⟨g1, g2⟩ := sub_in (Int.mul_nonneg h.p0 l1) (Int.le_trans (Int.mul_le_mul_of_nonneg_left e1S h.p0) (Int.mul_le_mul_of_nonneg_right (Int.le_trans f5 f2) S1)) (Int.mul_nonneg h.q0 l2) (Int.le_trans (Int.mul_le_mul_of_nonneg_left e2S h.q0) (Int.mul_le_mul_of_nonneg_right f2 S1))
      obtain ⟨g1, g2⟩ := sgn_in h.ee g1 g2
      exact absC (Int.mul_nonneg S0' x0') g1 g2 tS Sx
/-- the divisor stays -/
theorem gcdI_uni {a b c d u v e : Int} (h : a * d - b * c = e) (he : e = 1 ∨ e = -1) : gcdI (a * u + b * v) (c * u + d * v) = gcdI u v := by
  unfold gcdI
  congr 1
  apply Nat.dvd_antisymm
  · have h1 : ((Nat.gcd (a * u + b * v).natAbs (c * u + d * v).natAbs : Nat) : Int) ∣ a * u + b * v := Int.ofNat_dvd_left.mpr (Nat.gcd_dvd_left _ _)
    have h2 : ((Nat.gcd (a * u + b * v).natAbs (c * u + d * v).natAbs : Nat) : Int) ∣ c * u + d * v := Int.ofNat_dvd_left.mpr (Nat.gcd_dvd_right _ _)
    generalize ((Nat.gcd (a * u + b * v).natAbs (c * u + d * v).natAbs : Nat)) = g at *
    have k1 : (g : Int) ∣ u := by
      have h3 : e * u = d * (a * u + b * v) - b * (c * u + d * v) := by grind
      have h4 : (g : Int) ∣ e * u := h3 ▸ Int.dvd_sub (Int.dvd_mul_of_dvd_right h1) (Int.dvd_mul_of_dvd_right h2)
      rcases he with rfl | rfl
      · simpa using h4
      · simpa using h4
    have k2 : (g : Int) ∣ v := by
      have h3 : e * v = a * (c * u + d * v) - c * (a * u + b * v) := by grind
      have h4 : (g : Int) ∣ e * v := h3 ▸ Int.dvd_sub (Int.dvd_mul_of_dvd_right h2) (Int.dvd_mul_of_dvd_right h1)
      rcases he with rfl | rfl
      · simpa using h4
      · simpa using h4
    exact Nat.dvd_gcd (Int.ofNat_dvd_left.mp k1) (Int.ofNat_dvd_left.mp k2)
  · have h1 : ((Nat.gcd u.natAbs v.natAbs : Nat) : Int) ∣ u := Int.ofNat_dvd_left.mpr (Nat.gcd_dvd_left _ _)
    have h2 : ((Nat.gcd u.natAbs v.natAbs : Nat) : Int) ∣ v := Int.ofNat_dvd_left.mpr (Nat.gcd_dvd_right _ _)
    generalize (Nat.gcd u.natAbs v.natAbs : Nat) = g at *
    exact Nat.dvd_gcd (Int.ofNat_dvd_left.mp (Int.dvd_add (Int.dvd_mul_of_dvd_right h1) (Int.dvd_mul_of_dvd_right h2))) (Int.ofNat_dvd_left.mp (Int.dvd_add (Int.dvd_mul_of_dvd_right h1) (Int.dvd_mul_of_dvd_right h2)))
noncomputable def shiftOf (u : Int) : Nat := Builtin.Int.intBits u - 120
theorem bits_lt (u : Int) : u.natAbs < 2 ^ Builtin.Int.intBits u := by
  unfold Builtin.Int.intBits
  split
  · rename_i h
    have : u = 0 := by simpa using h
    subst this
    decide
  · exact Nat.lt_log2_self
theorem top_lt {u : Int} (h0 : 0 ≤ u) (hl : 120 ≤ Builtin.Int.intBits u) : u / 2 ^ shiftOf u < 1329227995784915872903807060280344576 := by
  have h1 := bits_lt u
  have e : Builtin.Int.intBits u = 120 + shiftOf u := by unfold shiftOf; omega
  rw [e, Nat.pow_add] at h1
  refine Int.ediv_lt_of_lt_mul (Int.pow_pos (by decide)) ?_
  have h2 : ((u.natAbs : Nat) : Int) < ((2 ^ 120 * 2 ^ shiftOf u : Nat) : Int) := Int.ofNat_lt.mpr h1
  rw [Int.natCast_mul, Int.natCast_pow, Int.natCast_pow] at h2
  have h3 : ((u.natAbs : Nat) : Int) = u := by omega
  rw [h3] at h2
  exact h2
theorem bd120 {k : Int} (h0 : 0 ≤ k) (h : k < 1329227995784915872903807060280344576) : Bd 121 k := by
  unfold Bd
  have : (2 : Nat) ^ 121 = 2658455991569831745807614120560689152 := by decide
  omega
theorem LI.small {x0 y0 x y a b c d e p q r t : Int} (h : LI x0 y0 x y a b c d e p q r t) (hx0 : x0 < 1329227995784915872903807060280344576) (h1 : 1 ≤ x) : x < 1329227995784915872903807060280344576 ∧ Bd 121 c ∧ Bd 121 d ∧ Bd 121 a ∧ Bd 121 b := by
  obtain ⟨ee, ha, hb, hc, hd, p0, q0, r0, t1, hx, hY, det, y0', yx, fst⟩ := h
  have qy : 0 ≤ q * y := Int.mul_nonneg q0 y0'
  have tx : x ≤ t * x := by
    have := Int.mul_le_mul_of_nonneg_right t1 (show 0 ≤ x by omega)
    omega
  have tx2 : t ≤ t * x := by
    have := Int.mul_le_mul_of_nonneg_left h1 (show 0 ≤ t by omega)
    omega
  have rt : r ≤ t := by
    rcases fst with ⟨rfl, rfl, rfl, rfl⟩ | ⟨f1, f2, f3, f4, _⟩ <;> omega
  have br : Bd 121 r := bd120 r0 (by omega)
  have bt : Bd 121 t := bd120 (by omega) (by omega)
  have qt : q ≤ t ∧ p ≤ t := by
    rcases fst with ⟨rfl, rfl, rfl, rfl⟩ | ⟨f1, f2, f3, f4, f5, _⟩ <;> omega
  have bq : Bd 121 q := bd120 q0 (by omega)
  have bp : Bd 121 p := bd120 p0 (by omega)
  have sgn : ∀ z : Int, Bd 121 z → Bd 121 (e * z) := fun z hz => by
    rcases ee with rfl | rfl
    · rw [Int.one_mul]
      exact hz
    · rw [Int.neg_mul, Int.one_mul]
      exact hz.neg
  refine ⟨by omega, ?_, ?_, ?_, ?_⟩
  · rw [hc]
    exact (sgn r br).neg
  · rw [hd]
    exact sgn t bt
  · rw [ha]
    exact sgn p bp
  · rw [hb]
    exact (sgn q bq).neg
theorem log2_mono {a b : Nat} (h : a ≤ b) : a.log2 ≤ b.log2 := by
  by_cases h0 : a = 0
  · subst h0
    exact Nat.zero_le _
  · rw [Nat.le_log2 (by omega)]
    exact Nat.le_trans (Nat.log2_self_le h0) h
noncomputable def a_p_divided : ASp := fun ds n Q => ∃ u v : Int, ds = [.int u, .int v] ∧ 0 ≤ v ∧ v ≤ u ∧ 120 ≤ Builtin.Int.intBits u ∧ ∀ x y a b c d e p q r t, LI (u / 2 ^ shiftOf u) (v / 2 ^ shiftOf u) x y a b c d e p q r t → y < 1152921504606846976 → Q (.tup [.int a, .int b, .int c, .int d]) n
theorem ok_p_divided (T : Tx K mg A) : FnOk P w K mg base CX0 1 A.f_p_divided A.fd_p_divided ["one", "other"] (spOf K 2 a_p_divided) := by
  refine fn_mir [] 10 rfl (by decide) (by decide) T.F_p_divided sc_p_divided fun cdv Ar outer s H E hr => ?_
  refine ⟨_, _, (pss_cons (ps_set (i := 2) sc_p_divided.nd rfl (.inl rfl) (pe_op op_sub (pe_bits (pv 0)) (pe_glob (v := .int 120) (by rfl) T.g_LEADING ⟨_, rfl⟩)))
    (pss_cons (ps_set (i := 3) sc_p_divided.nd rfl (.inl rfl) (pe_op op_shr (pv 0) (pv 2)))
    (pss_cons (ps_set (i := 4) sc_p_divided.nd rfl (.inl rfl) (pe_op op_shr (pv 1) (pv 2)))
    (pss_cons (ps_asg (pe_tup (pa_cons pe_int (pa_cons pe_int (pa_cons pe_int (pa_cons pe_int pa_nil))))) (k_gtup (K := K) (m := 4) rfl rfl (pgs_cons (pg_name (i := 5) sc_p_divided.nd rfl (.inl rfl)) (pgs_cons (pg_name (i := 6) sc_p_divided.nd rfl (.inl rfl)) (pgs_cons (pg_name (i := 7) sc_p_divided.nd rfl (.inl rfl)) (pgs_cons (pg_name (i := 8) sc_p_divided.nd rfl (.inl rfl)) pgs_nil))))))
    (pss_cons (ps_while PassesOwn.never (pt_cmpR (k_ne (K := K) rfl hr.units) (pe_op op_shr (pv 4) (pe_op k_fdiv (pe_glob (v := .int 120) (by rfl) T.g_LEADING ⟨_, rfl⟩) pe_int)) pe_int (nomark _))
      (pss_cons (ps_set (i := 9) sc_p_divided.nd rfl (.inl rfl) (pe_op k_fdiv (pv 3) (pv 4)))
    (pss_cons (ps_par (i := 3) (j := 4) (by rfl) sc_p_divided.nd rfl rfl (by decide) rfl rfl (pa_cons (pv 4) (pa_cons (pe_op op_sub (pv 3) (pe_op k_mul (pv 9) (pv 4))) pa_nil)) (by rfl))
    (pss_cons (ps_par (i := 5) (j := 7) (by rfl) sc_p_divided.nd rfl rfl (by decide) rfl rfl (pa_cons (pv 7) (pa_cons (pe_op op_sub (pv 5) (pe_op k_mul (pv 9) (pv 7))) pa_nil)) (by rfl))
    (pss_one (ps_par (i := 6) (j := 8) (by rfl) sc_p_divided.nd rfl rfl (by decide) rfl rfl (pa_cons (pv 8) (pa_cons (pe_op op_sub (pv 6) (pe_op k_mul (pv 9) (pv 8))) pa_nil)) (by rfl)))))))
    (pss_one (ps_ret (pe_tup (pa_cons (pv 5) (pa_cons (pv 6) (pa_cons (pv 7) (pa_cons (pv 8) pa_nil)))))))))))), by infer_instance, fun ds n Q hl hA => ?_⟩
  obtain ⟨u, v, rfl, v0, vu, hl, Qk⟩ := hA
  have e1 : ((Builtin.Int.intBits u : Nat) : Int) - 120 = ((shiftOf u : Nat) : Int) := by unfold shiftOf; omega
  have e2 : (((Builtin.Int.intBits u : Nat) : Int) - 120).toNat = shiftOf u := by rw [e1]; rfl
  have hs : (0 : Int) ≤ ((Builtin.Int.intBits u : Nat) : Int) - 120 := by omega
  have hS : (0 : Int) < 2 ^ shiftOf u := Int.pow_pos (by decide)
  have hx0 := top_lt (Int.le_trans v0 vu) hl
  refine ⟨hs, hs, ?_⟩
  refine ⟨fun m ρ n' => ∃ x y a b c d e p q r t y9, ρ = [some (.int u), some (.int v), some (.int (((Builtin.Int.intBits u : Nat) : Int) - 120)), some (.int x), some (.int y), some (.int a), some (.int b), some (.int c), some (.int d), y9] ∧ m = y.toNat ∧ n' = n ∧ LI (u / 2 ^ shiftOf u) (v / 2 ^ shiftOf u) x y a b c d e p q r t, ?_, ?_⟩
  · refine ⟨_, u / 2 ^ shiftOf u, v / 2 ^ shiftOf u, 1, 0, 0, 1, 1, 1, 0, 0, 1, none, ?_, rfl, rfl, LI.start (Int.ediv_nonneg v0 (by omega)) (Int.ediv_le_ediv hS vu)⟩
    rw [← e2]
    rfl
  · rintro m _ _ ⟨x, y, a, b, c, d, e, p, q, r, t, y9, rfl, rfl, rfl, hI⟩
    have e60 : (2 : Int) ^ ((120 : Int) / 2).toNat = 1152921504606846976 := by decide
    refine ⟨.inl ⟨by decide, by decide⟩, (show (0 : Int) ≤ 120 / 2 by decide), ?_⟩
    refine ⟨fun h => ?_, fun h => ?_⟩
    · have h2 : decide (y / 2 ^ ((120 : Int) / 2).toNat = 0) = false := by simpa using h
      rw [e60] at h2
      have h3 := of_decide_eq_false h2
      have hy : 1152921504606846976 ≤ y := by
        have := hI.y0'
        rcases Int.lt_or_le y 1152921504606846976 with z | z
        · exact absurd (Int.ediv_eq_zero_of_lt this z) h3
        · exact z
      obtain ⟨s1, s2⟩ := hI.step hy
      have yx := hI.yx
      obtain ⟨f1, f2, f3, _, _⟩ := hI.small hx0 (by omega)
      refine ⟨divA (n := 121) (bd120 (by omega) (by omega)) (by omega) (by decide), ?_⟩
      have bm : Bd 121 (x / y) := bd120 (Int.ediv_nonneg (by omega) (by omega)) (Int.lt_of_le_of_lt (Int.ediv_le_self _ (by omega)) f1)
      refine ⟨mulA bm (bd120 (k := y) (by omega) (by omega)) (by decide) (by decide), mulA bm f2 (by decide) (by decide), mulA bm f3 (by decide) (by decide), ?_⟩
      exact ⟨(x - x / y * y).toNat, by have := s1.y0'; omega, _, _, _, _, _, _, _, _, _, _, _, _, rfl, rfl, rfl, s1⟩
    · have h2 : decide (y / 2 ^ ((120 : Int) / 2).toNat = 0) = true := by simpa using h
      rw [e60] at h2
      have h3 := of_decide_eq_true h2
      have hy : y < 1152921504606846976 := by omega
      exact Qk _ _ _ _ _ _ _ _ _ _ _ hI hy
theorem abs_is (b : Int) : (if b < 0 then -b else b) = ((b.natAbs : Nat) : Int) := by split <;> omega
theorem gcdI_abs (a b : Int) : gcdI ((a.natAbs : Nat) : Int) ((b.natAbs : Nat) : Int) = gcdI a b := by
  unfold gcdI
  rw [Int.natAbs_natCast, Int.natAbs_natCast]
theorem gcdI_mod {a b : Int} (ha : 0 ≤ a) (hb : 0 ≤ b) : gcdI b (a % b) = gcdI a b := by
  obtain ⟨x, rfl⟩ := Int.eq_ofNat_of_zero_le ha
  obtain ⟨y, rfl⟩ := Int.eq_ofNat_of_zero_le hb
  unfold gcdI
  rw [← Int.natCast_emod, Int.natAbs_natCast, Int.natAbs_natCast, Int.natAbs_natCast, Nat.gcd_comm x y, Nat.gcd_rec y x, Nat.gcd_comm]
theorem LI.uni {x0 y0 x y a b c d e p q r t : Int} (h : LI x0 y0 x y a b c d e p q r t) : a * d - b * c = e := by
  obtain ⟨ee, ha, hb, hc, hd, p0, q0, r0, t1, hx, hY, det, y0', yx, fst⟩ := h
  rcases ee with rfl | rfl <;> subst ha hb hc hd <;> grind
theorem perm2 {a b x y : Int} (h : [a, b].Perm [x, y]) : (a = x ∧ b = y) ∨ (b = x ∧ a = y) := by
  have ha : a ∈ [x, y] := h.mem_iff.mp List.mem_cons_self
  rcases List.mem_cons.mp ha with rfl | ha
  · exact .inl ⟨rfl, List.singleton_perm_singleton.mp ((List.perm_cons a).mp h)⟩
  · obtain rfl := List.mem_singleton.mp ha
    exact .inr ⟨List.singleton_perm_singleton.mp ((List.perm_cons a).mp (h.trans (List.Perm.swap a x []))), rfl⟩
theorem lohi {lo hi v : Int} {A B : Nat} (hv : 0 < v) (hlh : lo ≤ hi) (k1 : B < v.natAbs) (k2 : A ≤ 2 * v.natAbs) (hc : (lo = (A : Int) ∧ hi = (B : Int)) ∨ (hi = (A : Int) ∧ lo = (B : Int))) : lo.toNat < v.toNat ∧ 0 ≤ lo ∧ hi.natAbs ≤ (2 * v).natAbs ∧ lo.natAbs ≤ v.natAbs := by
  rcases hc with ⟨rfl, rfl⟩ | ⟨rfl, rfl⟩
  · exact ⟨by omega, by omega, by omega, by omega⟩
  · exact ⟨by omega, by omega, by omega, by omega⟩
noncomputable def a_p_shortened : ASp := fun ds n Q => ∃ u v : Int, ds = [.int u, .int v] ∧ 0 ≤ v ∧ v ≤ u ∧ Bd 60000 u ∧ ∀ u' v' : Int, 0 ≤ v' → 0 ≤ u' → gcdI u' v' = gcdI u v → Q (.tup [.int u', .int v']) n
theorem ok_p_shortened (T : Tx K mg A) : FnOk P w K mg base CX0 2 A.f_p_shortened A.fd_p_shortened ["one", "other"] (spOf K 2 a_p_shortened) := by
  refine fn_mir [] 8 rfl (by decide) (by decide) T.F_p_shortened sc_p_shortened fun cdv Ar outer s H E hr => ?_
  refine ⟨_, _, (pss_cons (ps_while PassesOwn.never (pt_cmpR op_gt (pe_bits (pv 1)) (pe_glob (v := .int 4000) (by rfl) T.g_LENGTHY ⟨_, rfl⟩) (nomark _))
      (pss_cons (ps_asg (pe_call (ok_p_divided (P := P) (K := K) T) (hr.mono (by decide)) (by rfl) T.g_p_divided T.F_p_divided.kp T.b_p_divided .nil pass0 (pa_cons (pv 0) (pa_cons (pv 1) pa_nil))) (k_gtup (K := K) (m := 4) rfl rfl (pgs_cons (pg_name (i := 2) sc_p_shortened.nd rfl (.inl rfl)) (pgs_cons (pg_name (i := 3) sc_p_shortened.nd rfl (.inl rfl)) (pgs_cons (pg_name (i := 4) sc_p_shortened.nd rfl (.inl rfl)) (pgs_cons (pg_name (i := 5) sc_p_shortened.nd rfl (.inl rfl)) pgs_nil))))))
    (pss_one (ps_if (pt_cmpR (k_eq (K := K) rfl hr.units) (pv 3) pe_int (nomark _))
      (pss_one (ps_par (i := 0) (j := 1) (by rfl) sc_p_shortened.nd rfl rfl (by decide) rfl rfl (pa_cons (pv 1) (pa_cons (pe_op op_mod (pv 0) (pv 1)) pa_nil)) (by rfl)))
      (pss_cons (ps_asg (pe_callB (k_sortI (K := K) rfl) (by rfl) T.m_sorted (by decide +kernel) (pa_cons (pe_lst (pa_cons (pe_callB k_abs (by rfl) T.m_abs (by decide +kernel) (pa_cons (pe_op (k_add (K := K) rfl) (pe_op k_mul (pv 2) (pv 0)) (pe_op k_mul (pv 3) (pv 1))) pa_nil)) (pa_cons (pe_callB k_abs (by rfl) T.m_abs (by decide +kernel) (pa_cons (pe_op (k_add (K := K) rfl) (pe_op k_mul (pv 4) (pv 0)) (pe_op k_mul (pv 5) (pv 1))) pa_nil)) pa_nil))) pa_nil)) (k_gtup (K := K) (m := 2) rfl rfl (pgs_cons (pg_name (i := 6) sc_p_shortened.nd rfl (.inl rfl)) (pgs_cons (pg_name (i := 7) sc_p_shortened.nd rfl (.inl rfl)) pgs_nil))))
    (pss_one (ps_par (i := 0) (j := 1) (by rfl) sc_p_shortened.nd rfl rfl (by decide) rfl rfl (pa_cons (pv 7) (pa_cons (pv 6) pa_nil)) (by rfl))))))))
    (pss_one (ps_ret (pe_tup (pa_cons (pv 0) (pa_cons (pv 1) pa_nil)))))), by infer_instance, fun ds n Q hl hA => ?_⟩
  obtain ⟨u0, v0, rfl, hv0, hvu, bu, Qk⟩ := hA
  refine ⟨fun m ρ n' => ∃ u v y2 y3 y4 y5 y6 y7, ρ = [some (.int u), some (.int v), y2, y3, y4, y5, y6, y7] ∧ m = v.toNat ∧ n' = n ∧ 0 ≤ v ∧ v ≤ u ∧ Bd 60001 u ∧ Bd 60000 v ∧ gcdI u v = gcdI u0 v0, ⟨_, u0, v0, none, none, none, none, none, none, rfl, rfl, rfl, hv0, hvu, bu.le (by decide), bu.of_le (by omega), rfl⟩, ?_⟩
  rintro m _ _ ⟨u, v, y2, y3, y4, y5, y6, y7, rfl, rfl, rfl, hv, huv, bu, bv, hg⟩
  refine ⟨fun h => ?_, fun h => ?_⟩
  · have h4 : (4000 : Int) < ((Builtin.Int.intBits v : Nat) : Int) := of_decide_eq_true h
    have hbig : 120 ≤ Builtin.Int.intBits u := by
      have h5 : v.natAbs.log2 ≤ u.natAbs.log2 := log2_mono (by omega)
      unfold Builtin.Int.intBits at h4 ⊢
      split at h4
      · omega
      · rename_i z1
        have : ¬ ((u == 0) = true) := fun z2 => z1 (by
          have e1 : u = 0 := by simpa using z2
          have e2 : v = 0 := by omega
          simpa using e2)
        rw [if_neg this]
        omega
    have v1 : 0 < v := by
      rcases Int.lt_or_le 0 v with z | z
      · exact z
      · have e2 : v = 0 := by omega
        subst e2
        exact absurd h4 (by decide)
    refine ⟨u, v, rfl, hv, huv, hbig, fun x y a b c d e p q r t hI hy => ?_⟩
    have hS : (0 : Int) < 2 ^ shiftOf u := Int.pow_pos (by decide)
    have hx0 := top_lt (Int.le_trans hv huv) hbig
    refine dIte (fun hb => ?_) fun hb => ?_
    · exact ⟨v1, (u % v).toNat, by have := Int.emod_lt_of_pos u v1; have := Int.emod_nonneg u (show v ≠ 0 by omega); omega, v, u % v, _, _, _, _, _, _, rfl, rfl, rfl, Int.emod_nonneg _ (by omega), by have := Int.emod_lt_of_pos u v1; omega, bv.le (by decide), bv.of_le (by have := Int.emod_lt_of_pos u v1; have := Int.emod_nonneg u (show v ≠ 0 by omega); omega), (gcdI_mod (by omega) hv).trans hg⟩
    · have hx1 : 1 ≤ x := by
        rcases hI.fst with ⟨_, q0, _⟩ | ⟨_, _, _, _, _, _, f, _⟩
        · exact absurd (by rw [hI.hb, q0]; simp) hb
        · omega
      obtain ⟨f1, bc, bd, ba, bb⟩ := hI.small hx0 hx1
      obtain ⟨k1, k2⟩ := hI.less (u := u) (v := v) (S := 2 ^ shiftOf u) (e1 := u % 2 ^ shiftOf u) (e2 := v % 2 ^ shiftOf u) (Int.mul_ediv_add_emod u _).symm (Int.mul_ediv_add_emod v _).symm hS (Int.emod_nonneg _ (by omega)) (Int.emod_lt_of_pos _ hS) (Int.emod_nonneg _ (by omega)) (Int.emod_lt_of_pos _ hS) hb hx0 hy
      refine ⟨mulA ba bu (by decide) (by decide), mulA bb bv (by decide) (by decide), mulA bc bu (by decide) (by decide), mulA bd bv (by decide) (by decide), ?_⟩
      have gU := gcdI_uni (u := u) (v := v) hI.uni hI.ee
      refine ⟨[((a * u + b * v).natAbs : Int), ((c * u + d * v).natAbs : Int)], by rw [← abs_is, ← abs_is]; rfl, (show 2 < 64 by decide), fun ys hp ho => ?_⟩
      obtain ⟨lo, hi, rfl, hlh, hc⟩ : ∃ lo hi : Int, ys = [lo, hi] ∧ lo ≤ hi ∧ ((lo = ((a * u + b * v).natAbs : Int) ∧ hi = ((c * u + d * v).natAbs : Int)) ∨ (hi = ((a * u + b * v).natAbs : Int) ∧ lo = ((c * u + d * v).natAbs : Int))) := by
        match ys, hp, ho with
        | [], hp, _ => cases hp.length_eq
        | [_], hp, _ => cases hp.length_eq
        | [lo, hi], hp, ho =>
          refine ⟨lo, hi, rfl, by simpa using ho, ?_⟩
          exact perm2 hp
        | _ :: _ :: _ :: _, hp, _ => cases hp.length_eq
      have bv2 : Bd 60001 (2 * v) := by
        have h9 := bv.add bv
        have e9 : v + v = 2 * v := by omega
        rw [e9] at h9
        exact h9
      refine ⟨lo.toNat, ?_, hi, lo, _, _, _, _, _, _, rfl, rfl, rfl, ?_, hlh, bv2.of_le ?_, bv.of_le ?_, ?_⟩
      · exact (lohi v1 hlh k1 k2 hc).1
      · exact (lohi v1 hlh k1 k2 hc).2.1
      · exact (lohi v1 hlh k1 k2 hc).2.2.1
      · exact (lohi v1 hlh k1 k2 hc).2.2.2
      · rw [← hg, ← gU]
        rcases hc with ⟨rfl, rfl⟩ | ⟨rfl, rfl⟩
        · rw [gcdI_comm, gcdI_abs]
        · rw [gcdI_abs]
  · exact Qk u v hv (by omega) hg
noncomputable def a_p_common_divisor : ASp := fun ds n Q => ∃ a b : Int, ds = [.int a, .int b] ∧ Bd 60000 a ∧ Bd 60000 b ∧ Q (.int (gcdI a b)) n
theorem ok_p_common_divisor (T : Tx K mg A) : FnOk P w K mg base CX0 3 A.f_p_common_divisor A.fd_p_common_divisor ["one", "other"] (spOf K 2 a_p_common_divisor) := by
  refine fn_mir [] 2 rfl (by decide) (by decide) T.F_p_common_divisor sc_p_common_divisor fun cdv Ar outer s H E hr => ?_
  refine ⟨_, _, (pss_cons (ps_set (i := 0) sc_p_common_divisor.nd rfl (.inl rfl) (pe_callB k_abs (by rfl) T.m_abs (by decide +kernel) (pa_cons (pv 0) pa_nil)))
    (pss_cons (ps_set (i := 1) sc_p_common_divisor.nd rfl (.inl rfl) (pe_callB k_abs (by rfl) T.m_abs (by decide +kernel) (pa_cons (pv 1) pa_nil)))
    (pss_cons (ps_if (PW.pt (pw_and (pt_cmpR op_gt (pe_bits (pv 0)) (pe_glob (v := .int 4000) (by rfl) T.g_LENGTHY ⟨_, rfl⟩) (nomark _)) (pw_and1 (pt_cmpR op_gt (pe_bits (pv 1)) (pe_glob (v := .int 4000) (by rfl) T.g_LENGTHY ⟨_, rfl⟩) (nomark _)))))
      (pss_one (ps_asg (pe_call (ok_p_shortened (P := P) (K := K) T) (hr.mono (by decide)) (by rfl) T.g_p_shortened T.F_p_shortened.kp T.b_p_shortened .nil pass0 (pa_cons (pe_callB (k_max2 rfl) (by rfl) T.m_max (by decide +kernel) (pa_cons (pv 0) (pa_cons (pv 1) pa_nil))) (pa_cons (pe_callB (k_min2 rfl) (by rfl) T.m_min (by decide +kernel) (pa_cons (pv 0) (pa_cons (pv 1) pa_nil))) pa_nil))) (k_gtup (K := K) (m := 2) rfl rfl (pgs_cons (pg_name (i := 0) sc_p_common_divisor.nd rfl (.inl rfl)) (pgs_cons (pg_name (i := 1) sc_p_common_divisor.nd rfl (.inl rfl)) pgs_nil)))))
      pss_nil)
    (pss_cons (ps_while PassesOwn.never (pt_cmpR (k_ne (K := K) rfl hr.units) (pv 1) pe_int (nomark _))
      (pss_one (ps_par (i := 0) (j := 1) (by rfl) sc_p_common_divisor.nd rfl rfl (by decide) rfl rfl (pa_cons (pv 1) (pa_cons (pe_op op_mod (pv 0) (pv 1)) pa_nil)) (by rfl))))
    (pss_one (ps_ret (pv 0))))))), by infer_instance, fun ds n Q hl hA => ?_⟩
  obtain ⟨a, b, rfl, ba, bb, q⟩ := hA
  have fin : ∀ u v : Int, 0 ≤ u → 0 ≤ v → gcdI u v = gcdI a b → aWhile (aTest (a2 (aEq not) (aVar 1) (aC (.int 0)))) (aPar [] 0 1 (aCons (aVar 1) (aCons (a2 (aInt2 (fun _ j => 0 < j) fun i j => .int (i % j)) (aVar 0) (aVar 1)) aNil))) { nx := fun ρ n => aRet (aVar 0) (aTop Q) ρ n, rt := Q } [some (.int u), some (.int v)] n := by
    intro u v hu hv hg
    obtain ⟨x0, rfl⟩ := Int.eq_ofNat_of_zero_le hu
    obtain ⟨y0, rfl⟩ := Int.eq_ofNat_of_zero_le hv
    have hg2 : Nat.gcd x0 y0 = Nat.gcd a.natAbs b.natAbs := by
      unfold gcdI at hg
      rw [Int.natAbs_natCast, Int.natAbs_natCast] at hg
      omega
    refine ⟨fun m ρ n' => ∃ x y : Nat, ρ = [some (.int (x : Int)), some (.int (y : Int))] ∧ m = y ∧ n' = n ∧ Nat.gcd x y = Nat.gcd a.natAbs b.natAbs, ⟨_, x0, y0, rfl, rfl, rfl, hg2⟩, ?_⟩
    rintro m _ _ ⟨x, y, rfl, rfl, rfl, g⟩
    refine ⟨fun h => ?_, fun h => ?_⟩
    · have hm : m ≠ 0 := fun z => by subst z; cases h
      refine ⟨(show (0 : Int) < m by omega), x % m, Nat.mod_lt _ (by omega), m, x % m, rfl, rfl, rfl, ?_⟩
      rw [← g, Nat.gcd_comm x m, Nat.gcd_rec m x, Nat.gcd_comm]
    · have hm : m = 0 := by
        have h2 : decide ((m : Int) = 0) = true := by
          have : (!decide ((m : Int) = 0)) = false := h
          simpa using this
        have := of_decide_eq_true h2
        omega
      subst hm
      have e : (x : Int) = gcdI a b := by
        unfold gcdI
        rw [← g, Nat.gcd_zero_right]
      show Q (.int (x : Int)) _
      rw [e]
      exact q
  have na : ∀ z : Int, Bd 60000 z → Bd 60000 (if z < 0 then -z else z) := fun z hz => by
    split
    · exact hz.neg
    · exact hz
  have nn : ∀ z : Int, 0 ≤ (if z < 0 then -z else z) := fun z => by split <;> omega
  have gab : gcdI (if a < 0 then -a else a) (if b < 0 then -b else b) = gcdI a b := by rw [abs_is, abs_is, gcdI_abs]
  refine dIte (fun _ => dIte (fun e => ?_) (fun _ => ?_)) (fun _ => aF ?_)
  · obtain ⟨x, hx⟩ : ∃ x, (if a < 0 then -a else a) = x := ⟨_, rfl⟩
    obtain ⟨y, hy⟩ : ∃ y, (if b < 0 then -b else b) = y := ⟨_, rfl⟩
    have bx := na a ba
    have bY := na b bb
    have nx := nn a
    have ny := nn b
    rw [hx] at bx nx gab ⊢
    rw [hy] at bY ny gab ⊢
    have hM : 0 ≤ (if y < x then y else x) ∧ (if y < x then y else x) ≤ (if y > x then y else x) ∧ Bd 60000 (if y > x then y else x) ∧ gcdI (if y > x then y else x) (if y < x then y else x) = gcdI a b := by
      by_cases h1 : y < x
      · rw [if_pos h1, if_neg (by omega)]
        exact ⟨ny, by omega, bx, gab⟩
      · rw [if_neg h1]
        by_cases h2 : y > x
        · rw [if_pos h2]
          exact ⟨nx, by omega, bY, by rw [gcdI_comm, gab]⟩
        · rw [if_neg h2]
          have : x = y := by omega
          subst this
          exact ⟨nx, by omega, bx, gab⟩
    exact ⟨_, _, rfl, hM.1, hM.2.1, hM.2.2.1, fun u' v' h1 h2 h3 => fin u' v' h2 h1 (h3.trans hM.2.2.2)⟩
  · exact fin _ _ (nn a) (nn b) gab
  · exact fin _ _ (nn a) (nn b) gab
noncomputable def a_p_plus : ASp := fun ds n Q => ∃ (x y : Rat) (k d m e : Nat), ds = [sh x, sh y] ∧ Bq k d x ∧ Bq m e y ∧ k ≤ 25000 ∧ m ≤ 25000 ∧ d ≤ 25000 ∧ e ≤ 25000 ∧ (d ≤ 8900 ∨ e ≤ 8900) ∧ Q (sh (x + y)) n
theorem ok_p_plus (T : Tx K mg A) : FnOk P w K mg base CX0 4 A.f_p_plus A.fd_p_plus ["one", "other"] (spOf K 2 a_p_plus) := by
  refine fn_mir [] 9 rfl (by decide) (by decide) T.F_p_plus sc_p_plus fun cdv Ar outer s H E hr => ?_
  refine ⟨_, _, (pss_cons (ps_asg (pv 0) (k_gtup (K := K) (m := 2) rfl rfl (pgs_cons (pg_name (i := 2) sc_p_plus.nd rfl (.inl rfl)) (pgs_cons (pg_name (i := 3) sc_p_plus.nd rfl (.inl rfl)) pgs_nil))))
    (pss_cons (ps_asg (pv 1) (k_gtup (K := K) (m := 2) rfl rfl (pgs_cons (pg_name (i := 4) sc_p_plus.nd rfl (.inl rfl)) (pgs_cons (pg_name (i := 5) sc_p_plus.nd rfl (.inl rfl)) pgs_nil))))
    (pss_cons (ps_set (i := 6) sc_p_plus.nd rfl (.inl rfl) (pe_call (ok_p_common_divisor (P := P) (K := K) T) (hr.mono (by decide)) (by rfl) T.g_p_common_divisor T.F_p_common_divisor.kp T.b_p_common_divisor .nil pass0 (pa_cons (pv 3) (pa_cons (pv 5) pa_nil))))
    (pss_cons (ps_if (pt_cmpR (k_eq (K := K) rfl hr.units) (pv 6) pe_int (nomark _))
      (pss_one (ps_ret (pe_tup (pa_cons (pe_op (k_add (K := K) rfl) (pe_op k_mul (pv 2) (pv 5)) (pe_op k_mul (pv 4) (pv 3))) (pa_cons (pe_op k_mul (pv 3) (pv 5)) pa_nil)))))
      pss_nil)
    (pss_cons (ps_set (i := 7) sc_p_plus.nd rfl (.inl rfl) (pe_op (k_add (K := K) rfl) (pe_op k_mul (pv 2) (pe_op k_fdiv (pv 5) (pv 6))) (pe_op k_mul (pv 4) (pe_op k_fdiv (pv 3) (pv 6)))))
    (pss_cons (ps_set (i := 8) sc_p_plus.nd rfl (.inl rfl) (pe_call (ok_p_common_divisor (P := P) (K := K) T) (hr.mono (by decide)) (by rfl) T.g_p_common_divisor T.F_p_common_divisor.kp T.b_p_common_divisor .nil pass0 (pa_cons (pv 7) (pa_cons (pv 6) pa_nil))))
    (pss_one (ps_ret (pe_tup (pa_cons (pe_op k_fdiv (pv 7) (pv 8)) (pa_cons (pe_op k_mul (pe_op k_fdiv (pv 3) (pv 6)) (pe_op k_fdiv (pv 5) (pv 8))) pa_nil))))))))))), by infer_instance, fun ds n Q hl hA => ?_⟩
  obtain ⟨x, y, k, j, m, i, rfl, bx, bY, hk, hm, hj, hi, hji, q⟩ := hA
  have hx := isSh_q x
  have hy := isSh_q y
  have dx := den_pos x
  have dy := den_pos y
  refine ⟨(x.den : Int), (y.den : Int), rfl, bx.2.le (by omega), bY.2.le (by omega), ?_⟩
  refine dIte (fun e => ?_) (fun e => ?_)
  · refine ⟨mulA bx.1 bY.2 (by omega) (by omega), mulA bY.1 bx.2 (by omega) (by omega), mulA bx.2 bY.2 (by omega) (by omega), ?_⟩
    show Q (.tup [.int (x.num * y.den + y.num * x.den), .int ((x.den : Int) * y.den)]) n
    rw [sh_of (plus_one hx hy e) (by have := Int.mul_pos dx dy; omega) (Int.mul_comm _ _), ← add_divInt]
    exact q
  · obtain ⟨d, hd⟩ : ∃ d, gcdI x.den y.den = d := ⟨_, rfl⟩
    rw [hd]
    have hdb : Bd 8900 d := by
      rcases hji with z | z
      · rw [← hd, gcdI_comm]
        exact (gcdI_bd bx.2 (by omega)).le z
      · rw [← hd]
        exact (gcdI_bd bY.2 (by omega)).le z
    have hd0 : 0 < d := hd ▸ gcdI_pos (by omega)
    have db1 : Bd i (y.den / d) := bY.2.of_le (div_natAbs_le hd0 (hd ▸ gcdI_dvd_r _ _))
    have db2 : Bd j (x.den / d) := bx.2.of_le (div_natAbs_le hd0 (hd ▸ gcdI_dvd_l _ _))
    refine ⟨divA hdb hd0 (by decide), mulA bx.1 db1 (by omega) (by omega), divA hdb hd0 (by decide), mulA bY.1 db2 (by omega) (by omega), _, d, rfl, (((bx.1.mul db1).le (show k + i ≤ 50000 by omega)).add ((bY.1.mul db2).le (by omega))).le (by omega), hdb.le (by decide), ?_⟩
    obtain ⟨g, hg⟩ : ∃ g, gcdI (x.num * (y.den / d) + y.num * (x.den / d)) d = g := ⟨_, rfl⟩
    rw [hg]
    have hg0 : 0 < g := hg ▸ gcdI_pos (by omega)
    have hgb : Bd 8900 g := hg ▸ gcdI_bd hdb (by omega)
    have db3 : Bd i (y.den / g) := bY.2.of_le (div_natAbs_le hg0 (Int.dvd_trans (hg ▸ gcdI_dvd_r _ _) (hd ▸ gcdI_dvd_r _ _)))
    refine ⟨divA hgb hg0 (by decide), divA hdb hd0 (by decide), divA hgb hg0 (by decide), mulA db2 db3 (by omega) (by omega), ?_⟩
    obtain ⟨h1, h2⟩ := plus_two hx hy hd rfl hg
    show Q (.tup [.int _, .int _]) n
    rw [sh_of h1 (by have := Int.mul_pos dx dy; omega) h2, ← add_divInt]
    exact q
noncomputable def a_p_minus : ASp := fun ds n Q => ∃ (x y : Rat) (k d m e : Nat), ds = [sh x, sh y] ∧ Bq k d x ∧ Bq m e y ∧ k ≤ 25000 ∧ m ≤ 25000 ∧ d ≤ 25000 ∧ e ≤ 25000 ∧ (d ≤ 8900 ∨ e ≤ 8900) ∧ Q (sh (x - y)) n
theorem ok_p_minus (T : Tx K mg A) : FnOk P w K mg base CX0 5 A.f_p_minus A.fd_p_minus ["one", "other"] (spOf K 2 a_p_minus) := by
  refine fn_mir [] 4 rfl (by decide) (by decide) T.F_p_minus sc_p_minus fun cdv Ar outer s H E hr => ?_
  refine ⟨_, _, (pss_cons (ps_asg (pv 1) (k_gtup (K := K) (m := 2) rfl rfl (pgs_cons (pg_name (i := 2) sc_p_minus.nd rfl (.inl rfl)) (pgs_cons (pg_name (i := 3) sc_p_minus.nd rfl (.inl rfl)) pgs_nil))))
    (pss_one (ps_ret (pe_call (ok_p_plus (P := P) (K := K) T) (hr.mono (by decide)) (by rfl) T.g_p_plus T.F_p_plus.kp T.b_p_plus .nil pass0 (pa_cons (pv 0) (pa_cons (pe_tup (pa_cons (pe_un un_neg (pv 2)) (pa_cons (pv 3) pa_nil))) pa_nil)))))), by infer_instance, fun ds n Q hl hA => ?_⟩
  obtain ⟨x, y, k, j, m, i, rfl, bx, bY, hk, hm, hj, hi, hji, q⟩ := hA
  refine ⟨x, -y, k, j, m, i, rfl, bx, bY.neg, hk, hm, hj, hi, hji, ?_⟩
  rw [← Rat.sub_eq_add_neg]
  exact q
/-! ### spots in the mirror -/
noncomputable def spt (x y : Rat) : D := .tup [sh x, sh y]
theorem bdq_int {n : Nat} {p : Int} (h : Bd n p) (hn : 0 < n) : BdQ n (p : Rat) := ⟨h, Nat.one_lt_two_pow (by omega)⟩
noncomputable def a_spot2 (f : Rat → Rat → Rat) : ASp := fun ds n Q => ∃ (x y x' y' : Rat) (k d m e : Nat), ds = [spt x y, spt x' y'] ∧ Bq k d x ∧ Bq k d y ∧ Bq m e x' ∧ Bq m e y' ∧ k ≤ 25000 ∧ m ≤ 25000 ∧ d ≤ 8900 ∧ e ≤ 8900 ∧ Q (spt (f x x') (f y y')) n
noncomputable def a_p_spot_minus : ASp := a_spot2 (· - ·)
theorem ok_p_spot_minus (T : Tx K mg A) : FnOk P w K mg base CX0 6 A.f_p_spot_minus A.fd_p_spot_minus ["one", "other"] (spOf K 2 a_p_spot_minus) := by
  refine fn_mir [] 2 rfl (by decide) (by decide) T.F_p_spot_minus sc_p_spot_minus fun cdv Ar outer s H E hr => ?_
  refine ⟨_, _, (pss_one (ps_ret (pe_tup (pa_cons (pe_call (ok_p_minus (P := P) (K := K) T) (hr.mono (by decide)) (by rfl) T.g_p_minus T.F_p_minus.kp T.b_p_minus .nil pass0 (pa_cons (pe_ix (k_ix (K := K) rfl) (pv 0) pe_int (fun _ _ => rfl)) (pa_cons (pe_ix (k_ix (K := K) rfl) (pv 1) pe_int (fun _ _ => rfl)) pa_nil))) (pa_cons (pe_call (ok_p_minus (P := P) (K := K) T) (hr.mono (by decide)) (by rfl) T.g_p_minus T.F_p_minus.kp T.b_p_minus .nil pass0 (pa_cons (pe_ix (k_ix (K := K) rfl) (pv 0) pe_int (fun _ _ => rfl)) (pa_cons (pe_ix (k_ix (K := K) rfl) (pv 1) pe_int (fun _ _ => rfl)) pa_nil))) pa_nil))))), by infer_instance, fun ds n Q hl hA => ?_⟩
  obtain ⟨x, y, x', y', k, d, m, e, rfl, b1, b2, b3, b4, hk, hm, hd, he, q⟩ := hA
  exact ⟨x, x', k, d, m, e, rfl, b1, b3, hk, hm, by omega, by omega, .inl hd, y, y', k, d, m, e, rfl, b2, b4, hk, hm, by omega, by omega, .inl hd, q⟩
/-! ### the hull -/
noncomputable def leftI (a b c : Pt) : Int := (b.1 - a.1) * (c.2 - a.2) - (b.2 - a.2) * (c.1 - a.1)
noncomputable def PtB (p : Pt) : Prop := -10000000 ≤ p.1 ∧ p.1 ≤ 10000000 ∧ -10000000 ≤ p.2 ∧ p.2 ≤ 10000000
noncomputable def a_l_left : ASp := fun ds n Q => ∃ a b c : Pt, ds = [pt a, pt b, pt c] ∧ PtB a ∧ PtB b ∧ PtB c ∧ Q (.int (leftI a b c)) n
theorem ok_l_left (T : Tx K mg A) : FnOk P w K mg base CX0 1 A.f_l_left A.fd_l_left ["_law_a", "_law_b", "_law_c"] (spOf K 3 a_l_left) := by
  refine fn_mir [] 3 rfl (by decide) (by decide) T.F_l_left sc_l_left fun cdv Ar outer s H E hr => ?_
  refine ⟨_, _, (pss_one (ps_ret (pe_op op_sub (pe_op k_mul (pe_op op_sub (pe_ix (k_ix (K := K) rfl) (pv 1) pe_int (fun _ _ => rfl)) (pe_ix (k_ix (K := K) rfl) (pv 0) pe_int (fun _ _ => rfl))) (pe_op op_sub (pe_ix (k_ix (K := K) rfl) (pv 2) pe_int (fun _ _ => rfl)) (pe_ix (k_ix (K := K) rfl) (pv 0) pe_int (fun _ _ => rfl)))) (pe_op k_mul (pe_op op_sub (pe_ix (k_ix (K := K) rfl) (pv 1) pe_int (fun _ _ => rfl)) (pe_ix (k_ix (K := K) rfl) (pv 0) pe_int (fun _ _ => rfl))) (pe_op op_sub (pe_ix (k_ix (K := K) rfl) (pv 2) pe_int (fun _ _ => rfl)) (pe_ix (k_ix (K := K) rfl) (pv 0) pe_int (fun _ _ => rfl))))))), by infer_instance, fun ds n Q hl hA => ?_⟩
  obtain ⟨a, b, c, rfl, ba, bb, bc, q⟩ := hA
  unfold PtB at ba bb bc
  exact ⟨.inl (.inl ⟨by omega, by omega⟩), .inl (.inl ⟨by omega, by omega⟩), q⟩
/-- the half hull, its last point first -/
noncomputable def popR (p : Pt) : List Pt → List Pt
  | b :: a :: r => if leftI a b p ≤ 0 then popR p (a :: r) else b :: a :: r
  | s => s
noncomputable def halfS (st : List Pt) (ps : List Pt) : List Pt := ps.foldl (fun st p => p :: popR p st) st
noncomputable def halfR (ps : List Pt) : List Pt := halfS [] ps
theorem popR_sub (p : Pt) : ∀ st : List Pt, ∀ x ∈ popR p st, x ∈ st
  | [], x, h => h
  | [b], x, h => h
  | b :: a :: r, x, h => by
    unfold popR at h
    split at h
    · exact List.mem_cons_of_mem _ (popR_sub p (a :: r) x h)
    · exact h
theorem popR_len (p : Pt) : ∀ st : List Pt, (popR p st).length ≤ st.length
  | [] => Nat.le_refl _
  | [b] => Nat.le_refl _
  | b :: a :: r => by
    unfold popR
    split
    · exact Nat.le_succ_of_le (popR_len p (a :: r))
    · exact Nat.le_refl _
theorem halfS_sub : ∀ (ps st : List Pt), ∀ x ∈ halfS st ps, x ∈ st ∨ x ∈ ps
  | [], st, x, h => .inl h
  | p :: ps, st, x, h => by
    rcases halfS_sub ps (p :: popR p st) x h with h | h
    · rcases List.mem_cons.mp h with rfl | h
      · exact .inr List.mem_cons_self
      · exact .inl (popR_sub p st x h)
    · exact .inr (List.mem_cons_of_mem _ h)
theorem halfS_len : ∀ (ps st : List Pt), (halfS st ps).length ≤ st.length + ps.length
  | [], st => Nat.le_refl _
  | p :: ps, st => by
    have h1 := halfS_len ps (p :: popR p st)
    have h2 := popR_len p st
    rw [List.length_cons] at h1 ⊢
    show (halfS (p :: popR p st) ps).length ≤ _
    omega
theorem atI_m1 {xs : List D} {a b : D} : atI (xs ++ [a, b]) (-1) = some b := by
  have := atI_last (xs ++ [a]) b
  rw [List.append_assoc] at this
  exact this
theorem atI_m2 {xs : List D} {a b : D} : atI (xs ++ [a, b]) (-2) = some a := by
  have hl : (xs ++ [a, b]).length = xs.length + 2 := by simp
  unfold atI ixN
  rw [if_neg (by omega), if_pos (by omega), hl]
  show (xs ++ [a, b])[(-2 + ((xs.length + 2 : Nat) : Int)).toNat]? = some a
  have e : (-2 + ((xs.length + 2 : Nat) : Int)).toNat = xs.length := by omega
  rw [e, List.getElem?_append_right (Nat.le_refl _), Nat.sub_self]
  rfl
theorem cutL_last (xs : List D) (a : D) : cutL (xs ++ [a]) none (some (-1)) = xs := by
  unfold cutL
  have hl : (xs ++ [a]).length = xs.length + 1 := by simp
  rw [HT.sIx_none]
  have e : HT.sIx (xs ++ [a]).length (xs ++ [a]).length (some (-1)) = xs.length := by
    rw [hl]
    unfold HT.sIx
    simp
    omega
  rw [e, List.drop_zero, Nat.sub_zero, List.take_left]
/-- a stack of points, the last first -/
noncomputable def stk (st : List Pt) : List D := st.reverse.map pt
theorem stk_two (a b : Pt) (r : List Pt) : stk (b :: a :: r) = stk r ++ [pt a, pt b] := by
  unfold stk
  simp
theorem stk_one (a : Pt) (r : List Pt) : stk (a :: r) = stk r ++ [pt a] := by
  unfold stk
  simp
theorem stk_len (st : List Pt) : (stk st).length = st.length := by
  unfold stk
  rw [List.length_map, List.length_reverse]
noncomputable def a_l_half : ASp := fun ds n Q => ∃ ps : List Pt, ds = [.lst (ps.map pt)] ∧ (∀ p ∈ ps, PtB p) ∧ ps.length ≤ 100 ∧ Q (.lst (stk (halfR ps).tail)) n
theorem ok_l_half (T : Tx K mg A) : FnOk P w K mg base CX0 2 A.f_l_half A.fd_l_half ["_law_points"] (spOf K 1 a_l_half) := by
  refine fn_mir [] 3 rfl (by decide) (by decide) T.F_l_half sc_l_half fun cdv Ar outer s H E hr => ?_
  refine ⟨_, _, (pss_cons (ps_set (i := 1) sc_l_half.nd rfl (.inl rfl) (pe_lst pa_nil))
    (pss_cons (ps_for PassesOwn.never rfl (k_iter (K := K) rfl (pv 0)) (pg_name (i := 2) sc_l_half.nd rfl (.inl rfl))
      (pss_cons (ps_while PassesOwn.never (PW.pt (pw_and (pt_cmpR op_gt (pe_callB (k_len (K := K) rfl) (by rfl) T.m_len (by decide +kernel) (pa_cons (pv 1) pa_nil)) pe_int (nomark _)) (pw_and1 (pt_cmpR op_le (pe_call (ok_l_left (P := P) (K := K) T) (hr.mono (by decide)) (by rfl) T.g_l_left T.F_l_left.kp T.b_l_left .nil pass0 (pa_cons (pe_ix (k_ixS (K := K) rfl) (pv 1) (pe_un un_neg pe_int) (fun _ _ => rfl)) (pa_cons (pe_ix (k_ixS (K := K) rfl) (pv 1) (pe_un un_neg pe_int) (fun _ _ => rfl)) (pa_cons (pv 2) pa_nil)))) pe_int (nomark _)))))
      (pss_one (ps_set (i := 1) sc_l_half.nd rfl (.inl rfl) (pe_slice (k_sl (K := K) rfl) (pv 1) po_none (po_some (pe_un un_neg pe_int))))))
    (pss_one (ps_set (i := 1) sc_l_half.nd rfl (.inl rfl) (pe_op (k_add (K := K) rfl) (pv 1) (pe_lst (pa_cons (pv 2) pa_nil)))))))
    (pss_one (ps_ret (pe_slice (k_sl (K := K) rfl) (pv 1) po_none (po_some (pe_un un_neg pe_int))))))), by infer_instance, fun ds n Q hl hA => ?_⟩
  obtain ⟨ps, rfl, hB, hlen, q⟩ := hA
  refine aFor_ind (fun ds ρ n' => n' = n ∧ ∃ (qs st : List Pt) (y : Option D), ds = qs.map pt ∧ ρ = [some (.lst (ps.map pt)), some (.lst (stk st)), y] ∧ halfS st qs = halfR ps ∧ (∀ p ∈ st, PtB p) ∧ (∀ p ∈ qs, PtB p) ∧ st.length + qs.length ≤ 100) ?_ ?_ ⟨rfl, ps, [], none, rfl, rfl, rfl, (fun p h => by cases h), hB, by simpa using hlen⟩
  · rintro d r _ n' ⟨rfl, qs, st, y, hq, rfl, he, hs, hqs, hl⟩ ih
    obtain ⟨p, qs, rfl, rfl, rfl⟩ : ∃ p qs', qs = p :: qs' ∧ d = pt p ∧ r = qs'.map pt := by
      cases qs with
      | nil => cases hq
      | cons p qs => cases hq; exact ⟨p, qs, rfl, rfl, rfl⟩
    have bp := hqs p List.mem_cons_self
    rw [List.length_cons] at hl
    refine ⟨fun m ρ m' => m' = n' ∧ ∃ st', ρ = [some (.lst (ps.map pt)), some (.lst (stk st')), some (pt p)] ∧ m = st'.length ∧ popR p st' = popR p st ∧ (∀ p ∈ st', PtB p) ∧ st'.length ≤ st.length, ⟨_, rfl, st, rfl, rfl, rfl, hs, Nat.le_refl _⟩, ?_⟩
    rintro m ρ k ⟨hk, st', rfl, rfl, hp, hs', hl'⟩
    subst hk
    have done : popR p st' = st' → k = k ∧ ∃ (qs' st : List Pt) (y : Option D), qs.map pt = qs'.map pt ∧ [some (D.lst (ps.map pt)), some (.lst (stk st' ++ [pt p])), some (pt p)] = [some (.lst (ps.map pt)), some (.lst (stk st)), y] ∧ halfS st qs' = halfR ps ∧ (∀ p ∈ st, PtB p) ∧ (∀ p ∈ qs', PtB p) ∧ st.length + qs'.length ≤ 100 := fun hfix => by
      refine ⟨rfl, qs, p :: st', _, rfl, by rw [stk_one], ?_, ?_, fun x hx => hqs x (List.mem_cons_of_mem _ hx), ?_⟩
      · rw [← he]
        show halfS (p :: st') qs = halfS (p :: popR p st) qs
        rw [← hp, hfix]
      · intro x hx
        rcases List.mem_cons.mp hx with rfl | hx
        · exact bp
        · exact hs' x hx
      · rw [List.length_cons]
        omega
    have hsz : (stk st').length + 1 ≤ 1000000 := by rw [stk_len]; omega
    match st', hp, hs', hl', done, hsz with
    | [], _, _, _, done, hsz => exact dIte (fun e => absurd e (by decide)) fun _ => aF ⟨hsz, ih _ _ (done rfl)⟩
    | [x], _, _, _, done, hsz => exact dIte (fun e => absurd e (show ¬ (1 : Int) < ((1 : Nat) : Int) by decide)) fun _ => aF ⟨hsz, ih _ _ (done rfl)⟩
    | b :: a :: r, hp, hs', hl', done, hsz =>
      rw [stk_two] at done hsz ⊢
      have hlen2 : (1 : Int) < ((stk r ++ [pt a, pt b]).length : Int) := by
        rw [List.length_append]
        show (1 : Int) < (((stk r).length + 2 : Nat) : Int)
        omega
      refine dIte (fun _ => ?_) fun e => absurd hlen2 e
      refine aIx_lst atI_m2 ?_
      refine aIx_lst atI_m1 ?_
      refine ⟨a, b, p, rfl, hs' a (List.mem_cons_of_mem _ List.mem_cons_self), hs' b List.mem_cons_self, bp, ?_⟩
      refine dIte (fun e => ?_) fun e => ?_
      · refine ⟨(a :: r).length, Nat.lt_succ_self _, rfl, a :: r, ?_, rfl, ?_, fun x hx => hs' x (List.mem_cons_of_mem _ hx), Nat.le_of_succ_le hl'⟩
        · have e2 : stk r ++ [pt a, pt b] = stk (a :: r) ++ [pt b] := by rw [stk_one, List.append_assoc]; rfl
          show [some (D.lst (ps.map pt)), some (.lst (cutL (stk r ++ [pt a, pt b]) none (some (-1)))), some (pt p)] = _
          rw [e2, cutL_last]
        · rw [← hp]
          conv => rhs; unfold popR
          rw [if_pos e]
      · refine ⟨hsz, ih _ _ (done ?_)⟩
        unfold popR
        rw [if_neg e]
  · rintro _ n' ⟨rfl, qs, st, y, hq, rfl, he, hs, hqs, hl⟩
    cases qs with
    | cons p qs => cases hq
    | nil =>
      have e : st = halfR ps := he
      subst e
      show Q (.lst (cutL (stk (halfR ps)) none (some (-1)))) _
      cases h : halfR ps with
      | nil => rw [h] at q; exact q
      | cons a r =>
        rw [h] at q
        rw [stk_one, cutL_last]
        exact q
noncomputable def hullOf (rs : List Pt) : List Pt :=
  if ((halfR rs).tail.reverse ++ (halfR rs.reverse).tail.reverse).length < 3 then [(0, 0), (2, 0), (0, 2)] else (halfR rs).tail.reverse ++ (halfR rs.reverse).tail.reverse
/-! ### the hull is convex -/
noncomputable def lexLt (p q : Pt) : Prop := p.1 < q.1 ∨ (p.1 = q.1 ∧ p.2 < q.2)
theorem cross_id (ux uy wx wy zx zy : Int) : ux * (wx * zy - wy * zx) = wx * (ux * zy - uy * zx) - zx * (ux * wy - uy * wx) := by grind
theorem mul_nn {a b : Int} (h : 0 ≤ a) (g : 0 ≤ b) : 0 ≤ a * b := Int.mul_nonneg h g
theorem pos_of {a b : Int} (h : 0 < a) (g : 0 ≤ a * b) : 0 ≤ b := by
  rcases Int.lt_or_le b 0 with z | z
  · have := Int.mul_neg_of_pos_of_neg h z
    omega
  · exact z
theorem pos_of' {a b : Int} (h : 0 < a) (g : 0 < a * b) : 0 < b := by
  rcases Int.lt_or_le 0 b with z | z
  · exact z
  · have := Int.mul_nonpos_of_nonneg_of_nonpos (Int.le_of_lt h) z
    omega
theorem lemB {ux uy wx wy zx zy : Int} (hu : 0 < ux ∨ (ux = 0 ∧ 0 < uy)) (hw : 0 < wx ∨ (wx = 0 ∧ 0 ≤ wy)) (hz : 0 < zx ∨ (zx = 0 ∧ 0 ≤ zy)) (h1 : ux * wy - uy * wx ≤ 0) (h2 : 0 ≤ ux * zy - uy * zx) : 0 ≤ wx * zy - wy * zx := by
  have w0 : 0 ≤ wx := by omega
  have z0 : 0 ≤ zx := by omega
  rcases hu with hu | ⟨rfl, hu⟩
  · refine pos_of hu ?_
    rw [cross_id ux uy wx wy zx zy]
    have a := mul_nn w0 h2
    have b := mul_nn z0 (show 0 ≤ -(ux * wy - uy * wx) by omega)
    rw [Int.mul_neg] at b
    omega
  · have e : uy * zx ≤ 0 := by
      rw [Int.zero_mul] at h2
      omega
    have zx0 : zx = 0 := by
      rcases Int.lt_or_eq_of_le z0 with z | z
      · have := Int.mul_pos hu z
        omega
      · exact z.symm
    subst zx0
    have zy0 : 0 ≤ zy := by omega
    have := mul_nn w0 zy0
    rw [Int.mul_zero]
    omega
theorem lemA {ux uy vx vy wx wy : Int} (hu : 0 < ux ∨ (ux = 0 ∧ 0 < uy)) (hv : 0 < vx ∨ (vx = 0 ∧ 0 < vy)) (hw : 0 < wx ∨ (wx = 0 ∧ 0 ≤ wy)) (h1 : 0 < ux * vy - uy * vx) (h2 : 0 < vx * wy - vy * wx) : 0 < ux * wy - uy * wx := by
  have u0 : 0 ≤ ux := by omega
  have w0 : 0 ≤ wx := by omega
  rcases hv with hv | ⟨rfl, hv⟩
  · refine pos_of' hv ?_
    have id : vx * (ux * wy - uy * wx) = ux * (vx * wy - vy * wx) + wx * (ux * vy - uy * vx) := by grind
    rw [id]
    have a := mul_nn u0 (Int.le_of_lt h2)
    have b := mul_nn w0 (Int.le_of_lt h1)
    rcases hu with hu | ⟨rfl, hu⟩
    · have := Int.mul_pos hu h2
      omega
    · rcases hw with hw | ⟨rfl, hw⟩
      · have := Int.mul_pos hw h1
        omega
      · exfalso
        rw [Int.zero_mul] at h1
        have := Int.mul_pos hu hv
        omega
  · exfalso
    rw [Int.zero_mul] at h2
    have := mul_nn (Int.le_of_lt hv) w0
    omega
theorem left_vec (a b c : Pt) : leftI a b c = (b.1 - a.1) * (c.2 - b.2) - (b.2 - a.2) * (c.1 - b.1) := by
  unfold leftI
  grind
theorem left_self (a b : Pt) : leftI a b a = 0 ∧ leftI a b b = 0 := by
  unfold leftI
  constructor <;> grind
/-- a chain, its last point first: it goes on in order, turns left, and all of P lie not to its right -/
noncomputable def Chain (P : List Pt) : List Pt → Prop
  | [] => False
  | [_] => True
  | b :: a :: r => lexLt a b ∧ (∀ c ∈ P, 0 ≤ leftI a b c) ∧ (∀ z r', r = z :: r' → 0 < leftI z a b) ∧ Chain P (a :: r)
theorem Chain.more {P : List Pt} {p : Pt} : ∀ {r : List Pt} {b a : Pt}, Chain P (b :: a :: r) → lexLe b p → 0 < leftI a b p → Chain (p :: P) (b :: a :: r)
  | [], b, a, h, hp, hl => ⟨h.1, fun c hc => by
      rcases List.mem_cons.mp hc with rfl | hc
      · exact Int.le_of_lt hl
      · exact h.2.1 c hc, fun z r' e => (by cases e), trivial⟩
  | z :: r, b, a, h, hp, hl => by
    have hzab := h.2.2.1 z r rfl
    have hza : lexLt z a := h.2.2.2.1
    have hab := h.1
    refine ⟨h.1, fun c hc => ?_, h.2.2.1, Chain.more h.2.2.2 ?_ ?_⟩
    · rcases List.mem_cons.mp hc with rfl | hc
      · exact Int.le_of_lt hl
      · exact h.2.1 c hc
    · unfold lexLe lexLt at *
      omega
    · -- z, a, b, p turn left
      rw [left_vec] at hzab hl
      have key := lemA (ux := a.1 - z.1) (uy := a.2 - z.2) (vx := b.1 - a.1) (vy := b.2 - a.2) (wx := p.1 - b.1) (wy := p.2 - b.2) (by unfold lexLt at hza; omega) (by unfold lexLt at hab; omega) (by unfold lexLe at hp; omega) hzab hl
      have e : leftI z a p = ((a.1 - z.1) * (b.2 - a.2) - (a.2 - z.2) * (b.1 - a.1)) + ((a.1 - z.1) * (p.2 - b.2) - (a.2 - z.2) * (p.1 - b.1)) := by
        unfold leftI
        grind
      omega
theorem leftB {t b p c : Pt} (hu : lexLt t b) (hw : lexLe t p) (hz : lexLe t c) (h1 : leftI t b p ≤ 0) (h2 : 0 ≤ leftI t b c) : 0 ≤ leftI t p c := by
  unfold leftI at *
  unfold lexLt lexLe at *
  exact lemB (ux := b.1 - t.1) (uy := b.2 - t.2) (by omega) (by omega) (by omega) h1 h2
theorem leftC {a t p c : Pt} (hu : lexLt a t) (hw : lexLe t p) (hz : lexLe c t) (h1 : 0 ≤ leftI a t p) (h2 : 0 ≤ leftI a t c) : 0 ≤ leftI t p c := by
  have k := lemB (ux := t.1 - a.1) (uy := t.2 - a.2) (wx := t.1 - c.1) (wy := t.2 - c.2) (zx := p.1 - t.1) (zy := p.2 - t.2) (by unfold lexLt at hu; omega) (by unfold lexLe at hz; omega) (by unfold lexLe at hw; omega)
    (by
      have e : (t.1 - a.1) * (t.2 - c.2) - (t.2 - a.2) * (t.1 - c.1) = - leftI a t c := by
        unfold leftI
        grind
      omega)
    (by
      have e : (t.1 - a.1) * (p.2 - t.2) - (t.2 - a.2) * (p.1 - t.1) = leftI a t p := by
        unfold leftI
        grind
      omega)
  have e : (t.1 - c.1) * (p.2 - t.2) - (t.2 - c.2) * (p.1 - t.1) = leftI t p c := by
    unfold leftI
    grind
  omega
theorem lex_total (c t : Pt) : lexLe c t ∨ lexLe t c := by
  unfold lexLe
  omega
theorem lex_lt {c t : Pt} (h : lexLe c t) (n : c ≠ t) : lexLt c t := by
  have : ¬ (c.1 = t.1 ∧ c.2 = t.2) := fun e => n (Prod.ext e.1 e.2)
  unfold lexLe at h
  unfold lexLt
  omega
theorem lex_anti {c t : Pt} (h : lexLe c t) (g : lexLe t c) : c = t := by
  unfold lexLe at h g
  exact Prod.ext (by omega) (by omega)
/-- the top of the stack, before a push of p -/
noncomputable def TopOk (P : List Pt) (p t : Pt) : Prop := (∀ c ∈ P, lexLe c t) ∨ ∃ b, lexLt t b ∧ (∀ c ∈ P, 0 ≤ leftI t b c) ∧ leftI t b p ≤ 0
theorem TopOk.left {P : List Pt} {p t : Pt} (h : TopOk P p t) (hp : lexLe t p) {c : Pt} (hc : c ∈ P) (g : lexLe t c) : 0 ≤ leftI t p c := by
  rcases h with h | ⟨b, h1, h2, h3⟩
  · rw [lex_anti (h c hc) g]
    exact Int.le_of_eq (left_self t p).1.symm
  · exact leftB h1 hp g h3 (h2 c hc)
theorem pop_chain {P : List Pt} {p m : Pt} (hm : ∀ c ∈ P, lexLe m c) (hmp : lexLt m p) : ∀ (r : List Pt) (t : Pt), Chain P (t :: r) → (∀ x ∈ t :: r, lexLe x p) → (t :: r).getLast? = some m → TopOk P p t →
    Chain (p :: P) (p :: popR p (t :: r)) ∧ (popR p (t :: r)).getLast? = some m
  | [], t, hc, hx, hl, ht => by
    have e : t = m := by simpa using hl
    subst e
    refine ⟨⟨hmp, fun c hc => ?_, fun z r' e => (by cases e), trivial⟩, rfl⟩
    rcases List.mem_cons.mp hc with rfl | hc
    · exact Int.le_of_eq (left_self t c).2.symm
    · exact ht.left (hx t (List.mem_cons_self ..)) hc (hm c hc)
  | a :: r, t, hc, hx, hl, ht => by
    have hat := hc.1
    by_cases g : leftI a t p ≤ 0
    · have e : popR p (t :: a :: r) = popR p (a :: r) := by
        conv => lhs; unfold popR
        rw [if_pos g]
      rw [e]
      exact pop_chain hm hmp r a hc.2.2.2 (fun x h => hx x (List.mem_cons_of_mem _ h)) (by simpa using hl) (.inr ⟨t, hat, hc.2.1, g⟩)
    · have e : popR p (t :: a :: r) = t :: a :: r := by
        unfold popR
        rw [if_neg g]
      rw [e]
      have htp : lexLe t p := hx t (List.mem_cons_self ..)
      have gp : 0 < leftI a t p := by omega
      refine ⟨⟨lex_lt htp fun e => ?_, fun c hc' => ?_, fun z r' e => ?_, hc.more htp gp⟩, hl⟩
      · subst e
        have := (left_self a t).2
        omega
      · rcases List.mem_cons.mp hc' with rfl | hc'
        · exact Int.le_of_eq (left_self t c).2.symm
        · rcases lex_total c t with g2 | g2
          · exact leftC hat htp g2 (Int.le_of_lt gp) (hc.2.1 c hc')
          · exact ht.left htp hc' g2
      · obtain ⟨rfl, rfl⟩ := List.cons.inj e
        exact gp
/-- the stack, when the points P are done -/
noncomputable def StOk (P : List Pt) (m : Pt) (st : List Pt) : Prop :=
  (∀ c ∈ P, lexLe m c) ∧ m ∈ P ∧ (∀ x ∈ st, x ∈ P) ∧
  (((st = [m] ∨ st = [m, m]) ∧ ∀ c ∈ P, c = m) ∨ (∃ t a r, st = t :: a :: r ∧ Chain P st ∧ st.getLast? = some m ∧ ∀ c ∈ P, lexLe c t))
theorem StOk.push {P : List Pt} {m p : Pt} {st : List Pt} (h : StOk P m st) (hp : ∀ c ∈ P, lexLe c p) : StOk (p :: P) m (p :: popR p st) := by
  obtain ⟨h1, h2, h3, h4⟩ := h
  have h1' : ∀ c ∈ p :: P, lexLe m c := fun c hc => by
    rcases List.mem_cons.mp hc with rfl | hc
    · exact hp m h2
    · exact h1 c hc
  refine ⟨h1', List.mem_cons_of_mem _ h2, fun x hx => ?_, ?_⟩
  · rcases List.mem_cons.mp hx with rfl | hx
    · exact List.mem_cons_self ..
    · exact List.mem_cons_of_mem _ (h3 x (popR_sub p st x hx))
  rcases h4 with ⟨h4, h5⟩ | ⟨t, a, r, rfl, h5, h6, h7⟩
  · have e : popR p st = [m] := by
      rcases h4 with rfl | rfl
      · rfl
      · have : leftI m m p = 0 := by
          unfold leftI
          grind
        unfold popR
        rw [if_pos (by omega)]
        rfl
    rw [e]
    by_cases g : p = m
    · subst g
      exact .inl ⟨.inr rfl, fun c hc => by
        rcases List.mem_cons.mp hc with rfl | hc
        · rfl
        · exact h5 c hc⟩
    · refine .inr ⟨p, m, [], rfl, ⟨lex_lt (hp m h2) (fun e => g e.symm), fun c hc => ?_, fun z r' e => (by cases e), trivial⟩, rfl, fun c hc => ?_⟩
      · rcases List.mem_cons.mp hc with rfl | hc
        · exact Int.le_of_eq (left_self m c).2.symm
        · rw [h5 c hc]
          exact Int.le_of_eq (left_self m p).1.symm
      · rcases List.mem_cons.mp hc with rfl | hc
        · unfold lexLe
          omega
        · exact hp c hc
  · have hmt : lexLt m t := by
      refine lex_lt (h7 m h2) fun e => ?_
      subst e
      have h8 := h5.1
      have h9 := h1 a (h3 a (by simp))
      unfold lexLt at h8
      unfold lexLe at h9
      omega
    have hmp : lexLt m p := by
      have := hp t (h3 t (by simp))
      unfold lexLt lexLe at *
      omega
    obtain ⟨k1, k2⟩ := pop_chain h1 hmp (a :: r) t h5 (fun x hx => hp x (h3 x hx)) h6 (.inl h7)
    have hpp : ∀ c ∈ p :: P, lexLe c p := fun c hc => by
      rcases List.mem_cons.mp hc with rfl | hc
      · unfold lexLe
        omega
      · exact hp c hc
    cases hq : popR p (t :: a :: r) with
    | nil =>
      rw [hq] at k2
      cases k2
    | cons y ys =>
      rw [hq] at k1 k2
      exact .inr ⟨p, y, ys, rfl, k1, (by simpa using k2), hpp⟩
theorem StOk.all : ∀ (qs P : List Pt) (m : Pt) (st : List Pt), StOk P m st → qs.Pairwise lexLe → (∀ c ∈ P, ∀ q ∈ qs, lexLe c q) → ∃ P' : List Pt, (∀ c ∈ P, c ∈ P') ∧ (∀ c ∈ qs, c ∈ P') ∧ (∀ c ∈ P', c ∈ P ∨ c ∈ qs) ∧ StOk P' m (halfS st qs)
  | [], P, m, st, h, _, _ => ⟨P, fun c h => h, (fun c h => by cases h), (fun c h => .inl h), h⟩
  | p :: qs, P, m, st, h, hs, hP => by
    obtain ⟨s1, s2⟩ := List.pairwise_cons.mp hs
    obtain ⟨P', k1, k2, k4, k3⟩ := StOk.all qs (p :: P) m (p :: popR p st) (h.push fun c hc => hP c hc p (List.mem_cons_self ..)) s2 (fun c hc q hq => by
      rcases List.mem_cons.mp hc with rfl | hc
      · exact s1 q hq
      · exact hP c hc q (List.mem_cons_of_mem _ hq))
    exact ⟨P', fun c hc => k1 c (List.mem_cons_of_mem _ hc), fun c hc => by
      rcases List.mem_cons.mp hc with rfl | hc
      · exact k1 c (List.mem_cons_self ..)
      · exact k2 c hc, fun c hc => by
      rcases k4 c hc with h | h
      · rcases List.mem_cons.mp h with rfl | h
        · exact .inr (List.mem_cons_self ..)
        · exact .inl h
      · exact .inr (List.mem_cons_of_mem _ h), k3⟩
theorem half_ok (m : Pt) (qs : List Pt) (hs : (m :: qs).Pairwise lexLe) : ∃ P : List Pt, (∀ c ∈ m :: qs, c ∈ P) ∧ (∀ c ∈ P, c ∈ m :: qs) ∧ StOk P m (halfR (m :: qs)) := by
  obtain ⟨s1, s2⟩ := List.pairwise_cons.mp hs
  have h0 : StOk [m] m [m] := ⟨fun c hc => by
    have : c = m := by simpa using hc
    subst this
    unfold lexLe
    omega, by simp, fun x h => h, .inl ⟨.inl rfl, fun c hc => by simpa using hc⟩⟩
  obtain ⟨P, k1, k2, k4, k3⟩ := StOk.all qs [m] m [m] h0 s2 (fun c hc q hq => by
    have : c = m := by simpa using hc
    subst this
    exact s1 q hq)
  exact ⟨P, fun c hc => by
    rcases List.mem_cons.mp hc with rfl | hc
    · exact k1 c (by simp)
    · exact k2 c hc, fun c hc => by
    rcases k4 c hc with h | h
    · have : c = m := by simpa using h
      subst this
      exact List.mem_cons_self ..
    · exact List.mem_cons_of_mem _ h, k3⟩
/-! the other half: turned by half a turn -/
noncomputable def neg (p : Pt) : Pt := (-p.1, -p.2)
theorem left_neg (a b c : Pt) : leftI (neg a) (neg b) (neg c) = leftI a b c := by
  unfold leftI neg
  grind
theorem pop_neg (p : Pt) : ∀ st : List Pt, popR (neg p) (st.map neg) = (popR p st).map neg
  | [] => rfl
  | [a] => rfl
  | b :: a :: r => by
    show popR (neg p) (neg b :: neg a :: r.map neg) = _
    unfold popR
    rw [left_neg]
    by_cases g : leftI a b p ≤ 0
    · rw [if_pos g, if_pos g]
      exact pop_neg p (a :: r)
    · rw [if_neg g, if_neg g]
      rfl
theorem half_neg : ∀ (ps st : List Pt), halfS (st.map neg) (ps.map neg) = (halfS st ps).map neg
  | [], st => rfl
  | p :: ps, st => by
    show halfS (neg p :: popR (neg p) (st.map neg)) (ps.map neg) = (halfS (p :: popR p st) ps).map neg
    rw [pop_neg]
    exact half_neg ps (p :: popR p st)
theorem neg_neg' (p : Pt) : neg (neg p) = p := by
  unfold neg
  exact Prod.ext (by simp) (by simp)
noncomputable def Steps (E : Pt → Pt → Prop) : List Pt → Prop
  | a :: b :: r => E a b ∧ Steps E (b :: r)
  | _ => True
theorem Steps.snoc {E : Pt → Pt → Prop} {a b : Pt} (h : E a b) : ∀ l : List Pt, Steps E (l ++ [a]) → Steps E (l ++ [a, b])
  | [], _ => ⟨h, trivial⟩
  | [c], g => ⟨g.1, h, trivial⟩
  | c :: d :: l, g => ⟨g.1, Steps.snoc h (d :: l) g.2⟩
theorem Steps.join {E : Pt → Pt → Prop} {a : Pt} {r : List Pt} (h : Steps E (a :: r)) : ∀ l : List Pt, Steps E (l ++ [a]) → Steps E (l ++ a :: r)
  | [], _ => h
  | [c], g => ⟨g.1, h⟩
  | c :: d :: l, g => ⟨g.1, Steps.join h (d :: l) g.2⟩
theorem Steps.rev {E : Pt → Pt → Prop} : ∀ l : List Pt, Steps (fun b a => E a b) l → Steps E l.reverse
  | [], _ => trivial
  | [c], _ => trivial
  | b :: a :: r, h => by
    have := Steps.rev (a :: r) h.2
    rw [List.reverse_cons] at this
    rw [List.reverse_cons, List.reverse_cons, List.append_assoc]
    exact this.snoc h.1
theorem Steps.zip {E : Pt → Pt → Prop} (x : Pt) : ∀ h : List Pt, Steps E (h ++ [x]) → ∀ e ∈ h.zip (h.drop 1 ++ [x]), E e.1 e.2
  | [], _, e, he => by cases he
  | [a], g, e, he => by
    have : e = (a, x) := by simpa using he
    subst this
    exact g.1
  | a :: b :: r, g, e, he => by
    have : e = (a, b) ∨ e ∈ (b :: r).zip (r ++ [x]) := by simpa using he
    rcases this with rfl | he
    · exact g.1
    · exact Steps.zip x (b :: r) g.2 e he
noncomputable def SideOk (P : List Pt) (a b : Pt) : Prop := a ≠ b ∧ ∀ c ∈ P, 0 ≤ leftI a b c
theorem lexLt.ne {a b : Pt} (h : lexLt a b) : a ≠ b := fun e => by
  subst e
  unfold lexLt at h
  omega
theorem Chain.steps {P : List Pt} : ∀ st : List Pt, Chain P st → Steps (fun b a => SideOk P a b) st
  | [], _ => trivial
  | [_], _ => trivial
  | b :: a :: r, h => ⟨⟨h.1.ne, h.2.1⟩, Chain.steps (a :: r) h.2.2.2⟩
theorem SideOk.neg {P : List Pt} {a b : Pt} (h : SideOk (P.map R.neg) (R.neg a) (R.neg b)) : SideOk P a b :=
  ⟨fun e => h.1 (by rw [e]), fun c hc => by
    have := h.2 (R.neg c) (List.mem_map.mpr ⟨c, hc, rfl⟩)
    rwa [left_neg] at this⟩
theorem SideOk.sub {P P' : List Pt} (h : ∀ c ∈ P, c ∈ P') {a b : Pt} (g : SideOk P' a b) : SideOk P a b := ⟨g.1, fun c hc => g.2 c (h c hc)⟩
theorem Steps.mono {E F : Pt → Pt → Prop} (h : ∀ a b, E a b → F a b) : ∀ l : List Pt, Steps E l → Steps F l
  | [], _ => trivial
  | [_], _ => trivial
  | _ :: b :: r, g => ⟨h _ _ g.1, Steps.mono h (b :: r) g.2⟩
theorem Steps.map {E : Pt → Pt → Prop} (f : Pt → Pt) : ∀ l : List Pt, Steps E (l.map f) → Steps (fun a b => E (f a) (f b)) l
  | [], _ => trivial
  | [_], _ => trivial
  | _ :: b :: r, g => ⟨g.1, Steps.map f (b :: r) g.2⟩
/-- a shape that is right: no corner lies right of a side, and no side is nought -/
noncomputable def Convex (cs : List Pt) : Prop := ∀ e ∈ cs.zip (cs.drop 1 ++ cs.take 1), SideOk cs e.1 e.2
theorem half_side {m : Pt} {qs : List Pt} (hs : (m :: qs).Pairwise lexLe) : (∃ M r, halfR (m :: qs) = M :: r ∧ r.getLast? = some m ∧ Steps (SideOk (m :: qs)) (r.reverse ++ [M]) ∧ (∀ c ∈ m :: qs, lexLe c M) ∧ M ∈ m :: qs ∧ (∀ c ∈ r, c ∈ m :: qs) ∧ m ≠ M) ∨ ((halfR (m :: qs)).tail.length ≤ 1 ∧ ∀ c ∈ m :: qs, c = m) := by
  obtain ⟨P, k1, k0, k2, k3, k4, k5⟩ := half_ok m qs hs
  rcases k5 with ⟨k5, k6⟩ | ⟨t, a, r, e, k5, k6, k7⟩
  · refine .inr ⟨?_, fun c hc => k6 c (k1 c hc)⟩
    rcases k5 with e | e <;> rw [e] <;> simp
  · rw [e] at k4 k5 k6
    refine .inl ⟨t, a :: r, e, ?_, ?_, fun c hc => k7 c (k1 c hc), k0 t (k4 t (by simp)), fun c hc => k0 c (k4 c (List.mem_cons_of_mem _ hc)), fun e => ?_⟩
    · simpa using k6
    · have := Steps.rev _ (Chain.steps _ k5)
      rw [List.reverse_cons] at this
      exact Steps.mono (fun a b g => g.sub k1) _ this
    · subst e
      have h8 := k5.1
      have h9 := k2 a (k4 a (by simp))
      unfold lexLt at h8
      unfold lexLe at h9
      omega
theorem last_rev {r : List Pt} {m : Pt} (h : r.getLast? = some m) : ∃ r', r.reverse = m :: r' := by
  rw [List.getLast?_eq_head?_reverse] at h
  cases e : r.reverse with
  | nil => rw [e] at h; cases h
  | cons x xs =>
    rw [e] at h
    have : x = m := by simpa using h
    exact ⟨xs, by rw [this]⟩
theorem lex_neg {a b : Pt} (h : lexLe a b) : lexLe (neg b) (neg a) := by
  unfold lexLe neg at *
  simp only
  omega
theorem hull_convex {rs : List Pt} (hs : rs.Pairwise lexLe) : Convex (hullOf rs) ∧ 3 ≤ (hullOf rs).length := by
  unfold hullOf
  split
  · refine ⟨fun e he => ?_, by decide⟩
    have he' : e = ((0, 0), (2, 0)) ∨ e = ((2, 0), (0, 2)) ∨ e = ((0, 2), (0, 0)) := by simpa using he
    rcases he' with rfl | rfl | rfl <;> refine ⟨by decide, fun c hc => ?_⟩ <;> (have hc' : c = (0, 0) ∨ c = (2, 0) ∨ c = (0, 2) := by simpa using hc) <;> rcases hc' with rfl | rfl | rfl <;> decide
  rename_i hlen
  refine ⟨?_, by omega⟩
  cases rs with
  | nil => exact absurd (by decide) hlen
  | cons m qs =>
  obtain ⟨x, ys, hx⟩ : ∃ x ys, (m :: qs).reverse = x :: ys := by
    cases e : (m :: qs).reverse with
    | nil => simp at e
    | cons x ys => exact ⟨x, ys, rfl⟩
  have mem : ∀ c, c ∈ m :: qs ↔ c ∈ x :: ys := fun c => by rw [← hx, List.mem_reverse]
  have hd : (x :: ys).Pairwise (fun a b => lexLe b a) := by
    rw [← hx]
    exact List.pairwise_reverse.mpr hs
  have hn : (neg x :: ys.map neg).Pairwise lexLe := by
    have : ((x :: ys).map neg).Pairwise lexLe := List.pairwise_map.mpr (hd.imp fun h => lex_neg h)
    exact this
  have en : halfR (neg x :: ys.map neg) = (halfR (x :: ys)).map neg := half_neg (x :: ys) []
  have hmin : ∀ c ∈ m :: qs, lexLe m c := fun c hc => by
    rcases List.mem_cons.mp hc with rfl | hc
    · unfold lexLe
      omega
    · exact (List.pairwise_cons.mp hs).1 c hc
  have hmax : ∀ c ∈ m :: qs, lexLe c x := fun c hc => by
    rcases List.mem_cons.mp ((mem c).mp hc) with rfl | hc
    · unfold lexLe
      omega
    · exact (List.pairwise_cons.mp hd).1 c hc
  rw [hx] at hlen ⊢
  rcases half_side hs with ⟨M, r, e, h1, h2, h3, h4, h5, h6⟩ | ⟨h1, h2⟩
  · have hM : M = x := lex_anti (hmax M h4) (h3 x ((mem x).mpr (List.mem_cons_self ..)))
    subst hM
    rcases half_side hn with ⟨N, s, e', g1, g2, g3, g4, g5, g6⟩ | ⟨g1, g2⟩
    · rw [en] at e'
      cases hU : halfR (M :: ys) with
      | nil => rw [hU] at e'; cases e'
      | cons u us =>
      rw [hU] at e'
      obtain ⟨eN, es⟩ := List.cons.inj e'
      have inv : ∀ c, c ∈ neg M :: ys.map neg → neg c ∈ m :: qs := fun c hc => by
        obtain ⟨d, hd, rfl⟩ := List.mem_map.mp (show c ∈ (M :: ys).map neg from hc)
        rw [neg_neg']
        exact (mem d).mpr hd
      have hu : u = m := by
        refine lex_anti ?_ ?_
        · have := lex_neg (g3 (neg m) ((List.mem_map (l := M :: ys)).mpr ⟨m, (mem m).mp (List.mem_cons_self ..), rfl⟩))
          rw [← eN, neg_neg', neg_neg'] at this
          exact this
        · have := inv N g4
          rw [← eN, neg_neg'] at this
          exact hmin u this
      subst hu
      have hus : us.getLast? = some M := by
        rw [← es] at g1
        rw [List.getLast?_map] at g1
        cases hq : us.getLast? with
        | none => rw [hq] at g1; cases g1
        | some y =>
          rw [hq] at g1
          have : neg y = neg M := by simpa using g1
          have := congrArg neg this
          rw [neg_neg', neg_neg'] at this
          rw [this]
      have st2 : Steps (SideOk (u :: qs)) (us.reverse ++ [u]) := by
        have k : Steps (SideOk ((M :: ys).map neg)) ((us.reverse ++ [u]).map neg) := by
          rw [← es, ← eN] at g2
          simpa using g2
        exact Steps.mono (fun a b g => (SideOk.neg g).sub fun c hc => (mem c).mp hc) _ (Steps.map neg _ k)
      obtain ⟨r', hr⟩ := last_rev h1
      obtain ⟨us', hus'⟩ := last_rev hus
      rw [e]
      show Convex (r.reverse ++ us.reverse)
      have all : Steps (SideOk (u :: qs)) ((r.reverse ++ us.reverse) ++ [u]) := by
        rw [hus', List.append_assoc]
        rw [hus'] at st2
        exact Steps.join st2 _ h2
      have sub : ∀ c ∈ r.reverse ++ us.reverse, c ∈ u :: qs := fun c hc => by
        rcases List.mem_append.mp hc with hc | hc
        · exact h5 c (List.mem_reverse.mp hc)
        · have := inv (neg c) (g5 (neg c) (by rw [← es]; exact List.mem_map.mpr ⟨c, List.mem_reverse.mp hc, rfl⟩))
          rwa [neg_neg'] at this
      intro p hp
      refine SideOk.sub sub (Steps.zip u _ all p ?_)
      have tk : (r.reverse ++ us.reverse).take 1 = [u] := by
        rw [hr]
        rfl
      rw [tk] at hp
      exact hp
    · exfalso
      have q1 := g2 (neg m) ((List.mem_map (l := M :: ys)).mpr ⟨m, (mem m).mp (List.mem_cons_self ..), rfl⟩)
      have := congrArg neg q1
      rw [neg_neg', neg_neg'] at this
      exact h6 this
  · rcases half_side hn with ⟨N, s, e', g1, g2, g3, g4, g5, g6⟩ | ⟨g1, g2⟩
    · exfalso
      obtain ⟨d, hd, rfl⟩ := List.mem_map.mp (show N ∈ (x :: ys).map neg from g4)
      rw [h2 d ((mem d).mpr hd), h2 x ((mem x).mpr (List.mem_cons_self ..))] at g6
      exact g6 rfl
    · exfalso
      apply hlen
      rw [en] at g1
      simp only [List.length_append, List.length_reverse, List.length_tail, List.length_map] at h1 g1 ⊢
      omega
/-! ### no two sides of a hull go the same way -/
noncomputable def crs (u v : Pt) : Int := u.1 * v.2 - u.2 * v.1
noncomputable def lexP (u : Pt) : Prop := 0 < u.1 ∨ (u.1 = 0 ∧ 0 < u.2)
noncomputable def Nsd (u v : Pt) : Prop := crs u v ≠ 0 ∨ (lexP u ∧ lexP (neg v))
theorem nsd_opp {u v : Pt} (h : lexP u) (g : lexP (neg v)) : Nsd u v := .inr ⟨h, g⟩
theorem Nsd.opp {u v : Pt} (h : Nsd u v) (z : crs u v = 0) : (lexP u ∧ lexP (neg v)) ∨ (lexP v ∧ lexP (neg u)) := .inl (h.resolve_left fun n => n z)
noncomputable def vec (a b : Pt) : Pt := (b.1 - a.1, b.2 - a.2)
noncomputable def eds : List Pt → List Pt
  | a :: b :: r => vec a b :: eds (b :: r)
  | _ => []
noncomputable def edsR : List Pt → List Pt
  | b :: a :: r => vec a b :: edsR (a :: r)
  | _ => []
theorem eds_join (a : Pt) (r : List Pt) : ∀ l : List Pt, eds (l ++ a :: r) = eds (l ++ [a]) ++ eds (a :: r)
  | [] => rfl
  | [c] => rfl
  | c :: d :: l => by
    have := eds_join a r (d :: l)
    show vec c d :: eds (d :: l ++ a :: r) = (vec c d :: eds (d :: l ++ [a])) ++ _
    rw [this]
    rfl
theorem eds_rev : ∀ st : List Pt, eds st.reverse = (edsR st).reverse
  | [] => rfl
  | [_] => rfl
  | b :: a :: r => by
    have ih := eds_rev (a :: r)
    rw [List.reverse_cons] at ih
    rw [List.reverse_cons, List.reverse_cons, List.append_assoc]
    show eds (r.reverse ++ a :: [b]) = _
    rw [eds_join, ih]
    show _ = (vec a b :: edsR (a :: r)).reverse
    rw [List.reverse_cons]
    rfl
theorem chain_pw {P : List Pt} : ∀ st : List Pt, Chain P st → (edsR st).Pairwise (fun u v => 0 < crs v u) ∧ ∀ u ∈ edsR st, lexP u
  | [], h => h.elim
  | [_], _ => ⟨List.Pairwise.nil, fun u hu => by cases hu⟩
  | b :: a :: r, h => by
    obtain ⟨hlt, _, hturn, hc⟩ := h
    obtain ⟨pw, lp⟩ := chain_pw (a :: r) hc
    have lu : lexP (vec a b) := by
      unfold lexLt at hlt
      unfold lexP vec
      simp only
      omega
    refine ⟨List.pairwise_cons.mpr ⟨fun v hv => ?_, pw⟩, fun u hu => ?_⟩
    · cases r with
      | nil => cases hv
      | cons z r' =>
        have ht : 0 < crs (vec z a) (vec a b) := by
          have := hturn z r' rfl
          rw [left_vec] at this
          exact this
        have lz : lexP (vec z a) := lp _ (List.mem_cons_self ..)
        rcases List.mem_cons.mp (show v ∈ vec z a :: edsR (z :: r') from hv) with rfl | hv'
        · exact ht
        · have h1 : 0 < crs v (vec z a) := (List.pairwise_cons.mp pw).1 v hv'
          exact lemA (lp v (List.mem_cons_of_mem _ hv')) lz (by unfold lexP at lu; omega) h1 ht
    · rcases List.mem_cons.mp (show u ∈ vec a b :: edsR (a :: r) from hu) with rfl | hu'
      · exact lu
      · exact lp u hu'
theorem vec_neg (a b : Pt) : vec (neg a) (neg b) = neg (vec a b) := by
  unfold vec neg
  exact Prod.ext (by simp only; omega) (by simp only; omega)
theorem edsR_neg : ∀ st : List Pt, edsR (st.map neg) = (edsR st).map neg
  | [] => rfl
  | [_] => rfl
  | b :: a :: r => by
    show vec (neg a) (neg b) :: edsR ((a :: r).map neg) = neg (vec a b) :: (edsR (a :: r)).map neg
    rw [vec_neg, edsR_neg (a :: r)]
theorem crs_neg (u v : Pt) : crs (neg u) (neg v) = crs u v := by
  unfold crs neg
  simp only
  rw [Int.neg_mul_neg, Int.neg_mul_neg]
noncomputable def Dst (cs : List Pt) : Prop := (eds (cs ++ cs.take 1)).Pairwise Nsd
theorem half_side2 {m : Pt} {qs : List Pt} (hs : (m :: qs).Pairwise lexLe) : (∃ M r, halfR (m :: qs) = M :: r ∧ r.getLast? = some m ∧ ((edsR (M :: r)).Pairwise (fun u v => 0 < crs v u) ∧ ∀ u ∈ edsR (M :: r), lexP u) ∧ (∀ c ∈ m :: qs, lexLe c M) ∧ M ∈ m :: qs ∧ (∀ c ∈ r, c ∈ m :: qs) ∧ m ≠ M) ∨ ((halfR (m :: qs)).tail.length ≤ 1 ∧ ∀ c ∈ m :: qs, c = m) := by
  obtain ⟨P, k1, k0, k2, k3, k4, k5⟩ := half_ok m qs hs
  rcases k5 with ⟨k5, k6⟩ | ⟨t, a, r, e, k5, k6, k7⟩
  · refine .inr ⟨?_, fun c hc => k6 c (k1 c hc)⟩
    rcases k5 with e | e <;> rw [e] <;> simp
  · rw [e] at k4 k5 k6
    refine .inl ⟨t, a :: r, e, ?_, chain_pw _ k5, fun c hc => k7 c (k1 c hc), k0 t (k4 t (by simp)), fun c hc => k0 c (k4 c (List.mem_cons_of_mem _ hc)), fun e => ?_⟩
    · simpa using k6
    · subst e
      have h8 := k5.1
      have h9 := k2 a (k4 a (by simp))
      unfold lexLt at h8
      unfold lexLe at h9
      omega
theorem nsd_of {u v : Pt} (h : 0 < crs u v) : Nsd u v := .inl (by omega)
theorem hull_dst {rs : List Pt} (hs : rs.Pairwise lexLe) : Dst (hullOf rs) := by
  unfold hullOf
  split
  · unfold Dst
    show [((2 : Int), (0 : Int)), (-2, 2), (0, -2)].Pairwise Nsd
    simp only [List.pairwise_cons, List.mem_cons, List.not_mem_nil, or_false, forall_eq_or_imp, forall_eq, List.Pairwise.nil, and_true, false_implies, implies_true]
    refine ⟨⟨.inl (by decide), .inl (by decide)⟩, .inl (by decide)⟩
  rename_i hlen
  cases rs with
  | nil => exact absurd (by decide) hlen
  | cons m qs =>
  obtain ⟨x, ys, hx⟩ : ∃ x ys, (m :: qs).reverse = x :: ys := by
    cases e : (m :: qs).reverse with
    | nil => simp at e
    | cons x ys => exact ⟨x, ys, rfl⟩
  have mem : ∀ c, c ∈ m :: qs ↔ c ∈ x :: ys := fun c => by rw [← hx, List.mem_reverse]
  have hd : (x :: ys).Pairwise (fun a b => lexLe b a) := by
    rw [← hx]
    exact List.pairwise_reverse.mpr hs
  have hn : (neg x :: ys.map neg).Pairwise lexLe := by
    have : ((x :: ys).map neg).Pairwise lexLe := List.pairwise_map.mpr (hd.imp fun h => lex_neg h)
    exact this
  have en : halfR (neg x :: ys.map neg) = (halfR (x :: ys)).map neg := half_neg (x :: ys) []
  have hmin : ∀ c ∈ m :: qs, lexLe m c := fun c hc => by
    rcases List.mem_cons.mp hc with rfl | hc
    · unfold lexLe
      omega
    · exact (List.pairwise_cons.mp hs).1 c hc
  have hmax : ∀ c ∈ m :: qs, lexLe c x := fun c hc => by
    rcases List.mem_cons.mp ((mem c).mp hc) with rfl | hc
    · unfold lexLe
      omega
    · exact (List.pairwise_cons.mp hd).1 c hc
  rw [hx] at hlen ⊢
  rcases half_side2 hs with ⟨M, r, e, h1, h2, h3, h4, h5, h6⟩ | ⟨h1, h2⟩
  · have hM : M = x := lex_anti (hmax M h4) (h3 x ((mem x).mpr (List.mem_cons_self ..)))
    subst hM
    rcases half_side2 hn with ⟨N, s, e', g1, g2, g3, g4, g5, g6⟩ | ⟨g1, g2⟩
    · rw [en] at e'
      cases hU : halfR (M :: ys) with
      | nil => rw [hU] at e'; cases e'
      | cons u us =>
      rw [hU] at e'
      obtain ⟨eN, es⟩ := List.cons.inj e'
      have inv : ∀ c, c ∈ neg M :: ys.map neg → neg c ∈ m :: qs := fun c hc => by
        obtain ⟨d, hd, rfl⟩ := List.mem_map.mp (show c ∈ (M :: ys).map neg from hc)
        rw [neg_neg']
        exact (mem d).mpr hd
      have hu : u = m := by
        refine lex_anti ?_ ?_
        · have := lex_neg (g3 (neg m) ((List.mem_map (l := M :: ys)).mpr ⟨m, (mem m).mp (List.mem_cons_self ..), rfl⟩))
          rw [← eN, neg_neg', neg_neg'] at this
          exact this
        · have := inv N g4
          rw [← eN, neg_neg'] at this
          exact hmin u this
      subst hu
      have hus : us.getLast? = some M := by
        rw [← es] at g1
        rw [List.getLast?_map] at g1
        cases hq : us.getLast? with
        | none => rw [hq] at g1; cases g1
        | some y =>
          rw [hq] at g1
          have : neg y = neg M := by simpa using g1
          have := congrArg neg this
          rw [neg_neg', neg_neg'] at this
          rw [this]
      obtain ⟨r', hr⟩ := last_rev h1
      obtain ⟨us', hus'⟩ := last_rev hus
      rw [e]
      show Dst (r.reverse ++ us.reverse)
      have tk : (r.reverse ++ us.reverse).take 1 = [u] := by
        rw [hr]
        rfl
      have e2 : eds ((r.reverse ++ us.reverse) ++ [u]) = eds (M :: r).reverse ++ eds (u :: us).reverse := by
        rw [List.reverse_cons, List.reverse_cons, hus', List.append_assoc]
        exact eds_join M (us' ++ [u]) r.reverse
      have g2' : (edsR (u :: us)).Pairwise (fun u v => 0 < crs v u) ∧ ∀ v ∈ edsR (u :: us), lexP (neg v) := by
        rw [← es, ← eN, show neg u :: us.map neg = (u :: us).map neg from rfl, edsR_neg] at g2
        refine ⟨List.Pairwise.imp (fun {a b} h => ?_) (List.pairwise_map.mp g2.1), fun v hv => g2.2 _ (List.mem_map.mpr ⟨v, hv, rfl⟩)⟩
        rw [crs_neg] at h
        exact h
      unfold Dst
      rw [tk, e2, eds_rev, eds_rev]
      refine List.pairwise_append.mpr ⟨List.pairwise_reverse.mpr (h2.1.imp fun h => nsd_of h), List.pairwise_reverse.mpr (g2'.1.imp fun h => nsd_of h), fun a ha b hb => nsd_opp (h2.2 a (List.mem_reverse.mp ha)) (g2'.2 b (List.mem_reverse.mp hb))⟩
    · exfalso
      have q1 := g2 (neg m) ((List.mem_map (l := M :: ys)).mpr ⟨m, (mem m).mp (List.mem_cons_self ..), rfl⟩)
      have := congrArg neg q1
      rw [neg_neg', neg_neg'] at this
      exact h6 this
  · rcases half_side2 hn with ⟨N, s, e', g1, g2, g3, g4, g5, g6⟩ | ⟨g1, g2⟩
    · exfalso
      obtain ⟨d, hd, rfl⟩ := List.mem_map.mp (show N ∈ (x :: ys).map neg from g4)
      rw [h2 d ((mem d).mpr hd), h2 x ((mem x).mpr (List.mem_cons_self ..))] at g6
      exact g6 rfl
    · exfalso
      apply hlen
      rw [en] at g1
      simp only [List.length_append, List.length_reverse, List.length_tail, List.length_map] at h1 g1 ⊢
      omega
/-! ### sorted(set(..)) of pairs -/
section
open PySem PySem.Spec PyProof.Rows L2
noncomputable def kI (h : Heap) (v : Value) : Int × Int := ((TS.intsOf h v).getD 0 0, (TS.intsOf h v).getD 1 0)
theorem kI_is {P : Program} {w : World} {h : Heap} {b : Addr} {x y : Int} (t : IsT P w h [x, y] b) : kI h (.ref b) = (x, y) := by
  unfold kI
  have e : TS.intsOf h (.ref b) = [x, y] := (tupInts_of t).ints
  rw [e]
  rfl
theorem pair_of_isT {P : Program} {w : World} {h : Heap} {b : Addr} {x y : Int} (t : IsT P w h [x, y] b) : Srt.IsPair h (.ref b) x y := by
  obtain ⟨o, items, n, ho, hc, hd, hi⟩ := t
  have h2 := ints_of_items hi
  obtain ⟨l⟩ := items
  cases h2 with
  | cons _ t1 h3 =>
    cases h3 with
    | cons _ t2 h4 =>
      cases h4
      exact ⟨b, o, t1, t2, n, rfl, ho, hc, hd⟩
theorem sorted_setP {P : Program} {w : World} {A : Around} {E : Value → Shared → Prop} {s : Shared} {a : Addr} {L : List (Addr × List Int)} {es : Array (Int × Value)} {ep : Nat} {t : SetTable} {Q : Value → Shared → Prop} (R : SetTR P w s.heap a L es ep t) (hh : A.handled = none)
    (hB : ∀ p ∈ L, ∃ x y, p.2 = [x, y])
    (hQ : ∀ s' p (out : Array Value) (c : Nat) (L' : List (Addr × List Int)), (∀ b o, s.heap.get? b = some o → s'.heap.get? b = some o) → s'.gens = s.gens → s'.os = s.os → s.heap.objs.size ≤ p →
      s'.heap.get? p = some (seqObj "list" out c) → out.toList = L'.map (fun q => Value.ref q.1) → L'.Perm L → L'.Pairwise (fun q r => SrtO.lexB (r.2.getD 0 0, r.2.getD 1 0) (q.2.getD 0 0, q.2.getD 1 0) = false) → Q (.ref p) s') :
    wpAny (model P w) A (call (.builtin "sorted") [.ref a]) Q E s := by
  obtain ⟨o, ho, hex, hd⟩ := R.ob
  have hsz := R.size
  have hfew := R.few
  refine Calls.call_function_entry kind_sorted plain_sorted entry_sorted (args_sorted1 _) ?_
  unfold Builtin.«sorted»
  refine wpAny_bind (m := checkCount "sorted" 1 1 _) (wpAny_pure ?_)
  refine wpAny_bind (collect_set (A := A.in1) hh ⟨o, ho, hex.1, hd⟩ R.fits (by unfold scanBound; omega) R.tab.ris R.led fun s1 vs k1 hz g1 o1 pm => ?_)
  have hes : es.toList.map (·.2) = L.map fun q => Value.ref q.1 := by
    rw [R.rows]
    unfold rowsOf
    rw [List.map_map] <;> rfl
  rw [hes] at pm
  have ord : ∀ vs : List Value, (∀ v ∈ vs, ∃ q ∈ L, v = Value.ref q.1) → ∃ L1 : List (Addr × List Int), vs = L1.map (fun q => Value.ref q.1) ∧ ∀ q ∈ L1, q ∈ L := by
    intro vs
    induction vs with
    | nil => intro _; exact ⟨[], rfl, fun q hq => (by cases hq)⟩
    | cons v vs ih =>
      intro hv
      obtain ⟨q, hq, e⟩ := hv v List.mem_cons_self
      obtain ⟨L1, e1, hs⟩ := ih fun u hu => hv u (List.mem_cons_of_mem _ hu)
      refine ⟨q :: L1, by rw [List.map_cons, e, e1], fun r hr => ?_⟩
      rcases List.mem_cons.mp hr with z | z
      · rw [z]; exact hq
      · exact hs r z
  have one : ∀ q ∈ L, ∀ r ∈ L, q.1 = r.1 → q = r := fun q hq r hr e => by
    have a1 := R.tup q hq
    have a2 := R.tup r hr
    rw [e] at a1
    have e2 : q.2 = r.2 := a1.inj a2
    exact Prod.ext e e2
  have perm_of : ∀ L1 : List (Addr × List Int), (∀ q ∈ L1, q ∈ L) → (L1.map (fun q => Value.ref q.1)).Perm (L.map fun q => Value.ref q.1) → L1.Perm L := by
    intro L1 hs pm1
    have nL : L.Nodup := nodup_of_map R.nd
    have nref : (L.map fun q => Value.ref q.1).Nodup := by
      refine List.pairwise_map.mpr (List.Pairwise.imp_of_mem (fun {q r} hq hr hne e => ?_) nL)
      injection e with e
      exact hne (one q hq r hr e)
    have n1 : L1.Nodup := nodup_of_map (pm1.nodup_iff.mpr nref)
    refine (List.perm_ext_iff_of_nodup n1 nL).mpr fun q => ⟨hs q, fun hq => ?_⟩
    have hm : Value.ref q.1 ∈ L1.map (fun q => Value.ref q.1) := pm1.mem_iff.mpr (List.mem_map.mpr ⟨q, hq, rfl⟩)
    obtain ⟨r, hr, e⟩ := List.mem_map.mp hm
    injection e with e
    rw [← one r (hs r hr) q hq e]
    exact hr
  have hvl : vs.length < 64 := by rw [pm.length_eq, List.length_map]; exact hfew
  have hvz : vs.length ≤ sizeLine := by rw [sizeLine_eq]; omega
  refine wpAny_bind (wpAny_newList ?_ hvz)
  have hoL : (s1.heap.push (seqObj "list" vs.toArray 0)).get? s1.heap.objs.size = some (seqObj "list" vs.toArray 0) := Heap.get?_push_size _ rfl
  have tk : ∀ q ∈ L, IsT P w (s1.heap.push (seqObj "list" vs.toArray 0)) q.2 q.1 := fun q hq => isT_keep (R.tup q hq) fun b u e => Heap.get?_push_of_some _ (k1 b u e)
  have x : ∀ v ∈ vs, Srt.IsPair (s1.heap.push (seqObj "list" vs.toArray 0)) v (kI (s1.heap.push (seqObj "list" vs.toArray 0)) v).1 (kI (s1.heap.push (seqObj "list" vs.toArray 0)) v).2 := fun v hv => by
    obtain ⟨q, hq, e⟩ := List.mem_map.mp (pm.mem_iff.mp hv)
    obtain ⟨a1, a2, e2⟩ := hB q hq
    have t1 := tk q hq
    rw [e2] at t1
    rw [← e, kI_is t1]
    exact pair_of_isT t1
  refine wpAny_bind (wpAny_holding (wpAny_call_entry slot_list_sort ⟨_, hoL, rfl⟩ entry_list_sort (SrtO.list_sort_ord (s := { s1 with heap := s1.heap.push (seqObj "list" vs.toArray 0) }) (SrtO.swo_lex (kI (s1.heap.push (seqObj "list" vs.toArray 0)))) hoL hvz (fun h2 => SrtO.pairs_sortableO (by omega) x fun o e => ?_) fun out hs hb => ⟨_, rfl, ?_⟩) (args_list_sort _)))
  · have e' : some o = some (seqObj "list" vs.toArray 0) := e.symm.trans hoL
    cases e'
    intro c
    exact absurd (Value.type.inj c) (by decide)
  obtain ⟨c, hc⟩ := sortedHeap_at (vs := vs) (out := out.toArray) hoL
  obtain ⟨L', e', hs'⟩ := ord out fun v hv => by
    obtain ⟨q, hq, e⟩ := List.mem_map.mp (pm.mem_iff.mp (hb.perm.mem_iff.mp hv))
    exact ⟨q, hq, e.symm⟩
  have pL : L'.Perm L := perm_of L' hs' (by rw [← e']; exact hb.perm.trans pm)
  have pw : L'.Pairwise (fun q r => SrtO.lexB (r.2.getD 0 0, r.2.getD 1 0) (q.2.getD 0 0, q.2.getD 1 0) = false) := by
    rw [e'] at hs
    have kk : ∀ q ∈ L', kI (s1.heap.push (seqObj "list" vs.toArray 0)) (.ref q.1) = (q.2.getD 0 0, q.2.getD 1 0) := fun q hq => by
      obtain ⟨a1, a2, e2⟩ := hB q (hs' q hq)
      have t1 := tk q (hs' q hq)
      rw [e2] at t1
      rw [kI_is t1, e2]
      rfl
    refine List.Pairwise.imp_of_mem (fun {q r} hq hr hle => ?_) (List.pairwise_map.mp hs)
    rw [← kk q hq, ← kk r hr]
    exact hle
  refine wpAny_pure ⟨_, rfl, hQ _ s1.heap.objs.size out.toArray c L' (fun b u e => ?_) g1 o1 hz hc (by simpa using e') pL pw⟩
  have q := k1 b u e
  have hlt := Heap.lt_size q
  show (sortedHeap (s1.heap.push (seqObj "list" vs.toArray 0)) s1.heap.objs.size vs out.toArray).get? b = some u
  rw [sortedHeap_old (Nat.ne_of_lt hlt) (by rw [size_push']; exact Nat.lt_succ_of_lt hlt)]
  exact Heap.get?_push_of_some _ q
noncomputable def rSortP2 (K : PySem.W.Frag) (P : Program) (w : World) : List V → Hp → VK → Prop := fun vs H Q => ∃ (a : Addr) (L : List (Addr × List Int)), vs = [V.ref a] ∧ H a = some (SetTO P w a L) ∧ (∀ p ∈ L, SqT K H p.1 (p.2.map V.int)) ∧
  (∀ p ∈ L, ∃ x y, p.2 = [x, y]) ∧
  ∀ (L' : List (Addr × List Int)) (p : Addr), L'.Perm L → (L'.map (·.2)).Nodup → L'.length < 64 → L'.Pairwise (fun q r => SrtO.lexB (r.2.getD 0 0, r.2.getD 1 0) (q.2.getD 0 0, q.2.getD 1 0) = false) → H p = none → Q (.ref p) (upd H p (.lst (L'.map fun q => V.ref q.1)))
theorem cr_sortP2 {X : Cx} (hc : X.calm = true) : CallR X (.builtin "sorted") (rSortP2 X.K X.prog X.w) := by
  intro pins s σ H vs us Q I r h
  obtain ⟨a, L, rfl, ha, hk, hB, q⟩ := h
  have R0 : SetT0 X.prog X.w s.heap a L := (I.hok a _ ha).1
  obtain ⟨es, ep, t, R⟩ := R0.full fun p hp => I.isT (hk p hp)
  rw [Vals.ref1 r]
  refine sorted_setP R (I.ok.hd hc) hB fun s' p out c L' k g o hp hg hout pm pw => ?_
  have hfew : L'.length < 64 := by rw [pm.length_eq]; exact R.few
  have hlen : (L'.map fun q => V.ref q.1).length ≤ sizeLine := by rw [List.length_map, sizeLine_eq]; omega
  have hn : H p = none := I.hok.fresh hp
  have hv : Vals (L'.map fun q => V.ref q.1) out.toList := by rw [hout]; exact vals_of_refs L'
  have J : Inv X pins σ (upd H p (.lst (L'.map fun q => V.ref q.1))) { s with heap := s'.heap, gens := s'.gens, drawn := s'.drawn, toks := s'.toks } :=
    I.call (ch := []) (Un.laid k hp hn) (I.hok.laid k hp ⟨hlen, out.toList, c, hv, hg⟩) (by rw [g]; exact I.bare) (fun _ z => nomatch z)
  have e : s' = { s with heap := s'.heap, gens := s'.gens, drawn := s'.drawn, toks := s'.toks } := by
    cases s'
    cases s
    cases o
    rfl
  rw [e]
  exact ⟨.ref p, _, J, rfl, q L' p pm ((pm.map (·.2)).nodup_iff.mpr R.nd) hfew pw hn⟩
end
/-! ### sorted(set(..)) of pairs in the mirror -/
section
variable {K : PySem.W.Frag}
noncomputable def rSetT (K : PySem.W.Frag) (P : Program) (w : World) : List V → Hp → VK → Prop := rSetOfT K P w
theorem k_setT {X : Cx} (hK : X.K = K) (hc : X.calm = true) (hu : X.A.units + 64 < cLine) : CallR X (.type "set") (rSetT K X.prog X.w) := hK ▸ cr_setOfT hc hu
theorem k_sortT {X : Cx} (hK : X.K = K) (hc : X.calm = true) : CallR X (.builtin "sorted") (rSortP2 K X.prog X.w) := hK ▸ cr_sortP2 hc
theorem pts_ks {W : Wd} {H : Hp} : ∀ {ps : List Pt} {us : List V}, AtAll K W H us (ps.map pt) → ∃ ks : List (Addr × List Int), us = (ks.map fun p => V.ref p.1) ∧ ks.map (·.2) = ps.map (fun p => [p.1, p.2]) ∧ ∀ k ∈ ks, SqT K H k.1 (k.2.map V.int) ∧ ∃ p : Pt, k.2 = [p.1, p.2] ∧ At K W H (.ref k.1) (pt p)
  | [], _, h => by cases h; exact ⟨[], rfl, rfl, fun z hz => by cases hz⟩
  | p :: ps, _, h => by
    cases h with
    | @cons v vs _ _ a r =>
      obtain ⟨ks, h1, h2, h3⟩ := pts_ks r
      have a' := a
      cases a' with
      | @tup t xs _ s b =>
        cases b with
        | cons b1 b =>
          cases b with
          | cons b2 b =>
            cases b
            cases b1
            cases b2
            refine ⟨(t, [p.1, p.2]) :: ks, by rw [List.map_cons, h1], by rw [List.map_cons, h2, List.map_cons], fun k hk => ?_⟩
            rcases List.mem_cons.mp hk with rfl | hk
            · exact ⟨s, p, rfl, a⟩
            · exact h3 k hk
theorem ks_at {W : Wd} {H : Hp} : ∀ {L : List (Addr × List Int)}, (∀ k ∈ L, ∃ p : Pt, k.2 = [p.1, p.2] ∧ At K W H (.ref k.1) (pt p)) → AtAll K W H (L.map fun q => V.ref q.1) ((L.map fun q => ((q.2.getD 0 0, q.2.getD 1 0) : Pt)).map pt)
  | [], _ => .nil
  | k :: L, h => by
    obtain ⟨p, e, a⟩ := h k List.mem_cons_self
    refine .cons ?_ (ks_at fun z hz => h z (List.mem_cons_of_mem _ hz))
    show At K W H (.ref k.1) (pt (k.2.getD 0 0, k.2.getD 1 0))
    rw [e]
    exact a
noncomputable def aSS (f : AE) : AE := fun ρ n Q => f ρ n fun d n1 => ∃ ps : List Pt, d = .lst (ps.map pt) ∧ ps.length < 64 ∧ ∀ rs : List Pt, rs.Nodup → (∀ p, p ∈ rs ↔ p ∈ ps) → rs.Pairwise lexLe → Q (.lst (rs.map pt)) n1
instance {P : Program} {w : World} {te : TE} {f : AE} [DE K te f] : DE K (tCB (rSortP2 K P w) (tCons (tCB (rSetT K P w) (tCons te tNil)) tNil)) (aSS f) := ⟨fun W σ ρ n H Q Qa hQ hE o h =>
  DE.run (te := te) (f := f) W σ ρ n H _ _ (fun d n1 h1 H1 x l1 o1 ax => by
    obtain ⟨ps, rfl, hl, q⟩ := h1
    cases ax with
    | @lst l us _ nr s a =>
      obtain ⟨ks, rfl, h2, h3⟩ := pts_ks a
      have hkl : ks.length = ps.length := by simpa using congrArg List.length h2
      refine ⟨l, ks, rfl, SqL.of s, fun p hp => (h3 p hp).1, by omega, fun c L hc hL1 hL2 => ?_⟩
      have s1 : Same H1 (upd H1 c (SetTO P w c L)) := same_upd hc
      refine ⟨c, L, rfl, upd_same, fun p hp => Same.seqT s1 (h3 p (hL1 p hp)).1, fun p hp => ?_, fun L' p pm nd hlen pw hp => ?_⟩
      · obtain ⟨_, z, e, _⟩ := h3 p (hL1 p hp)
        exact ⟨_, _, e⟩
      · have o2 := o1.same s1
        have hin : ∀ k ∈ L', k ∈ ks := fun k hk => hL1 k (pm.mem_iff.mp hk)
        have hshape : ∀ k ∈ L', k.2 = [k.2.getD 0 0, k.2.getD 1 0] := fun k hk => by
          obtain ⟨_, z, e, _⟩ := h3 k (hin k hk)
          rw [e]
          rfl
        refine ((hQ.le l1).le (Wd.le_same s1)).new o2 (q (L'.map fun q => (q.2.getD 0 0, q.2.getD 1 0)) ?_ ?_ ?_) hp ?_
        · refine List.pairwise_map.mpr (List.Pairwise.imp_of_mem (fun {a b} ha hb hne e => hne ?_) (List.pairwise_map.mp nd))
          have e1 := congrArg Prod.fst e
          have e2 := congrArg Prod.snd e
          simp only at e1 e2
          rw [hshape a ha, hshape b hb, e1, e2]
        · intro p
          constructor
          · intro hm
            obtain ⟨k, hk, e⟩ := List.mem_map.mp hm
            have : k.2 ∈ ps.map (fun p => [p.1, p.2]) := by rw [← h2]; exact List.mem_map.mpr ⟨k, hin k hk, rfl⟩
            obtain ⟨z, hz, ez⟩ := List.mem_map.mp this
            rw [← ez] at e
            rw [← e]
            exact hz
          · intro hm
            have : [p.1, p.2] ∈ ks.map (·.2) := by rw [h2]; exact List.mem_map.mpr ⟨p, hm, rfl⟩
            obtain ⟨k, hk, e⟩ := List.mem_map.mp this
            have h4 := hL2 k hk
            rw [e] at h4
            obtain ⟨k', hk', e'⟩ := List.mem_map.mp h4
            refine List.mem_map.mpr ⟨k', pm.mem_iff.mpr hk', ?_⟩
            rw [e']
            rfl
        · refine List.pairwise_map.mpr (pw.imp fun {a b} h => ?_)
          have := SrtO.lexB_no.mp h
          unfold lexLe
          simp only at this ⊢
          omega
        · refine .lst (o2.fresh hp) upd_same ?_
          refine AtAll.le o2 (Wd.le_same (same_upd hp)) _ ?_
          refine ks_at fun k hk => ?_
          obtain ⟨_, z, e, az⟩ := h3 k (hin k hk)
          exact ⟨z, e, At.le o1 (Wd.le_same s1) _ az⟩) hE o h⟩
end
/-! ### lists that a call tells, new ones: they may be built on -/
section
variable {K : PySem.W.Frag} {ow : List Nat} {Wx : WX}
noncomputable def WantsN (K : PySem.W.Frag) (W : Wd) (H : Hp) (Qa : D → Nat → Prop) (Q : VK) : Prop := ∀ d n', Qa d n' → ∀ H' v, W.le H H' → W.ok K n' H' → At K W H' v d → (∀ a, v = .ref a → H a = none) → Q v H'
/-- things without lists -/
inductive Flt : D → Prop
  | int (i : Int) : Flt (.int i)
  | str (x : Str) : Flt (.str x)
  | pair (i j : Int) : Flt (.tup [.int i, .int j])
noncomputable def less (H : Hp) (a : Addr) : Hp := fun x => if x = a then none else H x
theorem less_ne {H : Hp} {a x : Addr} (h : x ≠ a) : less H a x = H x := if_neg h
theorem less_same {H : Hp} {a : Addr} : less H a a = none := if_pos rfl
theorem less_back {H : Hp} {a : Addr} {o : HO} (h : H a = some o) : upd (less H a) a o = H := by
  funext x
  by_cases e : x = a
  · subst e; rw [upd_same, h]
  · rw [upd_ne e, less_ne e]
theorem sqt_less {H : Hp} {a x : Addr} {us xs : List V} (ha : H a = some (.lst us)) (h : SqT K H x xs) : SqT K (less H a) x xs := by
  rcases h with (h | ⟨o, h⟩) | h
  · exact .inl (.inl (by rw [less_ne (fun e => by rw [e, ha] at h; cases h)]; exact h))
  · exact .inl (.inr ⟨o, by rw [less_ne (fun e => by rw [e, ha] at h; cases h)]; exact h⟩)
  · exact .inr h
theorem ok_less {W : Wd} {n : Nat} {H : Hp} {a : Addr} {us : List V} (o : W.ok K n H) (ha : H a = some (.lst us)) (nr : ¬ W.rs a) : W.ok K n (less H a) := by
  refine ⟨fun d b e => ?_, fun p hp => ?_, o.dis⟩
  · obtain ⟨c, ⟨⟨s, ns, cs, i, k, h1, h2, h3, h4⟩, ne⟩, l⟩ := o.deck d b e
    have nd : d ≠ a := fun z => nr (.inl ⟨d, b, e, .inl z.symm⟩)
    have nb : b ≠ a := fun z => nr (.inl ⟨d, b, e, .inr z.symm⟩)
    refine ⟨c, ⟨⟨s, ns, cs, i, k, by rw [less_ne nd]; exact h1, by rw [less_ne nb]; exact h2, ?_, h4⟩, ne⟩, l⟩
    rcases h3 with ⟨ob, h⟩ | h
    · exact .inl ⟨ob, by rw [less_ne (fun z => by rw [z, ha] at h; cases h)]; exact h⟩
    · exact .inr h
  · obtain ⟨h1, h2⟩ := o.owns p hp
    have np : p.1 ≠ a := fun z => nr (.inr (List.mem_map.mpr ⟨p, hp, z⟩))
    exact ⟨by rw [less_ne np]; exact h1, h2⟩
/-! the rest of a def in which the built lists are only read -/
end
/-! ### built lists that begin as a sum of lists, or go on as one -/
/-! CUT -/
/-! ### shapes, ways, fractions -/
theorem small_log {m : Int} (h0 : 0 < m) (h1 : m ≤ 4000000) : m.natAbs.log2 < 9000 := by
  have e : (2 : Nat) ^ 22 = 4194304 := by decide
  exact Nat.lt_of_lt_of_le (log2_lt (k := 22) (by omega) (by decide)) (by decide)
theorem bd_abs {k : Nat} {r n : Int} (h1 : n.natAbs < 2 ^ k) (h2 : -n ≤ r) (h3 : r ≤ n) : Bd k r := by
  unfold Bd
  omega
noncomputable def fr (a b : Int) : D := .tup [.int a, .int b]
noncomputable def val (a b : Int) : Rat := (a : Rat) / (b : Rat)
/-- a fraction: two numbers, the second above nought, so many bits at most, worth q -/
noncomputable def Fq (k : Nat) (d : D) (q : Rat) : Prop := ∃ a b : Int, d = fr a b ∧ Bd k a ∧ Bd k b ∧ 0 < b ∧ q = Rat.divInt a b
theorem Fq.le {k m : Nat} {d : D} {q : Rat} (h : Fq k d q) (l : k ≤ m) : Fq m d q := by
  obtain ⟨a, b, e, h1, h2, h3, h4⟩ := h
  exact ⟨a, b, e, h1.le l, h2.le l, h3, h4⟩
noncomputable def Sq (k : Nat) (d : D) (x y : Rat) : Prop := ∃ u v, d = .tup [u, v] ∧ Fq k u x ∧ Fq k v y
theorem Sq.le {k m : Nat} {d : D} {x y : Rat} (h : Sq k d x y) (l : k ≤ m) : Sq m d x y := by
  obtain ⟨u, v, e, h1, h2⟩ := h
  exact ⟨u, v, e, h1.le l, h2.le l⟩
noncomputable def Next (cs : List Pt) : Prop := ∀ e ∈ cs.zip (cs.drop 1 ++ cs.take 1), e.1 ≠ e.2
noncomputable def PtS (p : Pt) : Prop := -3000000 ≤ p.1 ∧ p.1 ≤ 3000000 ∧ -3000000 ≤ p.2 ∧ p.2 ≤ 3000000
noncomputable def ShOk (cs : List Pt) : Prop := 3 ≤ cs.length ∧ cs.length ≤ 16 ∧ (∀ p ∈ cs, PtS p) ∧ Next cs ∧ Dst cs ∧ Convex cs
theorem next4 {a b c d : Pt} (h1 : a ≠ b) (h2 : b ≠ c) (h3 : c ≠ d) (h4 : d ≠ a) : Next [a, b, c, d] := fun e he => by
  have : e = (a, b) ∨ e = (b, c) ∨ e = (c, d) ∨ e = (d, a) := by simpa using he
  rcases this with rfl | rfl | rfl | rfl <;> assumption
theorem ne_x {a b c d : Int} (h : a ≠ c) : ((a, b) : Pt) ≠ (c, d) := fun e => h (congrArg Prod.fst e)
theorem ne_y {a b c d : Int} (h : b ≠ d) : ((a, b) : Pt) ≠ (c, d) := fun e => h (congrArg Prod.snd e)
theorem pw4 {R : Pt → Pt → Prop} {a b c d : Pt} (h1 : R a b) (h2 : R a c) (h3 : R a d) (h4 : R b c) (h5 : R b d) (h6 : R c d) : [a, b, c, d].Pairwise R := by
  simp only [List.pairwise_cons, List.mem_cons, List.not_mem_nil, or_false, forall_eq_or_imp, forall_eq, List.Pairwise.nil, and_true, false_implies, implies_true]
  exact ⟨⟨h1, h2, h3⟩, ⟨h4, h5⟩, h6⟩
theorem box_dst {x y u v : Int} (hu : 0 < u) (hv : 0 < v) : Dst [(x, y), (x + u, y), (x + u, y + v), (x, y + v)] := by
  have e : eds ([(x, y), (x + u, y), (x + u, y + v), (x, y + v)] ++ List.take 1 [(x, y), (x + u, y), (x + u, y + v), (x, y + v)]) = [(u, 0), (0, v), (-u, 0), (0, -v)] := by
    show [vec (x, y) (x + u, y), vec (x + u, y) (x + u, y + v), vec (x + u, y + v) (x, y + v), vec (x, y + v) (x, y)] = _
    unfold vec
    simp only
    rw [show x + u - x = u by omega, show y - y = (0 : Int) by omega, show x + u - (x + u) = (0 : Int) by omega, show y + v - y = v by omega, show x - (x + u) = -u by omega, show y + v - (y + v) = (0 : Int) by omega, show x - x = (0 : Int) by omega, show y - (y + v) = -v by omega]
  unfold Dst
  rw [e]
  have p := Int.mul_pos hu hv
  have lx : ∀ a b : Int, 0 < a → lexP (a, b) := fun a b h => .inl h
  have ly : ∀ b : Int, 0 < b → lexP (0, b) := fun b h => .inr ⟨rfl, h⟩
  have n1 : lexP (neg (-u, 0)) := .inl (by show 0 < -(-u); omega)
  have n2 : lexP (neg (0, -v)) := .inr ⟨rfl, by show 0 < -(-v); omega⟩
  refine pw4 (nsd_of ?_) (.inr ⟨lx _ _ hu, n1⟩) (.inr ⟨lx _ _ hu, n2⟩) (.inr ⟨ly _ hv, n1⟩) (.inr ⟨ly _ hv, n2⟩) (nsd_of ?_)
  · show 0 < u * v - 0 * 0
    omega
  · show 0 < -u * -v - 0 * 0
    rw [Int.neg_mul_neg]
    omega
theorem box_cvx {x y u v : Int} (hu : 0 < u) (hv : 0 < v) : Convex [(x, y), (x + u, y), (x + u, y + v), (x, y + v)] := fun e he => by
  have huv : 0 ≤ u * v := Int.mul_nonneg (by omega) (by omega)
  have : e = ((x, y), (x + u, y)) ∨ e = ((x + u, y), (x + u, y + v)) ∨ e = ((x + u, y + v), (x, y + v)) ∨ e = ((x, y + v), (x, y)) := by simpa using he
  rcases this with rfl | rfl | rfl | rfl
  all_goals
    refine ⟨fun z => by have := congrArg Prod.fst z; have := congrArg Prod.snd z; simp only at *; omega, fun c hc => ?_⟩
    have hc' : c = (x, y) ∨ c = (x + u, y) ∨ c = (x + u, y + v) ∨ c = (x, y + v) := by simpa using hc
    rcases hc' with rfl | rfl | rfl | rfl <;> (unfold leftI; simp only; grind)
theorem room65 {k : Nat} {A : Around} (r : Room k A) : A.units + 65 < cLine := by
  have := r.un
  omega
noncomputable def rNIP (K : PySem.W.Frag) : R2 := rNotInD K
theorem k_notInP {X : Cx} (hK : X.K = K) (hu : X.A.units + 65 < cLine) : OpR X (compareOp .NotIn) (rNIP K) := hK ▸ op_notInD hu
theorem pt_isD : ∀ ws : List Pt, isDAll (ws.map pt) = true
  | [] => rfl
  | w :: ws => by
    show ((pt w).isD && isDAll (ws.map pt)) = true
    rw [pt_isD ws]
    rfl
theorem pt_lay : ∀ ws : List Pt, PyData.canLayAll0 (pdAll (ws.map pt)) = true ∧ PyData.depthAll (pdAll (ws.map pt)) ≤ 1
  | [] => ⟨rfl, Nat.zero_le _⟩
  | w :: ws => by
    obtain ⟨h1, h2⟩ := pt_lay ws
    refine ⟨?_, ?_⟩
    · show (PyData.canLay0 (pt w).pd && PyData.canLayAll0 (pdAll (ws.map pt))) = true
      rw [h1]
      rfl
    · show max (PyData.depth (pt w).pd) (PyData.depthAll (pdAll (ws.map pt))) ≤ 1
      exact Nat.max_le.mpr ⟨by show PyData.depth (.tuple [.int w.1, .int w.2]) ≤ 1; simp [PyData.depth, PyData.depthAll], h2⟩
theorem pt_shaped (ws : List Pt) : SeqAt.shaped (.list (pdAll (ws.map pt))) = true := by
  obtain ⟨h1, h2⟩ := pt_lay ws
  unfold SeqAt.shaped
  refine Bool.and_eq_true_iff.mpr ⟨h1, decide_eq_true ?_⟩
  show PyData.depthAll (pdAll (ws.map pt)) + 1 ≤ 64
  omega
theorem pt_eqv (v w : Pt) : PyData.eqv (pt v).pd (pt w).pd = decide (v = w) := by
  show PyData.eqv (.tuple [.int v.1, .int v.2]) (.tuple [.int w.1, .int w.2]) = _
  simp only [PyData.eqv, PyData.eqvAll, Bool.and_true]
  by_cases h : v = w
  · subst h
    simp
  · rw [decide_eq_false h]
    have : ¬ (v.1 = w.1 ∧ v.2 = w.2) := fun z => h (Prod.ext z.1 z.2)
    by_cases h1 : v.1 = w.1
    · have h2 : v.2 ≠ w.2 := fun z => this ⟨h1, z⟩
      simp [h2]
    · simp [h1]
theorem pt_any (w : Pt) : ∀ ws : List Pt, ((pdAll (ws.map pt)).any fun z => PyData.eqv z (pt w).pd) = decide (w ∈ ws)
  | [] => by simp [pdAll]
  | v :: ws => by
    show (PyData.eqv (pt v).pd (pt w).pd || (pdAll (ws.map pt)).any fun z => PyData.eqv z (pt w).pd) = _
    rw [pt_any w ws, pt_eqv]
    by_cases h1 : v = w
    · subst h1
      simp
    · have h2 : ¬ w = v := fun z => h1 z.symm
      by_cases h3 : w ∈ ws
      · simp [h3]
      · simp [h1, h2, h3]
noncomputable def aNIP : D → D → Nat → (D → Nat → Prop) → Prop := fun d e n Q => ∃ (w : Pt) (ws : List Pt), d = pt w ∧ e = .lst (ws.map pt) ∧ Q (.bl (decide (w ∉ ws))) n
instance : D2 K (rNIP K) aNIP := ⟨fun W n H x y d e Q Qa hQ o ax ay h => by
  obtain ⟨w, ws, rfl, rfl, h⟩ := h
  exact ⟨(pt w).pd, pdAll (ws.map pt), At.dp (pt w) rfl ax, At.dp (.lst (ws.map pt)) (pt_isD ws) ay, (by simp [SeqAt.shaped, pt, D.pd, pdAll, PyData.canLay0, PyData.canLayAll0, PyData.depth, PyData.depthAll]), pt_shaped ws, by rw [pt_any]; exact hQ.now o (by rw [← decide_not]; exact h) (.bl _)⟩⟩
/-- ways: two whole numbers, not both nought -/
noncomputable def WyS (k : Nat) (w : Pt) : Prop := Bd k w.1 ∧ Bd k w.2
noncomputable def wayI (p q : Int) : Pt := (p / gcdI p q, q / gcdI p q)
theorem wayI_wys {p q : Int} {k : Nat} (h0 : ¬ (p = 0 ∧ q = 0)) (bp : Bd k p) (bq : Bd k q) : WyS k (wayI p q) := ⟨bp.of_le (div_natAbs_le (gcdI_pos2 h0) (gcdI_dvd_l _ _)), bq.of_le (div_natAbs_le (gcdI_pos2 h0) (gcdI_dvd_r _ _))⟩
theorem next_at {cs : List Pt} (h : Next cs) {k : Nat} (hk : k < cs.length) : cs[k]'hk ≠ cs[(k + 1) % cs.length]'(Nat.mod_lt _ (by omega)) := by
  have hl : (cs.drop 1 ++ cs.take 1).length = cs.length := by simp; omega
  have hz : k < (cs.zip (cs.drop 1 ++ cs.take 1)).length := by rw [List.length_zip, hl]; omega
  have := h _ (List.getElem_mem hz)
  rw [List.getElem_zip] at this
  simp only at this
  intro e
  refine this ?_
  rw [e]
  by_cases hk1 : k + 1 < cs.length
  · rw [List.getElem_append_left (by simp; omega), List.getElem_drop]
    congr 1
    rw [Nat.mod_eq_of_lt hk1]
    omega
  · have hk2 : k + 1 = cs.length := by omega
    rw [List.getElem_append_right (by simp; omega), List.getElem_take]
    congr 1
    rw [hk2, Nat.mod_self]
    simp
    omega
noncomputable def prs (cs : List Pt) : List (Pt × Pt) := cs.zip (cs.drop 1 ++ cs.take 1)
noncomputable def wyE (e : Pt × Pt) : Pt := wayI (e.2.2 - e.1.2) (e.1.1 - e.2.1)
noncomputable def waysOf (cs : List Pt) : List Pt := (prs cs).map wyE
theorem prs_len {cs : List Pt} (h : cs ≠ []) : (prs cs).length = cs.length := by
  unfold prs
  rw [List.length_zip, List.length_append, List.length_drop, List.length_take]
  have : 0 < cs.length := List.length_pos_iff.mpr h
  omega
theorem prs_get {cs : List Pt} {k : Nat} (hk : k < cs.length) : (prs cs)[k]? = some (cs[k]'hk, cs[(k + 1) % cs.length]'(Nat.mod_lt _ (by omega))) := by
  have hl : (cs.drop 1 ++ cs.take 1).length = cs.length := by simp; omega
  have hz : k < (cs.zip (cs.drop 1 ++ cs.take 1)).length := by rw [List.length_zip, hl]; omega
  unfold prs
  rw [List.getElem?_eq_getElem hz, List.getElem_zip]
  congr 2
  by_cases hk1 : k + 1 < cs.length
  · rw [List.getElem_append_left (by simp; omega), List.getElem_drop]
    congr 1
    rw [Nat.mod_eq_of_lt hk1]
    omega
  · have hk2 : k + 1 = cs.length := by omega
    rw [List.getElem_append_right (by simp; omega), List.getElem_take]
    congr 1
    rw [hk2, Nat.mod_self]
    simp
    omega
theorem prs_ok {cs : List Pt} (h : ShOk cs) : ∀ e ∈ prs cs, e.1 ≠ e.2 ∧ PtS e.1 ∧ PtS e.2 := fun e he => by
  refine ⟨h.2.2.2.1 e he, h.2.2.1 _ (List.of_mem_zip he).1, h.2.2.1 _ ?_⟩
  rcases List.mem_append.mp (List.of_mem_zip he).2 with h1 | h1
  · exact List.mem_of_mem_drop h1
  · exact List.mem_of_mem_take h1
theorem ways_wys {cs : List Pt} (h : ShOk cs) : ∀ w ∈ waysOf cs, WyS 23 w := fun w hw => by
  obtain ⟨e, he, rfl⟩ := List.mem_map.mp hw
  obtain ⟨h1, h2, h3⟩ := prs_ok h e he
  unfold PtS at h2 h3
  exact wayI_wys (fun z => h1 (Prod.ext (by omega) (by omega))) (bd_abs (n := 6000000) (by decide) (by omega) (by omega)) (bd_abs (n := 6000000) (by decide) (by omega) (by omega))
theorem eds_zip (x : Pt) : ∀ h : List Pt, eds (h ++ [x]) = (h.zip (h.drop 1 ++ [x])).map (fun e => vec e.1 e.2)
  | [] => rfl
  | [a] => rfl
  | a :: b :: r => by
    have := eds_zip x (b :: r)
    show vec a b :: eds (b :: r ++ [x]) = vec a b :: ((b :: r).zip (r ++ [x])).map _
    rw [this]
    rfl
theorem way_same {u v : Pt} (hu : u ≠ (0, 0)) (hv : v ≠ (0, 0)) (e : wayI u.2 (-u.1) = wayI v.2 (-v.1)) : ¬ Nsd u v := by
  have h1 : ¬ (u.2 = 0 ∧ -u.1 = 0) := fun z => hu (Prod.ext (by show u.1 = 0; omega) z.1)
  have h2 : ¬ (v.2 = 0 ∧ -v.1 = 0) := fun z => hv (Prod.ext (by show v.1 = 0; omega) z.1)
  have g1 := gcdI_pos2 h1
  have g2 := gcdI_pos2 h2
  have a1 := div_mul (gcdI_dvd_l u.2 (-u.1))
  have a2 := div_mul (gcdI_dvd_r u.2 (-u.1))
  have b1 := div_mul (gcdI_dvd_l v.2 (-v.1))
  have b2 := div_mul (gcdI_dvd_r v.2 (-v.1))
  have e1 := congrArg Prod.fst e
  have e2 := congrArg Prod.snd e
  unfold wayI at e1 e2
  simp only at e1 e2
  rw [← e1] at b1
  rw [← e2] at b2
  generalize gcdI u.2 (-u.1) = g at *
  generalize gcdI v.2 (-v.1) = g' at *
  generalize u.2 / g = p at *
  generalize -u.1 / g = q at *
  obtain ⟨u1, u2⟩ := u
  obtain ⟨v1, v2⟩ := v
  simp only at *
  rintro (h | ⟨l1, l2⟩)
  · apply h
    unfold crs
    simp only
    have eu : u1 = -(g * q) := by omega
    have ev : v1 = -(g' * q) := by omega
    rw [eu, ev, ← a1, ← b1]
    grind
  · unfold lexP neg at *
    simp only at l1 l2
    rcases Int.lt_trichotomy q 0 with hq | hq | hq
    · have := Int.mul_neg_of_pos_of_neg g2 hq
      omega
    · subst hq
      rw [Int.mul_zero] at a2 b2
      rcases Int.lt_trichotomy p 0 with hp | hp | hp
      · have := Int.mul_neg_of_pos_of_neg g1 hp
        omega
      · subst hp
        rw [Int.mul_zero] at a1
        omega
      · have := Int.mul_pos g2 hp
        omega
    · have := Int.mul_pos g1 hq
      omega
theorem ways_nodup {cs : List Pt} (h : ShOk cs) : (waysOf cs).Nodup := by
  have hd := h.2.2.2.2.1
  have hne : cs ≠ [] := fun z => by have := h.1; rw [z] at this; simp at this
  unfold Dst at hd
  obtain ⟨x, r, rfl⟩ : ∃ x r, cs = x :: r := by
    cases cs with
    | nil => exact absurd rfl hne
    | cons x r => exact ⟨x, r, rfl⟩
  have et : (x :: r).take 1 = [x] := rfl
  rw [et, eds_zip x (x :: r)] at hd
  refine List.pairwise_map.mpr (List.Pairwise.imp_of_mem (fun {e f} he hf hn z => ?_) (List.pairwise_map.mp hd))
  obtain ⟨h1, _⟩ := prs_ok h e he
  obtain ⟨h2, _⟩ := prs_ok h f hf
  have nz : ∀ e : Pt × Pt, e.1 ≠ e.2 → vec e.1 e.2 ≠ (0, 0) := fun e h z => h (by
    have z1 := congrArg Prod.fst z
    have z2 := congrArg Prod.snd z
    unfold vec at z1 z2
    simp only at z1 z2
    exact Prod.ext (by omega) (by omega))
  refine way_same (nz e h1) (nz f h2) ?_ hn
  have ew : ∀ e : Pt × Pt, wayI (vec e.1 e.2).2 (-(vec e.1 e.2).1) = wyE e := fun e => by
    unfold vec wyE
    simp only
    rw [show -(e.2.1 - e.1.1) = e.1.1 - e.2.1 by omega]
  rw [ew, ew]
  exact z
structure Bw where
  nm : D
  cs : List Pt
  m : Int
  rail : D
  px : Rat
  py : Rat
  x : Rat
  y : Rat
noncomputable def Bw.d (b : Bw) : D := .tup [b.nm, .tup (b.cs.map pt), .int b.m, b.rail, spt b.px b.py, spt b.x b.y]
noncomputable def Bw.ok (k m : Nat) (b : Bw) : Prop := ShOk b.cs ∧ BdQ k b.px ∧ BdQ k b.py ∧ BdQ m b.x ∧ BdQ m b.y
noncomputable def ngP (w : Pt) : Pt := (-w.1, -w.2)
theorem ngP_ngP (w : Pt) : ngP (ngP w) = w := by unfold ngP; simp
theorem ng_wys {w : Pt} {k : Nat} (h : WyS k w) : WyS k (ngP w) := ⟨h.1.neg, h.2.neg⟩
/-- the ways of a pair: each once, in order -/
structure PwOk (as bs rs : List Pt) : Prop where
  nd : rs.Nodup
  mem : ∀ p, p ∈ rs ↔ p ∈ as ∨ ngP p ∈ bs
  ord : rs.Pairwise lexLe
theorem PwOk.uniq {as bs rs rs' : List Pt} (h : PwOk as bs rs) (g : PwOk as bs rs') : rs = rs' :=
  List.Perm.eq_of_pairwise (fun a b _ _ h1 h2 => lex_anti h1 h2) h.ord g.ord ((List.perm_ext_iff_of_nodup h.nd g.nd).mpr fun p => by rw [h.mem, g.mem])
theorem PwOk.sub {as bs rs : List Pt} (h : PwOk as bs rs) {F : Pt → Prop} (h1 : ∀ w ∈ as, F w) (h2 : ∀ w ∈ bs, F (ngP w)) : ∀ w ∈ rs, F w := fun w hw => by
  rcases (h.mem w).mp hw with g | g
  · exact h1 w g
  · have := h2 _ g
    rwa [ngP_ngP] at this
theorem aIx_str {z : Str} {i : Int} {c n : Nat} {Q : D → Nat → Prop} (hl : z.length ≤ 1000000) (e : atI z.cps.toList i = some c) (q : Q (.str ⟨#[c]⟩) n) : aIxS (.str z) (.int i) n Q := by
  unfold aIxS
  refine ⟨hl, ?_⟩
  rw [e]
  exact q
theorem aIx_lst0 {d : D} {r : List D} {n : Nat} {Q : D → Nat → Prop} (q : Q d n) : aIx (.lst (d :: r)) (.int 0) n Q := by
  have e : atI (d :: r) 0 = some d := atI_nat (j := 0) rfl
  show (match atI (d :: r) 0 with
    | some d => Q d n
    | none => False)
  rw [e]
  exact q
/-! ### the ways of a pair -/
noncomputable def a_p_way_of : ASp := fun ds n Q => ∃ (p q : Int) (k : Nat), ds = [.int p, .int q] ∧ ¬ (p = 0 ∧ q = 0) ∧ Bd k p ∧ Bd k q ∧ k ≤ 8900 ∧ Q (pt (wayI p q)) n
theorem ok_p_way_of (T : Tx K mg A) : FnOk P w K mg base CX0 4 A.f_p_way_of A.fd_p_way_of ["p", "q"] (spOf K 2 a_p_way_of) := by
  refine fn_mir [] 3 rfl (by decide) (by decide) T.F_p_way_of sc_p_way_of fun cdv Ar outer s H E hr => ?_
  refine ⟨_, _, (pss_cons (ps_set (i := 2) sc_p_way_of.nd rfl (.inl rfl) (pe_call (ok_p_common_divisor (P := P) (K := K) T) (hr.mono (by decide)) (by rfl) T.g_p_common_divisor T.F_p_common_divisor.kp T.b_p_common_divisor .nil pass0 (pa_cons (pv 0) (pa_cons (pv 1) pa_nil))))
    (pss_cons (ps_if (pt_cmpR (k_eq (K := K) rfl hr.units) (pv 2) pe_int (nomark _))
      (pss_one ps_never)
      pss_nil)
    (pss_one (ps_ret (pe_tup (pa_cons (pe_op k_fdiv (pv 0) (pv 2)) (pa_cons (pe_op k_fdiv (pv 1) (pv 2)) pa_nil))))))), by infer_instance, fun ds n Q hl hA => ?_⟩
  obtain ⟨p, q, k, rfl, h0, bp, bq, hk, Qk⟩ := hA
  have g0 := gcdI_pos2 h0
  have gb := gcdI_bd2 bp bq h0
  refine ⟨p, q, rfl, bp.le (by omega), bq.le (by omega), dIte (fun e => absurd e (by omega)) fun _ => ?_⟩
  exact ⟨divA gb g0 (by omega), divA gb g0 (by omega), Qk⟩
noncomputable def prD (e : Pt × Pt) : D := .tup [pt e.1, pt e.2]
theorem zipD_prs : ∀ as bs : List Pt, zipD (as.map pt) (bs.map pt) = (as.zip bs).map prD
  | [], _ => by simp [zipD]
  | _ :: _, [] => by simp [zipD]
  | a :: as, b :: bs => by
    rw [List.map_cons, List.map_cons, zipD, zipD_prs as bs]
    rfl
theorem sIx_one {n d : Nat} (h : 1 ≤ n) : HT.sIx n d (some 1) = 1 := by
  unfold HT.sIx
  simp
  omega
theorem cut_drop {xs : List D} (h : 1 ≤ xs.length) : cutL xs (some 1) none = xs.drop 1 := by
  unfold cutL
  rw [HT.sIx_none, sIx_one h, ← List.length_drop, List.take_length]
theorem cut_take {xs : List D} (h : 1 ≤ xs.length) : cutL xs none (some 1) = xs.take 1 := by
  unfold cutL
  rw [HT.sIx_none, sIx_one h, List.drop_zero, Nat.sub_zero]
noncomputable def a_p_side_ends : ASp := fun ds n Q => ∃ cs : List Pt, ds = [.tup (cs.map pt)] ∧ ShOk cs ∧ Q (.lst ((prs cs).map prD)) n
theorem ok_p_side_ends (T : Tx K mg A) : FnOk P w K mg base CX0 1 A.f_p_side_ends A.fd_p_side_ends ["corners"] (spOf K 1 a_p_side_ends) := by
  refine fn_mir [] 1 rfl (by decide) (by decide) T.F_p_side_ends sc_p_side_ends fun cdv Ar outer s H E hr => ?_
  refine ⟨_, _, (pss_one (ps_ret (k_lzip (K := K) rfl rfl (by rfl) T.m_list (by rfl) T.m_zip (pa_cons (pv 0) (pa_cons (pe_op (k_add (K := K) rfl) (pe_slice (k_sl (K := K) rfl) (pv 0) (po_some pe_int) po_none) (pe_slice (k_sl (K := K) rfl) (pv 0) po_none (po_some pe_int))) pa_nil))))), by infer_instance, fun ds n Q hl hA => ?_⟩
  obtain ⟨cs, rfl, hS, q⟩ := hA
  have h3 := hS.1
  have h16 := hS.2.1
  have hl : (cs.map pt).length = cs.length := List.length_map _
  have e1 := cut_drop (xs := cs.map pt) (by omega)
  have e2 := cut_take (xs := cs.map pt) (by omega)
  have e3 : (cs.map pt).drop 1 ++ (cs.map pt).take 1 = (cs.drop 1 ++ cs.take 1).map pt := by rw [List.map_append, List.map_drop, List.map_take]
  refine ⟨fun z => ?_, fun z => ?_, fun z => ?_, ?_, ?_, ?_, ?_⟩
  · have := z.1
    rw [sIx_one (by omega)] at this
    cases this
  · have := z.2
    rw [sIx_one (by omega)] at this
    omega
  · rw [e1] at z
    have := congrArg List.length z
    rw [List.length_drop] at this
    simp at this
    omega
  · rw [e1, e2, List.length_drop, List.length_take]
    omega
  · rw [e1, e2, List.length_append, List.length_drop, List.length_take]
    omega
  · omega
  · show Q (.lst (zipD (cs.map pt) (cutL (cs.map pt) (some 1) none ++ cutL (cs.map pt) none (some 1)))) n
    rw [e1, e2, e3, zipD_prs]
    exact q
noncomputable def a_p_outwards : ASp := fun ds n Q => ∃ e : Pt × Pt, ds = [pt e.1, pt e.2] ∧ e.1 ≠ e.2 ∧ PtS e.1 ∧ PtS e.2 ∧ Q (pt (wyE e)) n
theorem ok_p_outwards (T : Tx K mg A) : FnOk P w K mg base CX0 5 A.f_p_outwards A.fd_p_outwards ["start", "end"] (spOf K 2 a_p_outwards) := by
  refine fn_mir [] 6 rfl (by decide) (by decide) T.F_p_outwards sc_p_outwards fun cdv Ar outer s H E hr => ?_
  refine ⟨_, _, (pss_cons (ps_asg (pv 0) (k_gtup (K := K) (m := 2) rfl rfl (pgs_cons (pg_name (i := 2) sc_p_outwards.nd rfl (.inl rfl)) (pgs_cons (pg_name (i := 3) sc_p_outwards.nd rfl (.inl rfl)) pgs_nil))))
    (pss_cons (ps_asg (pv 1) (k_gtup (K := K) (m := 2) rfl rfl (pgs_cons (pg_name (i := 4) sc_p_outwards.nd rfl (.inl rfl)) (pgs_cons (pg_name (i := 5) sc_p_outwards.nd rfl (.inl rfl)) pgs_nil))))
    (pss_one (ps_ret (pe_call (ok_p_way_of (P := P) (K := K) T) (hr.mono (by decide)) (by rfl) T.g_p_way_of T.F_p_way_of.kp T.b_p_way_of .nil pass0 (pa_cons (pe_op op_sub (pv 5) (pv 3)) (pa_cons (pe_op op_sub (pv 2) (pv 4)) pa_nil))))))), by infer_instance, fun ds n Q hl hA => ?_⟩
  obtain ⟨e, rfl, h1, h2, h3, q⟩ := hA
  unfold PtS at h2 h3
  exact ⟨e.2.2 - e.1.2, e.1.1 - e.2.1, 23, rfl, fun z => h1 (Prod.ext (by omega) (by omega)), bd_abs (n := 6000000) (by decide) (by omega) (by omega), bd_abs (n := 6000000) (by decide) (by omega) (by omega), by decide, q⟩
noncomputable def a_p_sides : ASp := fun ds n Q => ∃ cs : List Pt, ds = [.tup (cs.map pt)] ∧ ShOk cs ∧ Q (.tup ((waysOf cs).map pt)) n
theorem ok_p_sides (T : Tx K mg A) : FnOk P w K mg base CX0 6 A.f_p_sides A.fd_p_sides ["shape"] (spOf K 1 a_p_sides) := by
  refine fn_mir [] 3 rfl (by decide) (by decide) T.F_p_sides sc_p_sides fun cdv Ar outer s H E hr => ?_
  refine ⟨_, _, (pss_one (ps_ret (pe_callTy (k_tuple (K := K) rfl) (by rfl) T.m_tuple (by decide +kernel) (pa_cons (pe_lc (own := [("start", 1), ("end", 2)]) rfl sc_p_sides.nd (k_iter (K := K) rfl (pe_call (ok_p_side_ends (P := P) (K := K) T) (hr.mono (by decide)) (by rfl) T.g_p_side_ends T.F_p_side_ends.kp T.b_p_side_ends .nil pass0 (pa_cons (pv 0) pa_nil))) (blkOk_by (own := [("start", 1), ("end", 2)]) (N := ["shape", "start", "end"]) (sc := defScope s_p_sides) (by decide +kernel)) (fun _ _ _ _ _ => (k_gtup (K := K) (m := 2) rfl rfl (pgs_cons (pg_name (i := 1) sc_p_sides.nd rfl (Or.inl rfl)) (pgs_cons (pg_name (i := 2) sc_p_sides.nd rfl (Or.inl rfl)) pgs_nil)))) (fun _ _ _ _ _ => pts_nil) (fun _ _ _ _ _ => (pe_call (ok_p_outwards (P := P) (K := K) T) (hr.mono (by decide)) (by rfl) T.g_p_outwards T.F_p_outwards.kp T.b_p_outwards .nil pass0 (pa_cons (pv 1) (pa_cons (pv 2) pa_nil))))) pa_nil)))), by infer_instance, fun ds n Q hl hA => ?_⟩
  obtain ⟨cs, rfl, hS, q⟩ := hA
  have h16 := hS.2.1
  have hl := prs_len (cs := cs) (fun z => by have := hS.1; rw [z] at this; simp at this)
  refine ⟨cs, rfl, hS, by rw [List.length_map]; omega, ?_⟩
  refine aLc_ind (fun acc ds m => m = n ∧ ∃ us vs : List (Pt × Pt), prs cs = us ++ vs ∧ ds = vs.map prD ∧ acc = (us.map wyE).map pt) ?_ ?_ ⟨rfl, [], prs cs, rfl, rfl, rfl⟩
  · rintro acc d r m ⟨rfl, us, vs, e0, e, rfl⟩ ih
    cases vs with
    | nil => cases e
    | cons v vs =>
    obtain ⟨rfl, rfl⟩ := List.cons.inj e
    obtain ⟨h1, h2, h3⟩ := prs_ok hS v (by rw [e0]; exact List.mem_append_right _ List.mem_cons_self)
    refine aT ⟨v, rfl, h1, h2, h3, ih _ _ ⟨rfl, us ++ [v], vs, by rw [e0]; simp, rfl, by rw [List.map_append, List.map_append]; rfl⟩⟩
  · rintro acc m ⟨rfl, us, vs, e0, e, rfl⟩
    cases vs with
    | cons v vs => cases e
    | nil =>
    rw [List.append_nil] at e0
    show Q (.tup ((us.map wyE).map pt)) _
    rw [← e0]
    exact q
noncomputable def a_p_turned : ASp := fun ds n Q => ∃ w : Pt, ds = [pt w] ∧ Q (pt (ngP w)) n
theorem ok_p_turned (T : Tx K mg A) : FnOk P w K mg base CX0 1 A.f_p_turned A.fd_p_turned ["way"] (spOf K 1 a_p_turned) := by
  refine fn_mir [] 3 rfl (by decide) (by decide) T.F_p_turned sc_p_turned fun cdv Ar outer s H E hr => ?_
  refine ⟨_, _, (pss_cons (ps_asg (pv 0) (k_gtup (K := K) (m := 2) rfl rfl (pgs_cons (pg_name (i := 1) sc_p_turned.nd rfl (.inl rfl)) (pgs_cons (pg_name (i := 2) sc_p_turned.nd rfl (.inl rfl)) pgs_nil))))
    (pss_one (ps_ret (pe_tup (pa_cons (pe_un un_neg (pv 1)) (pa_cons (pe_un un_neg (pv 2)) pa_nil)))))), by infer_instance, fun ds n Q hl hA => ?_⟩
  obtain ⟨w, rfl, q⟩ := hA
  exact q
noncomputable def a_p_pair_ways : ASp := fun ds n Q => ∃ b c : Bw, ds = [b.d, c.d] ∧ ShOk b.cs ∧ ShOk c.cs ∧ ∀ rs : List Pt, rs.length ≤ 32 → PwOk (waysOf b.cs) (waysOf c.cs) rs → Q (.tup (rs.map pt)) n
theorem ok_p_pair_ways (T : Tx K mg A) : FnOk P w K mg base CX0 7 A.f_p_pair_ways A.fd_p_pair_ways ["one", "other"] (spOf K 2 a_p_pair_ways) := by
  refine fn_mir [] 4 rfl (by decide) (by decide) T.F_p_pair_ways sc_p_pair_ways fun cdv Ar outer s H E hr => ?_
  refine ⟨_, _, (pss_cons (ps_set (i := 2) sc_p_pair_ways.nd rfl (.inl rfl) (pe_op (k_add (K := K) rfl) (pe_callTy (k_list (K := K) rfl) (by rfl) T.m_list (by decide +kernel) (pa_cons (pe_call (ok_p_sides (P := P) (K := K) T) (hr.mono (by decide)) (by rfl) T.g_p_sides T.F_p_sides.kp T.b_p_sides .nil pass0 (pa_cons (pe_ix (k_ix (K := K) rfl) (pv 0) pe_int (fun _ _ => rfl)) pa_nil)) pa_nil)) (pe_lc (own := [("way", 3)]) rfl sc_p_pair_ways.nd (k_iter (K := K) rfl (pe_call (ok_p_sides (P := P) (K := K) T) (hr.mono (by decide)) (by rfl) T.g_p_sides T.F_p_sides.kp T.b_p_sides .nil pass0 (pa_cons (pe_ix (k_ix (K := K) rfl) (pv 1) pe_int (fun _ _ => rfl)) pa_nil))) (blkOk_by (own := [("way", 3)]) (N := ["one", "other", "ways", "way"]) (sc := defScope s_p_pair_ways) (by decide +kernel)) (fun _ _ _ _ _ => (pg_name (i := 3) sc_p_pair_ways.nd rfl (Or.inl rfl))) (fun _ _ _ _ _ => pts_nil) (fun _ _ _ _ _ => (pe_call (ok_p_turned (P := P) (K := K) T) (hr.mono (by decide)) (by rfl) T.g_p_turned T.F_p_turned.kp T.b_p_turned .nil pass0 (pa_cons (pv 3) pa_nil))))))
    (pss_one (ps_ret (pe_callTy (k_tuple (K := K) rfl) (by rfl) T.m_tuple (by decide +kernel) (pa_cons (pe_callB (k_sortT (K := K) rfl rfl) (by rfl) T.m_sorted (by decide +kernel) (pa_cons (pe_callTy (k_setT (K := K) rfl rfl hr.units) (by rfl) T.m_set (by decide +kernel) (pa_cons (pv 2) pa_nil)) pa_nil)) pa_nil))))), by infer_instance, fun ds n Q hl hA => ?_⟩
  obtain ⟨b, c, rfl, hb, hc, q⟩ := hA
  refine ⟨b.cs, rfl, hb, ?_⟩
  refine ⟨c.cs, rfl, hc, ?_⟩
  have h16 := hb.2.1
  have h16' := hc.2.1
  have wl : ∀ {cs : List Pt}, ShOk cs → (waysOf cs).length = cs.length := fun {cs} h => by
    unfold waysOf
    rw [List.length_map, prs_len (fun z => by have := h.1; rw [z] at this; simp at this)]
  have hlb := wl hb
  have hlc := wl hc
  refine ⟨by rw [List.length_map]; omega, ?_⟩
  refine aLc_ind (fun acc ds m => m = n ∧ ∃ us vs : List Pt, waysOf c.cs = us ++ vs ∧ ds = vs.map pt ∧ acc = (us.map ngP).map pt) ?_ ?_ ⟨rfl, [], waysOf c.cs, rfl, rfl, rfl⟩
  · rintro acc d r m ⟨rfl, us, vs, e0, e, rfl⟩ ih
    cases vs with
    | nil => cases e
    | cons v vs =>
    obtain ⟨rfl, rfl⟩ := List.cons.inj e
    refine aT ⟨v, rfl, ih _ _ ⟨rfl, us ++ [v], vs, by rw [e0]; simp, rfl, by rw [List.map_append, List.map_append]; rfl⟩⟩
  · rintro acc m ⟨rfl, us, vs, e0, e, rfl⟩
    cases vs with
    | cons v vs => cases e
    | nil =>
    rw [List.append_nil] at e0
    subst e0
    have hll : ((waysOf b.cs).map pt).length + (((waysOf c.cs).map ngP).map pt).length ≤ 1000000 := by
      rw [List.length_map, List.length_map, List.length_map]
      omega
    refine ⟨hll, waysOf b.cs ++ (waysOf c.cs).map ngP, by rw [List.map_append], by rw [List.length_append, List.length_map]; omega, fun rs nd mem ord => ?_⟩
    have mem' : ∀ p, p ∈ rs ↔ p ∈ waysOf b.cs ∨ ngP p ∈ waysOf c.cs := fun p => by
      rw [mem, List.mem_append, List.mem_map]
      constructor
      · rintro (h | ⟨z, h1, h2⟩)
        · exact .inl h
        · right
          rw [← h2, ngP_ngP]
          exact h1
      · rintro (h | h)
        · exact .inl h
        · exact .inr ⟨_, h, ngP_ngP p⟩
    have hlen : rs.length ≤ 32 := by
      have h1 : rs.length ≤ (waysOf b.cs ++ (waysOf c.cs).map ngP).length := List.Nodup.length_le_of_subset nd fun p hp => (mem p).mp hp
      rw [List.length_append, List.length_map] at h1
      omega
    exact q rs hlen ⟨nd, mem', ord⟩
/-! ### gaps -/
noncomputable def dot (w c : Pt) : Int := w.1 * c.1 + w.2 * c.2
noncomputable def IsMax (w : Pt) (cs : List Pt) (m : Int) : Prop := (∃ c ∈ cs, m = dot w c) ∧ ∀ c ∈ cs, dot w c ≤ m
theorem IsMax.uniq {w : Pt} {cs : List Pt} {m m' : Int} (h : IsMax w cs m) (g : IsMax w cs m') : m = m' := by
  obtain ⟨⟨c, hc, rfl⟩, h2⟩ := h
  obtain ⟨⟨e, he, rfl⟩, g2⟩ := g
  have := h2 e he
  have := g2 c hc
  omega
noncomputable def mx (w : Pt) : List Pt → Int
  | [] => 0
  | [c] => dot w c
  | c :: d :: r => max (dot w c) (mx w (d :: r))
theorem mx_is {w : Pt} : ∀ {cs : List Pt}, cs ≠ [] → IsMax w cs (mx w cs)
  | [], h => absurd rfl h
  | [c], _ => ⟨⟨c, List.mem_cons_self, rfl⟩, fun x hx => by rw [List.mem_singleton.mp hx]; exact Int.le_refl _⟩
  | c :: d :: r, _ => by
    obtain ⟨⟨e, he, h1⟩, h2⟩ := mx_is (w := w) (cs := d :: r) (fun z => nomatch z)
    refine ⟨?_, fun x hx => ?_⟩
    · show ∃ c' ∈ c :: d :: r, max (dot w c) (mx w (d :: r)) = dot w c'
      rcases Int.le_total (dot w c) (mx w (d :: r)) with h | h
      · rw [Int.max_eq_right h]
        exact ⟨e, List.mem_cons_of_mem _ he, h1⟩
      · rw [Int.max_eq_left h]
        exact ⟨c, List.mem_cons_self, rfl⟩
    · show dot w x ≤ max (dot w c) (mx w (d :: r))
      rcases List.mem_cons.mp hx with rfl | hx
      · exact Int.le_max_left _ _
      · exact Int.le_trans (h2 x hx) (Int.le_max_right _ _)
theorem ShOk.ne {cs : List Pt} (h : ShOk cs) : cs ≠ [] := fun z => by have := h.1; rw [z] at this; simp at this
theorem bd_pt {p : Int} (h1 : -3000000 ≤ p) (h2 : p ≤ 3000000) : Bd 22 p := bd_abs (n := 3000000) (by decide) h1 h2
theorem dot_bd {w c : Pt} {k : Nat} (hw : WyS k w) (hc : PtS c) : Bd (k + 23) (dot w c) := by
  unfold PtS at hc
  exact ((hw.1.mul (bd_pt hc.1 hc.2.1)).add (hw.2.mul (bd_pt hc.2.2.1 hc.2.2.2))).le (by omega)
theorem mx_bd {w : Pt} {cs : List Pt} {k : Nat} (hw : WyS k w) (hc : ShOk cs) : Bd (k + 23) (mx w cs) := by
  obtain ⟨⟨c, h1, h2⟩, _⟩ := mx_is (w := w) hc.ne
  rw [h2]
  exact dot_bd hw (hc.2.2.1 c h1)
noncomputable def a_p_reach : ASp := fun ds n Q => ∃ (cs : List Pt) (w : Pt), ds = [.tup (cs.map pt), pt w] ∧ ShOk cs ∧ WyS 8000 w ∧ Q (.int (mx w cs)) n
theorem ok_p_reach (T : Tx K mg A) : FnOk P w K mg base CX0 1 A.f_p_reach A.fd_p_reach ["shape", "way"] (spOf K 2 a_p_reach) := by
  refine fn_mir [] 6 rfl (by decide) (by decide) T.F_p_reach sc_p_reach fun cdv Ar outer s H E hr => ?_
  refine ⟨_, _, (pss_cons (ps_asg (pv 1) (k_gtup (K := K) (m := 2) rfl rfl (pgs_cons (pg_name (i := 2) sc_p_reach.nd rfl (.inr rfl)) (pgs_cons (pg_name (i := 3) sc_p_reach.nd rfl (.inr rfl)) pgs_nil))))
    (pss_one (ps_ret (pe_callB (k_max1 (K := K) rfl rfl) (by rfl) T.m_max (by decide +kernel) (pa_cons (pe_lc (own := [("x", 4), ("y", 5)]) rfl sc_p_reach.nd (k_iter (K := K) rfl (pv 0)) (blkOk_by (own := [("x", 4), ("y", 5)]) (N := ["shape", "way", "p", "q", "x", "y"]) (sc := defScope s_p_reach) (by decide +kernel)) (fun _ _ _ _ _ => (k_gtup (K := K) (m := 2) rfl rfl (pgs_cons (pg_name (i := 4) sc_p_reach.nd rfl (Or.inl rfl)) (pgs_cons (pg_name (i := 5) sc_p_reach.nd rfl (Or.inl rfl)) pgs_nil)))) (fun _ _ _ _ _ => pts_nil) (fun _ _ _ _ _ => (pe_op (k_add (K := K) rfl) (pe_op k_mul (pv 2) (pv 4)) (pe_op k_mul (pv 3) (pv 5))))) pa_nil))))), by infer_instance, fun ds n Q hl hA => ?_⟩
  obtain ⟨cs, w, rfl, hc, hw, q⟩ := hA
  have h16 := hc.2.1
  refine ⟨by rw [List.length_map]; omega, ?_⟩
  refine aLc_ind (fun acc ds m => m = n ∧ ∃ us vs : List Pt, cs = us ++ vs ∧ ds = vs.map pt ∧ acc = us.map fun c => D.int (dot w c)) ?_ ?_ ⟨rfl, [], cs, rfl, rfl, rfl⟩
  · rintro acc d r m ⟨rfl, us, vs, rfl, e, rfl⟩ ih
    cases vs with
    | nil => cases e
    | cons v vs =>
    obtain ⟨rfl, rfl⟩ := List.cons.inj e
    have hp := hc.2.2.1 v (List.mem_append_right _ List.mem_cons_self)
    unfold PtS at hp
    refine aT ⟨mulA hw.1 (bd_pt hp.1 hp.2.1) (by decide) (by decide), mulA hw.2 (bd_pt hp.2.2.1 hp.2.2.2) (by decide) (by decide), ih _ _ ⟨rfl, us ++ [v], vs, by simp, rfl, by rw [List.map_append]; rfl⟩⟩
  · rintro acc m ⟨rfl, us, vs, rfl, e, rfl⟩
    cases vs with
    | cons v vs => cases e
    | nil =>
    rw [List.append_nil] at hc q
    refine ⟨us.map (dot w), by rw [List.map_map]; rfl, by rw [List.length_map]; have := hc.1; omega, fun m h1 h2 => ?_⟩
    have : IsMax w us m := by
      obtain ⟨c, h3, h4⟩ := List.mem_map.mp h1
      exact ⟨⟨c, h3, h4.symm⟩, fun x hx => h2 _ (List.mem_map.mpr ⟨x, hx, rfl⟩)⟩
    rw [this.uniq (mx_is hc.ne)]
    exact q
noncomputable def wid (b c : Bw) (w : Pt) : Int := mx w b.cs + mx (ngP w) c.cs
noncomputable def a_p_width : ASp := fun ds n Q => ∃ (b c : Bw) (w : Pt), ds = [b.d, c.d, pt w] ∧ ShOk b.cs ∧ ShOk c.cs ∧ WyS 8000 w ∧ Q (.int (wid b c w)) n
theorem ok_p_width (T : Tx K mg A) : FnOk P w K mg base CX0 2 A.f_p_width A.fd_p_width ["one", "other", "way"] (spOf K 3 a_p_width) := by
  refine fn_mir [] 3 rfl (by decide) (by decide) T.F_p_width sc_p_width fun cdv Ar outer s H E hr => ?_
  refine ⟨_, _, (pss_one (ps_ret (pe_op (k_add (K := K) rfl) (pe_call (ok_p_reach (P := P) (K := K) T) (hr.mono (by decide)) (by rfl) T.g_p_reach T.F_p_reach.kp T.b_p_reach .nil pass0 (pa_cons (pe_ix (k_ix (K := K) rfl) (pv 0) pe_int (fun _ _ => rfl)) (pa_cons (pv 2) pa_nil))) (pe_call (ok_p_reach (P := P) (K := K) T) (hr.mono (by decide)) (by rfl) T.g_p_reach T.F_p_reach.kp T.b_p_reach .nil pass0 (pa_cons (pe_ix (k_ix (K := K) rfl) (pv 1) pe_int (fun _ _ => rfl)) (pa_cons (pe_call (ok_p_turned (P := P) (K := K) T) (hr.mono (by decide)) (by rfl) T.g_p_turned T.F_p_turned.kp T.b_p_turned .nil pass0 (pa_cons (pv 2) pa_nil)) pa_nil)))))), by infer_instance, fun ds n Q hl hA => ?_⟩
  obtain ⟨b, c, w, rfl, hb, hc, hw, q⟩ := hA
  exact ⟨b.cs, w, rfl, hb, hw, w, rfl, c.cs, ngP w, rfl, hc, ng_wys hw, q⟩
/-- two rows, and how long their differences' numbers are -/
structure Two (kp ks : Nat) (b c : Bw) : Prop where
  sb : ShOk b.cs
  sc : ShOk c.cs
  b1 : BdQ 8000 b.px
  b2 : BdQ 8000 b.py
  b3 : BdQ 8000 b.x
  b4 : BdQ 8000 b.y
  c1 : BdQ 8000 c.px
  c2 : BdQ 8000 c.py
  c3 : BdQ 8000 c.x
  c4 : BdQ 8000 c.y
  px : BdQ kp (c.px - b.px)
  py : BdQ kp (c.py - b.py)
  vx : BdQ ks (c.x - b.x)
  vy : BdQ ks (c.y - b.y)
  lim : kp + ks ≤ 4300
theorem Two.of {b c : Bw} {k m k' m' kp ks : Nat} (hb : b.ok k m) (hc : c.ok k' m') (h1 : k + k' + 1 ≤ kp) (h2 : m + m' + 1 ≤ ks) (h3 : kp + ks ≤ 4300) : Two kp ks b c :=
  ⟨hb.1, hc.1, hb.2.1.le (by omega), hb.2.2.1.le (by omega), hb.2.2.2.1.le (by omega), hb.2.2.2.2.le (by omega), hc.2.1.le (by omega), hc.2.2.1.le (by omega), hc.2.2.2.1.le (by omega), hc.2.2.2.2.le (by omega), (hc.2.1.sub hb.2.1).le (by omega), (hc.2.2.1.sub hb.2.2.1).le (by omega), (hc.2.2.2.1.sub hb.2.2.2.1).le (by omega), (hc.2.2.2.2.sub hb.2.2.2.2).le (by omega), h3⟩
theorem bdq_swap {k : Nat} {x y : Rat} (h : BdQ k (x - y)) : BdQ k (y - x) := by
  have e : y - x = -(x - y) := by grind
  rw [e]
  exact h.neg
theorem Two.sym {b c : Bw} {kp ks : Nat} (h : Two kp ks b c) : Two kp ks c b :=
  ⟨h.sc, h.sb, h.c1, h.c2, h.c3, h.c4, h.b1, h.b2, h.b3, h.b4, bdq_swap h.px, bdq_swap h.py, bdq_swap h.vx, bdq_swap h.vy, h.lim⟩
noncomputable def a_p_place_apart : ASp := fun ds n Q => ∃ (b c : Bw) (kp ks : Nat), ds = [b.d, c.d] ∧ Two kp ks b c ∧ Q (spt (c.px - b.px) (c.py - b.py)) n
theorem ok_p_place_apart (T : Tx K mg A) : FnOk P w K mg base CX0 7 A.f_p_place_apart A.fd_p_place_apart ["one", "other"] (spOf K 2 a_p_place_apart) := by
  refine fn_mir [] 2 rfl (by decide) (by decide) T.F_p_place_apart sc_p_place_apart fun cdv Ar outer s H E hr => ?_
  refine ⟨_, _, (pss_one (ps_ret (pe_call (ok_p_spot_minus (P := P) (K := K) T) (hr.mono (by decide)) (by rfl) T.g_p_spot_minus T.F_p_spot_minus.kp T.b_p_spot_minus .nil pass0 (pa_cons (pe_ix (k_ix (K := K) rfl) (pv 1) pe_int (fun _ _ => rfl)) (pa_cons (pe_ix (k_ix (K := K) rfl) (pv 0) pe_int (fun _ _ => rfl)) pa_nil))))), by infer_instance, fun ds n Q hl hA => ?_⟩
  obtain ⟨b, c, kp, ks, rfl, h, q⟩ := hA
  exact ⟨_, _, _, _, 8000, 8000, 8000, 8000, rfl, h.c1, h.c2, h.b1, h.b2, by decide, by decide, by decide, by decide, q⟩
noncomputable def a_p_speed_apart : ASp := fun ds n Q => ∃ (b c : Bw) (kp ks : Nat), ds = [b.d, c.d] ∧ Two kp ks b c ∧ Q (spt (c.x - b.x) (c.y - b.y)) n
theorem ok_p_speed_apart (T : Tx K mg A) : FnOk P w K mg base CX0 7 A.f_p_speed_apart A.fd_p_speed_apart ["one", "other"] (spOf K 2 a_p_speed_apart) := by
  refine fn_mir [] 2 rfl (by decide) (by decide) T.F_p_speed_apart sc_p_speed_apart fun cdv Ar outer s H E hr => ?_
  refine ⟨_, _, (pss_one (ps_ret (pe_call (ok_p_spot_minus (P := P) (K := K) T) (hr.mono (by decide)) (by rfl) T.g_p_spot_minus T.F_p_spot_minus.kp T.b_p_spot_minus .nil pass0 (pa_cons (pe_ix (k_ix (K := K) rfl) (pv 1) pe_int (fun _ _ => rfl)) (pa_cons (pe_ix (k_ix (K := K) rfl) (pv 0) pe_int (fun _ _ => rfl)) pa_nil))))), by infer_instance, fun ds n Q hl hA => ?_⟩
  obtain ⟨b, c, kp, ks, rfl, h, q⟩ := hA
  exact ⟨_, _, _, _, 8000, 8000, 8000, 8000, rfl, h.c3, h.c4, h.b3, h.b4, by decide, by decide, by decide, by decide, q⟩
noncomputable def ofx (b c : Bw) (t : Rat) : Rat := c.px - b.px + (c.x - b.x) * t
noncomputable def ofy (b c : Bw) (t : Rat) : Rat := c.py - b.py + (c.y - b.y) * t
noncomputable def gapQ (b c : Bw) (w : Pt) (t : Rat) : Rat := (w.1 : Rat) * ofx b c t + (w.2 : Rat) * ofy b c t - ((wid b c w : Int) : Rat)
noncomputable def rtQ (b c : Bw) (w : Pt) : Rat := (w.1 : Rat) * (c.x - b.x) + (w.2 : Rat) * (c.y - b.y)
theorem gapQ_sym (b c : Bw) (w : Pt) (t : Rat) : gapQ c b (ngP w) t = gapQ b c w t := by
  have e : wid c b (ngP w) = wid b c w := by
    unfold wid
    rw [ngP_ngP, Int.add_comm]
  unfold gapQ
  rw [e]
  unfold ofx ofy ngP
  simp only
  rw [Rat.intCast_neg, Rat.intCast_neg]
  grind
theorem wid_bd {b c : Bw} {w : Pt} {k : Nat} (hb : ShOk b.cs) (hc : ShOk c.cs) (hw : WyS k w) : Bd (k + 24) (wid b c w) := (mx_bd hw hb).add (mx_bd (ng_wys hw) hc)
/-! ### over one bottom; courses -/
noncomputable def topI (B : Int) (x : Rat) : Int := x.num * (B / (x.den : Int))
theorem topI_val {B : Int} {x : Rat} (h : (x.den : Int) ∣ B) : ((topI B x : Int) : Rat) = x * (B : Rat) := by
  obtain ⟨c, rfl⟩ := h
  have hd := den_pos x
  unfold topI
  rw [Int.mul_ediv_cancel_left _ (by omega)]
  have e : x = (x.num : Rat) / ((x.den : Int) : Rat) := by
    rw [← Rat.divInt_eq_div]
    exact (Rat.num_divInt_den x).symm
  have h0 : ((x.den : Int) : Rat) ≠ 0 := fun z => by
    have : ((x.den : Int) : Rat) = ((0 : Int) : Rat) := z
    have := Rat.intCast_inj.mp this
    omega
  have e2 : (((x.num * c : Int)) : Rat) = (x.num : Rat) * (c : Rat) := Rat.intCast_mul _ _
  have e3 : ((((x.den : Int) * c : Int)) : Rat) = ((x.den : Int) : Rat) * (c : Rat) := Rat.intCast_mul _ _
  rw [e2, e3]
  generalize hD : ((x.den : Int) : Rat) = D at *
  generalize hN : (x.num : Rat) = N at *
  generalize (c : Rat) = C at *
  rw [e]
  grind
noncomputable def zsD (zs : List (Nat × Rat)) : List D := zs.map fun z => sh z.2
theorem lcm_ok {B d : Int} (hB : 0 < B) (hd : 0 < d) : 0 < B / gcdI B d * d ∧ d ∣ B / gcdI B d * d ∧ B ∣ B / gcdI B d * d ∧ (B / gcdI B d).natAbs ≤ B.natAbs := by
  have g0 : 0 < gcdI B d := gcdI_pos (by omega)
  have h1 : 0 < B / gcdI B d := Int.ediv_pos_of_pos_of_dvd hB (by omega) (gcdI_dvd_l _ _)
  refine ⟨Int.mul_pos h1 hd, Int.dvd_mul_left _ _, ?_, div_natAbs_le g0 (gcdI_dvd_l _ _)⟩
  obtain ⟨y, hy⟩ := gcdI_dvd_r B d
  refine ⟨y, ?_⟩
  have hx := Int.ediv_mul_cancel (gcdI_dvd_l B d)
  generalize hg : gcdI B d = g at *
  generalize hq : B / g = q at *
  rw [← hx, hy]
  grind
noncomputable def a_p_on_one_bottom : ASp := fun ds n Q => ∃ (zs : List (Nat × Rat)) (d : D) (m : Nat), ds = [d] ∧ (d = .tup (zsD zs) ∨ d = .lst (zsD zs)) ∧ (∀ z ∈ zs, Bd z.1 (z.2.den : Int) ∧ z.1 ≤ 8900 ∧ Bd m z.2.num) ∧ m ≤ 100000 ∧ zs.length ≤ 1000 ∧ (zs.map Prod.fst).sum ≤ 50000 ∧
  ∀ B : Int, 0 < B → (∀ z ∈ zs, (z.2.den : Int) ∣ B) → Bd ((zs.map Prod.fst).sum + 1) B → Q (.tup [.lst (zs.map fun z => .int (topI B z.2)), .int B]) n
theorem ok_p_on_one_bottom (T : Tx K mg A) : FnOk P w K mg base CX0 4 A.f_p_on_one_bottom A.fd_p_on_one_bottom ["shares"] (spOf K 1 a_p_on_one_bottom) := by
  refine fn_mir [] 4 rfl (by decide) (by decide) T.F_p_on_one_bottom sc_p_on_one_bottom fun cdv Ar outer s H E hr => ?_
  refine ⟨_, _, (pss_cons (ps_set (i := 1) sc_p_on_one_bottom.nd rfl (.inr rfl) pe_int)
    (pss_cons (ps_for PassesOwn.never rfl (k_iter (K := K) rfl (pv 0)) (k_gtup (K := K) (m := 2) rfl rfl (pgs_cons (pg_name (i := 2) sc_p_on_one_bottom.nd rfl (.inl rfl)) (pgs_cons (pg_name (i := 3) sc_p_on_one_bottom.nd rfl (.inl rfl)) pgs_nil)))
      (pss_one (ps_set (i := 1) sc_p_on_one_bottom.nd rfl (.inr rfl) (pe_op k_mul (pe_op k_fdiv (pv 1) (pe_call (ok_p_common_divisor (P := P) (K := K) T) (hr.mono (by decide)) (by rfl) T.g_p_common_divisor T.F_p_common_divisor.kp T.b_p_common_divisor .nil pass0 (pa_cons (pv 1) (pa_cons (pv 3) pa_nil)))) (pv 3)))))
    (pss_one (ps_ret (pe_tup (pa_cons (pe_lc (own := [("top", 2), ("bottom", 3)]) rfl sc_p_on_one_bottom.nd (k_iter (K := K) rfl (pv 0)) (blkOk_by (own := [("top", 2), ("bottom", 3)]) (N := ["shares", "base", "top", "bottom"]) (sc := defScope s_p_on_one_bottom) (by decide +kernel)) (fun _ _ _ _ _ => (k_gtup (K := K) (m := 2) rfl rfl (pgs_cons (pg_name (i := 2) sc_p_on_one_bottom.nd rfl (Or.inl rfl)) (pgs_cons (pg_name (i := 3) sc_p_on_one_bottom.nd rfl (Or.inl rfl)) pgs_nil)))) (fun _ _ _ _ _ => pts_nil) (fun _ _ _ _ _ => (pe_op k_mul (pv 2) (pe_op k_fdiv (pv 1) (pv 3))))) (pa_cons (pv 1) pa_nil))))))), by infer_instance, fun ds n Q hl hA => ?_⟩
  obtain ⟨zs, d, km, rfl, hd, hz, hkm, hl, hsum, q⟩ := hA
  have hzl : (zsD zs).length = zs.length := List.length_map _
  rcases hd with rfl | rfl
  all_goals
    refine aFor_ind (fun ds ρ m => m = n ∧ ∃ (us vs : List (Nat × Rat)) (B : Int) (d0 y2 y3 : Option D), zs = us ++ vs ∧ ds = zsD vs ∧ ρ = [d0, some (.int B), y2, y3] ∧ (d0 = some (.tup (zsD zs)) ∨ d0 = some (.lst (zsD zs))) ∧ 0 < B ∧ (∀ z ∈ us, (z.2.den : Int) ∣ B) ∧ Bd ((us.map Prod.fst).sum + 1) B) ?_ ?_ ⟨rfl, [], zs, 1, _, none, none, rfl, rfl, rfl, (by first | exact .inl rfl | exact .inr rfl), by decide, (fun z h => by cases h), by unfold Bd; decide⟩
    · rintro d r _ m ⟨rfl, us, vs, B, d0, y2, y3, e0, e, rfl, hd0, hB, hdv, bB⟩ ih
      cases vs with
      | nil => cases e
      | cons v vs =>
      obtain ⟨rfl, rfl⟩ := List.cons.inj e
      obtain ⟨bv, v8, bn⟩ := hz v (by rw [e0]; exact List.mem_append_right _ List.mem_cons_self)
      have hs2 : (us.map Prod.fst).sum + (v.1 + (vs.map Prod.fst).sum) ≤ 50000 := by
        rw [e0, List.map_append, List.sum_append, List.map_cons, List.sum_cons] at hsum
        exact hsum
      have dp := den_pos v.2
      obtain ⟨l1, l2, l3, l4⟩ := lcm_ok hB dp
      have bg := gcdI_bd (a := B) bv (by omega)
      have g0 := gcdI_pos (a := B) (b := (v.2.den : Int)) (by omega)
      refine ⟨B, (v.2.den : Int), rfl, bB.le (by omega), bv.le (by omega), divA bg g0 (by omega), mulA (bB.of_le l4) bv (by omega) (by omega), ?_⟩
      refine ih _ _ ⟨rfl, us ++ [v], vs, _, d0, _, _, by rw [e0]; simp, rfl, rfl, hd0, l1, fun z hz' => ?_, ?_⟩
      · rcases List.mem_append.mp hz' with h | h
        · exact Int.dvd_trans (hdv z h) l3
        · rw [List.mem_singleton.mp h]
          exact l2
      · rw [List.map_append, List.sum_append, List.map_cons, List.map_nil, List.sum_cons, List.sum_nil]
        exact ((bB.of_le l4).mul bv).le (by omega)
    · rintro _ m ⟨rfl, us, vs, B, d0, y2, y3, e0, e, rfl, hd0, hB, hdv, bB⟩
      cases vs with
      | cons v vs => cases e
      | nil =>
      rw [List.append_nil] at e0
      subst e0
      have fin : aLcGo [2, 3] (aGTup 2 (aGCons (aName 2) (aGCons (aName 3) aGNil))) aYes (a2 (aInt2 CMulA fun i j => V.int (i * j)) (aVar 2) (a2 (aInt2 CDivA fun i j => V.int (i / j)) (aVar 1) (aVar 3))) [d0, some (.int B), none, none] (fun d n1 => Q (.tup [d, .int B]) n1) [] (zsD zs) m := by
        refine aLc_ind (fun acc ds k => k = m ∧ ∃ us vs : List (Nat × Rat), zs = us ++ vs ∧ ds = zsD vs ∧ acc = us.map fun z => .int (topI B z.2)) ?_ ?_ ⟨rfl, [], zs, rfl, rfl, rfl⟩
        · rintro acc d r k ⟨rfl, us, vs, e0, e, rfl⟩ ih
          cases vs with
          | nil => cases e
          | cons v vs =>
          obtain ⟨rfl, rfl⟩ := List.cons.inj e
          have hv : v ∈ zs := by rw [e0]; exact List.mem_append_right _ List.mem_cons_self
          obtain ⟨bv, v8, bn⟩ := hz v hv
          have dp := den_pos v.2
          refine aT ⟨divA bv dp (by omega), mulA bn (bB.of_le (div_natAbs_le dp (hdv v hv))) (by omega) (by omega), ih _ _ ⟨rfl, us ++ [v], vs, by rw [e0]; simp, rfl, by rw [List.map_append]; rfl⟩⟩
        · rintro acc k ⟨rfl, us, vs, e0, e, rfl⟩
          cases vs with
          | cons v vs => cases e
          | nil =>
          rw [List.append_nil] at e0
          subst e0
          exact q B hB hdv bB
      rcases hd0 with rfl | rfl
      · exact ⟨by omega, fin⟩
      · exact ⟨by omega, fin⟩
/-- the courses of two rows: rs the ways, B times the gaps and the rates -/
structure CoOk (b c : Bw) (k : Nat) (rs : List Pt) (B : Rat) (fS fL : Pt → Int) : Prop where
  pw : PwOk (waysOf b.cs) (waysOf c.cs) rs
  len : rs.length ≤ 32
  pos : 0 < B
  st : ∀ w, (fS w : Rat) = B * gapQ b c w 0
  sl : ∀ w, (fL w : Rat) = B * rtQ b c w
  bd : ∀ w ∈ rs, WyS 23 w ∧ Bd k (fS w) ∧ Bd k (fL w)
noncomputable def cD (fS fL : Pt → Int) (w : Pt) : D := .tup [pt w, .int (fS w), .int (fL w)]
theorem PwOk.wys {b c : Bw} {rs : List Pt} (h : PwOk (waysOf b.cs) (waysOf c.cs) rs) (hb : ShOk b.cs) (hc : ShOk c.cs) : ∀ w ∈ rs, WyS 23 w := h.sub (ways_wys hb) fun w hw => ng_wys (ways_wys hc w hw)
noncomputable def a_p_courses : ASp := fun ds n Q => ∃ (b c : Bw) (kp ks : Nat), ds = [b.d, c.d] ∧ Two kp ks b c ∧ ∀ rs B fS fL, CoOk b c (3 * (kp + ks) + 60) rs B fS fL → Q (.lst (rs.map (cD fS fL))) n
theorem ok_p_courses (T : Tx K mg A) : FnOk P w K mg base CX0 8 A.f_p_courses A.fd_p_courses ["one", "other"] (spOf K 2 a_p_courses) := by
  refine fn_mir [7] 11 rfl (by decide) (by decide) T.F_p_courses sc_p_courses fun cdv Ar outer s H E hr => ?_
  refine ⟨_, _, (pss_cons (ps_asg (pe_call (ok_p_on_one_bottom (P := P) (K := K) T) (hr.mono (by decide)) (by rfl) T.g_p_on_one_bottom T.F_p_on_one_bottom.kp T.b_p_on_one_bottom .nil pass0 (pa_cons (pe_op (k_add (K := K) rfl) (pe_call (ok_p_place_apart (P := P) (K := K) T) (hr.mono (by decide)) (by rfl) T.g_p_place_apart T.F_p_place_apart.kp T.b_p_place_apart .nil pass0 (pa_cons (pv 0) (pa_cons (pv 1) pa_nil))) (pe_call (ok_p_speed_apart (P := P) (K := K) T) (hr.mono (by decide)) (by rfl) T.g_p_speed_apart T.F_p_speed_apart.kp T.b_p_speed_apart .nil pass0 (pa_cons (pv 0) (pa_cons (pv 1) pa_nil)))) pa_nil)) (k_gtup (K := K) (m := 2) rfl rfl (pgs_cons (k_gtup (K := K) (m := 4) rfl rfl (pgs_cons (pg_name (i := 2) sc_p_courses.nd rfl (.inl rfl)) (pgs_cons (pg_name (i := 3) sc_p_courses.nd rfl (.inl rfl)) (pgs_cons (pg_name (i := 4) sc_p_courses.nd rfl (.inl rfl)) (pgs_cons (pg_name (i := 5) sc_p_courses.nd rfl (.inl rfl)) pgs_nil))))) (pgs_cons (pg_name (i := 6) sc_p_courses.nd rfl (.inl rfl)) pgs_nil))))
    (pss_cons (k_own (ps_set (i := 7) sc_p_courses.nd rfl (.inl rfl) (pe_lst pa_nil)))
    (pss_cons (ps_for PassesOwn.never rfl (k_iter (K := K) rfl (pe_call (ok_p_pair_ways (P := P) (K := K) T) (hr.mono (by decide)) (by rfl) T.g_p_pair_ways T.F_p_pair_ways.kp T.b_p_pair_ways .nil pass0 (pa_cons (pv 0) (pa_cons (pv 1) pa_nil)))) (pg_name (i := 8) sc_p_courses.nd rfl (.inl rfl))
      (pss_cons (ps_asg (pv 8) (k_gtup (K := K) (m := 2) rfl rfl (pgs_cons (pg_name (i := 9) sc_p_courses.nd rfl (.inl rfl)) (pgs_cons (pg_name (i := 10) sc_p_courses.nd rfl (.inl rfl)) pgs_nil))))
    (pss_one (k_app (K := K) rfl (ps_expr (pe_bm PySem.F.plainAttrs_list PySem.F.slot_list_append PySem.F.type_list_append mt_append (pv 7) (pa_cons (pe_tup (pa_cons (pv 8) (pa_cons (pe_op op_sub (pe_op (k_add (K := K) rfl) (pe_op k_mul (pv 9) (pv 2)) (pe_op k_mul (pv 10) (pv 3))) (pe_op k_mul (pe_call (ok_p_width (P := P) (K := K) T) (hr.mono (by decide)) (by rfl) T.g_p_width T.F_p_width.kp T.b_p_width .nil pass0 (pa_cons (pv 0) (pa_cons (pv 1) (pa_cons (pv 8) pa_nil)))) (pv 6))) (pa_cons (pe_op (k_add (K := K) rfl) (pe_op k_mul (pv 9) (pv 4)) (pe_op k_mul (pv 10) (pv 5))) pa_nil)))) pa_nil)))))))
    (pss_one (ps_ret (pv 7)))))), by infer_instance, fun ds n Q hl hA => ?_⟩
  obtain ⟨b, c, kp, ks, rfl, h, q⟩ := hA
  have hlim := h.lim
  refine ⟨b, c, kp, ks, rfl, h, b, c, kp, ks, rfl, h, ?_⟩
  refine ⟨(fun z => nomatch z), (show 2 + 2 ≤ 1000000 by decide), ?_⟩
  have hz : ∀ z ∈ [(kp, c.px - b.px), (kp, c.py - b.py), (ks, c.x - b.x), (ks, c.y - b.y)], Bd z.1 (z.2.den : Int) ∧ z.1 ≤ 8900 ∧ Bd (kp + ks) z.2.num := fun z hz => by
    simp only [List.mem_cons, List.not_mem_nil, or_false] at hz
    rcases hz with rfl | rfl | rfl | rfl
    · exact ⟨h.px.2, by omega, h.px.1.le (by omega)⟩
    · exact ⟨h.py.2, by omega, h.py.1.le (by omega)⟩
    · exact ⟨h.vx.2, by omega, h.vx.1.le (by omega)⟩
    · exact ⟨h.vy.2, by omega, h.vy.1.le (by omega)⟩
  refine ⟨[(kp, c.px - b.px), (kp, c.py - b.py), (ks, c.x - b.x), (ks, c.y - b.y)], _, kp + ks, rfl, .inl rfl, hz, by omega, (show 4 ≤ 1000 by decide), (by simp; omega), fun B hB hdv bB => ?_⟩
  have bB' : Bd (2 * (kp + ks) + 1) B := bB.le (by simp; omega)
  have dv : ∀ z ∈ [(kp, c.px - b.px), (kp, c.py - b.py), (ks, c.x - b.x), (ks, c.y - b.y)], ((topI B z.2 : Int) : Rat) = z.2 * (B : Rat) ∧ Bd (3 * (kp + ks) + 1) (topI B z.2) := fun z hz' => by
    refine ⟨topI_val (hdv z hz'), ?_⟩
    exact ((hz z hz').2.2.mul (bB'.of_le (div_natAbs_le (den_pos z.2) (hdv z hz')))).le (by omega)
  obtain ⟨x1, x2⟩ := dv (kp, c.px - b.px) (by simp)
  obtain ⟨y1, y2⟩ := dv (kp, c.py - b.py) (by simp)
  obtain ⟨u1, u2⟩ := dv (ks, c.x - b.x) (by simp)
  obtain ⟨v1, v2⟩ := dv (ks, c.y - b.y) (by simp)
  obtain ⟨X, hX⟩ : ∃ X, topI B (c.px - b.px) = X := ⟨_, rfl⟩
  obtain ⟨Y, hY⟩ : ∃ Y, topI B (c.py - b.py) = Y := ⟨_, rfl⟩
  obtain ⟨U, hU⟩ : ∃ U, topI B (c.x - b.x) = U := ⟨_, rfl⟩
  obtain ⟨V, hV⟩ : ∃ V, topI B (c.y - b.y) = V := ⟨_, rfl⟩
  simp only [List.map_cons, List.map_nil, hX, hY, hU, hV] at x1 x2 y1 y2 u1 u2 v1 v2 ⊢
  refine ⟨b, c, rfl, h.sb, h.sc, fun rs hl hpw => ?_⟩
  have hco : CoOk b c (3 * (kp + ks) + 60) rs (B : Rat) (fun w => w.1 * X + w.2 * Y - wid b c w * B) (fun w => w.1 * U + w.2 * V) := by
    refine ⟨hpw, hl, ?_, fun w => ?_, fun w => ?_, fun w hw => ?_⟩
    · have : ((0 : Int) : Rat) < (B : Rat) := Rat.intCast_lt_intCast.mpr hB
      exact this
    · show ((w.1 * X + w.2 * Y - wid b c w * B : Int) : Rat) = _
      rw [Rat.intCast_sub, Rat.intCast_add, Rat.intCast_mul, Rat.intCast_mul, Rat.intCast_mul, x1, y1]
      unfold gapQ ofx ofy
      grind
    · show ((w.1 * U + w.2 * V : Int) : Rat) = _
      rw [Rat.intCast_add, Rat.intCast_mul, Rat.intCast_mul, u1, v1]
      unfold rtQ
      grind
    · have hw23 := hpw.wys h.sb h.sc w hw
      have bw := wid_bd h.sb h.sc hw23
      refine ⟨hw23, ?_, ?_⟩
      · have e1 : Bd (3 * (kp + ks) + 26) (w.1 * X + w.2 * Y) := (((hw23.1.mul x2).le (show _ ≤ 3 * (kp + ks) + 25 by omega)).add ((hw23.2.mul y2).le (by omega)))
        have e2 : Bd (3 * (kp + ks) + 59) (-(wid b c w * B)) := (bw.mul bB').neg.le (by omega)
        have := (e1.le (show _ ≤ 3 * (kp + ks) + 59 by omega)).add e2
        exact this
      · exact (((hw23.1.mul u2).le (show _ ≤ 3 * (kp + ks) + 25 by omega)).add ((hw23.2.mul v2).le (by omega))).le (by omega)
  refine aFor_ind (fun ds ρ m => m = n ∧ ∃ (us vs : List Pt) (y8 y9 y10 : Option D), rs = us ++ vs ∧ ds = vs.map pt ∧ ρ = [some b.d, some c.d, some (.int X), some (.int Y), some (.int U), some (.int V), some (.int B), some (.lst (us.map (cD (fun w => w.1 * X + w.2 * Y - wid b c w * B) (fun w => w.1 * U + w.2 * V)))), y8, y9, y10]) ?_ ?_ ⟨rfl, [], rs, none, none, none, rfl, rfl, rfl⟩
  · rintro d r _ m ⟨rfl, us, vs, y8, y9, y10, e0, e, rfl⟩ ih
    cases vs with
    | nil => cases e
    | cons v vs =>
    obtain ⟨rfl, rfl⟩ := List.cons.inj e
    have hv : v ∈ rs := by rw [e0]; exact List.mem_append_right _ List.mem_cons_self
    have hw23 := hpw.wys h.sb h.sc v hv
    have bw := wid_bd h.sb h.sc hw23
    have hul : us.length ≤ 32 := by
      rw [e0, List.length_append] at hl
      omega
    refine ⟨mulA hw23.1 x2 (by omega) (by omega), mulA hw23.2 y2 (by omega) (by omega), b, c, v, rfl, h.sb, h.sc, ⟨hw23.1.le (by decide), hw23.2.le (by decide)⟩, ?_⟩
    refine ⟨mulA bw bB' (by omega) (by omega), mulA hw23.1 u2 (by omega) (by omega), mulA hw23.2 v2 (by omega) (by omega), ?_⟩
    refine ⟨by rw [List.length_map]; omega, ih _ _ ⟨rfl, us ++ [v], vs, _, _, _, by rw [e0]; simp, rfl, by rw [List.map_append]; rfl⟩⟩
  · rintro _ m ⟨rfl, us, vs, y8, y9, y10, e0, e, rfl⟩
    cases vs with
    | cons v vs => cases e
    | nil =>
    rw [List.append_nil] at e0
    subst e0
    exact q rs (B : Rat) _ _ hco
/-! ### when two bodies meet -/
theorem rat_pos_iff {B x : Rat} (h : 0 < B) : 0 < B * x ↔ 0 < x := by
  constructor
  · intro h1
    rcases Rat.le_total (a := x) (b := 0) with z | z
    · have h2 : B * x ≤ B * 0 := Rat.mul_le_mul_of_nonneg_left z (Rat.le_of_lt h)
      rw [Rat.mul_zero] at h2
      exact absurd h1 (Rat.not_lt.mpr h2)
    · refine Rat.lt_of_le_of_ne z fun e => ?_
      rw [← e, Rat.mul_zero] at h1
      exact absurd h1 (by decide)
  · intro h1
    exact Rat.mul_pos h h1
theorem rat_neg_iff {B x : Rat} (h : 0 < B) : B * x < 0 ↔ x < 0 := by
  have := rat_pos_iff (x := -x) h
  have e : B * -x = -(B * x) := by grind
  rw [e] at this
  constructor
  · intro h1
    have : 0 < -x := this.mp (by grind)
    grind
  · intro h1
    have : 0 < -(B * x) := this.mpr (by grind)
    grind
theorem rat_nn_iff {B x : Rat} (h : 0 < B) : 0 ≤ B * x ↔ 0 ≤ x := by
  have := rat_neg_iff (x := x) h
  constructor
  · intro h1
    exact Rat.not_lt.mp fun z => absurd h1 (Rat.not_le.mpr (this.mpr z))
  · intro h1
    exact Rat.not_lt.mp fun z => absurd h1 (Rat.not_le.mpr (this.mp z))
theorem cast_lt0 {a : Int} : ((a : Int) : Rat) < 0 ↔ a < 0 := Rat.intCast_lt_intCast (b := 0)
theorem cast_nn {a : Int} : (0 : Rat) ≤ ((a : Int) : Rat) ↔ 0 ≤ a := Rat.intCast_le_intCast (a := 0)
section
variable {b c : Bw} {k : Nat} {rs : List Pt} {B : Rat} {fS fL : Pt → Int}
theorem CoOk.sneg (h : CoOk b c k rs B fS fL) (w : Pt) : fS w < 0 ↔ gapQ b c w 0 < 0 := by
  rw [← cast_lt0, h.st, rat_neg_iff h.pos]
theorem CoOk.lnn (h : CoOk b c k rs B fS fL) (w : Pt) : 0 ≤ fL w ↔ 0 ≤ rtQ b c w := by
  rw [← cast_nn, h.sl, rat_nn_iff h.pos]
end
/-- the two meet along w at t -/
structure Meets (b c : Bw) (rs : List Pt) (w : Pt) (t : Rat) : Prop where
  mem : w ∈ rs
  nn : 0 ≤ gapQ b c w 0
  fall : rtQ b c w < 0
  zero : gapQ b c w t = 0
  all : ∀ v ∈ rs, gapQ b c v t < 0 ∨ (gapQ b c v t = 0 ∧ rtQ b c v < 0)
/-! ### what the shapes' sides make of a plane -/
noncomputable def dq (p q : Rat) (a : Pt) : Rat := p * (a.1 : Rat) + q * (a.2 : Rat)
theorem dq_dot (w a : Pt) : dq (w.1 : Rat) (w.2 : Rat) a = ((dot w a : Int) : Rat) := by
  unfold dq dot
  rw [Rat.intCast_add, Rat.intCast_mul, Rat.intCast_mul]
theorem flat_crs {p q : Rat} (h0 : p ≠ 0 ∨ q ≠ 0) {u v : Pt} (hu : p * (u.1 : Rat) + q * (u.2 : Rat) = 0) (hv : p * (v.1 : Rat) + q * (v.2 : Rat) = 0) : crs u v = 0 := by
  have e : ((crs u v : Int) : Rat) = (u.1 : Rat) * (v.2 : Rat) - (u.2 : Rat) * (v.1 : Rat) := by
    unfold crs
    rw [Rat.intCast_sub, Rat.intCast_mul, Rat.intCast_mul]
  have z : ((crs u v : Int) : Rat) = ((0 : Int) : Rat) := by
    rw [e]
    show _ = (0 : Rat)
    generalize (u.1 : Rat) = a at *
    generalize (u.2 : Rat) = b at *
    generalize (v.1 : Rat) = c at *
    generalize (v.2 : Rat) = d at *
    rcases h0 with h | h
    · have : p * (a * d - b * c) = 0 := by grind
      rcases Rat.mul_eq_zero.mp this with z | z
      · exact absurd z h
      · exact z
    · have : q * (a * d - b * c) = 0 := by grind
      rcases Rat.mul_eq_zero.mp this with z | z
      · exact absurd z h
      · exact z
  exact Rat.intCast_inj.mp z
theorem vec_flat {p q : Rat} {a b : Pt} (h : dq p q a = dq p q b) : p * ((vec a b).1 : Rat) + q * ((vec a b).2 : Rat) = 0 := by
  unfold vec
  simp only
  rw [Rat.intCast_sub, Rat.intCast_sub]
  unfold dq at h
  grind
theorem not_flat {cs : List Pt} (h : ShOk cs) {p q : Rat} (h0 : p ≠ 0 ∨ q ≠ 0) : ∃ a ∈ cs, ∃ b ∈ cs, dq p q a < dq p q b := by
  obtain ⟨x, y, z, r, rfl⟩ : ∃ x y z r, cs = x :: y :: z :: r := by
    match cs, h.1 with
    | [], h => exact absurd h (by decide)
    | [_], h => exact absurd h (by simp)
    | [_, _], h => exact absurd h (by simp)
    | x :: y :: z :: r, _ => exact ⟨x, y, z, r, rfl⟩
  have hd := h.2.2.2.2.1
  rcases Classical.em (∃ a ∈ x :: y :: z :: r, ∃ b ∈ x :: y :: z :: r, dq p q a < dq p q b) with g | g
  · exact g
  · exfalso
    have eq : ∀ a ∈ x :: y :: z :: r, ∀ b ∈ x :: y :: z :: r, dq p q a = dq p q b := fun a ha b hb => by
      rcases Rat.le_total (a := dq p q a) (b := dq p q b) with l | l
      · exact Classical.byContradiction fun n => g ⟨a, ha, b, hb, Rat.lt_of_le_of_ne l n⟩
      · exact Classical.byContradiction fun n => g ⟨b, hb, a, ha, Rat.lt_of_le_of_ne l fun z => n z.symm⟩
    unfold Dst at hd
    obtain ⟨z', hz', tl, e⟩ : ∃ z' ∈ x :: y :: z :: r, ∃ tl, eds ((x :: y :: z :: r) ++ List.take 1 (x :: y :: z :: r)) = vec x y :: vec y z :: vec z z' :: tl := by
      cases r with
      | nil => exact ⟨x, by simp, [], rfl⟩
      | cons w r => exact ⟨w, by simp, _, rfl⟩
    rw [e] at hd
    have f1 := vec_flat (eq x (by simp) y (by simp))
    have f2 := vec_flat (eq y (by simp) z (by simp))
    have f3 := vec_flat (eq z (by simp) z' hz')
    simp only [List.pairwise_cons] at hd
    obtain ⟨d1, d2, d3, _⟩ := hd
    have n12 := d1 (vec y z) (by simp)
    have n13 := d1 (vec z z') (by simp)
    have n23 := d2 (vec z z') (by simp)
    have o12 := n12.opp (flat_crs h0 f1 f2)
    have o13 := n13.opp (flat_crs h0 f1 f3)
    have o23 := n23.opp (flat_crs h0 f2 f3)
    unfold lexP at o12 o13 o23
    have h9 : ∀ q : Pt, (neg q).1 = -q.1 ∧ (neg q).2 = -q.2 := fun q => ⟨rfl, rfl⟩
    have g1 := h9 (vec x y)
    have g2 := h9 (vec y z)
    have g3 := h9 (vec z z')
    omega
/-- the way of a side, times its divisor -/
theorem wyE_val {e : Pt × Pt} (h : e.1 ≠ e.2) : ∃ g : Int, 0 < g ∧ (wyE e).1 * g = e.2.2 - e.1.2 ∧ (wyE e).2 * g = e.1.1 - e.2.1 := by
  have g0 := gcdI_pos2 (p := e.2.2 - e.1.2) (q := e.1.1 - e.2.1) fun z => h (Prod.ext (by omega) (by omega))
  exact ⟨_, g0, Int.ediv_mul_cancel (gcdI_dvd_l _ _), Int.ediv_mul_cancel (gcdI_dvd_r _ _)⟩
theorem way_nz {cs : List Pt} (h : ShOk cs) : ∀ w ∈ waysOf cs, ¬ (w.1 = 0 ∧ w.2 = 0) := fun w hw z => by
  obtain ⟨e, he, rfl⟩ := List.mem_map.mp hw
  have hne := (prs_ok h e he).1
  obtain ⟨g, g0, h1, h2⟩ := wyE_val hne
  rw [z.1, Int.zero_mul] at h1
  rw [z.2, Int.zero_mul] at h2
  exact hne (Prod.ext (by omega) (by omega))
/-! ### when it is over -/
noncomputable def OverQ (b c : Bw) (rs : List Pt) (t : Rat) : Prop := ∀ w ∈ rs, gapQ b c w t < 0
/-! ### first -/
theorem wayI_bd {p q : Int} {k : Nat} (h : ¬ (p = 0 ∧ q = 0)) (bp : Bd k p) (bq : Bd k q) : WyS k (wayI p q) := by
  have g0 := gcdI_pos2 h
  exact ⟨bp.of_le (div_natAbs_le g0 (gcdI_dvd_l _ _)), bq.of_le (div_natAbs_le g0 (gcdI_dvd_r _ _))⟩
theorem way_one {p q : Int} (h : ¬ (p = 0 ∧ q = 0)) : gcdI (wayI p q).1 (wayI p q).2 = 1 := by
  have g0 := gcdI_pos2 h
  have d1 := gcdI_dvd_l p q
  have d2 := gcdI_dvd_r p q
  unfold wayI
  simp only
  unfold gcdI at g0 d1 d2 ⊢
  have e1 : (p / ((Nat.gcd p.natAbs q.natAbs : Nat) : Int)).natAbs = p.natAbs / Nat.gcd p.natAbs q.natAbs := by
    rw [Int.natAbs_ediv_of_dvd d1]
    rfl
  have e2 : (q / ((Nat.gcd p.natAbs q.natAbs : Nat) : Int)).natAbs = q.natAbs / Nat.gcd p.natAbs q.natAbs := by
    rw [Int.natAbs_ediv_of_dvd d2]
    rfl
  rw [e1, e2]
  have : Nat.gcd (p.natAbs / Nat.gcd p.natAbs q.natAbs) (q.natAbs / Nat.gcd p.natAbs q.natAbs) = 1 := by
    rcases Nat.eq_zero_or_pos q.natAbs with z | z
    · exact Nat.gcd_div_gcd_div_gcd_of_pos_left (by omega)
    · exact Nat.gcd_div_gcd_div_gcd_of_pos_right z
  rw [this]
  rfl
theorem bdq0 {k : Nat} : BdQ (k + 1) 0 := ⟨by unfold Bd; exact Nat.pow_pos (by decide), Nat.one_lt_two_pow (by omega)⟩
theorem PwOk.nz {b c : Bw} {rs : List Pt} (h : PwOk (waysOf b.cs) (waysOf c.cs) rs) (hb : ShOk b.cs) (hc : ShOk c.cs) : ∀ w ∈ rs, ¬ (w.1 = 0 ∧ w.2 = 0) := h.sub (way_nz hb) fun w hw z => way_nz hc w hw (by
  unfold ngP at z
  simp only at z
  omega)
theorem ways_one {cs : List Pt} (h : ShOk cs) : ∀ w ∈ waysOf cs, gcdI w.1 w.2 = 1 := fun w hw => by
  obtain ⟨e, he, rfl⟩ := List.mem_map.mp hw
  exact way_one fun z => (prs_ok h e he).1 (Prod.ext (by omega) (by omega))
theorem PwOk.one {b c : Bw} {rs : List Pt} (h : PwOk (waysOf b.cs) (waysOf c.cs) rs) (hb : ShOk b.cs) (hc : ShOk c.cs) : ∀ w ∈ rs, gcdI w.1 w.2 = 1 := h.sub (ways_one hb) fun w hw => by
  have := ways_one hc w hw
  unfold ngP
  simp only
  rw [gcdI_neg_l, gcdI_neg_r]
  exact this
/-! ### two convex shapes: what is over along the pair ways is over along each way -/
noncomputable def cr (a b c d : Rat) : Rat := a * d - b * c
/-! corners and the sides beside them -/
theorem side_way {cs : List Pt} (h : ShOk cs) {p a : Pt} (m : (p, a) ∈ prs cs) : ∃ g : Rat, 0 < g ∧ ((wyE (p, a)).1 : Rat) * g = (a.2 : Rat) - (p.2 : Rat) ∧ ((wyE (p, a)).2 : Rat) * g = (p.1 : Rat) - (a.1 : Rat) := by
  obtain ⟨g, g0, h1, h2⟩ := wyE_val (prs_ok h _ m).1
  refine ⟨(g : Rat), (Rat.intCast_lt_intCast (a := 0)).mpr g0, ?_, ?_⟩
  · rw [← Rat.intCast_mul, h1, Rat.intCast_sub]
  · rw [← Rat.intCast_mul, h2, Rat.intCast_sub]
theorem side_max {cs : List Pt} (h : ShOk cs) {p a b : Pt} (m : (p, a) ∈ prs cs) (hb : b ∈ cs) : dq (wyE (p, a)).1 (wyE (p, a)).2 b ≤ dq (wyE (p, a)).1 (wyE (p, a)).2 a ∧ dq (wyE (p, a)).1 (wyE (p, a)).2 b ≤ dq (wyE (p, a)).1 (wyE (p, a)).2 p := by
  obtain ⟨g, g0, e1, e2⟩ := side_way h m
  have hl := (h.2.2.2.2.2 (p, a) m).2 b hb
  have hl' : (0 : Rat) ≤ ((leftI p a b : Int) : Rat) := cast_nn.mpr hl
  have el : ((leftI p a b : Int) : Rat) = ((a.1 : Rat) - (p.1 : Rat)) * ((b.2 : Rat) - (p.2 : Rat)) - ((a.2 : Rat) - (p.2 : Rat)) * ((b.1 : Rat) - (p.1 : Rat)) := by
    unfold leftI
    rw [Rat.intCast_sub, Rat.intCast_mul, Rat.intCast_mul, Rat.intCast_sub, Rat.intCast_sub, Rat.intCast_sub, Rat.intCast_sub]
  rw [el] at hl'
  unfold dq
  generalize ((wyE (p, a)).1 : Rat) = x at *
  generalize ((wyE (p, a)).2 : Rat) = y at *
  have k1 : 0 ≤ g * (x * (a.1 : Rat) + y * (a.2 : Rat) - (x * (b.1 : Rat) + y * (b.2 : Rat))) := by
    have : g * (x * (a.1 : Rat) + y * (a.2 : Rat) - (x * (b.1 : Rat) + y * (b.2 : Rat))) = (x * g) * ((a.1 : Rat) - (b.1 : Rat)) + (y * g) * ((a.2 : Rat) - (b.2 : Rat)) := by grind
    rw [this, e1, e2]
    grind
  have k2 : 0 ≤ g * (x * (p.1 : Rat) + y * (p.2 : Rat) - (x * (b.1 : Rat) + y * (b.2 : Rat))) := by
    have : g * (x * (p.1 : Rat) + y * (p.2 : Rat) - (x * (b.1 : Rat) + y * (b.2 : Rat))) = (x * g) * ((p.1 : Rat) - (b.1 : Rat)) + (y * g) * ((p.2 : Rat) - (b.2 : Rat)) := by grind
    rw [this, e1, e2]
    grind
  have := (rat_nn_iff g0).mp k1
  have := (rat_nn_iff g0).mp k2
  grind
theorem mx_of {w : Pt} {cs : List Pt} (hne : cs ≠ []) {a : Pt} (ha : a ∈ cs) (h : ∀ b ∈ cs, dq w.1 w.2 b ≤ dq w.1 w.2 a) : ((mx w cs : Int) : Rat) = dq w.1 w.2 a := by
  have : IsMax w cs (dot w a) := ⟨⟨a, ha, rfl⟩, fun c hc => by
    have := h c hc
    rw [dq_dot, dq_dot] at this
    exact Rat.intCast_le_intCast.mp this⟩
  rw [(mx_is hne).uniq this, dq_dot]
theorem dedup_ex : ∀ l : List Pt, ∃ r : List Pt, r.Nodup ∧ ∀ x, x ∈ r ↔ x ∈ l
  | [] => ⟨[], List.nodup_nil, fun _ => Iff.rfl⟩
  | a :: l => by
    obtain ⟨r, h1, h2⟩ := dedup_ex l
    by_cases h : a ∈ r
    · refine ⟨r, h1, fun x => ?_⟩
      rw [h2, List.mem_cons]
      constructor
      · exact .inr
      · rintro (rfl | z)
        · exact (h2 _).mp h
        · exact z
    · exact ⟨a :: r, List.nodup_cons.mpr ⟨h, h1⟩, fun x => by rw [List.mem_cons, List.mem_cons, h2]⟩
theorem pw_ex (as bs : List Pt) : ∃ rs, PwOk as bs rs := by
  obtain ⟨r, h1, h2⟩ := dedup_ex (as ++ bs.map ngP)
  let le : Pt → Pt → Bool := fun p q => decide (p.1 < q.1 ∨ (p.1 = q.1 ∧ p.2 ≤ q.2))
  have hp := List.mergeSort_perm r le
  refine ⟨r.mergeSort le, hp.nodup_iff.mpr h1, fun p => ?_, ?_⟩
  · rw [hp.mem_iff, h2, List.mem_append, List.mem_map]
    constructor
    · rintro (h | ⟨z, h1, rfl⟩)
      · exact .inl h
      · right
        rw [ngP_ngP]
        exact h1
    · rintro (h | h)
      · exact .inl h
      · exact .inr ⟨_, h, ngP_ngP p⟩
  · have := List.pairwise_mergeSort (le := le) (fun a b c h1 h2 => by
      have h1 := of_decide_eq_true h1
      have h2 := of_decide_eq_true h2
      refine decide_eq_true ?_
      omega) (fun a b => by
      show (decide _ || decide _) = true
      rw [Bool.or_eq_true, decide_eq_true_iff, decide_eq_true_iff]
      omega) r
    exact this.imp fun h => of_decide_eq_true h
/-! CUT -/
/-! ### the scene's prelude -/
theorem paired_snoc {α β : Type} {F : α → β → Prop} {l : List α} {m : List β} {a : α} {b : β} (h : Paired F l m) (hab : F a b) : Paired F (l ++ [a]) (m ++ [b]) := paired_append h (.cons hab .nil)
theorem paired_len {α β : Type} {F : α → β → Prop} {l : List α} {m : List β} (h : Paired F l m) : m.length = l.length := by
  induction h with
  | nil => rfl
  | cons _ _ ih => rw [List.length_cons, List.length_cons, ih]
theorem nIte {p : Prop} [Decidable p] {a b : Prop} (h : ¬ p → a) (g : p → b) : aIte (not (decide p)) a b := by
  by_cases e : p
  · rw [decide_eq_true e]
    exact aF (g e)
  · rw [decide_eq_false e]
    exact aT (h e)
theorem at0 {α : Type} {d : α} {r : List α} : atI (d :: r) 0 = some d := atI_nat (j := 0) rfl
noncomputable def nmS : D → Str
  | .str z => z
  | _ => Str.ofString ""
theorem fmod_gcd {x y : Int} (h : y ≠ 0) : gcdI y (x.fmod y) = gcdI x y := by
  have e : x.fmod y = 1 * x + -(x.fdiv y) * y := by
    have := Int.mul_fdiv_add_fmod x y
    have e2 : -(x.fdiv y) * y = -(y * x.fdiv y) := by grind
    omega
  have h1 := gcdI_uni (a := 0) (b := 1) (c := 1) (d := -(x.fdiv y)) (u := x) (v := y) (e := -1) (by omega) (.inr rfl)
  rw [← e] at h1
  have e3 : (0 : Int) * x + 1 * y = y := by omega
  rw [e3] at h1
  exact h1
theorem fmod_lt {x y : Int} (h : y ≠ 0) : (x.fmod y).natAbs < y.natAbs := by
  have e := Int.mul_fdiv_add_fmod x y
  rw [Int.fmod_eq_emod]
  have h1 := Int.emod_nonneg x h
  have h2 : x % y < (y.natAbs : Int) := by
    have := Int.emod_lt x h
    omega
  split
  · omega
  · rename_i hn
    have : ¬ y ∣ x := fun z => hn (.inr z)
    have h3 : x % y ≠ 0 := fun z => this (Int.dvd_of_emod_eq_zero z)
    have h4 : ¬ 0 ≤ y := fun z => hn (.inl z)
    omega
noncomputable abbrev a_l_gcd : ASp := a_gcd
theorem ok_l_gcd (T : Tx K mg A) : FnOk P w K mg base CX0 1 A.f_l_gcd A.fd_l_gcd ["_law_one", "_law_other"] (spOf K 2 a_l_gcd) := by
  refine fn_mir [] 3 rfl (by decide) (by decide) T.F_l_gcd sc_l_gcd fun cdv Ar outer s H E hr => ?_
  refine ⟨_, _, (pss_cons (ps_while PassesOwn.never (pt_cmpR (k_ne (K := K) rfl hr.units) (pv 1) pe_int (nomark _))
      (pss_cons (ps_set (i := 2) sc_l_gcd.nd rfl (.inl rfl) (pe_op op_modN (pv 0) (pv 1)))
    (pss_cons (ps_set (i := 0) sc_l_gcd.nd rfl (.inl rfl) (pv 1))
    (pss_one (ps_set (i := 1) sc_l_gcd.nd rfl (.inl rfl) (pv 2))))))
    (pss_one (ps_ret (pe_callB k_abs (by rfl) T.m_abs (by decide +kernel) (pa_cons (pv 0) pa_nil))))), by infer_instance, fun ds n Q hl hA => ?_⟩
  obtain ⟨a, b, rfl, q⟩ := hA
  refine ⟨fun m ρ n' => ∃ (x y : Int) (z : Option D), ρ = [some (.int x), some (.int y), z] ∧ m = y.natAbs ∧ n' = n ∧ gcdI x y = gcdI a b, ⟨_, a, b, none, rfl, rfl, rfl, rfl⟩, ?_⟩
  rintro m _ _ ⟨x, y, z, rfl, rfl, rfl, g⟩
  refine ⟨fun h => ?_, fun h => ?_⟩
  · have h2 : decide (y = 0) = false := by simpa using h
    have hy := of_decide_eq_false h2
    exact ⟨hy, (x.fmod y).natAbs, fmod_lt hy, y, x.fmod y, _, rfl, rfl, rfl, (fmod_gcd hy).trans g⟩
  · have h2 : decide (y = 0) = true := by simpa using h
    have hy := of_decide_eq_true h2
    subst hy
    have e : (if x < 0 then -x else x) = gcdI a b := by
      rw [abs_is, ← g]
      unfold gcdI
      simp
    show Q (.int (if x < 0 then -x else x)) _
    rw [e]
    exact q
noncomputable def CDivS (_ j : Int) : Prop := j ≠ 0 ∧ j.natAbs.log2 < 9000
theorem k_fdivS {X : Cx} : OpR X (binaryOp .FloorDiv) (rI CDivS fun i j => .int (i.fdiv j)) := opI fun i j _ _ _ _ _ hc q => floordiv_int hc.1 q (.inl (PyProof.noPylong_of_log2 hc.2))
theorem Int.fdiv_neg_of_dvd' {a g : Int} (h : g ∣ a) (hg : 0 < g) : a.fdiv (-g) = (-a) / g := by
  obtain ⟨c, rfl⟩ := h
  have e : g * c = (-g) * (-c) := by grind
  rw [e, Int.mul_fdiv_cancel_left _ (by omega)]
  have e2 : -(-g * -c) = g * -c := by grind
  rw [e2, Int.mul_ediv_cancel_left _ (by omega)]
theorem fdiv_low {a b : Int} (hb : b ≠ 0) : D.tup [.int (a.fdiv (if b < 0 then -(gcdI a b) else gcdI a b)), .int (b.fdiv (if b < 0 then -(gcdI a b) else gcdI a b))] = sh (Rat.divInt a b) := by
  have g0 := gcdI_pos (a := a) hb
  have da := gcdI_dvd_l a b
  have db := gcdI_dvd_r a b
  by_cases h : b < 0
  · rw [if_pos h]
    have e1 : a.fdiv (-(gcdI a b)) = (-a) / gcdI (-a) (-b) := by
      rw [gcdI_neg_l, gcdI_neg_r, Int.fdiv_neg_of_dvd' da (by omega)]
    have e2 : b.fdiv (-(gcdI a b)) = (-b) / gcdI (-a) (-b) := by
      rw [gcdI_neg_l, gcdI_neg_r, Int.fdiv_neg_of_dvd' db (by omega)]
    rw [e1, e2]
    obtain ⟨h1, h2, _, _⟩ := low_is (a := -a) (b := -b) (by omega)
    rw [sh_of h1 (by omega) h2, (Rat.divInt_eq_divInt_iff (show -b ≠ 0 by omega) hb).mpr (show -a * b = a * -b by grind)]
  · rw [if_neg h, Int.fdiv_eq_ediv_of_nonneg _ (by omega), Int.fdiv_eq_ediv_of_nonneg _ (by omega)]
    obtain ⟨h1, h2, _, _⟩ := low_is (a := a) (b := b) (by omega)
    exact sh_of h1 hb h2
@[irreducible] noncomputable def a_l_lowest : ASp := fun ds n Q => ∃ (a b : Int) (k : Nat), ds = [.int a, .int b] ∧ b ≠ 0 ∧ Bd k b ∧ k < 9000 ∧ Q (sh (Rat.divInt a b)) n
theorem ok_l_lowest (T : Tx K mg A) : FnOk P w K mg base CX0 2 A.f_l_lowest A.fd_l_lowest ["_law_top", "_law_bottom"] (spOf K 2 a_l_lowest) := by
  refine fn_mir [] 3 rfl (by decide) (by decide) T.F_l_lowest sc_l_lowest fun cdv Ar outer s H E hr => ?_
  refine ⟨_, _, (pss_cons (ps_set (i := 2) sc_l_lowest.nd rfl (.inl rfl) (pe_call (ok_l_gcd (P := P) (K := K) T) (hr.mono (by decide)) (by rfl) T.g_l_gcd T.F_l_gcd.kp T.b_l_gcd .nil pass0 (pa_cons (pv 0) (pa_cons (pv 1) pa_nil))))
    (pss_cons (ps_if (pt_cmpR op_lt (pv 1) pe_int (nomark _))
      (pss_one (ps_set (i := 2) sc_l_lowest.nd rfl (.inl rfl) (pe_un un_neg (pv 2))))
      pss_nil)
    (pss_one (ps_ret (pe_tup (pa_cons (pe_op k_fdivS (pv 0) (pv 2)) (pa_cons (pe_op k_fdivS (pv 1) (pv 2)) pa_nil))))))), by infer_instance, fun ds n Q hl hA => ?_⟩
  unfold a_l_lowest at hA
  obtain ⟨a, b, k, rfl, hb, bb, hk, q⟩ := hA
  have g0 := gcdI_pos (a := a) hb
  have gb := gcdI_bd (a := a) bb hb
  have lg : (gcdI a b).natAbs.log2 < 9000 := Nat.lt_of_lt_of_le (log2_lt (k := k + 1) (gb.le (Nat.le_succ _)) (by omega)) (by omega)
  rw [← fdiv_low hb] at q
  refine ⟨a, b, rfl, ?_⟩
  refine dIte (fun h => ?_) fun h => ?_
  · rw [if_pos h] at q
    exact ⟨⟨by omega, by rw [Int.natAbs_neg]; exact lg⟩, ⟨by omega, by rw [Int.natAbs_neg]; exact lg⟩, q⟩
  · rw [if_neg h] at q
    exact ⟨⟨by omega, lg⟩, ⟨by omega, lg⟩, q⟩
theorem lowest_ok {a b : Int} {k n : Nat} {Q : D → Nat → Prop} (hb : b ≠ 0) (bb : Bd k b) (hk : k < 9000) (q : Q (sh (Rat.divInt a b)) n) : a_l_lowest [.int a, .int b] n Q := by
  unfold a_l_lowest
  exact ⟨a, b, k, rfl, hb, bb, hk, q⟩
/-! shares and spots of the law -/
theorem pdiv_ok {x y : Rat} {k m n : Nat} {Q : D → Nat → Prop} (bx : BdQ k x) (bY : BdQ m y) (hk : k + m < 9000) (q : Q (sh (x + y)) n) : a_l_lowest [.int (x.num * y.den + y.num * x.den), .int ((x.den : Int) * y.den)] n Q :=
  lowest_ok (by have := Int.mul_pos (den_pos x) (den_pos y); omega) (bx.2.mul bY.2) hk (by rw [← add_divInt]; exact q)
noncomputable def a_l_plus : ASp := fun ds n Q => ∃ (x y : Rat) (k m : Nat), ds = [sh x, sh y] ∧ BdQ k x ∧ BdQ m y ∧ k + m < 9000 ∧ Q (sh (x + y)) n
theorem ok_l_plus (T : Tx K mg A) : FnOk P w K mg base CX0 3 A.f_l_plus A.fd_l_plus ["_law_one", "_law_other"] (spOf K 2 a_l_plus) := by
  refine fn_mir [] 2 rfl (by decide) (by decide) T.F_l_plus sc_l_plus fun cdv Ar outer s H E hr => ?_
  refine ⟨_, _, (pss_one (ps_ret (pe_call (ok_l_lowest (P := P) (K := K) T) (hr.mono (by decide)) (by rfl) T.g_l_lowest T.F_l_lowest.kp T.b_l_lowest .nil pass0 (pa_cons (pe_op (k_add (K := K) rfl) (pe_op k_mul (pe_ix (k_ix (K := K) rfl) (pv 0) pe_int (fun _ _ => rfl)) (pe_ix (k_ix (K := K) rfl) (pv 1) pe_int (fun _ _ => rfl))) (pe_op k_mul (pe_ix (k_ix (K := K) rfl) (pv 1) pe_int (fun _ _ => rfl)) (pe_ix (k_ix (K := K) rfl) (pv 0) pe_int (fun _ _ => rfl)))) (pa_cons (pe_op k_mul (pe_ix (k_ix (K := K) rfl) (pv 0) pe_int (fun _ _ => rfl)) (pe_ix (k_ix (K := K) rfl) (pv 1) pe_int (fun _ _ => rfl))) pa_nil))))), by infer_instance, fun ds n Q hl hA => ?_⟩
  obtain ⟨x, y, k, m, rfl, bx, bY, hk, q⟩ := hA
  exact ⟨mulA bx.1 bY.2 (by omega) (by omega), mulA bY.1 bx.2 (by omega) (by omega), mulA bx.2 bY.2 (by omega) (by omega), pdiv_ok bx bY hk q⟩
noncomputable def a_l_times : ASp := fun ds n Q => ∃ (x y : Rat) (k m : Nat), ds = [sh x, sh y] ∧ BdQ k x ∧ BdQ m y ∧ k + m < 9000 ∧ Q (sh (x * y)) n
theorem ok_l_times (T : Tx K mg A) : FnOk P w K mg base CX0 3 A.f_l_times A.fd_l_times ["_law_one", "_law_other"] (spOf K 2 a_l_times) := by
  refine fn_mir [] 2 rfl (by decide) (by decide) T.F_l_times sc_l_times fun cdv Ar outer s H E hr => ?_
  refine ⟨_, _, (pss_one (ps_ret (pe_call (ok_l_lowest (P := P) (K := K) T) (hr.mono (by decide)) (by rfl) T.g_l_lowest T.F_l_lowest.kp T.b_l_lowest .nil pass0 (pa_cons (pe_op k_mul (pe_ix (k_ix (K := K) rfl) (pv 0) pe_int (fun _ _ => rfl)) (pe_ix (k_ix (K := K) rfl) (pv 1) pe_int (fun _ _ => rfl))) (pa_cons (pe_op k_mul (pe_ix (k_ix (K := K) rfl) (pv 0) pe_int (fun _ _ => rfl)) (pe_ix (k_ix (K := K) rfl) (pv 1) pe_int (fun _ _ => rfl))) pa_nil))))), by infer_instance, fun ds n Q hl hA => ?_⟩
  obtain ⟨x, y, k, m, rfl, bx, bY, hk, q⟩ := hA
  refine ⟨mulA bx.1 bY.1 (by omega) (by omega), mulA bx.2 bY.2 (by omega) (by omega), lowest_ok (by have := Int.mul_pos (den_pos x) (den_pos y); omega) (bx.2.mul bY.2) hk ?_⟩
  rw [← mul_divInt]
  exact q
noncomputable def a_l_spot_plus : ASp := fun ds n Q => ∃ (x y x' y' : Rat) (k m : Nat), ds = [spt x y, spt x' y'] ∧ BdQ k x ∧ BdQ k y ∧ BdQ m x' ∧ BdQ m y' ∧ k + m < 9000 ∧ Q (spt (x + x') (y + y')) n
theorem ok_l_spot_plus (T : Tx K mg A) : FnOk P w K mg base CX0 4 A.f_l_spot_plus A.fd_l_spot_plus ["_law_one", "_law_other"] (spOf K 2 a_l_spot_plus) := by
  refine fn_mir [] 2 rfl (by decide) (by decide) T.F_l_spot_plus sc_l_spot_plus fun cdv Ar outer s H E hr => ?_
  refine ⟨_, _, (pss_one (ps_ret (pe_tup (pa_cons (pe_call (ok_l_plus (P := P) (K := K) T) (hr.mono (by decide)) (by rfl) T.g_l_plus T.F_l_plus.kp T.b_l_plus .nil pass0 (pa_cons (pe_ix (k_ix (K := K) rfl) (pv 0) pe_int (fun _ _ => rfl)) (pa_cons (pe_ix (k_ix (K := K) rfl) (pv 1) pe_int (fun _ _ => rfl)) pa_nil))) (pa_cons (pe_call (ok_l_plus (P := P) (K := K) T) (hr.mono (by decide)) (by rfl) T.g_l_plus T.F_l_plus.kp T.b_l_plus .nil pass0 (pa_cons (pe_ix (k_ix (K := K) rfl) (pv 0) pe_int (fun _ _ => rfl)) (pa_cons (pe_ix (k_ix (K := K) rfl) (pv 1) pe_int (fun _ _ => rfl)) pa_nil))) pa_nil))))), by infer_instance, fun ds n Q hl hA => ?_⟩
  obtain ⟨x, y, x', y', k, m, rfl, b1, b2, b3, b4, hk, q⟩ := hA
  exact ⟨x, x', k, m, rfl, b1, b3, hk, y, y', k, m, rfl, b2, b4, hk, q⟩
noncomputable def a_l_spot_times : ASp := fun ds n Q => ∃ (x y z : Rat) (k m : Nat), ds = [spt x y, sh z] ∧ BdQ k x ∧ BdQ k y ∧ BdQ m z ∧ k + m < 9000 ∧ Q (spt (x * z) (y * z)) n
theorem ok_l_spot_times (T : Tx K mg A) : FnOk P w K mg base CX0 4 A.f_l_spot_times A.fd_l_spot_times ["_law_spot", "_law_size"] (spOf K 2 a_l_spot_times) := by
  refine fn_mir [] 2 rfl (by decide) (by decide) T.F_l_spot_times sc_l_spot_times fun cdv Ar outer s H E hr => ?_
  refine ⟨_, _, (pss_one (ps_ret (pe_tup (pa_cons (pe_call (ok_l_times (P := P) (K := K) T) (hr.mono (by decide)) (by rfl) T.g_l_times T.F_l_times.kp T.b_l_times .nil pass0 (pa_cons (pe_ix (k_ix (K := K) rfl) (pv 0) pe_int (fun _ _ => rfl)) (pa_cons (pv 1) pa_nil))) (pa_cons (pe_call (ok_l_times (P := P) (K := K) T) (hr.mono (by decide)) (by rfl) T.g_l_times T.F_l_times.kp T.b_l_times .nil pass0 (pa_cons (pe_ix (k_ix (K := K) rfl) (pv 0) pe_int (fun _ _ => rfl)) (pa_cons (pv 1) pa_nil))) pa_nil))))), by infer_instance, fun ds n Q hl hA => ?_⟩
  obtain ⟨x, y, z, k, m, rfl, b1, b2, b3, hk, q⟩ := hA
  exact ⟨x, z, k, m, rfl, b1, b3, hk, y, z, k, m, rfl, b2, b3, hk, q⟩
theorem bdm1 : BdQ 1 (-1) := ⟨by unfold Bd; decide, by unfold Bd; decide⟩
noncomputable def a_l_spot_less : ASp := fun ds n Q => ∃ (x y x' y' : Rat) (k m : Nat), ds = [spt x y, spt x' y'] ∧ BdQ k x ∧ BdQ k y ∧ BdQ m x' ∧ BdQ m y' ∧ k + m + 1 < 9000 ∧ Q (spt (x - x') (y - y')) n
theorem ok_l_spot_less (T : Tx K mg A) : FnOk P w K mg base CX0 5 A.f_l_spot_less A.fd_l_spot_less ["_law_one", "_law_other"] (spOf K 2 a_l_spot_less) := by
  refine fn_mir [] 2 rfl (by decide) (by decide) T.F_l_spot_less sc_l_spot_less fun cdv Ar outer s H E hr => ?_
  refine ⟨_, _, (pss_one (ps_ret (pe_call (ok_l_spot_plus (P := P) (K := K) T) (hr.mono (by decide)) (by rfl) T.g_l_spot_plus T.F_l_spot_plus.kp T.b_l_spot_plus .nil pass0 (pa_cons (pv 0) (pa_cons (pe_call (ok_l_spot_times (P := P) (K := K) T) (hr.mono (by decide)) (by rfl) T.g_l_spot_times T.F_l_spot_times.kp T.b_l_spot_times .nil pass0 (pa_cons (pv 1) (pa_cons (pe_tup (pa_cons (pe_un un_neg pe_int) (pa_cons pe_int pa_nil))) pa_nil))) pa_nil))))), by infer_instance, fun ds n Q hl hA => ?_⟩
  obtain ⟨x, y, x', y', k, m, rfl, b1, b2, b3, b4, hk, q⟩ := hA
  refine ⟨x', y', -1, m, 1, rfl, b3, b4, bdm1, by omega, ?_⟩
  refine ⟨x, y, x' * -1, y' * -1, k, m + 1, rfl, b1, b2, b3.mul bdm1, b4.mul bdm1, by omega, ?_⟩
  have e1 : x + x' * -1 = x - x' := by grind
  have e2 : y + y' * -1 = y - y' := by grind
  rw [e1, e2]
  exact q
noncomputable def a_l_dot : ASp := fun ds n Q => ∃ (w : Pt) (x y : Rat) (k m : Nat), ds = [pt w, spt x y] ∧ WyS m w ∧ 0 < m ∧ BdQ k x ∧ BdQ k y ∧ 2 * (k + m) < 9000 ∧ Q (sh ((w.1 : Rat) * x + (w.2 : Rat) * y)) n
theorem ok_l_dot (T : Tx K mg A) : FnOk P w K mg base CX0 4 A.f_l_dot A.fd_l_dot ["_law_way", "_law_spot"] (spOf K 2 a_l_dot) := by
  refine fn_mir [] 2 rfl (by decide) (by decide) T.F_l_dot sc_l_dot fun cdv Ar outer s H E hr => ?_
  refine ⟨_, _, (pss_one (ps_ret (pe_call (ok_l_plus (P := P) (K := K) T) (hr.mono (by decide)) (by rfl) T.g_l_plus T.F_l_plus.kp T.b_l_plus .nil pass0 (pa_cons (pe_call (ok_l_times (P := P) (K := K) T) (hr.mono (by decide)) (by rfl) T.g_l_times T.F_l_times.kp T.b_l_times .nil pass0 (pa_cons (pe_tup (pa_cons (pe_ix (k_ix (K := K) rfl) (pv 0) pe_int (fun _ _ => rfl)) (pa_cons pe_int pa_nil))) (pa_cons (pe_ix (k_ix (K := K) rfl) (pv 1) pe_int (fun _ _ => rfl)) pa_nil))) (pa_cons (pe_call (ok_l_times (P := P) (K := K) T) (hr.mono (by decide)) (by rfl) T.g_l_times T.F_l_times.kp T.b_l_times .nil pass0 (pa_cons (pe_tup (pa_cons (pe_ix (k_ix (K := K) rfl) (pv 0) pe_int (fun _ _ => rfl)) (pa_cons pe_int pa_nil))) (pa_cons (pe_ix (k_ix (K := K) rfl) (pv 1) pe_int (fun _ _ => rfl)) pa_nil))) pa_nil))))), by infer_instance, fun ds n Q hl hA => ?_⟩
  obtain ⟨w, x, y, k, m, rfl, hw, hm, bx, bY, hk, q⟩ := hA
  refine ⟨(w.1 : Rat), x, m, k, rfl, bdq_int hw.1 hm, bx, by omega, ?_⟩
  refine ⟨(w.2 : Rat), y, m, k, rfl, bdq_int hw.2 hm, bY, by omega, ?_⟩
  exact ⟨_, _, m + k, m + k, rfl, (bdq_int hw.1 hm).mul bx, (bdq_int hw.2 hm).mul bY, by omega, q⟩
noncomputable def a_l_spot_of : ASp := fun ds n Q => ∃ w : Pt, ds = [pt w] ∧ Q (spt (w.1 : Rat) (w.2 : Rat)) n
theorem ok_l_spot_of (T : Tx K mg A) : FnOk P w K mg base CX0 1 A.f_l_spot_of A.fd_l_spot_of ["_law_way"] (spOf K 1 a_l_spot_of) := by
  refine fn_mir [] 1 rfl (by decide) (by decide) T.F_l_spot_of sc_l_spot_of fun cdv Ar outer s H E hr => ?_
  refine ⟨_, _, (pss_one (ps_ret (pe_tup (pa_cons (pe_tup (pa_cons (pe_ix (k_ix (K := K) rfl) (pv 0) pe_int (fun _ _ => rfl)) (pa_cons pe_int pa_nil))) (pa_cons (pe_tup (pa_cons (pe_ix (k_ix (K := K) rfl) (pv 0) pe_int (fun _ _ => rfl)) (pa_cons pe_int pa_nil))) pa_nil))))), by infer_instance, fun ds n Q hl hA => ?_⟩
  obtain ⟨w, rfl, q⟩ := hA
  exact q
noncomputable def a_l_signed : ASp := fun ds n Q => ∃ s : Int, ds = [.deck, .int s] ∧ 0 ≤ s ∧ s ≤ 1000000 ∧ 1 ≤ n ∧ ∀ r : Int, -s ≤ r → r ≤ s → Q (.int r) (n - 1)
theorem ok_l_signed (T : Tx K mg A) : FnOk P w K mg base CX0 4 A.f_l_signed A.fd_l_signed ["_law_deck", "_law_span"] (spOf K 2 a_l_signed) := by
  refine fn_mir [] 2 rfl (by decide) (by decide) T.F_l_signed sc_l_signed fun cdv Ar outer s H E hr => ?_
  refine ⟨_, _, (pss_one (ps_ret (pe_op op_sub (pe_call (ok_l_take (P := P) (K := K) T) (hr.mono (by decide)) (by rfl) T.g_l_take T.F_l_take.kp T.b_l_take .nil pass0 (pa_cons (pv 0) (pa_cons (pe_op (k_add (K := K) rfl) (pe_op k_mul pe_int (pv 1)) pe_int) pa_nil))) (pv 1)))), by infer_instance, fun ds n Q hl hA => ?_⟩
  obtain ⟨s, rfl, h0, h1, hn, q⟩ := hA
  exact ⟨.inl (.inl (by decide)), 2 * s + 1, rfl, by omega, small_log (by omega) (by omega), by omega, fun r l u => q _ (by omega) (by omega)⟩
noncomputable def a_l_drawn_size : ASp := fun ds n Q => ∃ s : Int, ds = [.deck, .int s] ∧ 0 ≤ s ∧ s ≤ 15 ∧ 3 ≤ n ∧ ∀ q : Rat, BdQ 4 q → Q (sh q) (n - 3)
theorem ok_l_drawn_size (T : Tx K mg A) : FnOk P w K mg base CX0 5 A.f_l_drawn_size A.fd_l_drawn_size ["_law_deck", "_law_span"] (spOf K 2 a_l_drawn_size) := by
  refine fn_mir [] 2 rfl (by decide) (by decide) T.F_l_drawn_size sc_l_drawn_size fun cdv Ar outer s H E hr => ?_
  refine ⟨_, _, (pss_one (ps_ret (pe_call (ok_l_lowest (P := P) (K := K) T) (hr.mono (by decide)) (by rfl) T.g_l_lowest T.F_l_lowest.kp T.b_l_lowest .nil pass0 (pa_cons (pe_call (ok_l_signed (P := P) (K := K) T) (hr.mono (by decide)) (by rfl) T.g_l_signed T.F_l_signed.kp T.b_l_signed .nil pass0 (pa_cons (pv 0) (pa_cons (pv 1) pa_nil))) (pa_cons (pe_op (k_add (K := K) rfl) pe_int (pe_op k_mul (pe_call (ok_l_take (P := P) (K := K) T) (hr.mono (by decide)) (by rfl) T.g_l_take T.F_l_take.kp T.b_l_take .nil pass0 (pa_cons (pv 0) (pa_cons pe_int pa_nil))) (pe_call (ok_l_take (P := P) (K := K) T) (hr.mono (by decide)) (by rfl) T.g_l_take T.F_l_take.kp T.b_l_take .nil pass0 (pa_cons (pv 0) (pa_cons pe_int pa_nil))))) pa_nil))))), by infer_instance, fun ds n Q hl hA => ?_⟩
  obtain ⟨s, rfl, h0, h1, hn, q⟩ := hA
  refine ⟨s, rfl, h0, by omega, by omega, fun r lr ur => ⟨4, rfl, by decide, by decide, by omega, fun a la ua => ⟨2, rfl, by decide, by decide, by omega, fun b lb ub => ?_⟩⟩⟩
  have hab : 0 ≤ a * b ∧ a * b ≤ 3 * 1 := ⟨Int.mul_nonneg la lb, Int.mul_le_mul (by omega) (by omega) lb (by decide)⟩
  have b1 : Bd 4 r := bd_abs (n := 15) (by decide) (by omega) (by omega)
  have b2 : Bd 4 (1 + a * b) := bd_abs (n := 15) (by decide) (by omega) (by omega)
  refine ⟨.inl (.inl ⟨by omega, by omega⟩), lowest_ok (by omega) b2 (by decide) ?_⟩
  have := q (Rat.divInt r (1 + a * b)) (divInt_bd (by omega) b1 b2)
  exact this
noncomputable def a_l_above : ASp := fun ds n Q => ∃ s : Int, ds = [.deck, .int s] ∧ 1 ≤ s ∧ s ≤ 15 ∧ 3 ≤ n ∧ ∀ q : Rat, BdQ 4 q → 0 < q → Q (sh q) (n - 3)
theorem ok_l_above (T : Tx K mg A) : FnOk P w K mg base CX0 4 A.f_l_above A.fd_l_above ["_law_deck", "_law_span"] (spOf K 2 a_l_above) := by
  refine fn_mir [] 2 rfl (by decide) (by decide) T.F_l_above sc_l_above fun cdv Ar outer s H E hr => ?_
  refine ⟨_, _, (pss_one (ps_ret (pe_call (ok_l_lowest (P := P) (K := K) T) (hr.mono (by decide)) (by rfl) T.g_l_lowest T.F_l_lowest.kp T.b_l_lowest .nil pass0 (pa_cons (pe_op (k_add (K := K) rfl) pe_int (pe_call (ok_l_take (P := P) (K := K) T) (hr.mono (by decide)) (by rfl) T.g_l_take T.F_l_take.kp T.b_l_take .nil pass0 (pa_cons (pv 0) (pa_cons (pv 1) pa_nil)))) (pa_cons (pe_op (k_add (K := K) rfl) pe_int (pe_op k_mul (pe_call (ok_l_take (P := P) (K := K) T) (hr.mono (by decide)) (by rfl) T.g_l_take T.F_l_take.kp T.b_l_take .nil pass0 (pa_cons (pv 0) (pa_cons pe_int pa_nil))) (pe_call (ok_l_take (P := P) (K := K) T) (hr.mono (by decide)) (by rfl) T.g_l_take T.F_l_take.kp T.b_l_take .nil pass0 (pa_cons (pv 0) (pa_cons pe_int pa_nil))))) pa_nil))))), by infer_instance, fun ds n Q hl hA => ?_⟩
  obtain ⟨s, rfl, h0, h1, hn, q⟩ := hA
  refine ⟨s, rfl, by omega, small_log (by omega) (by omega), by omega, fun r lr ur => ⟨4, rfl, by decide, by decide, by omega, fun a la ua => ⟨2, rfl, by decide, by decide, by omega, fun b lb ub => ?_⟩⟩⟩
  have hab : 0 ≤ a * b ∧ a * b ≤ 3 * 1 := ⟨Int.mul_nonneg la lb, Int.mul_le_mul (by omega) (by omega) lb (by decide)⟩
  have b1 : Bd 4 (1 + r) := bd_abs (n := 15) (by decide) (by omega) (by omega)
  have b2 : Bd 4 (1 + a * b) := bd_abs (n := 15) (by decide) (by omega) (by omega)
  refine ⟨.inl (.inl ⟨by omega, by omega⟩), lowest_ok (by omega) b2 (by decide) ?_⟩
  refine q (Rat.divInt (1 + r) (1 + a * b)) (divInt_bd (by omega) b1 b2) ?_
  rw [Rat.divInt_eq_div, Rat.div_def]
  exact Rat.mul_pos ((Rat.intCast_lt_intCast (a := 0)).mpr (by omega)) (Rat.inv_pos.mpr ((Rat.intCast_lt_intCast (a := 0)).mpr (by omega)))
/-! shapes -/
theorem tri_ok {w : Int} (h : 0 < w) (h2 : w ≤ 1000) : ShOk [(0, 0), (w, 0), (0, 2)] := by
  have hw : 0 < w * 2 := by omega
  refine ⟨by simp, by simp, fun p hp => ?_, fun e he => ?_, ?_, fun e he => ?_⟩
  · simp only [List.mem_cons, List.not_mem_nil, or_false] at hp
    rcases hp with rfl | rfl | rfl <;> (unfold PtS; simp only; omega)
  · have : e = ((0, 0), (w, 0)) ∨ e = ((w, 0), (0, 2)) ∨ e = ((0, 2), (0, 0)) := by simpa using he
    rcases this with rfl | rfl | rfl
    · exact ne_x (by omega)
    · exact ne_x (by omega)
    · exact ne_y (by omega)
  · unfold Dst
    show [((w - 0 : Int), (0 - 0 : Int)), (0 - w, 2 - 0), (0 - 0, 0 - 2)].Pairwise Nsd
    simp only [List.pairwise_cons, List.mem_cons, List.not_mem_nil, or_false, forall_eq_or_imp, forall_eq, List.Pairwise.nil, and_true, false_implies, implies_true]
    refine ⟨⟨.inl ?_, .inl ?_⟩, .inl ?_⟩ <;> (unfold crs; simp only; omega)
  · have : e = ((0, 0), (w, 0)) ∨ e = ((w, 0), (0, 2)) ∨ e = ((0, 2), (0, 0)) := by simpa using he
    rcases this with rfl | rfl | rfl
    all_goals
      refine ⟨fun z => by have := congrArg Prod.fst z; have := congrArg Prod.snd z; simp only at *; omega, fun c hc => ?_⟩
      have hc' : c = (0, 0) ∨ c = (w, 0) ∨ c = (0, 2) := by simpa using hc
      rcases hc' with rfl | rfl | rfl <;> (unfold leftI; simp only; grind)
noncomputable def a_l_drawn_shape : ASp := fun ds n Q => ∃ s : Int, ds = [.deck, .int s] ∧ 1 ≤ s ∧ s ≤ 100 ∧ 40 ≤ n ∧ ∀ (cs : List Pt) (n' : Nat), ShOk cs → n ≤ n' + 40 → Q (.tup (cs.map pt)) n'
theorem ok_l_drawn_shape (T : Tx K mg A) : FnOk P w K mg base CX0 5 A.f_l_drawn_shape A.fd_l_drawn_shape ["_law_deck", "_law_span"] (spOf K 2 a_l_drawn_shape) := by
  refine fn_mir [] 7 rfl (by decide) (by decide) T.F_l_drawn_shape sc_l_drawn_shape fun cdv Ar outer s H E hr => ?_
  refine ⟨_, _, (pss_cons (ps_set (i := 2) sc_l_drawn_shape.nd rfl (.inl rfl) (pe_op (k_add (K := K) rfl) pe_int (pe_call (ok_l_take (P := P) (K := K) T) (hr.mono (by decide)) (by rfl) T.g_l_take T.F_l_take.kp T.b_l_take .nil pass0 (pa_cons (pv 0) (pa_cons (pv 1) pa_nil)))))
    (pss_cons (ps_if (pt_cmpR op_gt (pe_call (ok_l_take (P := P) (K := K) T) (hr.mono (by decide)) (by rfl) T.g_l_take T.F_l_take.kp T.b_l_take .nil pass0 (pa_cons (pv 0) (pa_cons pe_int pa_nil))) pe_int (nomark _))
      (pss_cons (ps_set (i := 3) sc_l_drawn_shape.nd rfl (.inl rfl) (pe_op (k_add (K := K) rfl) pe_int (pe_call (ok_l_take (P := P) (K := K) T) (hr.mono (by decide)) (by rfl) T.g_l_take T.F_l_take.kp T.b_l_take .nil pass0 (pa_cons (pv 0) (pa_cons (pv 1) pa_nil)))))
    (pss_one (ps_ret (pe_tup (pa_cons (pe_tup (pa_cons pe_int (pa_cons pe_int pa_nil))) (pa_cons (pe_tup (pa_cons (pv 2) (pa_cons pe_int pa_nil))) (pa_cons (pe_tup (pa_cons (pv 2) (pa_cons (pv 3) pa_nil))) (pa_cons (pe_tup (pa_cons pe_int (pa_cons (pv 3) pa_nil))) pa_nil))))))))
      pss_nil)
    (pss_cons (ps_set (i := 4) sc_l_drawn_shape.nd rfl (.inl rfl) (pe_callB (k_sortP (K := K) rfl) (by rfl) T.m_sorted (by decide +kernel) (pa_cons (pe_lc (own := [("_law_turn", 6)]) rfl sc_l_drawn_shape.nd (pi_range1 (by rfl) T.m_range (pa_cons (pe_op (k_add (K := K) rfl) pe_int (pe_call (ok_l_take (P := P) (K := K) T) (hr.mono (by decide)) (by rfl) T.g_l_take T.F_l_take.kp T.b_l_take .nil pass0 (pa_cons (pv 0) (pa_cons pe_int pa_nil)))) pa_nil)) (blkOk_by (own := [("_law_turn", 6)]) (N := ["_law_deck", "_law_span", "_law_wide", "_law_high", "_law_points", "_law_found", "_law_turn"]) (sc := defScope s_l_drawn_shape) (by decide +kernel)) (fun _ _ _ _ _ => (pg_name (i := 6) sc_l_drawn_shape.nd rfl (Or.inl rfl))) (fun _ _ _ _ _ => pts_nil) (fun _ _ _ _ _ => (pe_tup (pa_cons (pe_call (ok_l_signed (P := P) (K := K) T) (hr.mono (by decide)) (by rfl) T.g_l_signed T.F_l_signed.kp T.b_l_signed .nil pass0 (pa_cons (pv 0) (pa_cons (pv 1) pa_nil))) (pa_cons (pe_call (ok_l_signed (P := P) (K := K) T) (hr.mono (by decide)) (by rfl) T.g_l_signed T.F_l_signed.kp T.b_l_signed .nil pass0 (pa_cons (pv 0) (pa_cons (pv 1) pa_nil))) pa_nil))))) pa_nil)))
    (pss_cons (ps_set (i := 5) sc_l_drawn_shape.nd rfl (.inl rfl) (pe_callTy (k_tuple (K := K) rfl) (by rfl) T.m_tuple (by decide +kernel) (pa_cons (pe_op (k_add (K := K) rfl) (pe_call (ok_l_half (P := P) (K := K) T) (hr.mono (by decide)) (by rfl) T.g_l_half T.F_l_half.kp T.b_l_half .nil pass0 (pa_cons (pv 4) pa_nil)) (pe_call (ok_l_half (P := P) (K := K) T) (hr.mono (by decide)) (by rfl) T.g_l_half T.F_l_half.kp T.b_l_half .nil pass0 (pa_cons (k_rev (K := K) rfl (pv 4)) pa_nil))) pa_nil)))
    (pss_cons (ps_if (pt_cmpR op_lt (pe_callB (k_len (K := K) rfl) (by rfl) T.m_len (by decide +kernel) (pa_cons (pv 5) pa_nil)) pe_int (nomark _))
      (pss_one (ps_ret (pe_tup (pa_cons (pe_tup (pa_cons pe_int (pa_cons pe_int pa_nil))) (pa_cons (pe_tup (pa_cons (pv 2) (pa_cons pe_int pa_nil))) (pa_cons (pe_tup (pa_cons pe_int (pa_cons pe_int pa_nil))) pa_nil))))))
      pss_nil)
    (pss_one (ps_ret (pv 5)))))))), by infer_instance, fun ds n Q hl hA => ?_⟩
  obtain ⟨s, rfl, h0, h1, hn, q⟩ := hA
  refine ⟨s, rfl, by omega, small_log (by omega) (by omega), by omega, fun w lw uw => ?_⟩
  refine ⟨3, rfl, by decide, by decide, by omega, fun kd lk uk => ?_⟩
  refine dIte (fun _ => ?_) fun _ => ?_
  · refine ⟨s, rfl, by omega, small_log (by omega) (by omega), by omega, fun hh lh uh => ?_⟩
    refine q [(0, 0), (1 + w, 0), (1 + w, 1 + hh), (0, 1 + hh)] _ ⟨by simp, by simp, fun p hp => ?_, next4 (ne_x (by omega)) (ne_y (by omega)) (ne_x (by omega)) (ne_y (by omega)), ?_, ?_⟩ (by omega)
    · simp only [List.mem_cons, List.not_mem_nil, or_false] at hp
      rcases hp with rfl | rfl | rfl | rfl <;> (unfold PtS; simp only; omega)
    · have := box_dst (x := 0) (y := 0) (u := 1 + w) (v := 1 + hh) (by omega) (by omega)
      simpa using this
    · have := box_cvx (x := 0) (y := 0) (u := 1 + w) (v := 1 + hh) (by omega) (by omega)
      simpa using this
  · refine ⟨6, rfl, by decide, by decide, by omega, fun mn lm um => ?_⟩
    refine ⟨⟨by omega, by omega⟩, by rw [rangeD_length]; omega, ?_⟩
    refine aLc_ind (fun acc ds k => ∃ ps : List Pt, acc = ps.map pt ∧ (∀ p ∈ ps, -100 ≤ p.1 ∧ p.1 ≤ 100 ∧ -100 ≤ p.2 ∧ p.2 ≤ 100) ∧ ps.length + ds.length ≤ 8 ∧ n ≤ k + 3 + 2 * ps.length) ?_ ?_ ⟨[], rfl, (fun c h => by cases h), by rw [rangeD_length]; simp; omega, by simp; omega⟩
    · rintro acc d r k ⟨ps, rfl, hp, hl9, hk⟩ ih
      rw [List.length_cons] at hl9
      refine aT ⟨s, rfl, by omega, by omega, by omega, fun a la ua => ⟨s, rfl, by omega, by omega, by omega, fun b lb ub => ?_⟩⟩
      refine ih _ _ ⟨ps ++ [(a, b)], by rw [List.map_append]; rfl, fun c h => ?_, by rw [List.length_append]; simp; omega, by rw [List.length_append]; simp; omega⟩
      rcases List.mem_append.mp h with h | h
      · exact hp c h
      · rw [List.mem_singleton.mp h]
        exact ⟨by simp only; omega, by simp only; omega, by simp only; omega, by simp only; omega⟩
    · rintro acc k ⟨ps, rfl, hp, hl9, hk⟩
      refine ⟨ps, rfl, fun rs hr hrs => ?_⟩
      have hrB : ∀ p ∈ rs, PtB p := fun p h => by have := hp p (hr.mem_iff.mp h); unfold PtB; omega
      have hrl : rs.length ≤ 8 := by have := hr.length_eq; simp at hl9; omega
      refine ⟨rs, rfl, hrB, by omega, ?_⟩
      refine ⟨rs.reverse, by rw [List.map_reverse], fun p h => hrB p (List.mem_reverse.mp h), by rw [List.length_reverse]; omega, ?_⟩
      have hraw : ∀ x ∈ (halfR rs).tail.reverse ++ (halfR rs.reverse).tail.reverse, x ∈ rs := fun x hx => by
        rcases List.mem_append.mp hx with h | h
        · rcases halfS_sub rs [] x (List.mem_of_mem_tail (List.mem_reverse.mp h)) with h | h
          · cases h
          · exact h
        · rcases halfS_sub rs.reverse [] x (List.mem_of_mem_tail (List.mem_reverse.mp h)) with h | h
          · cases h
          · exact List.mem_reverse.mp h
      have hlen1 := halfS_len rs []
      have hlen2 := halfS_len rs.reverse []
      have hrawl : ((halfR rs).tail.reverse ++ (halfR rs.reverse).tail.reverse).length ≤ 16 := by
        rw [List.length_append, List.length_reverse, List.length_reverse, List.length_tail, List.length_tail]
        have e1 : (halfR rs).length ≤ rs.length := by show (halfS [] rs).length ≤ _; simpa using hlen1
        have e2 : (halfR rs.reverse).length ≤ rs.length := by show (halfS [] rs.reverse).length ≤ _; simpa using hlen2
        omega
      have hc := hull_convex hrs
      have hd := hull_dst hrs
      unfold hullOf at hc hd
      have el : stk (halfR rs).tail ++ stk (halfR rs.reverse).tail = ((halfR rs).tail.reverse ++ (halfR rs.reverse).tail.reverse).map pt := by
        rw [List.map_append]
        rfl
      refine ⟨?_, ?_⟩
      · have h := congrArg List.length el
        rw [List.length_append, List.length_map] at h
        omega
      generalize (halfR rs).tail.reverse ++ (halfR rs.reverse).tail.reverse = cs at *
      show aIte (decide (((stk (halfR rs).tail ++ stk (halfR rs.reverse).tail).length : Int) < 3)) _ (Q (.tup (stk (halfR rs).tail ++ stk (halfR rs.reverse).tail)) k)
      rw [el, List.length_map]
      have hdraw : n ≤ k + 40 := by simp at hl9; omega
      refine dIte (fun e3 => ?_) fun e3 => ?_
      · exact q [(0, 0), (1 + w, 0), (0, 2)] k (tri_ok (by omega) (by omega)) hdraw
      · rw [if_neg (by omega)] at hc hd
        exact q cs k ⟨hc.2, hrawl, fun p h => by have := hp p (hr.mem_iff.mp (hraw p h)); unfold PtS; omega, fun e he => (hc.1 e he).1, hd, hc.1⟩ hdraw
/-! ways of sides and pairs -/
noncomputable def a_l_side_ways : ASp := fun ds n Q => ∃ cs : List Pt, ds = [.tup (cs.map pt)] ∧ ShOk cs ∧ Q (.lst ((waysOf cs).map pt)) n
theorem ok_l_side_ways (T : Tx K mg A) : FnOk P w K mg base CX0 2 A.f_l_side_ways A.fd_l_side_ways ["_law_shape"] (spOf K 1 a_l_side_ways) := by
  refine fn_mir [1] 6 rfl (by decide) (by decide) T.F_l_side_ways sc_l_side_ways fun cdv Ar outer s H E hr => ?_
  refine ⟨_, _, (pss_cons (k_own (ps_set (i := 1) sc_l_side_ways.nd rfl (.inl rfl) (pe_lst pa_nil)))
    (pss_cons (ps_for PassesOwn.never rfl (k_enumT (K := K) rfl (by rfl) T.m_enumerate (pa_cons (pv 0) pa_nil)) (k_gtup (K := K) (m := 2) rfl rfl (pgs_cons (pg_name (i := 2) sc_l_side_ways.nd rfl (.inl rfl)) (pgs_cons (pg_name (i := 3) sc_l_side_ways.nd rfl (.inl rfl)) pgs_nil)))
      (pss_cons (ps_set (i := 4) sc_l_side_ways.nd rfl (.inl rfl) (pe_ix (k_ixS (K := K) rfl) (pv 0) (pe_op op_mod (pe_op (k_add (K := K) rfl) (pv 2) pe_int) (pe_callB (k_len (K := K) rfl) (by rfl) T.m_len (by decide +kernel) (pa_cons (pv 0) pa_nil))) (fun _ _ => rfl)))
    (pss_cons (ps_set (i := 5) sc_l_side_ways.nd rfl (.inl rfl) (pe_call (ok_l_gcd (P := P) (K := K) T) (hr.mono (by decide)) (by rfl) T.g_l_gcd T.F_l_gcd.kp T.b_l_gcd .nil pass0 (pa_cons (pe_op op_sub (pe_ix (k_ix (K := K) rfl) (pv 4) pe_int (fun _ _ => rfl)) (pe_ix (k_ix (K := K) rfl) (pv 3) pe_int (fun _ _ => rfl))) (pa_cons (pe_op op_sub (pe_ix (k_ix (K := K) rfl) (pv 3) pe_int (fun _ _ => rfl)) (pe_ix (k_ix (K := K) rfl) (pv 4) pe_int (fun _ _ => rfl))) pa_nil))))
    (pss_one (k_app (K := K) rfl (ps_expr (pe_bm PySem.F.plainAttrs_list PySem.F.slot_list_append PySem.F.type_list_append mt_append (pv 1) (pa_cons (pe_tup (pa_cons (pe_op k_fdiv (pe_op op_sub (pe_ix (k_ix (K := K) rfl) (pv 4) pe_int (fun _ _ => rfl)) (pe_ix (k_ix (K := K) rfl) (pv 3) pe_int (fun _ _ => rfl))) (pv 5)) (pa_cons (pe_op k_fdiv (pe_op op_sub (pe_ix (k_ix (K := K) rfl) (pv 3) pe_int (fun _ _ => rfl)) (pe_ix (k_ix (K := K) rfl) (pv 4) pe_int (fun _ _ => rfl))) (pv 5)) pa_nil))) pa_nil))))))))
    (pss_one (ps_ret (pv 1))))), by infer_instance, fun ds n Q hl hA => ?_⟩
  obtain ⟨cs, rfl, hS, q⟩ := hA
  obtain ⟨h3, h16, hB, hN, _⟩ := id hS
  refine aFor_ind (fun ds ρ m => m = n ∧ ∃ (ws : List Pt) (j : Nat) (y2 y3 y4 y5 : Option D), ρ = [some (.tup (cs.map pt)), some (.lst (ws.map pt)), y2, y3, y4, y5] ∧ ds = enumD j ((cs.drop j).map pt) ∧ ws = ((prs cs).take j).map wyE ∧ j ≤ cs.length) ?_ ?_ ⟨rfl, [], 0, none, none, none, none, rfl, rfl, rfl, Nat.zero_le _⟩
  · rintro d r _ m ⟨rfl, ws, j, y2, y3, y4, y5, rfl, e, hj, hle⟩ ih
    have hlt : j < cs.length := by
      rcases Nat.lt_or_ge j cs.length with h | h
      · exact h
      · rw [List.drop_of_length_le h] at e
        cases e
    rw [List.drop_eq_getElem_cons hlt, List.map_cons] at e
    obtain ⟨rfl, rfl⟩ := List.cons.inj e
    have hl0 : (0 : Int) < ((cs.map pt).length : Int) := by rw [List.length_map]; omega
    have hat : atI (cs.map pt) (((j : Int) + 1) % ((cs.map pt).length : Int)) = some (pt (cs[(j + 1) % cs.length]'(Nat.mod_lt _ (by omega)))) := by
      have e1 : ((j : Int) + 1) % ((cs.map pt).length : Int) = (((j + 1) % cs.length : Nat) : Int) := by rw [List.length_map]; first | rfl | (push_cast; rfl) | simp
      rw [e1]
      exact atI_nat (by rw [List.getElem?_map, List.getElem?_eq_getElem (Nat.mod_lt _ (by omega))]; rfl)
    refine ⟨hl0, aIx_tup hat ?_⟩
    have hne := next_at hN hlt
    have hpg := prs_get hlt
    have b1 := hB _ (List.getElem_mem hlt)
    have b2 := hB _ (List.getElem_mem (show (j + 1) % cs.length < cs.length from Nat.mod_lt _ (by omega)))
    generalize cs[(j + 1) % cs.length]'(Nat.mod_lt _ (by omega)) = nx at hne b2 hpg
    generalize cs[j] = cr at hne b1 hpg
    unfold PtS at b1 b2
    have hn0 : ¬ (nx.2 - cr.2 = 0 ∧ cr.1 - nx.1 = 0) := fun z => hne (Prod.ext (by omega) (by omega))
    have g0 := gcdI_pos2 hn0
    have gb := gcdI_bd2 (n := 23) (bd_abs (n := 6000000) (by decide) (by omega) (by omega)) (bd_abs (n := 6000000) (by decide) (by omega) (by omega)) hn0
    refine ⟨_, _, rfl, divA gb g0 (by decide), divA gb g0 (by decide), ?_⟩
    have hwl : ws.length ≤ j := by rw [hj, List.length_map, List.length_take]; omega
    refine ⟨by rw [List.length_map]; omega, ih _ _ ⟨rfl, ws ++ [wyE (cr, nx)], j + 1, _, _, _, _, by rw [List.map_append]; rfl, rfl, ?_, by omega⟩⟩
    rw [List.take_add_one, hpg, hj, List.map_append]
    rfl
  · rintro _ m ⟨rfl, ws, j, y2, y3, y4, y5, rfl, e, hj, hle⟩
    have : cs.length ≤ j := by
      rcases Nat.lt_or_ge j cs.length with h | h
      · rw [List.drop_eq_getElem_cons h, List.map_cons] at e
        cases e
      · exact h
    have hj2 : ws = waysOf cs := by
      rw [hj, List.take_of_length_le (by rw [prs_len (fun z => by rw [z] at h3; simp at h3)]; exact this)]
      rfl
    subst hj2
    exact q
theorem ways_len {cs : List Pt} (h : ShOk cs) : (waysOf cs).length = cs.length := by
  unfold waysOf
  rw [List.length_map, prs_len h.ne]
noncomputable def a_l_pair_ways : ASp := fun ds n Q => ∃ b c : Bw, ds = [b.d, c.d] ∧ ShOk b.cs ∧ ShOk c.cs ∧ ∀ ws : List Pt, ws ≠ [] → ws.length ≤ 40 → (∀ w ∈ ws, WyS 23 w) → PwOk (waysOf b.cs) (waysOf c.cs) ws → Q (.lst (ws.map pt)) n
theorem ok_l_pair_ways (T : Tx K mg A) : FnOk P w K mg base CX0 3 A.f_l_pair_ways A.fd_l_pair_ways ["_law_one", "_law_other"] (spOf K 2 a_l_pair_ways) := by
  refine fn_mir [] 7 rfl (by decide) (by decide) T.F_l_pair_ways sc_l_pair_ways fun cdv Ar outer s H E hr => ?_
  refine ⟨_, _, (pss_cons (ps_set (i := 2) sc_l_pair_ways.nd rfl (.inr rfl) (pe_call (ok_l_side_ways (P := P) (K := K) T) (hr.mono (by decide)) (by rfl) T.g_l_side_ways T.F_l_side_ways.kp T.b_l_side_ways .nil pass0 (pa_cons (pe_ix (k_ix (K := K) rfl) (pv 0) pe_int (fun _ _ => rfl)) pa_nil)))
    (pss_cons (ps_setLc (i := 3) (own := [("_law_p", 4), ("_law_q", 5)]) rfl sc_l_pair_ways.nd rfl rfl (sw_true rfl rfl rfl (by decide +kernel)) (k_iter (K := K) rfl (pe_call (ok_l_side_ways (P := P) (K := K) T) (hr.mono (by decide)) (by rfl) T.g_l_side_ways T.F_l_side_ways.kp T.b_l_side_ways .nil pass0 (pa_cons (pe_ix (k_ix (K := K) rfl) (pv 1) pe_int (fun _ _ => rfl)) pa_nil))) (blkOk_by (own := [("_law_p", 4), ("_law_q", 5)]) (N := ["_law_one", "_law_other", "_law_found", "_law_turned_here", "_law_p", "_law_q", "_law_way"]) (sc := defScope s_l_pair_ways) (by decide +kernel)) (fun _ _ _ _ _ => (k_gtup (K := K) (m := 2) rfl rfl (pgs_cons (pg_name (i := 4) sc_l_pair_ways.nd rfl (Or.inl rfl)) (pgs_cons (pg_name (i := 5) sc_l_pair_ways.nd rfl (Or.inl rfl)) pgs_nil)))) (fun _ _ _ _ _ => pts_nil) (fun _ _ _ _ _ => (pe_tup (pa_cons (pe_un un_neg (pv 4)) (pa_cons (pe_un un_neg (pv 5)) pa_nil)))))
    (pss_one (ps_ret (pe_callB (k_sortP (K := K) rfl) (by rfl) T.m_sorted (by decide +kernel) (pa_cons (pe_op (k_add (K := K) rfl) (pv 2) (pe_lc (own := [("_law_way", 6)]) rfl sc_l_pair_ways.nd (k_iter (K := K) rfl (pv 3)) (blkOk_by (own := [("_law_way", 6)]) (N := ["_law_one", "_law_other", "_law_found", "_law_turned_here", "_law_p", "_law_q", "_law_way"]) (sc := defScope s_l_pair_ways) (by decide +kernel)) (fun _ _ _ _ _ => (pg_name (i := 6) sc_l_pair_ways.nd rfl (Or.inl rfl))) (fun _ _ _ _ _ => (pts_one (pt_cmpR (k_notInP (K := K) rfl (room65 hr)) (pv 6) (pv 2) (by rfl)))) (fun _ _ _ _ _ => (pv 6)))) pa_nil)))))), by infer_instance, fun ds n Q hl hA => ?_⟩
  obtain ⟨b, c, rfl, hb, hc, q⟩ := hA
  have h3 := hb.1
  have h16 := hb.2.1
  have h16' := hc.2.1
  have lb := ways_len hb
  have lc := ways_len hc
  refine ⟨b.cs, rfl, hb, ?_⟩
  refine ⟨c.cs, rfl, hc, ?_⟩
  refine ⟨by rw [List.length_map]; omega, ?_⟩
  refine aLc_ind (fun acc ds m => m = n ∧ ∃ us vs : List Pt, waysOf c.cs = us ++ vs ∧ ds = vs.map pt ∧ acc = (us.map ngP).map pt) ?_ ?_ ⟨rfl, [], _, rfl, rfl, rfl⟩
  · rintro acc d r m ⟨rfl, us, vs, e0, e, rfl⟩ ih
    cases vs with
    | nil => cases e
    | cons v vs =>
    obtain ⟨rfl, rfl⟩ := List.cons.inj e
    exact aT (ih _ _ ⟨rfl, us ++ [v], vs, by rw [e0]; simp, rfl, by rw [List.map_append, List.map_append]; rfl⟩)
  · rintro acc m ⟨rfl, us, vs, e0, e, rfl⟩
    cases vs with
    | cons v vs => cases e
    | nil =>
    rw [List.append_nil] at e0
    subst e0
    refine ⟨by rw [List.length_map, List.length_map]; omega, ?_⟩
    refine aLc_ind (fun acc ds j => j = m ∧ ∃ us vs xs : List Pt, (waysOf c.cs).map ngP = us ++ vs ∧ ds = vs.map pt ∧ acc = xs.map pt ∧ (∀ w, w ∈ xs ↔ w ∈ us ∧ w ∉ waysOf b.cs) ∧ xs.Sublist us) ?_ ?_ ⟨rfl, [], _, [], rfl, rfl, rfl, (fun w => by simp), List.Sublist.refl _⟩
    · rintro acc d r j ⟨rfl, us, vs, xs, e0, e, rfl, hxs, hsub⟩ ih
      cases vs with
      | nil => cases e
      | cons v vs =>
      obtain ⟨rfl, rfl⟩ := List.cons.inj e
      refine ⟨v, waysOf b.cs, rfl, rfl, ?_⟩
      refine dIte (fun hn => ih _ _ ⟨rfl, us ++ [v], vs, xs ++ [v], by rw [e0]; simp, rfl, by rw [List.map_append]; rfl, fun w => ?_, hsub.append (List.Sublist.refl _)⟩) fun hn => ih _ _ ⟨rfl, us ++ [v], vs, xs, by rw [e0]; simp, rfl, rfl, fun w => ?_, hsub.trans (List.sublist_append_left _ _)⟩
      · rw [List.mem_append, List.mem_append, hxs, List.mem_singleton]
        constructor
        · rintro (⟨z1, z2⟩ | rfl)
          · exact ⟨.inl z1, z2⟩
          · exact ⟨.inr rfl, hn⟩
        · rintro ⟨z1 | rfl, z2⟩
          · exact .inl ⟨z1, z2⟩
          · exact .inr rfl
      · rw [List.mem_append, hxs, List.mem_singleton]
        constructor
        · rintro ⟨z1, z2⟩
          exact ⟨.inl z1, z2⟩
        · rintro ⟨z1 | rfl, z2⟩
          · exact ⟨z1, z2⟩
          · exact absurd z2 hn
    · rintro acc j ⟨rfl, us, vs, xs, e0, e, rfl, hxs, hsub⟩
      cases vs with
      | cons v vs => cases e
      | nil =>
      rw [List.append_nil] at e0
      subst e0
      have hxl := hsub.length_le
      rw [List.length_map] at hxl
      refine ⟨by rw [List.length_map, List.length_map]; omega, ?_⟩
      refine ⟨waysOf b.cs ++ xs, by rw [List.map_append], fun rs hp ho => ?_⟩
      have ndc : ((waysOf c.cs).map ngP).Nodup := List.pairwise_map.mpr ((ways_nodup hc).imp fun {x y} hne z => hne (by
        have := congrArg ngP z
        rwa [ngP_ngP, ngP_ngP] at this))
      have nd : (waysOf b.cs ++ xs).Nodup := List.nodup_append.mpr ⟨ways_nodup hb, hsub.nodup ndc, fun x hx y hy z => by
        subst z
        exact ((hxs x).mp hy).2 hx⟩
      have mem : ∀ p, p ∈ rs ↔ p ∈ waysOf b.cs ∨ ngP p ∈ waysOf c.cs := fun p => by
        rw [hp.mem_iff, List.mem_append, hxs, List.mem_map]
        constructor
        · rintro (h | ⟨⟨z, h1, rfl⟩, _⟩)
          · exact .inl h
          · right
            rw [ngP_ngP]
            exact h1
        · rintro (h | h)
          · exact .inl h
          · by_cases hin : p ∈ waysOf b.cs
            · exact .inl hin
            · exact .inr ⟨⟨_, h, ngP_ngP p⟩, hin⟩
      have pok : PwOk (waysOf b.cs) (waysOf c.cs) rs := ⟨hp.nodup_iff.mpr nd, mem, ho⟩
      have hrl : rs.length = (waysOf b.cs).length + xs.length := by rw [hp.length_eq, List.length_append]
      exact q rs (fun z => by rw [z] at hrl; simp at hrl; omega) (by omega) (pok.wys hb hc) pok
/-! gaps as the law reckons them -/
noncomputable def a_l_far : ASp := fun ds n Q => ∃ (cs : List Pt) (w : Pt), ds = [.tup (cs.map pt), pt w] ∧ ShOk cs ∧ WyS 8000 w ∧ Q (.int (mx w cs)) n
theorem ok_l_far (T : Tx K mg A) : FnOk P w K mg base CX0 1 A.f_l_far A.fd_l_far ["_law_shape", "_law_way"] (spOf K 2 a_l_far) := by
  refine fn_mir [] 3 rfl (by decide) (by decide) T.F_l_far sc_l_far fun cdv Ar outer s H E hr => ?_
  refine ⟨_, _, (pss_one (ps_ret (pe_callB (k_max1 (K := K) rfl rfl) (by rfl) T.m_max (by decide +kernel) (pa_cons (pe_lc (own := [("_law_corner", 2)]) rfl sc_l_far.nd (k_iter (K := K) rfl (pv 0)) (blkOk_by (own := [("_law_corner", 2)]) (N := ["_law_shape", "_law_way", "_law_corner"]) (sc := defScope s_l_far) (by decide +kernel)) (fun _ _ _ _ _ => (pg_name (i := 2) sc_l_far.nd rfl (Or.inl rfl))) (fun _ _ _ _ _ => pts_nil) (fun _ _ _ _ _ => (pe_op (k_add (K := K) rfl) (pe_op k_mul (pe_ix (k_ix (K := K) rfl) (pv 1) pe_int (fun _ _ => rfl)) (pe_ix (k_ix (K := K) rfl) (pv 2) pe_int (fun _ _ => rfl))) (pe_op k_mul (pe_ix (k_ix (K := K) rfl) (pv 1) pe_int (fun _ _ => rfl)) (pe_ix (k_ix (K := K) rfl) (pv 2) pe_int (fun _ _ => rfl)))))) pa_nil)))), by infer_instance, fun ds n Q hl hA => ?_⟩
  obtain ⟨cs, w, rfl, hc, hw, q⟩ := hA
  have h16 := hc.2.1
  refine ⟨by rw [List.length_map]; omega, ?_⟩
  refine aLc_ind (fun acc ds m => m = n ∧ ∃ us vs : List Pt, cs = us ++ vs ∧ ds = vs.map pt ∧ acc = us.map fun c => D.int (dot w c)) ?_ ?_ ⟨rfl, [], cs, rfl, rfl, rfl⟩
  · rintro acc d r m ⟨rfl, us, vs, rfl, e, rfl⟩ ih
    cases vs with
    | nil => cases e
    | cons v vs =>
    obtain ⟨rfl, rfl⟩ := List.cons.inj e
    have hp := hc.2.2.1 v (List.mem_append_right _ List.mem_cons_self)
    unfold PtS at hp
    refine aT ⟨mulA hw.1 (bd_pt hp.1 hp.2.1) (by decide) (by decide), mulA hw.2 (bd_pt hp.2.2.1 hp.2.2.2) (by decide) (by decide), ih _ _ ⟨rfl, us ++ [v], vs, by simp, rfl, by rw [List.map_append]; rfl⟩⟩
  · rintro acc m ⟨rfl, us, vs, rfl, e, rfl⟩
    cases vs with
    | cons v vs => cases e
    | nil =>
    rw [List.append_nil] at hc q
    refine ⟨us.map (dot w), by rw [List.map_map]; rfl, by rw [List.length_map]; have := hc.1; omega, fun m h1 h2 => ?_⟩
    have : IsMax w us m := by
      obtain ⟨c, h3, h4⟩ := List.mem_map.mp h1
      exact ⟨⟨c, h3, h4.symm⟩, fun x hx => h2 _ (List.mem_map.mpr ⟨x, hx, rfl⟩)⟩
    rw [this.uniq (mx_is hc.ne)]
    exact q
noncomputable def a_l_speed : ASp := fun ds n Q => ∃ (b c : Bw) (w : Pt) (kb mb kc mc kw : Nat), ds = [b.d, c.d, pt w] ∧ b.ok kb mb ∧ c.ok kc mc ∧ WyS kw w ∧ 0 < kw ∧ 2 * (mb + mc + 1 + kw) < 8900 ∧ Q (sh (rtQ b c w)) n
theorem ok_l_speed (T : Tx K mg A) : FnOk P w K mg base CX0 6 A.f_l_speed A.fd_l_speed ["_law_one", "_law_other", "_law_way"] (spOf K 3 a_l_speed) := by
  refine fn_mir [] 3 rfl (by decide) (by decide) T.F_l_speed sc_l_speed fun cdv Ar outer s H E hr => ?_
  refine ⟨_, _, (pss_one (ps_ret (pe_call (ok_l_dot (P := P) (K := K) T) (hr.mono (by decide)) (by rfl) T.g_l_dot T.F_l_dot.kp T.b_l_dot .nil pass0 (pa_cons (pv 2) (pa_cons (pe_call (ok_l_spot_less (P := P) (K := K) T) (hr.mono (by decide)) (by rfl) T.g_l_spot_less T.F_l_spot_less.kp T.b_l_spot_less .nil pass0 (pa_cons (pe_ix (k_ix (K := K) rfl) (pv 1) pe_int (fun _ _ => rfl)) (pa_cons (pe_ix (k_ix (K := K) rfl) (pv 0) pe_int (fun _ _ => rfl)) pa_nil))) pa_nil))))), by infer_instance, fun ds n Q hl hA => ?_⟩
  obtain ⟨b, c, w, kb, mb, kc, mc, kw, rfl, hb, hc, hw, h0, hk, q⟩ := hA
  refine ⟨_, _, _, _, mc, mb, rfl, hc.2.2.2.1, hc.2.2.2.2, hb.2.2.2.1, hb.2.2.2.2, by omega, ?_⟩
  exact ⟨w, _, _, mc + mb + 1, kw, rfl, hw, h0, hc.2.2.2.1.sub hb.2.2.2.1, hc.2.2.2.2.sub hb.2.2.2.2, by omega, q⟩
theorem sh_top (x : Rat) : ((x.num : Int) : Rat) = ((x.den : Int) : Rat) * x := by
  have e : x = (x.num : Rat) / ((x.den : Int) : Rat) := by
    rw [← Rat.divInt_eq_div]
    exact (Rat.num_divInt_den x).symm
  have h0 : ((x.den : Int) : Rat) ≠ 0 := fun z => by
    have := Rat.intCast_inj.mp (show ((x.den : Int) : Rat) = ((0 : Int) : Rat) from z)
    have := den_pos x
    omega
  generalize ((x.den : Int) : Rat) = D at *
  generalize (x.num : Rat) = N at *
  rw [e]
  grind
noncomputable def a_l_between : ASp := fun ds n Q => ∃ (b c : Bw) (t : Rat) (kb mb kc mc kt : Nat), ds = [b.d, c.d, sh t] ∧ b.ok kb mb ∧ c.ok kc mc ∧ BdQ kt t ∧ kb + mb + kc + mc + kt ≤ 4000 ∧ ∀ X Y Z : Int, 0 < Z → (X : Rat) = (Z : Rat) * ofx b c t → (Y : Rat) = (Z : Rat) * ofy b c t → Bd (2 * (kb + mb + kc + mc + kt) + 12) X → Bd (2 * (kb + mb + kc + mc + kt) + 12) Y → Bd (2 * (kb + mb + kc + mc + kt) + 12) Z → Q (.tup [.int X, .int Y, .int Z]) n
theorem ok_l_between (T : Tx K mg A) : FnOk P w K mg base CX0 6 A.f_l_between A.fd_l_between ["_law_one", "_law_other", "_law_after"] (spOf K 3 a_l_between) := by
  refine fn_mir [] 4 rfl (by decide) (by decide) T.F_l_between sc_l_between fun cdv Ar outer s H E hr => ?_
  refine ⟨_, _, (pss_cons (ps_set (i := 3) sc_l_between.nd rfl (.inl rfl) (pe_call (ok_l_spot_less (P := P) (K := K) T) (hr.mono (by decide)) (by rfl) T.g_l_spot_less T.F_l_spot_less.kp T.b_l_spot_less .nil pass0 (pa_cons (pe_ix (k_ix (K := K) rfl) (pv 1) pe_int (fun _ _ => rfl)) (pa_cons (pe_ix (k_ix (K := K) rfl) (pv 0) pe_int (fun _ _ => rfl)) pa_nil))))
    (pss_cons (ps_set (i := 3) sc_l_between.nd rfl (.inl rfl) (pe_call (ok_l_spot_plus (P := P) (K := K) T) (hr.mono (by decide)) (by rfl) T.g_l_spot_plus T.F_l_spot_plus.kp T.b_l_spot_plus .nil pass0 (pa_cons (pv 3) (pa_cons (pe_call (ok_l_spot_times (P := P) (K := K) T) (hr.mono (by decide)) (by rfl) T.g_l_spot_times T.F_l_spot_times.kp T.b_l_spot_times .nil pass0 (pa_cons (pe_call (ok_l_spot_less (P := P) (K := K) T) (hr.mono (by decide)) (by rfl) T.g_l_spot_less T.F_l_spot_less.kp T.b_l_spot_less .nil pass0 (pa_cons (pe_ix (k_ix (K := K) rfl) (pv 1) pe_int (fun _ _ => rfl)) (pa_cons (pe_ix (k_ix (K := K) rfl) (pv 0) pe_int (fun _ _ => rfl)) pa_nil))) (pa_cons (pv 2) pa_nil))) pa_nil))))
    (pss_one (ps_ret (pe_tup (pa_cons (pe_op k_mul (pe_ix (k_ix (K := K) rfl) (pe_ix (k_ix (K := K) rfl) (pv 3) pe_int (fun _ _ => rfl)) pe_int (fun _ _ => rfl)) (pe_ix (k_ix (K := K) rfl) (pe_ix (k_ix (K := K) rfl) (pv 3) pe_int (fun _ _ => rfl)) pe_int (fun _ _ => rfl))) (pa_cons (pe_op k_mul (pe_ix (k_ix (K := K) rfl) (pe_ix (k_ix (K := K) rfl) (pv 3) pe_int (fun _ _ => rfl)) pe_int (fun _ _ => rfl)) (pe_ix (k_ix (K := K) rfl) (pe_ix (k_ix (K := K) rfl) (pv 3) pe_int (fun _ _ => rfl)) pe_int (fun _ _ => rfl))) (pa_cons (pe_op k_mul (pe_ix (k_ix (K := K) rfl) (pe_ix (k_ix (K := K) rfl) (pv 3) pe_int (fun _ _ => rfl)) pe_int (fun _ _ => rfl)) (pe_ix (k_ix (K := K) rfl) (pe_ix (k_ix (K := K) rfl) (pv 3) pe_int (fun _ _ => rfl)) pe_int (fun _ _ => rfl))) pa_nil)))))))), by infer_instance, fun ds n Q hl hA => ?_⟩
  obtain ⟨b, c, t, kb, mb, kc, mc, kt, rfl, hb, hc, ht, hl9, q⟩ := hA
  refine ⟨_, _, _, _, kc, kb, rfl, hc.2.1, hc.2.2.1, hb.2.1, hb.2.2.1, by omega, ?_⟩
  refine ⟨_, _, _, _, mc, mb, rfl, hc.2.2.2.1, hc.2.2.2.2, hb.2.2.2.1, hb.2.2.2.2, by omega, ?_⟩
  have v1 := hc.2.2.2.1.sub hb.2.2.2.1
  have v2 := hc.2.2.2.2.sub hb.2.2.2.2
  have p1 := hc.2.1.sub hb.2.1
  have p2 := hc.2.2.1.sub hb.2.2.1
  refine ⟨_, _, t, mc + mb + 1, kt, rfl, v1, v2, ht, by omega, ?_⟩
  refine ⟨_, _, _, _, kc + kb + 1, mc + mb + 1 + kt, rfl, p1, p2, v1.mul ht, v2.mul ht, by omega, ?_⟩
  have o1 : BdQ (kb + mb + kc + mc + kt + 3) (ofx b c t) := (p1.add (v1.mul ht)).le (by omega)
  have o2 : BdQ (kb + mb + kc + mc + kt + 3) (ofy b c t) := (p2.add (v2.mul ht)).le (by omega)
  refine ⟨mulA o1.1 o2.2 (by omega) (by omega), mulA o2.1 o1.2 (by omega) (by omega), mulA o1.2 o2.2 (by omega) (by omega), ?_⟩
  have t1 := sh_top (ofx b c t)
  have t2 := sh_top (ofy b c t)
  refine q _ _ _ (Int.mul_pos (den_pos _) (den_pos _)) ?_ ?_ ((o1.1.mul o2.2).le (by omega)) ((o2.1.mul o1.2).le (by omega)) ((o1.2.mul o2.2).le (by omega))
  · show (((ofx b c t).num * ((ofy b c t).den : Int) : Int) : Rat) = ((((ofx b c t).den : Int) * ((ofy b c t).den : Int) : Int) : Rat) * ofx b c t
    rw [Rat.intCast_mul, Rat.intCast_mul, t1]
    grind
  · show (((ofy b c t).num * ((ofx b c t).den : Int) : Int) : Rat) = ((((ofx b c t).den : Int) * ((ofy b c t).den : Int) : Int) : Rat) * ofy b c t
    rw [Rat.intCast_mul, Rat.intCast_mul, t2]
    grind
noncomputable def a_l_room_by : ASp := fun ds n Q => ∃ (b c : Bw) (w : Pt) (X Y Z : Int) (t : Rat) (k : Nat), ds = [b.d, c.d, pt w, .tup [.int X, .int Y, .int Z]] ∧ ShOk b.cs ∧ ShOk c.cs ∧ WyS 8000 w ∧ (X : Rat) = (Z : Rat) * ofx b c t ∧ (Y : Rat) = (Z : Rat) * ofy b c t ∧ Bd k X ∧ Bd k Y ∧ Bd k Z ∧ k ≤ 200000 ∧ ∀ r : Int, (r : Rat) = (Z : Rat) * gapQ b c w t → (∀ j, WyS j w → j ≤ 8000 → Bd (k + j + 26) r) → Q (.int r) n
theorem ok_l_room_by (T : Tx K mg A) : FnOk P w K mg base CX0 2 A.f_l_room_by A.fd_l_room_by ["_law_one", "_law_other", "_law_way", "_law_gone"] (spOf K 4 a_l_room_by) := by
  refine fn_mir [] 5 rfl (by decide) (by decide) T.F_l_room_by sc_l_room_by fun cdv Ar outer s H E hr => ?_
  refine ⟨_, _, (pss_cons (ps_set (i := 4) sc_l_room_by.nd rfl (.inl rfl) (pe_op (k_add (K := K) rfl) (pe_call (ok_l_far (P := P) (K := K) T) (hr.mono (by decide)) (by rfl) T.g_l_far T.F_l_far.kp T.b_l_far .nil pass0 (pa_cons (pe_ix (k_ix (K := K) rfl) (pv 0) pe_int (fun _ _ => rfl)) (pa_cons (pv 2) pa_nil))) (pe_call (ok_l_far (P := P) (K := K) T) (hr.mono (by decide)) (by rfl) T.g_l_far T.F_l_far.kp T.b_l_far .nil pass0 (pa_cons (pe_ix (k_ix (K := K) rfl) (pv 1) pe_int (fun _ _ => rfl)) (pa_cons (pe_tup (pa_cons (pe_un un_neg (pe_ix (k_ix (K := K) rfl) (pv 2) pe_int (fun _ _ => rfl))) (pa_cons (pe_un un_neg (pe_ix (k_ix (K := K) rfl) (pv 2) pe_int (fun _ _ => rfl))) pa_nil))) pa_nil)))))
    (pss_one (ps_ret (pe_op op_sub (pe_op (k_add (K := K) rfl) (pe_op k_mul (pe_ix (k_ix (K := K) rfl) (pv 2) pe_int (fun _ _ => rfl)) (pe_ix (k_ix (K := K) rfl) (pv 3) pe_int (fun _ _ => rfl))) (pe_op k_mul (pe_ix (k_ix (K := K) rfl) (pv 2) pe_int (fun _ _ => rfl)) (pe_ix (k_ix (K := K) rfl) (pv 3) pe_int (fun _ _ => rfl)))) (pe_op k_mul (pv 4) (pe_ix (k_ix (K := K) rfl) (pv 3) pe_int (fun _ _ => rfl))))))), by infer_instance, fun ds n Q hl hA => ?_⟩
  obtain ⟨b, c, w, X, Y, Z, t, k, rfl, hb, hc, hw, eX, eY, bX, bY, bZ, hk, q⟩ := hA
  refine ⟨b.cs, w, rfl, hb, hw, ?_⟩
  refine ⟨c.cs, ngP w, rfl, hc, ng_wys hw, ?_⟩
  have bw := wid_bd hb hc hw
  refine ⟨mulA hw.1 bX (by decide) (by omega), mulA hw.2 bY (by decide) (by omega), mulA (show Bd (8000 + 24) (mx w b.cs + mx (ngP w) c.cs) from bw) bZ (by decide) (by omega), ?_⟩
  refine q _ ?_ fun j hj hj8 => ?_
  · show ((w.1 * X + w.2 * Y - wid b c w * Z : Int) : Rat) = _
    rw [Rat.intCast_sub, Rat.intCast_add, Rat.intCast_mul, Rat.intCast_mul, Rat.intCast_mul, eX, eY]
    unfold gapQ
    grind
  · have e1 : Bd (k + j + 1) (w.1 * X + w.2 * Y) := ((hj.1.mul bX).le (show _ ≤ k + j by omega)).add ((hj.2.mul bY).le (by omega))
    have e2 : Bd (k + j + 25) (-(wid b c w * Z)) := ((wid_bd hb hc hj).mul bZ).neg.le (by omega)
    have := (e1.le (show _ ≤ k + j + 25 by omega)).add e2
    exact this
noncomputable def rmD (f : Pt → Int) (w : Pt) : D := .tup [.int (f w), pt w]
noncomputable def a_l_rooms : ASp := fun ds n Q => ∃ (b c : Bw) (t : Rat) (kb mb kc mc kt : Nat), ds = [b.d, c.d, sh t] ∧ b.ok kb mb ∧ c.ok kc mc ∧ BdQ kt t ∧ kb + mb + kc + mc + kt ≤ 4000 ∧ ∀ (rs : List Pt) (Z : Int) (f : Pt → Int), 0 < Z → rs ≠ [] → rs.length ≤ 40 → PwOk (waysOf b.cs) (waysOf c.cs) rs → (∀ w ∈ rs, (f w : Rat) = (Z : Rat) * gapQ b c w t) → Q (.lst (rs.map (rmD f))) n
theorem ok_l_rooms (T : Tx K mg A) : FnOk P w K mg base CX0 7 A.f_l_rooms A.fd_l_rooms ["_law_a", "_law_b", "_law_after"] (spOf K 3 a_l_rooms) := by
  refine fn_mir [] 5 rfl (by decide) (by decide) T.F_l_rooms sc_l_rooms fun cdv Ar outer s H E hr => ?_
  refine ⟨_, _, (pss_cons (ps_set (i := 3) sc_l_rooms.nd rfl (.inr rfl) (pe_call (ok_l_between (P := P) (K := K) T) (hr.mono (by decide)) (by rfl) T.g_l_between T.F_l_between.kp T.b_l_between .nil pass0 (pa_cons (pv 0) (pa_cons (pv 1) (pa_cons (pv 2) pa_nil)))))
    (pss_one (ps_ret (pe_lc (own := [("_law_way", 4)]) rfl sc_l_rooms.nd (k_iter (K := K) rfl (pe_call (ok_l_pair_ways (P := P) (K := K) T) (hr.mono (by decide)) (by rfl) T.g_l_pair_ways T.F_l_pair_ways.kp T.b_l_pair_ways .nil pass0 (pa_cons (pv 0) (pa_cons (pv 1) pa_nil)))) (blkOk_by (own := [("_law_way", 4)]) (N := ["_law_a", "_law_b", "_law_after", "_law_gone", "_law_way"]) (sc := defScope s_l_rooms) (by decide +kernel)) (fun _ _ _ _ _ => (pg_name (i := 4) sc_l_rooms.nd rfl (Or.inl rfl))) (fun _ _ _ _ _ => pts_nil) (fun _ _ _ _ _ => (pe_tup (pa_cons (pe_call (ok_l_room_by (P := P) (K := K) T) (hr.mono (by decide)) (by rfl) T.g_l_room_by T.F_l_room_by.kp T.b_l_room_by .nil pass0 (pa_cons (pv 0) (pa_cons (pv 1) (pa_cons (pv 4) (pa_cons (pv 3) pa_nil))))) (pa_cons (pv 4) pa_nil)))))))), by infer_instance, fun ds n Q hl hA => ?_⟩
  obtain ⟨b, c, t, kb, mb, kc, mc, kt, rfl, hb, hc, ht, hl9, q⟩ := hA
  refine ⟨b, c, t, kb, mb, kc, mc, kt, rfl, hb, hc, ht, hl9, fun X Y Z hZ eX eY bX bY bZ => ?_⟩
  refine ⟨b, c, rfl, hb.1, hc.1, fun rs h0 h40 hw hpw => ?_⟩
  refine ⟨by rw [List.length_map]; omega, ?_⟩
  refine aLc_ind (fun acc ds m => m = n ∧ ∃ (us vs : List Pt) (f : Pt → Int), rs = us ++ vs ∧ ds = vs.map pt ∧ acc = us.map (rmD f) ∧ ∀ w ∈ us, (f w : Rat) = (Z : Rat) * gapQ b c w t) ?_ ?_ ⟨rfl, [], rs, fun _ => 0, rfl, rfl, rfl, fun w hw => by cases hw⟩
  · rintro acc d' r m ⟨rfl, us, vs, f, e0, e, rfl, hf⟩ ih
    cases vs with
    | nil => cases e
    | cons v vs =>
    obtain ⟨rfl, rfl⟩ := List.cons.inj e
    have hv : v ∈ rs := by rw [e0]; exact List.mem_append_right _ List.mem_cons_self
    have hw8 : WyS 8000 v := ⟨(hw v hv).1.le (by decide), (hw v hv).2.le (by decide)⟩
    have hnv : v ∉ us := fun z => by
      have := hpw.nd
      rw [e0] at this
      exact (List.nodup_append.mp this).2.2 v z v List.mem_cons_self rfl
    refine aT ⟨b, c, v, X, Y, Z, t, _, rfl, hb.1, hc.1, hw8, eX, eY, bX, bY, bZ, by omega, fun r hr _ => ?_⟩
    refine ih _ _ ⟨rfl, us ++ [v], vs, fun w => if w = v then r else f w, by rw [e0]; simp, rfl, ?_, fun w hw' => ?_⟩
    · rw [List.map_append]
      have : us.map (rmD f) = us.map (rmD fun w => if w = v then r else f w) := List.map_congr_left fun w hw' => by
        show D.tup [.int (f w), pt w] = D.tup [.int (if w = v then r else f w), pt w]
        rw [if_neg fun z => hnv (by rw [← z]; exact hw')]
      rw [this, List.map_cons, List.map_nil]
      show _ ++ [D.tup [.int r, pt v]] = _ ++ [D.tup [.int (if v = v then r else f v), pt v]]
      rw [if_pos rfl]
    · simp only
      rcases List.mem_append.mp hw' with z | z
      · rw [if_neg fun z2 => hnv (by rw [← z2]; exact z)]
        exact hf w z
      · rw [List.mem_singleton.mp z, if_pos rfl]
        exact hr
  · rintro acc m ⟨rfl, us, vs, f, e0, e, rfl, hf⟩
    cases vs with
    | cons v vs => cases e
    | nil =>
    rw [List.append_nil] at e0
    subst e0
    exact q rs Z f hZ h0 h40 hpw hf
theorem rm_kd (f : Pt → Int) (w : Pt) : (rmD f w).kd 2 := fun x hx => by
  have : x = .int (f w) ∨ x = pt w := by simpa using hx
  rcases this with rfl | rfl
  · trivial
  · intro y hy
    have : y = .int w.1 ∨ y = .int w.2 := by simpa using hy
    rcases this with rfl | rfl <;> trivial
theorem shp_n (d : Nat) (i j : Int) : MM.shp d (.n i) (.n j) := by cases d <;> trivial
theorem shp2 {d : Nat} {x y x' y' : MM.KT} (h1 : MM.shp d x x') (h2 : MM.shp d y y') : MM.shp (d + 1) (.t [x, y]) (.t [x', y']) := by
  refine ⟨rfl, fun j u v hu hv => ?_⟩
  match j, hu, hv with
  | 0, hu, hv => cases hu; cases hv; exact h1
  | 1, hu, hv => cases hu; cases hv; exact h2
theorem rm_shp (f : Pt → Int) (w v : Pt) : MM.shp 2 (rmD f w).kt (rmD f v).kt := shp2 (shp_n _ _ _) (shp2 (shp_n _ _ _) (shp_n _ _ _))
theorem rm_lt {f : Pt → Int} {w v : Pt} (h : MM.ltK 2 (rmD f w).kt (rmD f v).kt = false) : f v ≤ f w := by
  have e : MM.ltK 2 (rmD f w).kt (rmD f v).kt = (if MM.eqK 1 (.n (f w)) (.n (f v)) = true then MM.ltL (MM.eqK 1) (MM.ltK 1) [(pt w).kt] [(pt v).kt] else MM.ltK 1 (.n (f w)) (.n (f v))) := rfl
  rw [e, MM.eqK_n, MM.ltK_n] at h
  by_cases z : f w = f v
  · omega
  · rw [if_neg (by simpa using z)] at h
    have := of_decide_eq_false h
    omega
noncomputable def a_l_over : ASp := fun ds n Q => ∃ (b c : Bw) (t : Rat) (kb mb kc mc kt : Nat) (rs : List Pt), ds = [b.d, c.d, sh t] ∧ b.ok kb mb ∧ c.ok kc mc ∧ BdQ kt t ∧ kb + mb + kc + mc + kt ≤ 4000 ∧ PwOk (waysOf b.cs) (waysOf c.cs) rs ∧ (OverQ b c rs t → Q (.bl true) n) ∧ (¬ OverQ b c rs t → Q (.bl false) n)
theorem ok_l_over (T : Tx K mg A) : FnOk P w K mg base CX0 8 A.f_l_over A.fd_l_over ["_law_one", "_law_other", "_law_after"] (spOf K 3 a_l_over) := by
  refine fn_mir [] 3 rfl (by decide) (by decide) T.F_l_over sc_l_over fun cdv Ar outer s H E hr => ?_
  refine ⟨_, _, (pss_one (ps_ret (pe_cmpR op_lt (pe_ix (k_ix (K := K) rfl) (pe_callB (k_maxT (K := K) rfl rfl hr.units) (by rfl) T.m_max (by decide +kernel) (pa_cons (pe_call (ok_l_rooms (P := P) (K := K) T) (hr.mono (by decide)) (by rfl) T.g_l_rooms T.F_l_rooms.kp T.b_l_rooms .nil pass0 (pa_cons (pv 0) (pa_cons (pv 1) (pa_cons (pv 2) pa_nil)))) pa_nil)) pe_int (fun _ _ => rfl)) pe_int (nomark _)))), by infer_instance, fun ds n Q hl hA => ?_⟩
  obtain ⟨b, c, t, kb, mb, kc, mc, kt, rs', rfl, hb, hc, ht, hl9, hpw', q1, q2⟩ := hA
  refine ⟨b, c, t, kb, mb, kc, mc, kt, rfl, hb, hc, ht, hl9, fun rs Z f hZ h0 h40 hpw hf => ?_⟩
  obtain rfl := hpw'.uniq hpw
  have hZ' : (0 : Rat) < (Z : Rat) := (Rat.intCast_lt_intCast (a := 0)).mpr hZ
  refine ⟨rs'.map (rmD f), 2, rfl, fun z => h0 (List.map_eq_nil_iff.mp z), by decide, fun e he => ?_, fun e he e' he' => ?_, fun e he hmax => ?_⟩
  · obtain ⟨w, _, rfl⟩ := List.mem_map.mp he
    exact rm_kd f w
  · obtain ⟨w, _, rfl⟩ := List.mem_map.mp he
    obtain ⟨v, _, rfl⟩ := List.mem_map.mp he'
    exact rm_shp f w v
  · obtain ⟨w, hw, rfl⟩ := List.mem_map.mp he
    have hm : ∀ v ∈ rs', f v ≤ f w := fun v hv => rm_lt (by
      have := hmax (rmD f v) (List.mem_map.mpr ⟨v, hv, rfl⟩)
      rw [if_pos rfl] at this
      exact this)
    have key : f w < 0 ↔ OverQ b c rs' t := by
      constructor
      · intro h v hv
        have h1 := hm v hv
        have h2 : ((f v : Int) : Rat) < 0 := cast_lt0.mpr (by omega)
        rw [hf v hv, rat_neg_iff hZ'] at h2
        exact h2
      · intro h
        rw [← cast_lt0, hf w hw, rat_neg_iff hZ']
        exact h w hw
    show Q (.bl (decide (f w < 0))) n
    by_cases h : f w < 0
    · rw [decide_eq_true h]
      exact q1 (key.mp h)
    · rw [decide_eq_false h]
      exact q2 fun z => h (key.mpr z)
/-! ### names -/
theorem joinL_len : ∀ ps : List (List Nat), (TL.joinL [] ps).length = (ps.map (·.length)).sum
  | [] => rfl
  | [p] => by simp [TL.joinL]
  | p :: q :: r => by
    have := joinL_len (q :: r)
    show (p ++ ([] ++ TL.joinL [] (q :: r))).length = _
    rw [List.nil_append, List.length_append, this]
    simp
theorem join_len (ys : List Str) : (Txt.join (Str.ofString "") ys).length = (ys.map (·.length)).sum := by
  have e0 : TL.tl (Str.ofString "") = [] := by decide +kernel
  have h : (TL.tl (Txt.join (Str.ofString "") ys)).length = (ys.map (·.length)).sum := by
    rw [TL.join_eq, TL.tl_join, e0, joinL_len, List.map_map]
    congr 1
  rw [← h]
  show (Txt.join (Str.ofString "") ys).cps.size = (Txt.join (Str.ofString "") ys).cps.toList.length
  simp
theorem strOk_tl {z : Str} (h : ∀ c ∈ z.cps.toList, c < 0x110000) : PyData.canLay0 (.str z) = true := by
  unfold PyData.canLay0
  show (z.cps.all _) = true
  rw [Array.all_eq_true']
  intro c hc
  exact decide_eq_true (h c (Array.mem_toList_iff.mpr hc))
theorem joinL_mem (S : List Nat) : ∀ (ps : List (List Nat)) (c : Nat), c ∈ TL.joinL S ps → c ∈ S ∨ ∃ p ∈ ps, c ∈ p
  | [], c, h => by cases h
  | [p], c, h => .inr ⟨p, List.mem_cons_self, h⟩
  | p :: q :: r, c, h => by
    rcases List.mem_append.mp h with h | h
    · exact .inr ⟨p, List.mem_cons_self, h⟩
    · rcases List.mem_append.mp h with h | h
      · exact .inl h
      · rcases joinL_mem S (q :: r) c h with h | ⟨p', h1, h2⟩
        · exact .inl h
        · exact .inr ⟨p', List.mem_cons_of_mem _ h1, h2⟩
theorem letters_lt {i : Int} (h0 : 0 ≤ i) (h1 : i < 26) : ∃ c, atI (Str.ofString "abcdefghijklmnopqrstuvwxyz").cps.toList i = some c ∧ c < 0x110000 := by
  obtain ⟨k, rfl⟩ := Int.eq_ofNat_of_zero_le h0
  have hk : k < 26 := by omega
  have : ∀ k < 26, ∃ c, atI (Str.ofString "abcdefghijklmnopqrstuvwxyz").cps.toList ((k : Nat) : Int) = some c ∧ c < 0x110000 := fun k hk => ⟨97 + k, by
    revert k
    decide +kernel, by omega⟩
  exact this k hk
theorem signs_ok {ys : List Str} (h : ∀ y ∈ ys, ∃ c : Nat, y = ⟨#[c]⟩ ∧ c < 0x110000) : (ys.map (·.length)).sum = ys.length ∧ PyData.canLay0 (.str (Txt.join (Str.ofString "") ys)) = true := by
  constructor
  · induction ys with
    | nil => rfl
    | cons y r ih =>
      obtain ⟨c, rfl, _⟩ := h y List.mem_cons_self
      rw [List.map_cons, List.sum_cons, ih fun z hz => h z (List.mem_cons_of_mem _ hz), List.length_cons]
      show 1 + r.length = _
      omega
  · refine strOk_tl fun c hc => ?_
    rw [TL.join_eq] at hc
    have hc2 : c ∈ TL.tl (Str.join (Str.ofString "") ys) := hc
    rw [TL.tl_join] at hc2
    rcases joinL_mem _ _ _ hc2 with h' | ⟨p, h1, h2⟩
    · have e0 : TL.tl (Str.ofString "") = [] := by decide +kernel
      rw [e0] at h'
      cases h'
    · obtain ⟨y, hy, rfl⟩ := List.mem_map.mp h1
      obtain ⟨c', rfl, hc'⟩ := h y hy
      have : c = c' := List.mem_singleton.mp h2
      omega
noncomputable def a_l_drawn_name : ASp := fun ds n Q => ds = [.deck] ∧ 20 ≤ n ∧ ∀ (z : Str) (n' : Nat), z.length ≤ 12 → z ≠ Str.ofString "again" → PyData.canLay0 (.str z) = true → n ≤ n' + 14 → Q (.str z) n'
theorem ok_l_drawn_name (T : Tx K mg A) : FnOk P w K mg base CX0 4 A.f_l_drawn_name A.fd_l_drawn_name ["_law_deck"] (spOf K 1 a_l_drawn_name) := by
  refine fn_mir [] 3 rfl (by decide) (by decide) T.F_l_drawn_name sc_l_drawn_name fun cdv Ar outer s H E hr => ?_
  refine ⟨_, _, (pss_cons (ps_set (i := 1) sc_l_drawn_name.nd rfl (.inl rfl) (pe_op (k_add (K := K) rfl) (pe_op (k_add (K := K) rfl) pe_int (pe_call (ok_l_take (P := P) (K := K) T) (hr.mono (by decide)) (by rfl) T.g_l_take T.F_l_take.kp T.b_l_take .nil pass0 (pa_cons (pv 0) (pa_cons pe_int pa_nil)))) (pe_op k_mul pe_int (pe_callTy k_int (by rfl) T.m_int (by decide +kernel) (pa_cons (pe_cmpR (k_eq (K := K) rfl hr.units) (pe_call (ok_l_take (P := P) (K := K) T) (hr.mono (by decide)) (by rfl) T.g_l_take T.F_l_take.kp T.b_l_take .nil pass0 (pa_cons (pv 0) (pa_cons pe_int pa_nil))) pe_int (nomark _)) pa_nil)))))
    (pss_one (ps_ret (k_join (K := K) rfl pe_str (pe_lc (own := [("_law_k", 2)]) rfl sc_l_drawn_name.nd (pi_range1 (by rfl) T.m_range (pa_cons (pv 1) pa_nil)) (blkOk_by (own := [("_law_k", 2)]) (N := ["_law_deck", "_law_size", "_law_k"]) (sc := defScope s_l_drawn_name) (by decide +kernel)) (fun _ _ _ _ _ => (pg_name (i := 2) sc_l_drawn_name.nd rfl (Or.inl rfl))) (fun _ _ _ _ _ => pts_nil) (fun _ _ _ _ _ => (pe_ix (k_ixS (K := K) rfl) pe_str (pe_call (ok_l_take (P := P) (K := K) T) (hr.mono (by decide)) (by rfl) T.g_l_take T.F_l_take.kp T.b_l_take .nil pass0 (pa_cons (pv 0) (pa_cons pe_int pa_nil))) (fun _ _ => rfl)))))))), by infer_instance, fun ds n Q hl hA => ?_⟩
  obtain ⟨rfl, hn, q⟩ := hA
  refine ⟨3, rfl, by decide, by decide, by omega, fun a la ua => ⟨9, rfl, by decide, by decide, by omega, fun b lb ub => ?_⟩⟩
  have hg : (if id (decide (b = 0)) = true then (1 : Int) else 0) = 0 ∨ (if id (decide (b = 0)) = true then (1 : Int) else 0) = 1 := by
    by_cases h : b = 0
    · right; rw [decide_eq_true h]; rfl
    · left; rw [decide_eq_false h]; rfl
  refine ⟨?_, ?_, ?_⟩
  · show CMulA 9 (if id (decide (b = 0)) = true then (1 : Int) else 0)
    generalize (if id (decide (b = 0)) = true then (1 : Int) else 0) = g at hg
    rcases hg with rfl | rfl <;> exact .inl (.inl (by decide))
  · generalize (if id (decide (b = 0)) = true then (1 : Int) else 0) = g at hg
    rcases hg with rfl | rfl <;> exact ⟨by omega, by omega⟩
  · generalize (if id (decide (b = 0)) = true then (1 : Int) else 0) = g at hg
    obtain ⟨k, hk⟩ := Int.eq_ofNat_of_zero_le (show 0 ≤ 1 + a + 9 * g by omega)
    rw [hk]
    have hk12 : k ≤ 12 := by omega
    have hk5 : k ≠ 5 := by omega
    clear hk hg
    refine ⟨by rw [rangeD_length]; omega, ?_⟩
    refine aLc_ind (fun acc ds m => ∃ ys : List Str, acc = ys.map D.str ∧ (∀ y ∈ ys, ∃ c : Nat, y = ⟨#[c]⟩ ∧ c < 0x110000) ∧ ys.length + ds.length = k ∧ n ≤ m + ys.length + 2) ?_ ?_ ⟨[], rfl, (fun y h => by cases h), by rw [rangeD_length]; simp, by simp; omega⟩
    · rintro acc d r m ⟨ys, rfl, hy, hl, hm⟩ ih
      rw [List.length_cons] at hl
      refine aT ⟨26, rfl, by decide, by decide, by omega, fun x l5 u5 => ?_⟩
      obtain ⟨ch, hch, hlt⟩ := letters_lt l5 u5
      refine aIx_str (by decide +kernel) hch (ih _ _ ⟨ys ++ [⟨#[ch]⟩], by rw [List.map_append]; rfl, ?_, by rw [List.length_append]; simp; omega, by rw [List.length_append]; simp; omega⟩)
      intro y hy'
      rcases List.mem_append.mp hy' with h | h
      · exact hy y h
      · exact ⟨ch, List.mem_singleton.mp h, hlt⟩
    · rintro acc m ⟨ys, rfl, hy, hl, hm⟩
      obtain ⟨hs, hc0⟩ := signs_ok hy
      have : (Str.ofString "").length = 0 := by decide +kernel
      simp at hl
      refine ⟨ys, rfl, by rw [hs, this]; omega, q _ _ (by rw [join_len, hs]; omega) (fun z => ?_) hc0 (by omega)⟩
      have h5 := congrArg Str.length z
      rw [join_len, hs, show (Str.ofString "again").length = 5 by decide +kernel] at h5
      omega
/-! ways drawn -/
theorem max1_pos (g : Int) : 0 < (if g > 1 then g else 1) := by split <;> omega
theorem max1_bd {k : Nat} {a b : Int} (ha : Bd k a) (hb : Bd k b) (hk : 0 < k) : Bd k (if gcdI a b > 1 then gcdI a b else 1) := by
  split
  · exact gcdI_bd2 ha hb fun z => by
      rename_i h
      rw [z.1, z.2] at h
      revert h
      decide
  · exact (bd_abs (k := 1) (n := 1) (by decide) (by decide) (by decide)).le hk
theorem div_in {a g : Int} {s : Int} (h0 : 0 < g) (h1 : -s ≤ a) (h2 : a ≤ s) (hs : 0 ≤ s) : -s ≤ a / g ∧ a / g ≤ s := by
  constructor
  · refine Int.le_ediv_of_mul_le h0 ?_
    have : -s * g ≤ -s * 1 := Int.mul_le_mul_of_nonpos_left (by omega) (by omega)
    omega
  · rcases Int.lt_or_le a 0 with h | h
    · have := Int.ediv_neg_of_neg_of_pos h h0
      omega
    · have := Int.ediv_le_self g h
      omega
theorem aIx_if {p : Prop} [Decidable p] {x y d : D} {n : Nat} {Q : D → Nat → Prop} (hx : ¬ p → Q x n) (hy : p → Q y n) : aIxS (.lst [x, y]) (.int (if id (decide p) = true then 1 else 0)) n Q := by
  by_cases h : p
  · rw [decide_eq_true h]
    exact aIx_lst (d := y) (atI_nat (j := 1) rfl) (hy h)
  · rw [decide_eq_false h]
    exact aIx_lst (d := x) (atI_nat (j := 0) rfl) (hx h)
noncomputable def a_l_drawn_way : ASp := fun ds n Q => ∃ s : Int, ds = [.deck, .int s] ∧ 0 ≤ s ∧ s ≤ 15 ∧ 2 ≤ n ∧ ∀ w : Pt, -15 ≤ w.1 → w.1 ≤ 15 → -15 ≤ w.2 → w.2 ≤ 15 → Q (pt w) (n - 2)
theorem ok_l_drawn_way (T : Tx K mg A) : FnOk P w K mg base CX0 5 A.f_l_drawn_way A.fd_l_drawn_way ["_law_deck", "_law_span"] (spOf K 2 a_l_drawn_way) := by
  refine fn_mir [] 5 rfl (by decide) (by decide) T.F_l_drawn_way sc_l_drawn_way fun cdv Ar outer s H E hr => ?_
  refine ⟨_, _, (pss_cons (ps_set (i := 2) sc_l_drawn_way.nd rfl (.inl rfl) (pe_call (ok_l_signed (P := P) (K := K) T) (hr.mono (by decide)) (by rfl) T.g_l_signed T.F_l_signed.kp T.b_l_signed .nil pass0 (pa_cons (pv 0) (pa_cons (pv 1) pa_nil))))
    (pss_cons (ps_set (i := 3) sc_l_drawn_way.nd rfl (.inl rfl) (pe_call (ok_l_signed (P := P) (K := K) T) (hr.mono (by decide)) (by rfl) T.g_l_signed T.F_l_signed.kp T.b_l_signed .nil pass0 (pa_cons (pv 0) (pa_cons (pv 1) pa_nil))))
    (pss_cons (ps_set (i := 4) sc_l_drawn_way.nd rfl (.inl rfl) (pe_callB (k_max2 rfl) (by rfl) T.m_max (by decide +kernel) (pa_cons pe_int (pa_cons (pe_call (ok_l_gcd (P := P) (K := K) T) (hr.mono (by decide)) (by rfl) T.g_l_gcd T.F_l_gcd.kp T.b_l_gcd .nil pass0 (pa_cons (pv 2) (pa_cons (pv 3) pa_nil))) pa_nil))))
    (pss_one (ps_ret (pe_ix (k_ixS (K := K) rfl) (pe_lst (pa_cons (pe_tup (pa_cons (pe_op k_fdiv (pv 2) (pv 4)) (pa_cons (pe_op k_fdiv (pv 3) (pv 4)) pa_nil))) (pa_cons (pe_tup (pa_cons pe_int (pa_cons pe_int pa_nil))) pa_nil))) (pe_callTy k_int (by rfl) T.m_int (by decide +kernel) (pa_cons (pe_and (pe_cmpR (k_eq (K := K) rfl hr.units) (pv 2) pe_int (nomark _)) (pe_one (pe_cmpR (k_eq (K := K) rfl hr.units) (pv 3) pe_int (nomark _)))) pa_nil)) (fun _ _ => rfl))))))), by infer_instance, fun ds n Q hl hA => ?_⟩
  obtain ⟨s, rfl, h0, h1, hn, q⟩ := hA
  refine ⟨s, rfl, h0, by omega, by omega, fun a la ua => ⟨s, rfl, h0, by omega, by omega, fun b lb ub => ?_⟩⟩
  refine ⟨a, b, rfl, ?_⟩
  have gp := max1_pos (gcdI a b)
  have gb := max1_bd (k := 4) (bd_abs (n := 15) (by decide) (by omega) (by omega)) (bd_abs (n := 15) (by decide) (by omega) (by omega)) (by decide) (a := a) (b := b)
  have d1 := div_in gp (show -15 ≤ a by omega) (show a ≤ 15 by omega) (by decide)
  have d2 := div_in gp (show -15 ≤ b by omega) (show b ≤ 15 by omega) (by decide)
  refine ⟨divA gb gp (by decide), divA gb gp (by decide), ?_⟩
  have q1 := q (a / (if gcdI a b > 1 then gcdI a b else 1), b / (if gcdI a b > 1 then gcdI a b else 1)) d1.1 d1.2 d2.1 d2.2
  have q2 := q (1, 0) (by decide) (by decide) (by decide) (by decide)
  refine dIte (fun ha => ?_) fun ha => ?_
  · exact aIx_if (p := b = 0) (d := .non) (fun _ => q1) fun _ => q2
  · exact aIx_lst (atI_nat (j := 0) rfl) q1
/-! rows drawn -/
noncomputable def Rl (d : D) : Prop := d = .non ∨ ∃ w : Pt, d = pt w ∧ -15 ≤ w.1 ∧ w.1 ≤ 15 ∧ -15 ≤ w.2 ∧ w.2 ≤ 15
noncomputable def a_l_drawn_row : ASp := fun ds n Q => ∃ (cs : List Pt) (px py : Rat), ds = [.deck, .tup (cs.map pt), spt px py] ∧ 40 ≤ n ∧ ∀ (b : Bw) (z : Str) (n' : Nat), b.nm = .str z → b.cs = cs → b.px = px → b.py = py → z.length ≤ 12 → z ≠ Str.ofString "again" → PyData.canLay0 (.str z) = true → Rl b.rail → (b.m = 0 → b.rail = .non ∧ b.x = 0 ∧ b.y = 0) → 0 ≤ b.m → b.m ≤ 5 → BdQ 10 b.x → BdQ 10 b.y → n ≤ n' + 30 → Q b.d n'
theorem ok_l_drawn_row (T : Tx K mg A) : FnOk P w K mg base CX0 6 A.f_l_drawn_row A.fd_l_drawn_row ["_law_deck", "_law_shape", "_law_spot"] (spOf K 3 a_l_drawn_row) := by
  refine fn_mir [] 8 rfl (by decide) (by decide) T.F_l_drawn_row sc_l_drawn_row fun cdv Ar outer s H E hr => ?_
  refine ⟨_, _, (pss_cons (ps_set (i := 3) sc_l_drawn_row.nd rfl (.inl rfl) (pe_call (ok_l_drawn_name (P := P) (K := K) T) (hr.mono (by decide)) (by rfl) T.g_l_drawn_name T.F_l_drawn_name.kp T.b_l_drawn_name .nil pass0 (pa_cons (pv 0) pa_nil)))
    (pss_cons (ps_set (i := 4) sc_l_drawn_row.nd rfl (.inl rfl) (pe_call (ok_l_take (P := P) (K := K) T) (hr.mono (by decide)) (by rfl) T.g_l_take T.F_l_take.kp T.b_l_take .nil pass0 (pa_cons (pv 0) (pa_cons pe_int pa_nil))))
    (pss_cons (ps_if (pt_cmpR (k_eq (K := K) rfl hr.units) (pv 4) pe_int (nomark _))
      (pss_one (ps_ret (pe_tup (pa_cons (pv 3) (pa_cons (pv 1) (pa_cons pe_int (pa_cons pe_non (pa_cons (pv 2) (pa_cons (pe_tup (pa_cons (pe_tup (pa_cons pe_int (pa_cons pe_int pa_nil))) (pa_cons (pe_tup (pa_cons pe_int (pa_cons pe_int pa_nil))) pa_nil))) pa_nil)))))))))
      pss_nil)
    (pss_cons (ps_set (i := 5) sc_l_drawn_row.nd rfl (.inl rfl) (pe_op (k_add (K := K) rfl) pe_int (pe_call (ok_l_take (P := P) (K := K) T) (hr.mono (by decide)) (by rfl) T.g_l_take T.F_l_take.kp T.b_l_take .nil pass0 (pa_cons (pv 0) (pa_cons pe_int pa_nil)))))
    (pss_cons (ps_set (i := 6) sc_l_drawn_row.nd rfl (.inl rfl) (pe_tup (pa_cons (pe_call (ok_l_drawn_size (P := P) (K := K) T) (hr.mono (by decide)) (by rfl) T.g_l_drawn_size T.F_l_drawn_size.kp T.b_l_drawn_size .nil pass0 (pa_cons (pv 0) (pa_cons pe_int pa_nil))) (pa_cons (pe_call (ok_l_drawn_size (P := P) (K := K) T) (hr.mono (by decide)) (by rfl) T.g_l_drawn_size T.F_l_drawn_size.kp T.b_l_drawn_size .nil pass0 (pa_cons (pv 0) (pa_cons pe_int pa_nil))) pa_nil))))
    (pss_cons (ps_if (pt_cmpR op_gt (pv 4) pe_int (nomark _))
      (pss_one (ps_ret (pe_tup (pa_cons (pv 3) (pa_cons (pv 1) (pa_cons (pv 5) (pa_cons pe_non (pa_cons (pv 2) (pa_cons (pv 6) pa_nil)))))))))
      pss_nil)
    (pss_cons (ps_set (i := 7) sc_l_drawn_row.nd rfl (.inl rfl) (pe_call (ok_l_drawn_way (P := P) (K := K) T) (hr.mono (by decide)) (by rfl) T.g_l_drawn_way T.F_l_drawn_way.kp T.b_l_drawn_way .nil pass0 (pa_cons (pv 0) (pa_cons pe_int pa_nil))))
    (pss_one (ps_ret (pe_tup (pa_cons (pv 3) (pa_cons (pv 1) (pa_cons (pv 5) (pa_cons (pv 7) (pa_cons (pv 2) (pa_cons (pe_call (ok_l_spot_times (P := P) (K := K) T) (hr.mono (by decide)) (by rfl) T.g_l_spot_times T.F_l_spot_times.kp T.b_l_spot_times .nil pass0 (pa_cons (pe_call (ok_l_spot_of (P := P) (K := K) T) (hr.mono (by decide)) (by rfl) T.g_l_spot_of T.F_l_spot_of.kp T.b_l_spot_of .nil pass0 (pa_cons (pv 7) pa_nil)) (pa_cons (pe_ix (k_ix (K := K) rfl) (pv 6) pe_int (fun _ _ => rfl)) pa_nil))) pa_nil)))))))))))))))), by infer_instance, fun ds n Q hl hA => ?_⟩
  obtain ⟨cs, px, py, rfl, hn, q⟩ := hA
  refine ⟨rfl, by omega, fun z n1 hz hz5 hzc h1 => ?_⟩
  refine ⟨6, rfl, by decide, by decide, by omega, fun k lk uk => ?_⟩
  refine dIte (fun hk => ?_) fun hk => ?_
  · refine q ⟨.str z, cs, 0, .non, px, py, 0, 0⟩ z _ rfl rfl rfl rfl hz hz5 hzc (.inl rfl) (fun _ => ⟨rfl, rfl, rfl⟩) (show (0 : Int) ≤ 0 by decide) (show (0 : Int) ≤ 5 by decide) bdq0 bdq0 (by omega)
  · refine ⟨5, rfl, by decide, by decide, by omega, fun m lm um => ?_⟩
    refine ⟨4, rfl, by decide, by decide, by omega, fun x bx => ⟨4, rfl, by decide, by decide, by omega, fun y by' => ?_⟩⟩
    refine dIte (fun hk => ?_) fun hk => ?_
    · exact q ⟨.str z, cs, 1 + m, .non, px, py, x, y⟩ z _ rfl rfl rfl rfl hz hz5 hzc (.inl rfl) (fun e => absurd (show 1 + m = 0 from e) (by omega)) (show 0 ≤ 1 + m by omega) (show 1 + m ≤ 5 by omega) (bx.le (by decide)) (by'.le (by decide)) (by omega)
    · refine ⟨3, rfl, by decide, by decide, by omega, fun w w1 w2 w3 w4 => ?_⟩
      have c1 : BdQ 4 (w.1 : Rat) := bdq_int (bd_abs (n := 15) (by decide) (by omega) (by omega)) (by decide)
      have c2 : BdQ 4 (w.2 : Rat) := bdq_int (bd_abs (n := 15) (by decide) (by omega) (by omega)) (by decide)
      refine ⟨w, rfl, ⟨_, _, _, 4, 4, rfl, c1, c2, bx, by decide, ?_⟩⟩
      exact q ⟨.str z, cs, 1 + m, pt w, px, py, (w.1 : Rat) * x, (w.2 : Rat) * x⟩ z _ rfl rfl rfl rfl hz hz5 hzc (.inr ⟨w, rfl, w1, w2, w3, w4⟩) (fun e => absurd (show 1 + m = 0 from e) (by omega)) (show 0 ≤ 1 + m by omega) (show 1 + m ≤ 5 by omega) ((c1.mul bx).le (by decide)) ((c2.mul bx).le (by decide)) (by omega)
noncomputable def ysD (w : Pt) (g : Int) (c : Pt) : D := .tup [.int (dot w c), .int (g * c.1), .int (g * c.2), pt c]
theorem atI_ex {α : Type} {l : List α} {i : Int} (h0 : 0 ≤ i) (h1 : i < (l.length : Int)) : ∃ d, atI l i = some d ∧ d ∈ l := by
  obtain ⟨k, rfl⟩ := Int.eq_ofNat_of_zero_le h0
  have hk : k < l.length := by omega
  exact ⟨l[k], atI_nat (List.getElem?_eq_getElem hk), List.getElem_mem hk⟩
theorem aIx_all {ds : List D} {i : Int} {n : Nat} {Q : D → Nat → Prop} (h0 : 0 ≤ i) (h1 : i < (ds.length : Int)) (h : ∀ d ∈ ds, Q d n) : aIxS (.lst ds) (.int i) n Q := by
  obtain ⟨d, hd, hm⟩ := atI_ex h0 h1
  exact aIx_lst hd (h d hm)
theorem ys_kd (w : Pt) (g : Int) (c : Pt) : (ysD w g c).kd 2 := fun x hx => by
  have : x = .int (dot w c) ∨ x = .int (g * c.1) ∨ x = .int (g * c.2) ∨ x = pt c := by simpa using hx
  rcases this with rfl | rfl | rfl | rfl
  · trivial
  · trivial
  · trivial
  · intro y hy
    have : y = .int c.1 ∨ y = .int c.2 := by simpa using hy
    rcases this with rfl | rfl <;> trivial
theorem ys_shp (w : Pt) (g : Int) (c e : Pt) : MM.shp 2 (ysD w g c).kt (ysD w g e).kt := by
  refine ⟨rfl, fun j u v hu hv => ?_⟩
  match j, hu, hv with
  | 0, hu, hv => cases hu; cases hv; exact shp_n _ _ _
  | 1, hu, hv => cases hu; cases hv; exact shp_n _ _ _
  | 2, hu, hv => cases hu; cases hv; exact shp_n _ _ _
  | 3, hu, hv => cases hu; cases hv; exact shp2 (shp_n _ _ _) (shp_n _ _ _)
noncomputable def a_l_beside : ASp := fun ds n Q => ∃ (b c : Bw) (kb : Nat), ds = [.deck, b.d, c.d] ∧ ShOk b.cs ∧ ShOk c.cs ∧ BdQ kb b.px ∧ BdQ kb b.py ∧ kb ≤ 2000 ∧ 20 ≤ n ∧ ∀ (px py : Rat) (n' : Nat), BdQ (kb + 90) px → BdQ (kb + 90) py → n ≤ n' + 12 → Q ({ c with px := px, py := py } : Bw).d n'
theorem ok_l_beside (T : Tx K mg A) : FnOk P w K mg base CX0 6 A.f_l_beside A.fd_l_beside ["_law_deck", "_law_one", "_law_row"] (spOf K 3 a_l_beside) := by
  refine fn_mir [] 12 rfl (by decide) (by decide) T.F_l_beside sc_l_beside fun cdv Ar outer s H E hr => ?_
  refine ⟨_, _, (pss_cons (ps_set (i := 3) sc_l_beside.nd rfl (.inl rfl) (pe_op (k_add (K := K) rfl) (pe_call (ok_l_pair_ways (P := P) (K := K) T) (hr.mono (by decide)) (by rfl) T.g_l_pair_ways T.F_l_pair_ways.kp T.b_l_pair_ways .nil pass0 (pa_cons (pv 1) (pa_cons (pv 2) pa_nil))) (pe_lst (pa_cons (pe_call (ok_l_drawn_way (P := P) (K := K) T) (hr.mono (by decide)) (by rfl) T.g_l_drawn_way T.F_l_drawn_way.kp T.b_l_drawn_way .nil pass0 (pa_cons (pv 0) (pa_cons pe_int pa_nil))) pa_nil))))
    (pss_cons (ps_set (i := 4) sc_l_beside.nd rfl (.inr rfl) (pe_ix (k_ixS (K := K) rfl) (pv 3) (pe_call (ok_l_take (P := P) (K := K) T) (hr.mono (by decide)) (by rfl) T.g_l_take T.F_l_take.kp T.b_l_take .nil pass0 (pa_cons (pv 0) (pa_cons (pe_callB (k_len (K := K) rfl) (by rfl) T.m_len (by decide +kernel) (pa_cons (pv 3) pa_nil)) pa_nil))) (fun _ _ => rfl)))
    (pss_cons (ps_set (i := 5) sc_l_beside.nd rfl (.inl rfl) (pe_ix (k_ixS (K := K) rfl) (pe_lst (pa_cons (pe_tup (pa_cons pe_int (pa_cons pe_int pa_nil))) (pa_cons (pe_call (ok_l_drawn_size (P := P) (K := K) T) (hr.mono (by decide)) (by rfl) T.g_l_drawn_size T.F_l_drawn_size.kp T.b_l_drawn_size .nil pass0 (pa_cons (pv 0) (pa_cons pe_int pa_nil))) pa_nil))) (pe_call (ok_l_take (P := P) (K := K) T) (hr.mono (by decide)) (by rfl) T.g_l_take T.F_l_take.kp T.b_l_take .nil pass0 (pa_cons (pv 0) (pa_cons pe_int pa_nil))) (fun _ _ => rfl)))
    (pss_cons (ps_set (i := 6) sc_l_beside.nd rfl (.inl rfl) (pe_ix (k_ixS (K := K) rfl) (pe_lst (pa_cons (pe_tup (pa_cons pe_int (pa_cons pe_int pa_nil))) (pa_cons (pe_tup (pa_cons pe_int (pa_cons pe_int pa_nil))) (pa_cons (pe_call (ok_l_above (P := P) (K := K) T) (hr.mono (by decide)) (by rfl) T.g_l_above T.F_l_above.kp T.b_l_above .nil pass0 (pa_cons (pv 0) (pa_cons pe_int pa_nil))) pa_nil)))) (pe_call (ok_l_take (P := P) (K := K) T) (hr.mono (by decide)) (by rfl) T.g_l_take T.F_l_take.kp T.b_l_take .nil pass0 (pa_cons (pv 0) (pa_cons pe_int pa_nil))) (fun _ _ => rfl)))
    (pss_cons (ps_set (i := 7) sc_l_beside.nd rfl (.inr rfl) (pe_op op_sub pe_int (pe_op k_mul pe_int (pe_call (ok_l_take (P := P) (K := K) T) (hr.mono (by decide)) (by rfl) T.g_l_take T.F_l_take.kp T.b_l_take .nil pass0 (pa_cons (pv 0) (pa_cons pe_int pa_nil))))))
    (pss_cons (ps_set (i := 8) sc_l_beside.nd rfl (.inl rfl) (pe_ix (k_ix (K := K) rfl) (pe_callB (k_maxT (K := K) rfl rfl hr.units) (by rfl) T.m_max (by decide +kernel) (pa_cons (pe_lc (own := [("_law_c", 11)]) rfl sc_l_beside.nd (k_iter (K := K) rfl (pe_ix (k_ix (K := K) rfl) (pv 1) pe_int (fun _ _ => rfl))) (blkOk_by (own := [("_law_c", 11)]) (N := ["_law_deck", "_law_one", "_law_row", "_law_ways", "_law_way", "_law_slid", "_law_off", "_law_sign", "_law_mine", "_law_yours", "_law_spot", "_law_c"]) (sc := defScope s_l_beside) (by decide +kernel)) (fun _ _ _ _ _ => (pg_name (i := 11) sc_l_beside.nd rfl (Or.inl rfl))) (fun _ _ _ _ _ => pts_nil) (fun _ _ _ _ _ => (pe_tup (pa_cons (pe_op (k_add (K := K) rfl) (pe_op k_mul (pe_ix (k_ix (K := K) rfl) (pv 4) pe_int (fun _ _ => rfl)) (pe_ix (k_ix (K := K) rfl) (pv 11) pe_int (fun _ _ => rfl))) (pe_op k_mul (pe_ix (k_ix (K := K) rfl) (pv 4) pe_int (fun _ _ => rfl)) (pe_ix (k_ix (K := K) rfl) (pv 11) pe_int (fun _ _ => rfl)))) (pa_cons (pv 11) pa_nil))))) pa_nil)) pe_int (fun _ _ => rfl)))
    (pss_cons (ps_set (i := 9) sc_l_beside.nd rfl (.inl rfl) (pe_ix (k_ix (K := K) rfl) (pe_callB (k_minT (K := K) rfl rfl hr.units) (by rfl) T.m_min (by decide +kernel) (pa_cons (pe_lc (own := [("_law_c", 11)]) rfl sc_l_beside.nd (k_iter (K := K) rfl (pe_ix (k_ix (K := K) rfl) (pv 2) pe_int (fun _ _ => rfl))) (blkOk_by (own := [("_law_c", 11)]) (N := ["_law_deck", "_law_one", "_law_row", "_law_ways", "_law_way", "_law_slid", "_law_off", "_law_sign", "_law_mine", "_law_yours", "_law_spot", "_law_c"]) (sc := defScope s_l_beside) (by decide +kernel)) (fun _ _ _ _ _ => (pg_name (i := 11) sc_l_beside.nd rfl (Or.inl rfl))) (fun _ _ _ _ _ => pts_nil) (fun _ _ _ _ _ => (pe_tup (pa_cons (pe_op (k_add (K := K) rfl) (pe_op k_mul (pe_ix (k_ix (K := K) rfl) (pv 4) pe_int (fun _ _ => rfl)) (pe_ix (k_ix (K := K) rfl) (pv 11) pe_int (fun _ _ => rfl))) (pe_op k_mul (pe_ix (k_ix (K := K) rfl) (pv 4) pe_int (fun _ _ => rfl)) (pe_ix (k_ix (K := K) rfl) (pv 11) pe_int (fun _ _ => rfl)))) (pa_cons (pe_op k_mul (pv 7) (pe_ix (k_ix (K := K) rfl) (pv 11) pe_int (fun _ _ => rfl))) (pa_cons (pe_op k_mul (pv 7) (pe_ix (k_ix (K := K) rfl) (pv 11) pe_int (fun _ _ => rfl))) (pa_cons (pv 11) pa_nil))))))) pa_nil)) pe_int (fun _ _ => rfl)))
    (pss_cons (ps_set (i := 10) sc_l_beside.nd rfl (.inl rfl) (pe_call (ok_l_spot_plus (P := P) (K := K) T) (hr.mono (by decide)) (by rfl) T.g_l_spot_plus T.F_l_spot_plus.kp T.b_l_spot_plus .nil pass0 (pa_cons (pe_ix (k_ix (K := K) rfl) (pv 1) pe_int (fun _ _ => rfl)) (pa_cons (pe_call (ok_l_spot_of (P := P) (K := K) T) (hr.mono (by decide)) (by rfl) T.g_l_spot_of T.F_l_spot_of.kp T.b_l_spot_of .nil pass0 (pa_cons (pe_tup (pa_cons (pe_op op_sub (pe_ix (k_ix (K := K) rfl) (pv 8) pe_int (fun _ _ => rfl)) (pe_ix (k_ix (K := K) rfl) (pv 9) pe_int (fun _ _ => rfl))) (pa_cons (pe_op op_sub (pe_ix (k_ix (K := K) rfl) (pv 8) pe_int (fun _ _ => rfl)) (pe_ix (k_ix (K := K) rfl) (pv 9) pe_int (fun _ _ => rfl))) pa_nil))) pa_nil)) pa_nil))))
    (pss_cons (ps_set (i := 10) sc_l_beside.nd rfl (.inl rfl) (pe_call (ok_l_spot_plus (P := P) (K := K) T) (hr.mono (by decide)) (by rfl) T.g_l_spot_plus T.F_l_spot_plus.kp T.b_l_spot_plus .nil pass0 (pa_cons (pv 10) (pa_cons (pe_call (ok_l_spot_times (P := P) (K := K) T) (hr.mono (by decide)) (by rfl) T.g_l_spot_times T.F_l_spot_times.kp T.b_l_spot_times .nil pass0 (pa_cons (pe_call (ok_l_spot_of (P := P) (K := K) T) (hr.mono (by decide)) (by rfl) T.g_l_spot_of T.F_l_spot_of.kp T.b_l_spot_of .nil pass0 (pa_cons (pe_tup (pa_cons (pe_un un_neg (pe_ix (k_ix (K := K) rfl) (pv 4) pe_int (fun _ _ => rfl))) (pa_cons (pe_ix (k_ix (K := K) rfl) (pv 4) pe_int (fun _ _ => rfl)) pa_nil))) pa_nil)) (pa_cons (pv 5) pa_nil))) pa_nil))))
    (pss_one (ps_ret (pe_op (k_add (K := K) rfl) (pe_op (k_add (K := K) rfl) (pe_slice (k_sl (K := K) rfl) (pv 2) po_none (po_some pe_int)) (pe_tup (pa_cons (pe_call (ok_l_spot_plus (P := P) (K := K) T) (hr.mono (by decide)) (by rfl) T.g_l_spot_plus T.F_l_spot_plus.kp T.b_l_spot_plus .nil pass0 (pa_cons (pv 10) (pa_cons (pe_call (ok_l_spot_times (P := P) (K := K) T) (hr.mono (by decide)) (by rfl) T.g_l_spot_times T.F_l_spot_times.kp T.b_l_spot_times .nil pass0 (pa_cons (pe_call (ok_l_spot_of (P := P) (K := K) T) (hr.mono (by decide)) (by rfl) T.g_l_spot_of T.F_l_spot_of.kp T.b_l_spot_of .nil pass0 (pa_cons (pv 4) pa_nil)) (pa_cons (pv 6) pa_nil))) pa_nil))) pa_nil))) (pe_slice (k_sl (K := K) rfl) (pv 2) (po_some pe_int) po_none))))))))))))), by infer_instance, fun ds n Q hl hA => ?_⟩
  obtain ⟨b, c, kb, rfl, hb, hc, b1, b2, hkb, hn, q⟩ := hA
  have hb16 := hb.2.1
  have hc16 := hc.2.1
  refine ⟨b, c, rfl, hb, hc, fun ws h0 h40 hws hpw => ?_⟩
  refine ⟨4, rfl, by decide, by decide, by omega, fun w1 c1 c2 c3 c4 => ?_⟩
  have hl1 : (ws.map pt ++ [pt w1]).length = ws.length + 1 := by simp
  refine ⟨by simp; omega, ?_⟩
  refine ⟨((ws.map pt ++ [pt w1]).length : Int), rfl, by rw [hl1]; omega, small_log (by rw [hl1]; omega) (by rw [hl1]; omega), by omega, fun k lk uk => ?_⟩
  refine aIx_all lk uk fun d hd => ?_
  obtain ⟨w, rfl, hw⟩ : ∃ w : Pt, d = pt w ∧ WyS 23 w := by
    rcases List.mem_append.mp hd with h | h
    · obtain ⟨w, hw, rfl⟩ := List.mem_map.mp h
      exact ⟨w, rfl, hws w hw⟩
    · exact ⟨w1, List.mem_singleton.mp h, bd_abs (n := 15) (by decide) (by omega) (by omega), bd_abs (n := 15) (by decide) (by omega) (by omega)⟩
  refine ⟨2, rfl, by decide, by decide, by omega, fun x bx => ⟨2, rfl, by decide, by decide, by omega, fun k2 l2 u2 => ?_⟩⟩
  refine aIx_all l2 u2 fun d hd => ?_
  obtain ⟨sl, rfl, hsl⟩ : ∃ sl : Rat, d = sh sl ∧ BdQ 4 sl := by
    have : d = D.tup [.int 0, .int 1] ∨ d = sh x := by simpa using hd
    rcases this with rfl | rfl
    · exact ⟨0, rfl, bdq0⟩
    · exact ⟨x, rfl, bx⟩
  refine ⟨4, rfl, by decide, by decide, by omega, fun y by' hy => ⟨3, rfl, by decide, by decide, by omega, fun k3 l3 u3 => ?_⟩⟩
  refine aIx_all l3 u3 fun d hd => ?_
  obtain ⟨off, rfl, hof⟩ : ∃ off : Rat, d = sh off ∧ BdQ 4 off := by
    have : d = D.tup [.int 0, .int 1] ∨ d = sh y := by simpa using hd
    rcases this with rfl | rfl
    · exact ⟨0, rfl, bdq0⟩
    · exact ⟨y, rfl, by'⟩
  refine ⟨2, rfl, by decide, by decide, by omega, fun k4 l4 u4 => ⟨.inl (.inl ⟨by omega, by omega⟩), ?_⟩⟩
  generalize hn2 : n - 2 - 1 - 3 - 1 - 3 - 1 - 1 = n2
  refine ⟨by rw [List.length_map]; omega, ?_⟩
  refine aLc_ind (fun acc ds m => m = n2 ∧ ∃ us vs : List Pt, b.cs = us ++ vs ∧ ds = vs.map pt ∧ acc = us.map (rmD (dot w))) ?_ ?_ ⟨rfl, [], b.cs, rfl, rfl, rfl⟩
  · rintro acc d r m ⟨rfl, us, vs, e0, e, rfl⟩ ih
    cases vs with
    | nil => cases e
    | cons v vs =>
    obtain ⟨rfl, rfl⟩ := List.cons.inj e
    have hp := hb.2.2.1 v (by rw [e0]; exact List.mem_append_right _ List.mem_cons_self)
    unfold PtS at hp
    refine aT ⟨mulA hw.1 (bd_pt hp.1 hp.2.1) (by decide) (by decide), mulA hw.2 (bd_pt hp.2.2.1 hp.2.2.2) (by decide) (by decide), ih _ _ ⟨rfl, us ++ [v], vs, by rw [e0]; simp, rfl, by rw [List.map_append]; rfl⟩⟩
  rintro acc m ⟨rfl, us, vs, e0, e, rfl⟩
  cases vs with
  | cons v vs => cases e
  | nil =>
  rw [List.append_nil] at e0
  subst e0
  refine ⟨b.cs.map (rmD (dot w)), 2, rfl, fun z => hb.ne (List.map_eq_nil_iff.mp z), by decide, fun e he => ?_, fun e he e' he' => ?_, fun e he hmax => ?_⟩
  · obtain ⟨w, _, rfl⟩ := List.mem_map.mp he
    exact rm_kd _ w
  · obtain ⟨w, _, rfl⟩ := List.mem_map.mp he
    obtain ⟨v, _, rfl⟩ := List.mem_map.mp he'
    exact rm_shp _ w v
  obtain ⟨mine, hmi, rfl⟩ := List.mem_map.mp he
  clear hmax he
  refine ⟨by rw [List.length_map]; omega, ?_⟩
  refine aLc_ind (fun acc ds j => j = m ∧ ∃ us vs : List Pt, c.cs = us ++ vs ∧ ds = vs.map pt ∧ acc = us.map (ysD w (1 - 2 * k4))) ?_ ?_ ⟨rfl, [], c.cs, rfl, rfl, rfl⟩
  · rintro acc d r j ⟨rfl, us, vs, e0, e, rfl⟩ ih
    cases vs with
    | nil => cases e
    | cons v vs =>
    obtain ⟨rfl, rfl⟩ := List.cons.inj e
    have hp := hc.2.2.1 v (by rw [e0]; exact List.mem_append_right _ List.mem_cons_self)
    unfold PtS at hp
    have bs : Bd 2 (1 - 2 * k4) := bd_abs (n := 3) (by decide) (by omega) (by omega)
    refine aT ⟨mulA hw.1 (bd_pt hp.1 hp.2.1) (by decide) (by decide), mulA hw.2 (bd_pt hp.2.2.1 hp.2.2.2) (by decide) (by decide), mulA bs (bd_pt hp.1 hp.2.1) (by decide) (by decide), mulA bs (bd_pt hp.2.2.1 hp.2.2.2) (by decide) (by decide), ih _ _ ⟨rfl, us ++ [v], vs, by rw [e0]; simp, rfl, by rw [List.map_append]; rfl⟩⟩
  rintro acc j ⟨rfl, us, vs, e0, e, rfl⟩
  cases vs with
  | cons v vs => cases e
  | nil =>
  rw [List.append_nil] at e0
  subst e0
  refine ⟨c.cs.map (ysD w (1 - 2 * k4)), 2, rfl, fun z => hc.ne (List.map_eq_nil_iff.mp z), by decide, fun e he => ?_, fun e he e' he' => ?_, fun e he hmin => ?_⟩
  · obtain ⟨w, _, rfl⟩ := List.mem_map.mp he
    exact ys_kd _ _ w
  · obtain ⟨w, _, rfl⟩ := List.mem_map.mp he
    obtain ⟨v, _, rfl⟩ := List.mem_map.mp he'
    exact ys_shp _ _ w v
  obtain ⟨yours, hyo, rfl⟩ := List.mem_map.mp he
  clear hmin he
  have pm := hb.2.2.1 _ hmi
  have py := hc.2.2.1 _ hyo
  unfold PtS at pm py
  have a1 : BdQ 23 ((mine.1 - yours.1 : Int) : Rat) := bdq_int (bd_abs (n := 6000000) (by decide) (by omega) (by omega)) (by decide)
  have a2 : BdQ 23 ((mine.2 - yours.2 : Int) : Rat) := bdq_int (bd_abs (n := 6000000) (by decide) (by omega) (by omega)) (by decide)
  have w1' : BdQ 23 ((w.1 : Int) : Rat) := bdq_int hw.1 (by decide)
  have w2' : BdQ 23 ((w.2 : Int) : Rat) := bdq_int hw.2 (by decide)
  have w3' : BdQ 23 ((-w.2 : Int) : Rat) := bdq_int hw.2.neg (by decide)
  refine ⟨(mine.1 - yours.1, mine.2 - yours.2), rfl, ⟨_, _, _, _, kb, 23, rfl, b1, b2, a1, a2, by omega, ?_⟩⟩
  refine ⟨(-w.2, w.1), rfl, ⟨_, _, sl, 23, 4, rfl, w3', w1', hsl, by decide, ⟨_, _, _, _, kb + 24, 27, rfl, (b1.add a1).le (by omega), (b2.add a2).le (by omega), w3'.mul hsl, w1'.mul hsl, by omega, ?_⟩⟩⟩
  refine ⟨fun z => absurd z.2 (show ¬ HT.sIx 6 6 (some 4) = 6 by decide), w, rfl, ⟨_, _, off, 23, 4, rfl, w1', w2', hof, by decide, ⟨_, _, _, _, kb + 52, 27, rfl, (((b1.add a1).le (show _ ≤ kb + 24 by omega)).add (w3'.mul hsl)).le (by omega), (((b2.add a2).le (show _ ≤ kb + 24 by omega)).add (w1'.mul hsl)).le (by omega), w1'.mul hof, w2'.mul hof, by omega, ?_⟩⟩⟩
  refine ⟨List.cons_ne_nil _ _, show 4 + 1 ≤ 1000000 by decide, fun z => absurd z.1 (show ¬ HT.sIx 6 0 (some 5) = 0 by decide), List.cons_ne_nil _ _, show 5 + 1 ≤ 1000000 by decide, ?_⟩
  have hq := q (b.px + ((mine.1 - yours.1 : Int) : Rat) + ((-w.2 : Int) : Rat) * sl + (w.1 : Rat) * off) (b.py + ((mine.2 - yours.2 : Int) : Rat) + (w.1 : Rat) * sl + (w.2 : Rat) * off) j ((((((b1.add a1).le (show _ ≤ kb + 24 by omega)).add (w3'.mul hsl)).le (show _ ≤ kb + 52 by omega)).add (w1'.mul hof)).le (by omega)) ((((((b2.add a2).le (show _ ≤ kb + 24 by omega)).add (w1'.mul hsl)).le (show _ ≤ kb + 52 by omega)).add (w2'.mul hof)).le (by omega)) (by omega)
  exact hq
/-! the scene -/
/-! ### a list told by a comprehension that reads the built lists, taken as a built one; an append of what is read off them -/
section
variable {K : PySem.W.Frag} {ow : List Nat} {Wx : WX}
theorem lc_new {wi : TI} {g : TG} {tt : TT} {te : TE} {vs : List Nat} {I : AI} {G : D → Option (List (Nat × D))} {c : AT} {e : AE} [DI K wi I] [DG K g G] [DT K tt c] [DE K te e] (W : Wd) (σ : L2.St) (ρ : Env') (n : Nat) (H : Hp) (Q : VK) (Qa : D → Nat → Prop) (hQ : WantsN K W H Qa Q) (hE : EnvAt K W H σ ρ) (o : W.ok K n H) (h : aLc I G c e vs ρ n Qa) : tLc wi g tt te vs σ H Q := by
  refine DI.run (wi := wi) (f := I) W σ ρ n H _ _ (fun ds n1 h1 J H1 l1 o1 hw Dl hDl => ?_) hE o h
  obtain ⟨hlen, h1⟩ := h1
  have nrs : ¬ W.rs Dl := o1.fresh hDl
  refine ⟨fun i m H' => m = ds.length - i ∧ i ≤ ds.length ∧ ∃ n' us acc, aLcGo vs G c e (wipeA ρ vs) Qa acc (ds.drop i) n' ∧ (W.add (Dl, .lst us)).ok K n' H' ∧ AtAll K (W.add (Dl, .lst us)) H' us acc ∧ W.le H1 H' ∧ us.length ≤ i, ⟨_, rfl, Nat.zero_le _, n1, [], [], h1, Wd.ok_put trivial nrs (.inl hDl) o1, .nil, Wd.le_same (same_upd hDl), Nat.le_refl _⟩, ?_⟩
  rintro i m H2 ⟨rfl, hi, n2, us, acc, h2, o2, a2, l2, hul⟩
  have rn := Wd.rs_new (W := W) (xs := .lst us) hDl
  obtain ⟨w1, w2⟩ := hw (W.add (Dl, .lst us)) rn rfl H2 n2 (Wd.le_more l2) o2 i
  by_cases hlt : i < ds.length
  · rw [List.drop_eq_getElem_cons hlt] at h2
    obtain ⟨hgo, hy⟩ := w1 ds[i] (List.getElem?_eq_getElem hlt)
    refine .inr ⟨hgo, fun H' => ∃ m', m' < ds.length - i ∧ m' = ds.length - (i + 1) ∧ i + 1 ≤ ds.length ∧ ∃ n' us acc, aLcGo vs G c e (wipeA ρ vs) Qa acc (ds.drop (i + 1)) n' ∧ (W.add (Dl, .lst us)).ok K n' H' ∧ AtAll K (W.add (Dl, .lst us)) H' us acc ∧ W.le H1 H' ∧ us.length ≤ i + 1, fun H' q => q, fun x H3 hx => ?_⟩
    obtain ⟨s3, a3⟩ := hy x H3 hx
    have l3 : (W.add (Dl, .lst us)).le H2 H3 := Wd.le_same s3
    have o3 := o2.same s3
    have hE3 : EnvAt K (W.add (Dl, .lst us)) H3 (wipe σ vs) (wipeA ρ vs) := (((hE.le o l1).ext rn rfl).lk (o1.lk' rn) ((Wd.le_more l2).trans l3)).wipe vs
    unfold aLcGo aPutC at h2
    split at h2
    · rename_i xs ex
      split at h2
      · rename_i hc
        refine DG.run (g := g) (f := G) _ (wipe σ vs) H3 x _ xs _ a3 ex fun zs hz => ?_
        have hE4 := hE3.setAll hz
        have hv : ∀ z ∈ zs, z.1 ∈ vs := upd_slots hz fun u hu => List.contains_iff_mem.mp (List.all_eq_true.mp hc u hu)
        refine ⟨by rw [wipe_setAll hv, wipe_wipe], DT.run (te := tt) (f := c) _ _ _ n2 H3 _ _ (fun b n5 h5 H5 l5 o5 => ?_) hE4 o3 h2⟩
        have l25 := l3.trans l5
        cases b with
        | true =>
          rw [if_pos rfl]
          refine DE.run (te := te) (f := e) _ _ _ n5 H5 _ _ (fun y n6 h6 H6 v l6 o6 a6 => ?_) (hE4.le o3 l5) o5 (h5.1 rfl)
          have hD6 : H6 Dl = some (.lst us) := (o6.owns (Dl, .lst us) List.mem_cons_self).1
          have l26 := l25.trans l6
          refine ⟨us, hD6, Nat.lt_of_lt_of_le (show us.length < 1000000 by omega) lim, _, by omega, rfl, hlt, n6, us ++ [v], acc ++ [y], h6, Wd.ok_put trivial nrs (.inr ⟨_, hD6⟩) o6.drop, ?_, Wd.le_add hDl l2 (l26.trans (Wd.le_own (ob := .lst (us ++ [v])))), by rw [List.length_append, List.length_singleton]; omega⟩
          have key : AtAll K (W.add (Dl, .lst us)) H6 (us ++ [v]) (acc ++ [y]) := (AtAll.le o2 l26 _ a2).append (.cons a6 .nil)
          exact AtAll.weak (W := W.add (Dl, .lst us)) (W' := W.add (Dl, .lst (us ++ [v]))) (fun a z => z) rfl _ (AtAll.le o6 (Wd.le_own (ob := .lst (us ++ [v]))) _ key)
        | false =>
          rw [if_neg Bool.false_ne_true]
          exact ⟨_, by omega, rfl, hlt, n5, us, acc, h5.2 rfl, o5, AtAll.le o2 l25 _ a2, Wd.le_add hDl l2 l25, by omega⟩
      · exact h2.elim
    · exact h2.elim
  · have ei : i = ds.length := by omega
    subst ei
    rw [List.drop_length] at h2
    have hD2 : H2 Dl = some (.lst us) := (o2.owns (Dl, .lst us) List.mem_cons_self).1
    exact .inl ⟨w2 (Nat.le_refl _), hQ _ _ h2 H2 _ (l1.trans l2) o2.drop (.lst nrs hD2 (AtAll.weak (fun a z => Wd.rs_add z) rfl _ a2)) (fun a ea => by
      obtain rfl : Dl = a := V.ref.inj ea
      cases e0 : H Dl with
      | none => rfl
      | some ob =>
        have := l1 Dl ob nrs e0
        rw [hDl] at this
        cases this)⟩
mutual
theorem sc_less {W W' : Wd} {H : Hp} {a : Addr} {us : List V} (ha : H a = some (.lst us)) : ∀ (d : D) {v : V}, d.sc = true → At K W H v d → At K W' (less H a) v d
  | .non, _, _, h => by cases h; exact .non
  | .bl b, _, _, h => by cases h; exact .bl b
  | .int i, _, _, h => by cases h; exact .int i
  | .str x, _, _, h => by cases h; exact .str x
  | .ty t, _, e, _ => Bool.noConfusion e
  | .cls a, _, e, _ => Bool.noConfusion e
  | .tup ds, _, e, h => by
    cases h with
    | tup s b => exact .tup (sqt_less ha s) (scAll_less ha ds e b)
  | .lst ds, _, e, _ => Bool.noConfusion e
  | .dic ks ds, _, e, _ => Bool.noConfusion e
  | .ins C ns ds, _, e, _ => Bool.noConfusion e
  | .deck, _, e, _ => Bool.noConfusion e
  | .xcp _ _ _ _ _, _, e, _ => Bool.noConfusion e
theorem scAll_less {W W' : Wd} {H : Hp} {a : Addr} {us : List V} (ha : H a = some (.lst us)) : ∀ (ds : List D) {vs : List V}, scAll ds = true → AtAll K W H vs ds → AtAll K W' (less H a) vs ds
  | [], _, _, h => by cases h; exact .nil
  | d :: ds, _, e, h => by
    have e' : (d.sc && scAll ds) = true := e
    rw [Bool.and_eq_true] at e'
    cases h with
    | cons b r => exact .cons (sc_less ha d e'.1 b) (scAll_less ha ds e'.2 r)
end
noncomputable def tOwnLc (i : Nat) (wi : TI) (g : TG) (tt : TT) (te : TE) (vs : List Nat) : TS := tAsg (tLc wi g tt te vs) (gName i)
theorem k_ownLc {X : Cx} {st : Stmt} {i : Nat} {wi : TI} {g : TG} {tt : TT} {te : TE} {vs : List Nat} (h : PS X st (tAsg (tLc wi g tt te vs) (gName i))) : PS X st (tOwnLc i wi g tt te vs) := h
noncomputable def aOwnLc (ow : List Nat) (i : Nat) (I : AI) (G : D → Option (List (Nat × D))) (c : AT) (e : AE) (vs : List Nat) : AS := fun E ρ n => aLc I G c e vs ρ n fun d n1 => ∃ es, d = .lst es ∧ scAll es = true ∧ i ∈ ow ∧ E.nx (eSet ρ i (some (.lst es))) n1
instance {i : Nat} {wi : TI} {g : TG} {tt : TT} {te : TE} {vs : List Nat} {I : AI} {G : D → Option (List (Nat × D))} {c : AT} {e : AE} [DI K wi I] [DG K g G] [DT K tt c] [DE K te e] : DS K Wx ow (tOwnLc i wi g tt te vs) (aOwnLc ow i I G c e vs) := ⟨fun W U σ ρ n H E Ea hD s h => by
  refine lc_new (K := K) (wi := wi) (g := g) (tt := tt) (te := te) (vs := vs) (I := I) (G := G) (c := c) (e := e) W σ ρ n H (fun v H1 => gName i v σ H1 fun σ' H' => E.nx σ' H') _ ?_ s.opn s.base h
  rintro d n1 ⟨es, rfl, hf, hi, q⟩ H1 v l1 o1 av fresh
  cases av with
  | @lst a us _ nr ha as =>
    have h0 : H a = none := fresh a rfl
    have l3 : W.le H (less H1 a) := fun x ob r e => by
      rw [less_ne (fun z => by rw [z, h0] at e; cases e)]
      exact l1 x ob r e
    have o3 := ok_less o1 ha nr
    obtain ⟨st, s2⟩ := (s.lo l3 o3).new hi less_same (scAll_less ha es hf as)
    rw [less_back ha] at st s2
    exact hD.nx _ _ q _ _ _ ((Stp.hid (lo_le l3)).trans st) s2⟩
noncomputable def tAppO (K : PySem.W.Frag) (i : Nat) (te : TE) : TS := tApp K i te
theorem k_appO {X : Cx} {st : Stmt} {i : Nat} {te : TE} (h : PS X st (tApp K i te)) : PS X st (tAppO K i te) := h
noncomputable def aAppO (ow : List Nat) (i : Nat) (f : AE) : AS := fun E ρ n => match eGet ρ i, ow.contains i with
  | some (.lst ds), true => f ρ n fun d n1 => d.sc = true ∧ ds.length < 1000000 ∧ E.nx (eSet ρ i (some (.lst (ds ++ [d])))) n1
  | _, _ => False
instance {i : Nat} {te : TE} {f : AE} [DE K te f] : DS K Wx ow (tAppO K i te) (aAppO ow i f) := ⟨fun W U σ ρ n H E Ea hD s h => by
  unfold aAppO at h
  split at h
  · rename_i ds he hc
    have hi := List.contains_iff_mem.mp hc
    obtain ⟨u, hu, e1, a⟩ := s.own i _ hi he
    have hp1 := (s.ok.owns _ (List.mem_append_left _ hu)).1
    refine ⟨_, e1, ?_, DE.run (te := te) (f := f) W σ ρ n H _ _ (fun d n1 h1 H1 x l1 o1 ax => ?_) s.opn s.base h⟩
    · obtain ⟨p, ob⟩ := u
      cases a with
      | lst a => exact .inl ⟨rfl, _, SqL.of hp1⟩
    · exact app_run (s.lo l1 o1) hi he h1.2.1 e1 (sc_at h1.1 ax) fun U' H' st s' => hD.nx _ _ h1.2.2 U' σ H' ((Stp.hid (lo_le l1)).trans st) s'
  · exact h.elim⟩
end
/-- plain data, not deep -/
noncomputable def Sd (k : Nat) (d : D) : Prop := d.isD = true ∧ PyData.canLay0 d.pd = true ∧ PyData.depth d.pd ≤ k
theorem Sd.all {k : Nat} : ∀ {ds : List D}, (∀ d ∈ ds, Sd k d) → isDAll ds = true ∧ PyData.canLayAll0 (pdAll ds) = true ∧ PyData.depthAll (pdAll ds) ≤ k
  | [], _ => ⟨rfl, rfl, Nat.zero_le _⟩
  | d :: ds, h => by
    obtain ⟨h1, h2, h3⟩ := Sd.all (ds := ds) fun e he => h e (List.mem_cons_of_mem _ he)
    obtain ⟨g1, g2, g3⟩ := h d List.mem_cons_self
    refine ⟨?_, ?_, ?_⟩
    · show (d.isD && isDAll ds) = true
      rw [g1, h1]; rfl
    · show (PyData.canLay0 d.pd && PyData.canLayAll0 (pdAll ds)) = true
      rw [g2, h2]; rfl
    · show max (PyData.depth d.pd) (PyData.depthAll (pdAll ds)) ≤ k
      exact Nat.max_le.mpr ⟨g3, h3⟩
theorem Sd.tup {k : Nat} {ds : List D} (h : ∀ d ∈ ds, Sd k d) : Sd (k + 1) (.tup ds) := by
  obtain ⟨h1, h2, h3⟩ := Sd.all h
  exact ⟨h1, h2, Nat.succ_le_succ h3⟩
theorem Sd.lst {k : Nat} {ds : List D} (h : ∀ d ∈ ds, Sd k d) : Sd (k + 1) (.lst ds) := by
  obtain ⟨h1, h2, h3⟩ := Sd.all h
  exact ⟨h1, h2, Nat.succ_le_succ h3⟩
theorem Sd.le {k m : Nat} {d : D} (h : Sd k d) (hm : k ≤ m) : Sd m d := ⟨h.1, h.2.1, Nat.le_trans h.2.2 hm⟩
theorem Sd.int {k : Nat} (i : Int) : Sd k (.int i) := ⟨rfl, rfl, Nat.zero_le _⟩
theorem Sd.non {k : Nat} : Sd k .non := ⟨rfl, rfl, Nat.zero_le _⟩
theorem Sd.str {k : Nat} {z : Str} (h : PyData.canLay0 (.str z) = true) : Sd k (.str z) := ⟨rfl, h, Nat.zero_le _⟩
theorem Sd.two {k : Nat} {x y : D} (h1 : Sd k x) (h2 : Sd k y) : Sd (k + 1) (.tup [x, y]) := Sd.tup fun d hd => by
  have : d = x ∨ d = y := by simpa using hd
  rcases this with rfl | rfl
  · exact h1
  · exact h2
theorem Sd.pt {k : Nat} (w : Pt) : Sd (k + 1) (pt w) := Sd.two (Sd.int _) (Sd.int _)
theorem Sd.sh {k : Nat} (x : Rat) : Sd (k + 1) (sh x) := Sd.two (Sd.int _) (Sd.int _)
theorem Sd.spt {k : Nat} (x y : Rat) : Sd (k + 2) (spt x y) := Sd.two (Sd.sh _) (Sd.sh _)
theorem Sd.shaped {k : Nat} {d : D} (h : Sd k d) (hk : k ≤ 64) : SeqAt.shaped d.pd = true := by
  unfold SeqAt.shaped
  exact Bool.and_eq_true_iff.mpr ⟨h.2.1, decide_eq_true (Nat.le_trans h.2.2 hk)⟩
theorem eqv_nil (ds : List D) : PyData.eqv (D.lst ds).pd (D.lst []).pd = ds.isEmpty := by
  show PyData.eqv (.list (pdAll ds)) (.list []) = _
  cases ds with
  | nil => rfl
  | cons d ds => rfl
noncomputable def Apart (b c : Bw) : Prop := ∀ rs, PwOk (waysOf b.cs) (waysOf c.cs) rs → ¬ OverQ b c rs 0
structure Rw1 (k : Nat) (b : Bw) : Prop where
  nm : ∃ z : Str, b.nm = .str z ∧ z.length ≤ 12 ∧ PyData.canLay0 (.str z) = true
  ok : b.ok k 10
  rl : Rl b.rail
  still : b.m = 0 → b.rail = .non ∧ b.x = 0 ∧ b.y = 0
  m0 : 0 ≤ b.m
  m5 : b.m ≤ 5
theorem Rw1.sd {k : Nat} {b : Bw} (h : Rw1 k b) : Sd 3 b.d := Sd.tup fun d hd => by
  obtain ⟨z, e, _, hz⟩ := h.nm
  have : d = b.nm ∨ d = .tup (b.cs.map pt) ∨ d = .int b.m ∨ d = b.rail ∨ d = spt b.px b.py ∨ d = spt b.x b.y := by simpa [Bw.d] using hd
  rcases this with rfl | rfl | rfl | rfl | rfl | rfl
  · rw [e]
    exact Sd.str hz
  · refine Sd.tup fun d hd => ?_
    obtain ⟨w, _, rfl⟩ := List.mem_map.mp hd
    exact Sd.pt w
  · exact Sd.int _
  · rcases h.rl with e | ⟨w, e, _⟩
    · rw [e]; exact Sd.non
    · rw [e]; exact Sd.pt w
  · exact Sd.spt _ _
  · exact Sd.spt _ _
theorem pts_sc : ∀ cs : List Pt, scAll (cs.map pt) = true
  | [] => rfl
  | c :: cs => by
    show ((pt c).sc && scAll (cs.map pt)) = true
    rw [pts_sc cs]
    rfl
theorem Rw1.sc {k : Nat} {b : Bw} (h : Rw1 k b) : b.d.sc = true := by
  obtain ⟨z, e, _⟩ := h.nm
  have e2 : b.rail.sc = true := by
    rcases h.rl with e | ⟨w, e, _⟩
    · rw [e]; rfl
    · rw [e]; rfl
  show (b.nm.sc && (scAll (b.cs.map pt) && (true && (b.rail.sc && ((spt b.px b.py).sc && ((spt b.x b.y).sc && true)))))) = true
  rw [e, pts_sc, e2]
  rfl
theorem Rw1.le {k m : Nat} {b : Bw} (h : Rw1 k b) (hk : k ≤ m) : Rw1 m b := ⟨h.nm, ⟨h.ok.1, h.ok.2.1.le hk, h.ok.2.2.1.le hk, h.ok.2.2.2.1, h.ok.2.2.2.2⟩, h.rl, h.still, h.m0, h.m5⟩
structure Scn (k : Nat) (bs : List Bw) : Prop where
  row : ∀ b ∈ bs, Rw1 k b
  nd : (bs.map Bw.nm).Nodup
  apart : ∀ b ∈ bs, ∀ c ∈ bs, b.nm ≠ c.nm → ¬ (b.m = 0 ∧ c.m = 0) → Apart b c ∨ Apart c b
theorem rows_sc {k : Nat} : ∀ {bs : List Bw}, (∀ b ∈ bs, Rw1 k b) → scAll (bs.map Bw.d) = true
  | [], _ => rfl
  | b :: bs, h => by
    show (b.d.sc && scAll (bs.map Bw.d)) = true
    rw [(h b List.mem_cons_self).sc, rows_sc fun c hc => h c (List.mem_cons_of_mem _ hc)]
    rfl
theorem Scn.le {k m : Nat} {bs : List Bw} (h : Scn k bs) (hk : k ≤ m) : Scn m bs := ⟨fun b hb => (h.row b hb).le hk, h.nd, h.apart⟩
theorem Scn.sd {k : Nat} {bs : List Bw} (h : Scn k bs) : Sd 4 (.lst (bs.map Bw.d)) := Sd.lst fun d hd => by
  obtain ⟨b, hb, rfl⟩ := List.mem_map.mp hd
  exact (h.row b hb).sd
theorem Scn.add {k m : Nat} {bs : List Bw} {b : Bw} (h : Scn k bs) (hb : Rw1 m b) (hk : k ≤ m) (hne : ∀ c ∈ bs, c.nm ≠ b.nm ∧ Apart c b) : Scn m (bs ++ [b]) := by
  refine ⟨fun c hc => ?_, ?_, fun c hc d hd ne hm => ?_⟩
  · rcases List.mem_append.mp hc with z | z
    · exact (h.row c z).le hk
    · rw [List.mem_singleton.mp z]; exact hb
  · rw [List.map_append, List.nodup_append]
    refine ⟨h.nd, by simp, fun x hx y hy => ?_⟩
    obtain ⟨c, hc, rfl⟩ := List.mem_map.mp hx
    rw [List.map_cons, List.map_nil, List.mem_singleton] at hy
    rw [hy]
    exact (hne c hc).1
  · rcases List.mem_append.mp hc with z | z <;> rcases List.mem_append.mp hd with y | y
    · exact h.apart c z d y ne hm
    · rw [List.mem_singleton.mp y]; exact .inl (hne c z).2
    · rw [List.mem_singleton.mp z]; exact .inr (hne d y).2
    · exact absurd (by rw [List.mem_singleton.mp z, List.mem_singleton.mp y]) ne
theorem Scn.again {k : Nat} {bs : List Bw} {x : Bw} {nn : D} (h : Scn k bs) (hx : x ∈ bs) (h0 : x.m = 0) (hn : ∀ b ∈ bs, b.nm ≠ nn) (hr : Rw1 k ({ x with nm := nn } : Bw)) : Scn k (bs ++ [({ x with nm := nn } : Bw)]) := by
  have key : ∀ c ∈ bs, ¬ c.m = 0 → Apart c x ∨ Apart x c := fun c hc hm => by
    refine h.apart c hc x hx (fun z => ?_) fun z => hm z.1
    have : c = x := by
      have nd := h.nd
      clear hr hn
      induction bs with
      | nil => cases hc
      | cons a bs ih =>
        rw [List.map_cons, List.nodup_cons] at nd
        rcases List.mem_cons.mp hc with rfl | hc' <;> rcases List.mem_cons.mp hx with rfl | hx'
        · rfl
        · exact absurd (by rw [z]; exact List.mem_map.mpr ⟨x, hx', rfl⟩) nd.1
        · exact absurd (by rw [← z]; exact List.mem_map.mpr ⟨c, hc', rfl⟩) nd.1
        · exact ih ⟨fun b hb => h.row b (List.mem_cons_of_mem _ hb), nd.2, fun b hb c hc => h.apart b (List.mem_cons_of_mem _ hb) c (List.mem_cons_of_mem _ hc)⟩ hx' hc' nd.2
    exact hm (this ▸ h0)
  refine ⟨fun c hc => ?_, ?_, fun c hc d hd ne hm => ?_⟩
  · rcases List.mem_append.mp hc with z | z
    · exact h.row c z
    · rw [List.mem_singleton.mp z]; exact hr
  · rw [List.map_append, List.nodup_append]
    refine ⟨h.nd, by simp, fun a ha y hy => ?_⟩
    obtain ⟨c, hc, rfl⟩ := List.mem_map.mp ha
    rw [List.map_cons, List.map_nil, List.mem_singleton] at hy
    rw [hy]
    exact hn c hc
  · rcases List.mem_append.mp hc with z | z <;> rcases List.mem_append.mp hd with y | y
    · exact h.apart c z d y ne hm
    · rw [List.mem_singleton.mp y] at hm ⊢
      exact key c z fun e => hm ⟨e, h0⟩
    · rw [List.mem_singleton.mp z] at hm ⊢
      exact (key d y fun e => hm ⟨h0, e⟩).symm
    · exact absurd (by rw [List.mem_singleton.mp z, List.mem_singleton.mp y]) ne
noncomputable def rwOf (b : Bw) : Rw := (nmS b.nm, [.tup (b.cs.map pt), .int b.m, b.rail, spt b.px b.py, spt b.x b.y])
theorem rw_of {k : Nat} {b : Bw} (h : Rw1 k b) : rowT (rwOf b) = b.d := by
  obtain ⟨z, e, _⟩ := h.nm
  unfold rowT rwOf Bw.d
  rw [e]
  rfl
theorem perm_map_inv {α β : Type} {f : α → β} {l : List α} {rs : List β} (h : rs.Perm (l.map f)) : ∃ ds : List α, ds.Perm l ∧ rs = ds.map f := by
  generalize hm : l.map f = ms at h
  induction h generalizing l with
  | nil => exact ⟨[], by rw [List.map_eq_nil_iff.mp hm], rfl⟩
  | cons x h ih =>
    cases l with
    | nil => cases hm
    | cons a l =>
      obtain ⟨e1, e2⟩ := List.cons.inj hm
      obtain ⟨ds, h1, h2⟩ := ih e2
      exact ⟨a :: ds, h1.cons a, by rw [List.map_cons, e1, h2]⟩
  | swap x y l' =>
    match l, hm with
    | a :: b :: l, hm =>
      obtain ⟨e1, e2⟩ := List.cons.inj hm
      obtain ⟨e3, e4⟩ := List.cons.inj e2
      exact ⟨b :: a :: l, List.Perm.swap _ _ _, by rw [List.map_cons, List.map_cons, e1, e3, e4]⟩
  | trans h1 h2 ih1 ih2 =>
    obtain ⟨ds, g1, g2⟩ := ih2 hm
    obtain ⟨es, g3, g4⟩ := ih1 g2.symm
    exact ⟨es, g3.trans g1, g4⟩
theorem Scn.perm {k : Nat} {bs cs : List Bw} (h : Scn k bs) (hp : cs.Perm bs) : Scn k cs := ⟨fun b hb => h.row b (hp.mem_iff.mp hb), (hp.map Bw.nm).nodup_iff.mpr h.nd, fun b hb c hc => h.apart b (hp.mem_iff.mp hb) c (hp.mem_iff.mp hc)⟩
noncomputable def a_l_scene : ASp := fun ds n Q => ∃ k : Int, ds = [.deck, .int k] ∧ 1 ≤ k ∧ k ≤ 5 ∧ 500 ≤ n ∧ ∀ (bs : List Bw) (n' : Nat), Scn 500 bs → bs ≠ [] → bs.length ≤ 6 → (bs.length < 2 → ∀ b ∈ bs, b.nm ≠ .str (Str.ofString "again")) → n ≤ n' + 460 → Q (.tup (bs.map Bw.d)) n'
theorem ok_l_scene (T : Tx K mg A) : FnOk P w K mg base CX0 9 A.f_l_scene A.fd_l_scene ["_law_deck", "_law_many"] (spOf K 2 a_l_scene) := by
  refine fn_mir [2, 5] 7 rfl (by decide) (by decide) T.F_l_scene sc_l_scene fun cdv Ar outer s H E hr => ?_
  refine ⟨_, _, (pss_cons (k_own (ps_set (i := 2) sc_l_scene.nd rfl (.inl rfl) (pe_lst pa_nil)))
    (pss_cons (ps_for PassesOwn.never rfl (pi_range1 (by rfl) T.m_range (pa_cons (pe_op (k_add (K := K) rfl) pe_int (pe_call (ok_l_take (P := P) (K := K) T) (hr.mono (by decide)) (by rfl) T.g_l_take T.F_l_take.kp T.b_l_take .nil pass0 (pa_cons (pv 0) (pa_cons (pv 1) pa_nil)))) pa_nil)) (pg_name (i := 3) sc_l_scene.nd rfl (.inl rfl))
      (pss_cons (ps_set (i := 4) sc_l_scene.nd rfl (.inr rfl) (pe_call (ok_l_drawn_row (P := P) (K := K) T) (hr.mono (by decide)) (by rfl) T.g_l_drawn_row T.F_l_drawn_row.kp T.b_l_drawn_row .nil pass0 (pa_cons (pv 0) (pa_cons (pe_call (ok_l_drawn_shape (P := P) (K := K) T) (hr.mono (by decide)) (by rfl) T.g_l_drawn_shape T.F_l_drawn_shape.kp T.b_l_drawn_shape .nil pass0 (pa_cons (pv 0) (pa_cons pe_int pa_nil))) (pa_cons (pe_tup (pa_cons (pe_call (ok_l_drawn_size (P := P) (K := K) T) (hr.mono (by decide)) (by rfl) T.g_l_drawn_size T.F_l_drawn_size.kp T.b_l_drawn_size .nil pass0 (pa_cons (pv 0) (pa_cons pe_int pa_nil))) (pa_cons (pe_call (ok_l_drawn_size (P := P) (K := K) T) (hr.mono (by decide)) (by rfl) T.g_l_drawn_size T.F_l_drawn_size.kp T.b_l_drawn_size .nil pass0 (pa_cons (pv 0) (pa_cons pe_int pa_nil))) pa_nil))) pa_nil)))))
    (pss_cons (ps_if (pt_cmpR (k_ne (K := K) rfl hr.units) (pv 2) (pe_lst pa_nil) (nomark _))
      (pss_one (ps_set (i := 4) sc_l_scene.nd rfl (.inr rfl) (k_open (pe_call (ok_l_beside (P := P) (K := K) T) (hr.mono (by decide)) (by rfl) T.g_l_beside T.F_l_beside.kp T.b_l_beside .nil pass0 (pa_cons (pv 0) (pa_cons (pe_ix (k_ixS (K := K) rfl) (pv 2) (pe_call (ok_l_take (P := P) (K := K) T) (hr.mono (by decide)) (by rfl) T.g_l_take T.F_l_take.kp T.b_l_take .nil pass0 (pa_cons (pv 0) (pa_cons (pe_callB (k_len (K := K) rfl) (by rfl) T.m_len (by decide +kernel) (pa_cons (pv 2) pa_nil)) pa_nil))) (fun _ _ => rfl)) (pa_cons (pv 4) pa_nil)))))))
      pss_nil)
    (pss_one (ps_if (pt_cmpR (k_eq (K := K) rfl hr.units) (pe_lc (own := [("_law_a", 6)]) rfl sc_l_scene.nd (k_iter (K := K) rfl (pv 2)) (blkOk_by (own := [("_law_a", 6)]) (N := ["_law_deck", "_law_many", "_law_rows", "_law_turn", "_law_row", "_law_still", "_law_a"]) (sc := defScope s_l_scene) (by decide +kernel)) (fun _ _ _ _ _ => (pg_name (i := 6) sc_l_scene.nd rfl (Or.inl rfl))) (fun _ _ _ _ _ => (pts_one (PW.pt (pw_or (pt_cmpR (k_eq (K := K) rfl hr.units) (pe_ix (k_ix (K := K) rfl) (pv 6) pe_int (fun _ _ => rfl)) (pe_ix (k_ix (K := K) rfl) (pv 4) pe_int (fun _ _ => rfl)) (nomark _)) (pw_or1 (pt_val (pe_call (ok_l_over (P := P) (K := K) T) (hr.mono (by decide)) (by rfl) T.g_l_over T.F_l_over.kp T.b_l_over .nil pass0 (pa_cons (pv 6) (pa_cons (pv 4) (pa_cons (pe_tup (pa_cons pe_int (pa_cons pe_int pa_nil))) pa_nil)))))))))) (fun _ _ _ _ _ => (pv 6))) (pe_lst pa_nil) (nomark _))
      (pss_one (k_app (K := K) rfl (ps_expr (pe_bm PySem.F.plainAttrs_list PySem.F.slot_list_append PySem.F.type_list_append mt_append (pv 2) (pa_cons (pv 4) pa_nil)))))
      pss_nil)))))
    (pss_cons (k_ownLc (ps_setLc (i := 5) (own := [("_law_row", 4)]) rfl sc_l_scene.nd rfl rfl (sw_true rfl rfl rfl (by decide +kernel)) (k_iter (K := K) rfl (pv 2)) (blkOk_by (own := [("_law_row", 4)]) (N := ["_law_deck", "_law_many", "_law_rows", "_law_turn", "_law_row", "_law_still", "_law_a"]) (sc := defScope s_l_scene) (by decide +kernel)) (fun _ _ _ _ _ => (pg_name (i := 4) sc_l_scene.nd rfl (Or.inl rfl))) (fun _ _ _ _ _ => (pts_one (pt_cmpR (k_eq (K := K) rfl hr.units) (pe_ix (k_ix (K := K) rfl) (pv 4) pe_int (fun _ _ => rfl)) pe_int (nomark _)))) (fun _ _ _ _ _ => (pv 4))))
    (pss_cons (ps_if (PW.pt (pw_and (pt_cmpR op_gt (pe_callB (k_len (K := K) rfl) (by rfl) T.m_len (by decide +kernel) (pa_cons (pv 5) pa_nil)) pe_int (nomark _)) (pw_and1 (pt_cmpR (k_eq (K := K) rfl hr.units) (pe_call (ok_l_take (P := P) (K := K) T) (hr.mono (by decide)) (by rfl) T.g_l_take T.F_l_take.kp T.b_l_take .nil pass0 (pa_cons (pv 0) (pa_cons pe_int pa_nil))) pe_int (nomark _)))))
      (pss_one (k_appO (K := K) (k_app (K := K) rfl (ps_expr (pe_bm PySem.F.plainAttrs_list PySem.F.slot_list_append PySem.F.type_list_append mt_append (pv 2) (pa_cons (pe_op (k_add (K := K) rfl) (pe_tup (pa_cons pe_str pa_nil)) (pe_slice (k_sl (K := K) rfl) (pe_ix (k_ix (K := K) rfl) (pv 5) pe_int (fun _ _ => rfl)) (po_some pe_int) po_none)) pa_nil))))))
      pss_nil)
    (pss_one (ps_ret (pe_callTy (k_tuple (K := K) rfl) (by rfl) T.m_tuple (by decide +kernel) (pa_cons (pe_callB (k_sortR (K := K) rfl) (by rfl) T.m_sorted (by decide +kernel) (pa_cons (pv 2) pa_nil)) pa_nil)))))))), by infer_instance, fun ds n Q hl hA => ?_⟩
  obtain ⟨k, rfl, hk1, hk5, hn, q⟩ := hA
  refine ⟨k, rfl, by omega, small_log (by omega) (by omega), by omega, fun t lt ut => ?_⟩
  obtain ⟨J, hJ⟩ := Int.eq_ofNat_of_zero_le (show 0 ≤ 1 + t by omega)
  refine ⟨⟨by omega, by omega⟩, ?_⟩
  refine aFor_ind (fun ds ρ m => ∃ (bs : List Bw) (L : List D) (y3 y4 y5 y6 : Option D), ρ = [some .deck, some (.int k), some (.lst L), y3, y4, y5, y6] ∧ L = bs.map Bw.d ∧ Scn (5 + 90 * (5 - ds.length)) bs ∧ bs.length + ds.length ≤ 5 ∧ (bs = [] → 0 < ds.length) ∧ (∀ b ∈ bs, b.nm ≠ .str (Str.ofString "again")) ∧ n ≤ m + 1 + 90 * (5 - ds.length)) ?_ ?_ ⟨[], [], none, none, none, none, rfl, rfl, ⟨(fun b hb => by cases hb), List.nodup_nil, fun b hb => by cases hb⟩, by rw [rangeD_length]; simp; omega, fun _ => by rw [rangeD_length]; omega, (fun b hb => by cases hb), by omega⟩
  · rintro d r _ m ⟨bs, _, y3, y4, y5, y6, rfl, rfl, hsc, hl, hne, hag, hm⟩ ih
    rw [List.length_cons] at hsc hl hm
    refine ⟨3, rfl, by decide, by decide, by omega, fun cs n1 hcs h1 => ?_⟩
    refine ⟨9, rfl, by decide, by decide, by omega, fun px bpx => ⟨9, rfl, by decide, by decide, by omega, fun py bpy => ?_⟩⟩
    refine ⟨cs, px, py, rfl, by omega, fun b z n2 e1 e2 e3 e4 hz hz5 hzc hrl hst hm0 hm5 bx by' h2 => ?_⟩
    refine ⟨⟨hsc.sd.1, rfl, hsc.sd.shaped (by decide), rfl⟩, ?_⟩
    have hE : PyData.eqv (D.lst (bs.map Bw.d)).pd (D.lst []).pd = bs.isEmpty := (eqv_nil _).trans (by cases bs <;> rfl)
    refine (show aIte (not (PyData.eqv (D.lst (bs.map Bw.d)).pd (D.lst []).pd)) _ _ from ?_)
    rw [hE]
    rcases Nat.eq_zero_or_pos bs.length with h00 | hl0
    · obtain rfl := List.eq_nil_of_length_eq_zero h00
      have hrb : Rw1 (5 + 90 * (5 - r.length)) b := ⟨⟨z, e1, hz, hzc⟩, ⟨e2 ▸ hcs, (e3 ▸ bpx : BdQ 4 b.px).le (by omega), (e4 ▸ bpy : BdQ 4 b.py).le (by omega), bx, by'⟩, hrl, hst, hm0, hm5⟩
      refine aF ?_
      refine ⟨Nat.zero_le _, ?_⟩
      refine ⟨⟨rfl, rfl, rfl, rfl⟩, aT ?_⟩
      refine ⟨show 0 < 1000000 by decide, ih _ _ ⟨[b], _, _, _, _, _, rfl, rfl, ⟨(fun c hc => by rw [List.mem_singleton.mp hc]; exact hrb), by simp, fun c hc d hd ne => absurd (by rw [List.mem_singleton.mp hc, List.mem_singleton.mp hd]) ne⟩, by simp at hl ⊢; omega, (fun h => by cases h), (fun c hc => by rw [List.mem_singleton.mp hc, e1]; exact fun h => hz5 (D.str.inj h)), by omega⟩⟩
    · have hbe : bs.isEmpty = false := by cases bs; simp at hl0; rfl
      rw [hbe]
      refine aT ?_
      refine ⟨((bs.map Bw.d).length : Int), rfl, by rw [List.length_map]; omega, small_log (by rw [List.length_map]; omega) (by rw [List.length_map]; omega), by omega, fun i li ui => ?_⟩
      refine aIx_all li ui fun d hd => ?_
      obtain ⟨c, hc, rfl⟩ := List.mem_map.mp hd
      have hrc := hsc.row c hc
      refine ⟨c, b, _, rfl, hrc.ok.1, e2 ▸ hcs, hrc.ok.2.1, hrc.ok.2.2.1, by omega, by omega, fun qx qy n3 bq1 bq2 h3 => ?_⟩
      have hrb : Rw1 (5 + 90 * (5 - (r.length + 1)) + 90) ({ b with px := qx, py := qy } : Bw) := ⟨⟨z, e1, hz, hzc⟩, ⟨e2 ▸ hcs, bq1, bq2, bx, by'⟩, hrl, hst, hm0, hm5⟩
      generalize hb' : ({ b with px := qx, py := qy } : Bw) = b' at hrb
      have e1' : b'.nm = .str z := by rw [← hb']; exact e1
      clear hb' bq1 bq2
      obtain ⟨bn, bc, bm, br, bpx, bpy, bvx, bvy⟩ := b'
      obtain rfl : bn = .str z := e1'
      refine (show (match (⟨.str z, bc, bm, br, bpx, bpy, bvx, bvy⟩ : Bw).d.sc with
        | true => _
        | false => False) from ?_)
      rw [hrb.sc]
      refine ⟨by rw [List.length_map]; omega, ?_⟩
      refine aLc_ind (fun acc ds j => j = n3 ∧ ∃ us vs xs : List Bw, bs = us ++ vs ∧ ds = vs.map Bw.d ∧ acc = xs.map Bw.d ∧ (∀ x ∈ xs, x ∈ bs) ∧ (xs = [] → ∀ c ∈ us, c.nm ≠ (⟨.str z, bc, bm, br, bpx, bpy, bvx, bvy⟩ : Bw).nm ∧ Apart c (⟨.str z, bc, bm, br, bpx, bpy, bvx, bvy⟩ : Bw))) ?_ ?_ ⟨rfl, [], bs, [], rfl, rfl, rfl, (fun x hx => by cases hx), fun _ c hc => by cases hc⟩
      · rintro acc d r' j ⟨rfl, us, vs, xs, e0, e, rfl, hxs, hun⟩ ih'
        cases vs with
        | nil => cases e
        | cons v vs =>
        obtain ⟨rfl, rfl⟩ := List.cons.inj e
        have hv : v ∈ bs := by rw [e0]; exact List.mem_append_right _ List.mem_cons_self
        have hrv := hsc.row v hv
        obtain ⟨zv, ev, _, _⟩ := hrv.nm
        have take1 : ∀ x ∈ xs ++ [v], x ∈ bs := fun x hx => by
          rcases List.mem_append.mp hx with y | y
          · exact hxs x y
          · rw [List.mem_singleton.mp y]; exact hv
        obtain ⟨vn, vc, vm, vr, vpx, vpy, vx, vy⟩ := v
        obtain rfl : vn = .str zv := ev
        refine dIte (p := zv = z) (fun heq => ?_) fun hneq => ?_
        · exact aT (ih' _ _ ⟨rfl, us ++ [(⟨.str zv, vc, vm, vr, vpx, vpy, vx, vy⟩ : Bw)], vs, xs ++ [(⟨.str zv, vc, vm, vr, vpx, vpy, vx, vy⟩ : Bw)], by rw [e0]; simp, rfl, by rw [List.map_append]; rfl, take1, fun h => by simp at h⟩)
        · obtain ⟨rs, hpw⟩ : ∃ rs, PwOk (waysOf (⟨.str zv, vc, vm, vr, vpx, vpy, vx, vy⟩ : Bw).cs) (waysOf (⟨.str z, bc, bm, br, bpx, bpy, bvx, bvy⟩ : Bw).cs) rs := pw_ex _ _
          refine ⟨(⟨.str zv, vc, vm, vr, vpx, vpy, vx, vy⟩ : Bw), (⟨.str z, bc, bm, br, bpx, bpy, bvx, bvy⟩ : Bw), 0, _, 10, _, 10, 1, rs, rfl, hrv.ok, hrb.ok, bdq0, by omega, hpw, fun hy => ?_, fun hno => ?_⟩
          · exact aT (ih' _ _ ⟨rfl, us ++ [(⟨.str zv, vc, vm, vr, vpx, vpy, vx, vy⟩ : Bw)], vs, xs ++ [(⟨.str zv, vc, vm, vr, vpx, vpy, vx, vy⟩ : Bw)], by rw [e0]; simp, rfl, by rw [List.map_append]; rfl, take1, fun h => by simp at h⟩)
          · refine aF (ih' _ _ ⟨rfl, us ++ [(⟨.str zv, vc, vm, vr, vpx, vpy, vx, vy⟩ : Bw)], vs, xs, by rw [e0]; simp, rfl, rfl, hxs, fun h c hc => ?_⟩)
            rcases List.mem_append.mp hc with y | y
            · exact hun h c y
            · rw [List.mem_singleton.mp y]
              refine ⟨fun z => hneq ?_, fun rs' hp' => by rw [hp'.uniq hpw]; exact hno⟩
              exact D.str.inj z
      · rintro acc j ⟨rfl, us, vs, xs, e0, e, rfl, hxs, hun⟩
        cases vs with
        | cons v vs => cases e
        | nil =>
        rw [List.append_nil] at e0
        subst e0
        have sdx : Sd 4 (.lst (xs.map Bw.d)) := Sd.lst fun d hd => by
          obtain ⟨x, hx, rfl⟩ := List.mem_map.mp hd
          exact (hsc.row x (hxs x hx)).sd
        refine ⟨⟨sdx.1, rfl, sdx.shaped (by decide), rfl⟩, ?_⟩
        refine (show aIte (id (PyData.eqv (D.lst (xs.map Bw.d)).pd (D.lst []).pd)) _ _ from ?_)
        rw [eqv_nil]
        cases xs with
        | nil =>
          refine aT ?_
          refine ⟨by rw [List.length_map]; omega, ih _ _ ⟨bs ++ [(⟨.str z, bc, bm, br, bpx, bpy, bvx, bvy⟩ : Bw)], _, _, _, _, _, rfl, by rw [List.map_append]; rfl, (hsc.add hrb (by omega) (hun rfl)).le (by omega), by rw [List.length_append, List.length_singleton]; omega, fun h => by simp at h, fun c hc => ?_, by omega⟩⟩
          rcases List.mem_append.mp hc with y | y
          · exact hag c y
          · rw [List.mem_singleton.mp y]
            exact fun h => hz5 (D.str.inj h)
        | cons x xs =>
          exact aF (ih _ _ ⟨bs, _, _, _, _, _, rfl, rfl, hsc.le (by omega), by omega, fun h => by rw [h] at hl0; simp at hl0, hag, by omega⟩)
  · rintro _ m ⟨bs, _, y3, y4, y5, y6, rfl, rfl, hsc, hl, hne, hag, hm⟩
    have hb0 : bs ≠ [] := fun h => absurd (hne h) (by decide)
    simp only [List.length_nil, Nat.sub_zero, Nat.add_zero] at hsc hl hm
    refine ⟨by rw [List.length_map]; omega, ?_⟩
    refine aLc_ind (fun acc ds j => j = m ∧ ∃ us vs xs : List Bw, bs = us ++ vs ∧ ds = vs.map Bw.d ∧ acc = xs.map Bw.d ∧ (∀ x ∈ xs, x ∈ bs ∧ x.m = 0) ∧ xs.length ≤ us.length) ?_ ?_ ⟨rfl, [], bs, [], rfl, rfl, rfl, (fun x hx => by cases hx), Nat.le_refl _⟩
    · rintro acc d r' j ⟨rfl, us, vs, xs, e0, e, rfl, hxs, hxl⟩ ih'
      cases vs with
      | nil => cases e
      | cons v vs =>
      obtain ⟨rfl, rfl⟩ := List.cons.inj e
      have hv : v ∈ bs := by rw [e0]; exact List.mem_append_right _ List.mem_cons_self
      refine dIte (fun hm0 => ?_) fun hm0 => ?_
      · refine ih' _ _ ⟨rfl, us ++ [v], vs, xs ++ [v], by rw [e0]; simp, rfl, by rw [List.map_append]; rfl, fun x hx => ?_, by rw [List.length_append, List.length_append]; simp; omega⟩
        rcases List.mem_append.mp hx with y | y
        · exact hxs x y
        · rw [List.mem_singleton.mp y]; exact ⟨hv, hm0⟩
      · exact ih' _ _ ⟨rfl, us ++ [v], vs, xs, by rw [e0]; simp, rfl, rfl, hxs, by rw [List.length_append]; simp; omega⟩
    · rintro acc j ⟨rfl, us, vs, xs, e0, e, rfl, hxs, hxl⟩
      refine ⟨xs.map Bw.d, rfl, rows_sc fun x hx => (hsc.row x (hxs x hx).1), by decide, ?_⟩
      have hsc5 : Scn 500 bs := hsc.le (by decide)
      have keep : ∀ cs : List Bw, Scn 500 cs → cs ≠ [] → cs.length ≤ 6 → (cs.length < 2 → ∀ b ∈ cs, b.nm ≠ .str (Str.ofString "again")) → ∀ n', n ≤ n' + 460 → aSrtR [.lst (cs.map Bw.d)] n' fun d n'' => aTupOf [d] n'' Q := fun cs hcs h0 h6 hag' n' hn' => by
        refine ⟨cs.map rwOf, by rw [List.map_map]; exact congrArg (fun l => [D.lst l]) (List.map_congr_left fun b hb => (rw_of (hcs.row b hb)).symm), ?_, fun rs hp ho => ?_⟩
        · rw [List.map_map]
          refine List.pairwise_map.mpr ((List.pairwise_map.mp hcs.nd).imp_of_mem fun {x y} hx hy hne z => hne ?_)
          obtain ⟨zx, ex, _⟩ := (hcs.row x hx).nm
          obtain ⟨zy, ey, _⟩ := (hcs.row y hy).nm
          have z' : nmS x.nm = nmS y.nm := z
          rw [ex, ey] at z' ⊢
          exact congrArg D.str z'
        · obtain ⟨ds, hd1, hd2⟩ : ∃ ds : List Bw, ds.Perm cs ∧ rs = ds.map rwOf := perm_map_inv hp
          subst hd2
          have e : (ds.map rwOf).map rowT = ds.map Bw.d := by
            rw [List.map_map]
            exact List.map_congr_left fun b hb => rw_of (hcs.row b (hd1.mem_iff.mp hb))
          rw [e]
          exact q ds n' (hcs.perm hd1) (fun z => h0 (by rw [z] at hd1; exact hd1.symm.eq_nil)) (by rw [hd1.length_eq]; exact h6) (fun h b hb => hag' (by rw [← hd1.length_eq]; exact h) b (hd1.mem_iff.mp hb)) hn'
      cases xs with
      | nil =>
        refine dIte (p := (0 : Int) < 0) (fun h => absurd h (by decide)) fun _ => aF ?_
        exact keep bs hsc5 hb0 (by omega) (fun _ => hag) j (by omega)
      | cons x xs =>
        obtain ⟨hxb, hx0⟩ := hxs x List.mem_cons_self
        have hrx := hsc5.row x hxb
        refine dIte (fun _ => ?_) (fun h => absurd (show (0 : Int) < (((x :: xs).map Bw.d).length : Int) by rw [List.map_cons, List.length_cons]; omega) h)
        refine ⟨3, rfl, by decide, by decide, by omega, fun t3 l3 u3 => ?_⟩
        refine dIte (fun h => ?_) fun h => ?_
        · have hnew : Rw1 500 ({ x with nm := .str (Str.ofString "again") } : Bw) := ⟨⟨_, rfl, by decide +kernel, by decide +kernel⟩, hrx.ok, hrx.rl, hrx.still, hrx.m0, hrx.m5⟩
          have ex : atI ((x :: xs).map Bw.d) 0 = some x.d := atI_nat (j := 0) rfl
          refine (show (match atI (List.map Bw.d (x :: xs)) 0 with
            | some d => _
            | none => False) from ?_)
          rw [ex]
          refine ⟨fun z => absurd z.1 (show ¬ HT.sIx 6 0 (some 1) = 0 by decide), List.cons_ne_nil _ _, show 1 + 5 ≤ 1000000 by decide, hnew.sc, by rw [List.length_map]; omega, ?_⟩
          have := keep (bs ++ [({ x with nm := .str (Str.ofString "again") } : Bw)]) (hsc5.again hxb hx0 hag hnew) (by simp) (by rw [List.length_append, List.length_singleton]; omega) (fun h => absurd h (by rw [List.length_append, List.length_singleton]; have := List.length_pos_of_mem hxb; omega)) (j - 1) (by omega)
          rw [List.map_append] at this
          exact this
        · exact keep bs hsc5 hb0 (by omega) (fun _ => hag) _ (by omega)
/-! CUT -/
/-! ### pairs of rows, meetings -/
/-! ### one time of meeting -/
theorem Apart.sym {b c : Bw} (h : Apart c b) : Apart b c := fun rs hp ho => by
  obtain ⟨rs', hp'⟩ := pw_ex (waysOf c.cs) (waysOf b.cs)
  refine h rs' hp' fun w hw => ?_
  have h1 : ngP w ∈ rs := (hp.mem _).mpr (by
    rcases (hp'.mem w).mp hw with z | z
    · right
      rw [ngP_ngP]
      exact z
    · exact .inl z)
  have := ho _ h1
  rw [← gapQ_sym, ngP_ngP] at this
  exact this
noncomputable def prOk (b c : Bw) : Prop := b.m > 0 ∨ c.m > 0
instance (b c : Bw) : Decidable (prOk b c) := by unfold prOk; infer_instance
noncomputable def prsB : List Bw → List (Bw × Bw)
  | [] => []
  | b :: r => (r.filter fun c => decide (prOk b c)).map (fun c => (b, c)) ++ prsB r
noncomputable def prBD (p : Bw × Bw) : D := .tup [p.1.d, p.2.d]
theorem prsB_len : ∀ bs : List Bw, (prsB bs).length ≤ bs.length * bs.length
  | [] => Nat.le_refl _
  | b :: r => by
    show ((r.filter fun c => decide (prOk b c)).map (fun c => (b, c)) ++ prsB r).length ≤ (r.length + 1) * (r.length + 1)
    rw [List.length_append, List.length_map]
    have h1 := List.length_filter_le (fun c => decide (prOk b c)) r
    have h2 := prsB_len r
    have : (r.length + 1) * (r.length + 1) = r.length * r.length + r.length + r.length + 1 := by rw [Nat.add_mul, Nat.mul_add]; omega
    omega
theorem prsB_mem : ∀ {bs : List Bw} {p : Bw × Bw}, p ∈ prsB bs → (bs.map Bw.nm).Nodup → p.1 ∈ bs ∧ p.2 ∈ bs ∧ p.1.nm ≠ p.2.nm ∧ prOk p.1 p.2
  | [], p, h, _ => by cases h
  | b :: r, p, h, nd => by
    rw [List.map_cons, List.nodup_cons] at nd
    rcases List.mem_append.mp h with z | z
    · obtain ⟨c, hc, rfl⟩ := List.mem_map.mp z
      obtain ⟨h1, h2⟩ := List.mem_filter.mp hc
      exact ⟨List.mem_cons_self, List.mem_cons_of_mem _ h1, fun e => nd.1 (by rw [show b.nm = c.nm from e]; exact List.mem_map.mpr ⟨c, h1, rfl⟩), of_decide_eq_true h2⟩
    · obtain ⟨h1, h2, h3, h4⟩ := prsB_mem (bs := r) z nd.2
      exact ⟨List.mem_cons_of_mem _ h1, List.mem_cons_of_mem _ h2, h3, h4⟩
theorem cut_from {xs : List D} {k : Nat} (h : k ≤ xs.length) : cutL xs (some (k : Int)) none = xs.drop k := by
  unfold cutL
  have e : HT.sIx xs.length 0 (some (k : Int)) = k := by
    unfold HT.sIx
    simp only [Int.natCast_nonneg]
    split <;> omega
  rw [HT.sIx_none, e, ← List.length_drop, List.take_length]
theorem filt_y {v x : Bw} {ws : List Bw} (h : prOk v x) : (ws ++ [x]).filter (fun c => decide (prOk v c)) = ws.filter (fun c => decide (prOk v c)) ++ [x] := by
  rw [List.filter_append, List.filter_cons_of_pos (p := fun c => decide (prOk v c)) (decide_eq_true h), List.filter_nil]
theorem filt_n {v x : Bw} {ws : List Bw} (h : ¬ prOk v x) : (ws ++ [x]).filter (fun c => decide (prOk v c)) = ws.filter (fun c => decide (prOk v c)) := by
  rw [List.filter_append, List.filter_cons_of_neg (p := fun c => decide (prOk v c)) (by rw [decide_eq_true_eq]; exact h), List.filter_nil, List.append_nil]
noncomputable def a_p_pairs : ASp := fun ds n Q => ∃ bs : List Bw, ds = [.tup (bs.map Bw.d)] ∧ bs.length ≤ 100 ∧ Q (.lst ((prsB bs).map prBD)) n
theorem ok_p_pairs (T : Tx K mg A) : FnOk P w K mg base CX0 1 A.f_p_pairs A.fd_p_pairs ["rows"] (spOf K 1 a_p_pairs) := by
  refine fn_mir [1] 5 rfl (by decide) (by decide) T.F_p_pairs sc_p_pairs fun cdv Ar outer s H E hr => ?_
  refine ⟨_, _, (pss_cons (k_own (ps_set (i := 1) sc_p_pairs.nd rfl (.inl rfl) (pe_lst pa_nil)))
    (pss_cons (ps_for PassesOwn.never rfl (k_enumT (K := K) rfl (by rfl) T.m_enumerate (pa_cons (pv 0) pa_nil)) (k_gtup (K := K) (m := 2) rfl rfl (pgs_cons (pg_name (i := 2) sc_p_pairs.nd rfl (.inl rfl)) (pgs_cons (pg_name (i := 3) sc_p_pairs.nd rfl (.inr rfl)) pgs_nil)))
      (pss_one (k_ext (ps_aug (i := 1) sc_p_pairs.nd rfl (.inl rfl) (pe_lc (own := [("other", 4)]) rfl sc_p_pairs.nd (k_iter (K := K) rfl (pe_slice (k_slW (K := K) rfl) (pv 0) (po_some (pe_op (k_add (K := K) rfl) (pv 2) pe_int)) po_none)) (blkOk_by (own := [("other", 4)]) (N := ["rows", "found", "at", "one", "other"]) (sc := defScope s_p_pairs) (by decide +kernel)) (fun _ _ _ _ _ => (pg_name (i := 4) sc_p_pairs.nd rfl (Or.inl rfl))) (fun _ _ _ _ _ => (pts_one (PW.pt (pw_or (pt_cmpR op_gt (pe_ix (k_ix (K := K) rfl) (pv 3) pe_int (fun _ _ => rfl)) pe_int (nomark _)) (pw_or1 (pt_cmpR op_gt (pe_ix (k_ix (K := K) rfl) (pv 4) pe_int (fun _ _ => rfl)) pe_int (nomark _))))))) (fun _ _ _ _ _ => (pe_tup (pa_cons (pv 3) (pa_cons (pv 4) pa_nil))))) ip_ext))))
    (pss_one (ps_ret (pv 1))))), by infer_instance, fun ds n Q hl hA => ?_⟩
  obtain ⟨bs, rfl, hl, q⟩ := hA
  have hpl := prsB_len bs
  have hpl2 : bs.length * bs.length ≤ 100 * 100 := Nat.mul_le_mul hl hl
  refine aFor_ind (fun ds ρ m => m = n ∧ ∃ (us vs : List Bw) (ps : List (Bw × Bw)) (L : List D) (y2 y3 y4 : Option D), bs = us ++ vs ∧ ds = enumD us.length (vs.map Bw.d) ∧ L = ps.map prBD ∧ ρ = [some (.tup (bs.map Bw.d)), some (.lst L), y2, y3, y4] ∧ ps ++ prsB vs = prsB bs) ?_ ?_ ⟨rfl, [], bs, [], [], none, none, none, rfl, rfl, rfl, rfl, rfl⟩
  · rintro d r _ m ⟨rfl, us, vs, ps, L, y2, y3, y4, e0, e, rfl, rfl, hps⟩ ih
    cases vs with
    | nil => cases e
    | cons v vs =>
    obtain ⟨rfl, rfl⟩ := List.cons.inj e
    have hlen : us.length + 1 + vs.length = bs.length := by rw [e0, List.length_append, List.length_cons]; omega
    have hcut : cutL (bs.map Bw.d) (some ((us.length : Int) + 1)) none = vs.map Bw.d := by
      have := cut_from (xs := bs.map Bw.d) (k := us.length + 1) (by rw [List.length_map]; omega)
      rw [show ((us.length : Int) + 1) = ((us.length + 1 : Nat) : Int) by omega, this, ← List.map_drop, e0]
      simp
    have hpsl : (ps ++ prsB (v :: vs)).length = (prsB bs).length := by rw [hps]
    have hpv : prsB (v :: vs) = (vs.filter fun c => decide (prOk v c)).map (fun c => (v, c)) ++ prsB vs := rfl
    rw [hpv, List.length_append, List.length_append, List.length_map] at hpsl
    refine (show (cutL (bs.map Bw.d) (some ((us.length : Int) + 1)) none).length ≤ 1000000 ∧ aLcGo _ _ _ _ _ _ [] (cutL (bs.map Bw.d) (some ((us.length : Int) + 1)) none) _ from ?_)
    rw [hcut]
    refine ⟨by rw [List.length_map]; omega, ?_⟩
    refine aLc_ind (fun acc ds j => j = m ∧ ∃ ws xs : List Bw, vs = ws ++ xs ∧ ds = xs.map Bw.d ∧ acc = ((ws.filter fun c => decide (prOk v c)).map (fun c => (v, c))).map prBD) ?_ ?_ ⟨rfl, [], vs, rfl, rfl, rfl⟩
    · rintro acc d r j ⟨rfl, ws, xs, e1, e, rfl⟩ ih'
      cases xs with
      | nil => cases e
      | cons x xs =>
      obtain ⟨rfl, rfl⟩ := List.cons.inj e
      have yes : prOk v x → aLcGo _ _ _ _ _ _ (((ws.filter fun c => decide (prOk v c)).map (fun c => (v, c))).map prBD ++ [prBD (v, x)]) (xs.map Bw.d) j := fun h => ih' _ _ ⟨rfl, ws ++ [x], xs, by rw [e1]; simp, rfl, by rw [filt_y h, List.map_append, List.map_append]; rfl⟩
      refine dIte (fun h => aT (yes (.inl h))) fun h => ?_
      refine dIte (fun h' => yes (.inr h')) fun h' => ?_
      refine ih' _ _ ⟨rfl, ws ++ [x], xs, by rw [e1]; simp, rfl, ?_⟩
      rw [filt_n fun z => z.elim h h']
    · rintro acc j ⟨rfl, ws, xs, e1, e, rfl⟩
      cases xs with
      | cons x xs => cases e
      | nil =>
      rw [List.append_nil] at e1
      subst e1
      refine ⟨by rw [List.length_map, List.length_map, List.length_map]; omega, ih _ _ ⟨rfl, us ++ [v], vs, ps ++ (vs.filter fun c => decide (prOk v c)).map (fun c => (v, c)), _, _, _, _, by rw [e0]; simp, by rw [List.length_append, List.length_singleton], by rw [List.map_append], rfl, by rw [List.append_assoc]; exact hps⟩⟩
  · rintro _ m ⟨rfl, us, vs, ps, L, y2, y3, y4, e0, e, rfl, rfl, hps⟩
    cases vs with
    | cons v vs => cases e
    | nil =>
    have : ps = prsB bs := by rw [← hps]; exact (List.append_nil _).symm
    rw [← this] at q
    exact q
noncomputable def a_l_pairs : ASp := fun ds n Q => ∃ bs : List Bw, ds = [.tup (bs.map Bw.d)] ∧ bs.length ≤ 100 ∧ (∀ b ∈ bs, 0 ≤ b.m) ∧ Q (.lst ((prsB bs).map prBD)) n
theorem ok_l_pairs (T : Tx K mg A) : FnOk P w K mg base CX0 1 A.f_l_pairs A.fd_l_pairs ["_law_rows"] (spOf K 1 a_l_pairs) := by
  refine fn_mir [] 5 rfl (by decide) (by decide) T.F_l_pairs sc_l_pairs fun cdv Ar outer s H E hr => ?_
  refine ⟨_, _, (pss_cons (ps_set (i := 1) sc_l_pairs.nd rfl (.inl rfl) (pe_lst pa_nil))
    (pss_cons (ps_for PassesOwn.never rfl (k_enumT (K := K) rfl (by rfl) T.m_enumerate (pa_cons (pv 0) pa_nil)) (k_gtup (K := K) (m := 2) rfl rfl (pgs_cons (pg_name (i := 2) sc_l_pairs.nd rfl (.inl rfl)) (pgs_cons (pg_name (i := 3) sc_l_pairs.nd rfl (.inr rfl)) pgs_nil)))
      (pss_one (ps_set (i := 1) sc_l_pairs.nd rfl (.inl rfl) (pe_op (k_add (K := K) rfl) (pv 1) (pe_lc (own := [("_law_b", 4)]) rfl sc_l_pairs.nd (k_iter (K := K) rfl (pe_slice (k_slW (K := K) rfl) (pv 0) (po_some (pe_op (k_add (K := K) rfl) (pv 2) pe_int)) po_none)) (blkOk_by (own := [("_law_b", 4)]) (N := ["_law_rows", "_law_found", "_law_k", "_law_a", "_law_b"]) (sc := defScope s_l_pairs) (by decide +kernel)) (fun _ _ _ _ _ => (pg_name (i := 4) sc_l_pairs.nd rfl (Or.inl rfl))) (fun _ _ _ _ _ => (pts_one (pt_cmpR op_gt (pe_op (k_add (K := K) rfl) (pe_ix (k_ix (K := K) rfl) (pv 3) pe_int (fun _ _ => rfl)) (pe_ix (k_ix (K := K) rfl) (pv 4) pe_int (fun _ _ => rfl))) pe_int (nomark _)))) (fun _ _ _ _ _ => (pe_tup (pa_cons (pv 3) (pa_cons (pv 4) pa_nil)))))))))
    (pss_one (ps_ret (pv 1))))), by infer_instance, fun ds n Q hl hA => ?_⟩
  obtain ⟨bs, rfl, hl, hm0, q⟩ := hA
  have hpl := prsB_len bs
  have hpl2 : bs.length * bs.length ≤ 100 * 100 := Nat.mul_le_mul hl hl
  refine aFor_ind (fun ds ρ m => m = n ∧ ∃ (us vs : List Bw) (ps : List (Bw × Bw)) (L : List D) (y2 y3 y4 : Option D), bs = us ++ vs ∧ ds = enumD us.length (vs.map Bw.d) ∧ L = ps.map prBD ∧ ρ = [some (.tup (bs.map Bw.d)), some (.lst L), y2, y3, y4] ∧ ps ++ prsB vs = prsB bs) ?_ ?_ ⟨rfl, [], bs, [], [], none, none, none, rfl, rfl, rfl, rfl, rfl⟩
  · rintro d r _ m ⟨rfl, us, vs, ps, L, y2, y3, y4, e0, e, rfl, rfl, hps⟩ ih
    cases vs with
    | nil => cases e
    | cons v vs =>
    obtain ⟨rfl, rfl⟩ := List.cons.inj e
    have hv : v ∈ bs := by rw [e0]; exact List.mem_append_right _ List.mem_cons_self
    have hlen : us.length + 1 + vs.length = bs.length := by rw [e0, List.length_append, List.length_cons]; omega
    have hcut : cutL (bs.map Bw.d) (some ((us.length : Int) + 1)) none = vs.map Bw.d := by
      have := cut_from (xs := bs.map Bw.d) (k := us.length + 1) (by rw [List.length_map]; omega)
      rw [show ((us.length : Int) + 1) = ((us.length + 1 : Nat) : Int) by omega, this, ← List.map_drop, e0]
      simp
    have hpsl : (ps ++ prsB (v :: vs)).length = (prsB bs).length := by rw [hps]
    have hpv : prsB (v :: vs) = (vs.filter fun c => decide (prOk v c)).map (fun c => (v, c)) ++ prsB vs := rfl
    rw [hpv, List.length_append, List.length_append, List.length_map] at hpsl
    refine (show (cutL (bs.map Bw.d) (some ((us.length : Int) + 1)) none).length ≤ 1000000 ∧ aLcGo _ _ _ _ _ _ [] (cutL (bs.map Bw.d) (some ((us.length : Int) + 1)) none) _ from ?_)
    rw [hcut]
    refine ⟨by rw [List.length_map]; omega, ?_⟩
    refine aLc_ind (fun acc ds j => j = m ∧ ∃ ws xs : List Bw, vs = ws ++ xs ∧ ds = xs.map Bw.d ∧ acc = ((ws.filter fun c => decide (prOk v c)).map (fun c => (v, c))).map prBD) ?_ ?_ ⟨rfl, [], vs, rfl, rfl, rfl⟩
    · rintro acc d r j ⟨rfl, ws, xs, e1, e, rfl⟩ ih'
      cases xs with
      | nil => cases e
      | cons x xs =>
      obtain ⟨rfl, rfl⟩ := List.cons.inj e
      have h1 := hm0 v hv
      have h2 := hm0 x (by rw [e0, e1]; simp)
      refine dIte (fun h => ?_) fun h => ?_
      · have h' : prOk v x := by unfold prOk; omega
        exact ih' _ _ ⟨rfl, ws ++ [x], xs, by rw [e1]; simp, rfl, by rw [filt_y h', List.map_append, List.map_append]; rfl⟩
      · refine ih' _ _ ⟨rfl, ws ++ [x], xs, by rw [e1]; simp, rfl, ?_⟩
        rw [filt_n (by unfold prOk; omega)]
    · rintro acc j ⟨rfl, ws, xs, e1, e, rfl⟩
      cases xs with
      | cons x xs => cases e
      | nil =>
      rw [List.append_nil] at e1
      subst e1
      refine ⟨by rw [List.length_map, List.length_map, List.length_map]; omega, ih _ _ ⟨rfl, us ++ [v], vs, ps ++ (vs.filter fun c => decide (prOk v c)).map (fun c => (v, c)), _, _, _, _, by rw [e0]; simp, by rw [List.length_append, List.length_singleton], by rw [List.map_append], rfl, by rw [List.append_assoc]; exact hps⟩⟩
  · rintro _ m ⟨rfl, us, vs, ps, L, y2, y3, y4, e0, e, rfl, rfl, hps⟩
    cases vs with
    | cons v vs => cases e
    | nil =>
    have : ps = prsB bs := by rw [← hps]; exact (List.append_nil _).symm
    rw [← this] at q
    exact q
/-! ### bodies that touch: one way or two -/
/-- an offset at which the two have a point in common -/
noncomputable def InP (b c : Bw) (x y : Rat) : Prop := ∀ v : Pt, (v.1 : Rat) * x + (v.2 : Rat) * y ≤ ((wid b c v : Int) : Rat)
theorem in_corner {b c : Bw} (hb : ShOk b.cs) (hc : ShOk c.cs) {a e : Pt} (ha : a ∈ b.cs) (he : e ∈ c.cs) : InP b c ((a.1 : Rat) - (e.1 : Rat)) ((a.2 : Rat) - (e.2 : Rat)) := fun v => by
  have h1 := (mx_is (w := v) hb.ne).2 a ha
  have h2 := (mx_is (w := ngP v) hc.ne).2 e he
  have h3 : dot v a - dot v e ≤ wid b c v := by
    unfold wid
    unfold dot ngP at *
    simp only at *
    have : -v.1 * e.1 + -v.2 * e.2 = -(v.1 * e.1 + v.2 * e.2) := by grind
    omega
  have h4 : ((dot v a - dot v e : Int) : Rat) ≤ ((wid b c v : Int) : Rat) := Rat.intCast_le_intCast.mpr h3
  have h5 : ((dot v a - dot v e : Int) : Rat) = (v.1 : Rat) * ((a.1 : Rat) - (e.1 : Rat)) + (v.2 : Rat) * ((a.2 : Rat) - (e.2 : Rat)) := by
    unfold dot
    rw [Rat.intCast_sub, Rat.intCast_add, Rat.intCast_add, Rat.intCast_mul, Rat.intCast_mul, Rat.intCast_mul, Rat.intCast_mul]
    grind
  rw [← h5]
  exact h4
theorem side_dot {cs : List Pt} (h : ShOk cs) {p a : Pt} (m : (p, a) ∈ prs cs) : mx (wyE (p, a)) cs = dot (wyE (p, a)) p ∧ mx (wyE (p, a)) cs = dot (wyE (p, a)) a ∧ p ∈ cs ∧ a ∈ cs ∧ p ≠ a := by
  obtain ⟨hne, _, _⟩ := prs_ok h (p, a) m
  have hp : p ∈ cs := (List.of_mem_zip m).1
  have ha : a ∈ cs := by
    have := (List.of_mem_zip m).2
    rcases List.mem_append.mp this with z | z
    · exact List.mem_of_mem_drop z
    · exact List.mem_of_mem_take z
  have m1 := mx_of h.ne (w := wyE (p, a)) hp fun b hb => (side_max h m hb).2
  have m2 := mx_of h.ne (w := wyE (p, a)) ha fun b hb => (side_max h m hb).1
  rw [dq_dot] at m1 m2
  exact ⟨Rat.intCast_inj.mp m1, Rat.intCast_inj.mp m2, hp, ha, hne⟩
theorem face {b c : Bw} (hb : ShOk b.cs) (hc : ShOk c.cs) {w : Pt} (hw : w ∈ waysOf b.cs ∨ ngP w ∈ waysOf c.cs) : ∃ x1 y1 x2 y2 : Rat, (x1 ≠ x2 ∨ y1 ≠ y2) ∧ InP b c x1 y1 ∧ InP b c x2 y2 ∧ (w.1 : Rat) * x1 + (w.2 : Rat) * y1 = ((wid b c w : Int) : Rat) ∧ (w.1 : Rat) * x2 + (w.2 : Rat) * y2 = ((wid b c w : Int) : Rat) := by
  have val : ∀ {a e : Pt}, mx w b.cs = dot w a → mx (ngP w) c.cs = dot (ngP w) e → (w.1 : Rat) * ((a.1 : Rat) - (e.1 : Rat)) + (w.2 : Rat) * ((a.2 : Rat) - (e.2 : Rat)) = ((wid b c w : Int) : Rat) := fun {a e} h1 h2 => by
    have h3 : wid b c w = dot w a - dot w e := by
      unfold wid
      rw [h1, h2]
      unfold dot ngP
      simp only
      have : -w.1 * e.1 + -w.2 * e.2 = -(w.1 * e.1 + w.2 * e.2) := by grind
      omega
    rw [h3]
    unfold dot
    rw [Rat.intCast_sub, Rat.intCast_add, Rat.intCast_add, Rat.intCast_mul, Rat.intCast_mul, Rat.intCast_mul, Rat.intCast_mul]
    grind
  have unl : ∀ {p a : Pt}, p ≠ a → (p.1 : Rat) ≠ (a.1 : Rat) ∨ (p.2 : Rat) ≠ (a.2 : Rat) := fun {p a} h => by
    rcases Classical.em (p.1 = a.1) with z | z
    · rcases Classical.em (p.2 = a.2) with y | y
      · exact absurd (Prod.ext z y) h
      · exact .inr fun e => y (Rat.intCast_inj.mp e)
    · exact .inl fun e => z (Rat.intCast_inj.mp e)
  rcases hw with hw | hw
  · obtain ⟨⟨p, a⟩, he, rfl⟩ := List.mem_map.mp hw
    obtain ⟨m1, m2, hp, ha, hne⟩ := side_dot hb he
    obtain ⟨⟨e, hec, e2⟩, _⟩ := mx_is (w := ngP (wyE (p, a))) hc.ne
    refine ⟨_, _, _, _, ?_, in_corner hb hc hp hec, in_corner hb hc ha hec, val m1 e2, val m2 e2⟩
    rcases unl hne with z | z
    · left; grind
    · right; grind
  · obtain ⟨⟨p, a⟩, he, e0⟩ := List.mem_map.mp hw
    obtain ⟨m1, m2, hp, ha, hne⟩ := side_dot hc he
    rw [e0] at m1 m2
    obtain ⟨⟨f, hfb, f2⟩, _⟩ := mx_is (w := w) hb.ne
    refine ⟨_, _, _, _, ?_, in_corner hb hc hfb hp, in_corner hb hc hfb ha, val f2 m1, val f2 m2⟩
    rcases unl hne with z | z
    · left; grind
    · right; grind
noncomputable def crQ (w v : Pt) : Rat := (w.1 : Rat) * (v.2 : Rat) - (w.2 : Rat) * (v.1 : Rat)
theorem gap0 (b c : Bw) (w : Pt) : gapQ b c w 0 = (w.1 : Rat) * (c.px - b.px) + (w.2 : Rat) * (c.py - b.py) - ((wid b c w : Int) : Rat) := by
  unfold gapQ ofx ofy
  grind
theorem perp {p q x y : Rat} (h0 : p ≠ 0 ∨ q ≠ 0) (h : p * x + q * y = 0) (hn : x ≠ 0 ∨ y ≠ 0) : ∃ s : Rat, s ≠ 0 ∧ x = s * -q ∧ y = s * p := by
  rcases Classical.em (p = 0) with z | z
  · have hq : q ≠ 0 := by
      rcases h0 with a | a
      · exact absurd z a
      · exact a
    have hy : y = 0 := by
      have : q * y = 0 := by rw [z] at h; grind
      rcases Rat.mul_eq_zero.mp this with a | a
      · exact absurd a hq
      · exact a
    have hx : x ≠ 0 := by
      rcases hn with a | a
      · exact a
      · exact absurd hy a
    have e : q * q⁻¹ = 1 := Rat.mul_inv_cancel _ hq
    refine ⟨-(x * q⁻¹), fun a => ?_, by grind, by rw [z, hy]; grind⟩
    have : x * q⁻¹ = 0 := by grind
    rcases Rat.mul_eq_zero.mp this with a | a
    · exact hx a
    · rw [a] at e; grind
  · have e : p * p⁻¹ = 1 := Rat.mul_inv_cancel _ z
    refine ⟨y * p⁻¹, fun a => ?_, ?_, by grind⟩
    · rcases Rat.mul_eq_zero.mp a with a | a
      · have : p * x = 0 := by rw [a] at h; grind
        rcases Rat.mul_eq_zero.mp this with b | b
        · exact z b
        · rcases hn with c | c
          · exact c b
          · exact c a
      · rw [a] at e; grind
    · have : x = x * (p * p⁻¹) := by rw [e]; grind
      have h2 : p * x = -(q * y) := by grind
      grind
theorem tight_dir {b c : Bw} (hb : ShOk b.cs) (hc : ShOk c.cs) {rs : List Pt} (hpw : PwOk (waysOf b.cs) (waysOf c.cs) rs) {w : Pt} (hw : w ∈ rs) (h0 : gapQ b c w 0 = 0) : ∃ s : Rat, s ≠ 0 ∧ ∀ v, gapQ b c v 0 = 0 → s * crQ w v ≤ 0 := by
  obtain ⟨x1, y1, x2, y2, hne, i1, i2, e1, e2⟩ := face hb hc ((hpw.mem w).mp hw)
  have hz := hpw.nz hb hc w hw
  have hz' : (w.1 : Rat) ≠ 0 ∨ (w.2 : Rat) ≠ 0 := by
    rcases Classical.em (w.1 = 0) with z | z
    · right
      exact fun e => hz ⟨z, Rat.intCast_inj.mp (show ((w.2 : Int) : Rat) = ((0 : Int) : Rat) from e)⟩
    · left
      exact fun e => z (Rat.intCast_inj.mp (show ((w.1 : Int) : Rat) = ((0 : Int) : Rat) from e))
  rw [gap0] at h0
  have key : ∀ {x y : Rat}, InP b c x y → (w.1 : Rat) * x + (w.2 : Rat) * y = ((wid b c w : Int) : Rat) → (x - (c.px - b.px) ≠ 0 ∨ y - (c.py - b.py) ≠ 0) → ∃ s : Rat, s ≠ 0 ∧ ∀ v, gapQ b c v 0 = 0 → s * crQ w v ≤ 0 := fun {x y} hi he hn => by
    obtain ⟨s, hs, ex, ey⟩ := perp (p := (w.1 : Rat)) (q := (w.2 : Rat)) (x := x - (c.px - b.px)) (y := y - (c.py - b.py)) hz' (by grind) hn
    refine ⟨s, hs, fun v hv => ?_⟩
    rw [gap0] at hv
    have := hi v
    have e3 : s * crQ w v = (v.1 : Rat) * (x - (c.px - b.px)) + (v.2 : Rat) * (y - (c.py - b.py)) := by
      rw [ex, ey]
      unfold crQ
      grind
    rw [e3]
    grind
  rcases Classical.em (x1 - (c.px - b.px) ≠ 0 ∨ y1 - (c.py - b.py) ≠ 0) with z | z
  · exact key i1 e1 z
  · refine key i2 e2 ?_
    have a1 : x1 - (c.px - b.px) = 0 := Classical.byContradiction fun q => z (.inl q)
    have a2 : y1 - (c.py - b.py) = 0 := Classical.byContradiction fun q => z (.inr q)
    rcases hne with q | q
    · left; grind
    · right; grind
theorem opp_not {b c : Bw} (hb : ShOk b.cs) (hc : ShOk c.cs) {w : Pt} (hw : ¬ (w.1 = 0 ∧ w.2 = 0)) (h0 : gapQ b c w 0 = 0) : gapQ b c (ngP w) 0 ≠ 0 := fun h1 => by
  have hz' : (w.1 : Rat) ≠ 0 ∨ (w.2 : Rat) ≠ 0 := by
    rcases Classical.em (w.1 = 0) with z | z
    · right
      exact fun e => hw ⟨z, Rat.intCast_inj.mp (show ((w.2 : Int) : Rat) = ((0 : Int) : Rat) from e)⟩
    · left
      exact fun e => z (Rat.intCast_inj.mp (show ((w.1 : Int) : Rat) = ((0 : Int) : Rat) from e))
  obtain ⟨a, ha, a', ha', hlt⟩ := not_flat hb hz'
  obtain ⟨⟨e, he, _⟩, _⟩ := mx_is (w := w) hc.ne
  have i1 := in_corner hb hc ha he (ngP w)
  have i2 := in_corner hb hc ha' he w
  rw [gap0] at h0 h1
  unfold dq at hlt
  unfold ngP at *
  simp only at *
  rw [Rat.intCast_neg, Rat.intCast_neg] at *
  grind
theorem par {w v : Pt} (h1 : gcdI w.1 w.2 = 1) (h2 : gcdI v.1 v.2 = 1) (h : crQ w v = 0) : v = w ∨ v = ngP w := by
  have e : w.1 * v.2 = w.2 * v.1 := by
    unfold crQ at h
    have : ((w.1 * v.2 : Int) : Rat) = ((w.2 * v.1 : Int) : Rat) := by
      rw [Rat.intCast_mul, Rat.intCast_mul]
      grind
    exact Rat.intCast_inj.mp this
  have c1 : Nat.Coprime w.1.natAbs w.2.natAbs := by
    unfold gcdI at h1
    exact Int.ofNat.inj h1
  have c2 : Nat.Coprime v.1.natAbs v.2.natAbs := by
    unfold gcdI at h2
    exact Int.ofNat.inj h2
  have en : w.1.natAbs * v.2.natAbs = w.2.natAbs * v.1.natAbs := by rw [← Int.natAbs_mul, ← Int.natAbs_mul, e]
  have d1 : w.1.natAbs ∣ v.1.natAbs := c1.dvd_of_dvd_mul_left (by rw [← en]; exact Nat.dvd_mul_right _ _)
  have d2 : v.1.natAbs ∣ w.1.natAbs := c2.dvd_of_dvd_mul_right (by rw [en]; exact Nat.dvd_mul_left _ _)
  have d3 : w.2.natAbs ∣ v.2.natAbs := c1.symm.dvd_of_dvd_mul_left (by rw [en]; exact Nat.dvd_mul_right _ _)
  have d4 : v.2.natAbs ∣ w.2.natAbs := c2.symm.dvd_of_dvd_mul_right (by rw [← en]; exact Nat.dvd_mul_left _ _)
  have e1 := Nat.dvd_antisymm d1 d2
  have e2 := Nat.dvd_antisymm d3 d4
  obtain ⟨w1, w2⟩ := w
  obtain ⟨v1, v2⟩ := v
  unfold ngP
  simp only at *
  rcases Int.natAbs_eq_natAbs_iff.mp e1 with z | z <;> rcases Int.natAbs_eq_natAbs_iff.mp e2 with y | y
  · left; rw [z, y]
  · have : v1 * v2 = 0 := by rw [z, y] at e; grind
    rcases Int.mul_eq_zero.mp this with q | q
    · right; rw [Prod.mk.injEq]; omega
    · left; rw [Prod.mk.injEq]; omega
  · have : v1 * v2 = 0 := by rw [z, y] at e; grind
    rcases Int.mul_eq_zero.mp this with q | q
    · left; rw [Prod.mk.injEq]; omega
    · right; rw [Prod.mk.injEq]; omega
  · right; rw [Prod.mk.injEq]; omega
theorem sign_pair {s x y : Rat} (hs : s ≠ 0) (hx : x ≠ 0) (hy : y ≠ 0) (h1 : s * x ≤ 0) (h2 : s * y ≤ 0) : 0 < x * y := by
  have hx2 : s * x < 0 := by
    rcases (show s * x < 0 ∨ s * x = 0 by grind) with z | z
    · exact z
    · rcases Rat.mul_eq_zero.mp z with q | q
      · exact absurd q hs
      · exact absurd q hx
  have hy2 : s * y < 0 := by
    rcases (show s * y < 0 ∨ s * y = 0 by grind) with z | z
    · exact z
    · rcases Rat.mul_eq_zero.mp z with q | q
      · exact absurd q hs
      · exact absurd q hy
  have h3 : 0 < (-(s * x)) * (-(s * y)) := Rat.mul_pos (by grind) (by grind)
  have h4 : 0 < s * s := by
    rcases (show 0 < s ∨ s < 0 by grind) with z | z
    · exact Rat.mul_pos z z
    · have := Rat.mul_pos (show 0 < -s by grind) (show 0 < -s by grind)
      grind
  have e : (-(s * x)) * (-(s * y)) = (s * s) * (x * y) := by grind
  rw [e] at h3
  exact (rat_pos_iff h4).mp h3
theorem tight_two {b c : Bw} (hb : ShOk b.cs) (hc : ShOk c.cs) {rs : List Pt} (hpw : PwOk (waysOf b.cs) (waysOf c.cs) rs) {u v w : Pt} (hu : u ∈ rs) (hv : v ∈ rs) (hw : w ∈ rs) (tu : gapQ b c u 0 = 0) (tv : gapQ b c v 0 = 0) (tw : gapQ b c w 0 = 0) (n1 : u ≠ v) (n2 : v ≠ w) (n3 : u ≠ w) : False := by
  have one := hpw.one hb hc
  have nz := hpw.nz hb hc
  have cr0 : ∀ {x y : Pt}, x ∈ rs → y ∈ rs → gapQ b c x 0 = 0 → gapQ b c y 0 = 0 → x ≠ y → crQ x y ≠ 0 := fun {x y} hx hy tx ty ne z => by
    rcases par (one x hx) (one y hy) z with q | q
    · exact ne q.symm
    · exact opp_not hb hc (nz x hx) tx (q ▸ ty)
  have anti : ∀ x y : Pt, crQ y x = -crQ x y := fun x y => by unfold crQ; grind
  obtain ⟨s1, k1, f1⟩ := tight_dir hb hc hpw hu tu
  obtain ⟨s2, k2, f2⟩ := tight_dir hb hc hpw hv tv
  obtain ⟨s3, k3, f3⟩ := tight_dir hb hc hpw hw tw
  have p1 := sign_pair k1 (cr0 hu hv tu tv n1) (cr0 hu hw tu tw n3) (f1 v tv) (f1 w tw)
  have p2 := sign_pair k2 (cr0 hv hu tv tu n1.symm) (cr0 hv hw tv tw n2) (f2 u tu) (f2 w tw)
  have p3 := sign_pair k3 (cr0 hw hu tw tu n3.symm) (cr0 hw hv tw tv n2.symm) (f3 u tu) (f3 v tv)
  rw [anti u v] at p2
  rw [anti u w, anti v w] at p3
  generalize crQ u v = a at *
  generalize crQ u w = d at *
  generalize crQ v w = e at *
  have q1 := Rat.mul_pos p1 p3
  have : a * d * (-d * -e) = a * e * (d * d) := by grind
  rw [this] at q1
  have dd : 0 < d * d := by
    have hd : d ≠ 0 := fun z => by rw [z] at p1; grind
    rcases (show 0 < d ∨ d < 0 by grind) with z | z
    · exact Rat.mul_pos z z
    · have := Rat.mul_pos (show 0 < -d by grind) (show 0 < -d by grind)
      grind
  have e9 : a * e * (d * d) = (d * d) * (a * e) := by grind
  rw [e9] at q1
  have := (rat_pos_iff dd).mp q1
  grind
theorem tight_len {b c : Bw} (hb : ShOk b.cs) (hc : ShOk c.cs) {rs : List Pt} (hpw : PwOk (waysOf b.cs) (waysOf c.cs) rs) {ts : List Pt} (hs : ts.Sublist rs) (ht : ∀ w ∈ ts, gapQ b c w 0 = 0) : ts.length ≤ 2 := by
  match ts, hs, ht with
  | [], _, _ => decide
  | [_], _, _ => show 1 ≤ 2; decide
  | [_, _], _, _ => show 2 ≤ 2; decide
  | u :: v :: w :: r, hs, ht =>
    exfalso
    have nd := hs.nodup hpw.nd
    have m : ∀ x ∈ u :: v :: w :: r, x ∈ rs := fun x hx => hs.subset hx
    have n1 : u ≠ v := fun z => (List.nodup_cons.mp nd).1 (by rw [z]; simp)
    have n3 : u ≠ w := fun z => (List.nodup_cons.mp nd).1 (by rw [z]; simp)
    have n2 : v ≠ w := fun z => (List.nodup_cons.mp (List.nodup_cons.mp nd).2).1 (by rw [z]; simp)
    exact tight_two hb hc hpw (m u (by simp)) (m v (by simp)) (m w (by simp)) (ht u (by simp)) (ht v (by simp)) (ht w (by simp)) n1 n2 n3
/-- a contact: two bodies' names and a way -/
noncomputable abbrev Tch := Bw × Bw × Pt
noncomputable def tchD (t : Tch) : D := .tup [t.1.nm, t.2.1.nm, pt t.2.2]
/-! ### contacts -/
noncomputable def rsOf (b c : Bw) : List Pt := Classical.choose (pw_ex (waysOf b.cs) (waysOf c.cs))
theorem rsOf_ok (b c : Bw) : PwOk (waysOf b.cs) (waysOf c.cs) (rsOf b c) := Classical.choose_spec (pw_ex (waysOf b.cs) (waysOf c.cs))
theorem rsOf_eq {b c : Bw} {rs : List Pt} (h : PwOk (waysOf b.cs) (waysOf c.cs) rs) : rsOf b c = rs := (rsOf_ok b c).uniq h
noncomputable def tgtL (b c : Bw) (rs : List Pt) : List Pt := rs.filter fun w => decide (gapQ b c w 0 = 0)
noncomputable def gdL (b c : Bw) (ts : List Pt) : List Pt := ts.filter fun w => decide (0 ≤ rtQ b c w)
noncomputable def smW (ts : List Pt) : Pt := wayI ((ts.map Prod.fst).sum) ((ts.map Prod.snd).sum)
noncomputable def conW (b c : Bw) (ts : List Pt) : Pt := match ts with
  | [w] => w
  | ts => (match gdL b c ts with
    | [w] => w
    | _ => smW ts)
/-- the contact's way, if they touch -/
noncomputable def conO (b c : Bw) : Option Pt := if ((rsOf b c).all fun w => decide (gapQ b c w 0 ≤ 0)) = true ∧ tgtL b c (rsOf b c) ≠ [] then some (conW b c (tgtL b c (rsOf b c))) else none
theorem conO_yes {b c : Bw} {rs : List Pt} (hp : PwOk (waysOf b.cs) (waysOf c.cs) rs) (h : ∀ w ∈ rs, gapQ b c w 0 ≤ 0) (h0 : tgtL b c rs ≠ []) : conO b c = some (conW b c (tgtL b c rs)) := by
  unfold conO
  rw [rsOf_eq hp, if_pos ⟨List.all_eq_true.mpr fun w hw => decide_eq_true (h w hw), h0⟩]
theorem conO_no {b c : Bw} {rs : List Pt} (hp : PwOk (waysOf b.cs) (waysOf c.cs) rs) {w : Pt} (hw : w ∈ rs) (h : 0 < gapQ b c w 0) : conO b c = none := by
  unfold conO
  rw [rsOf_eq hp, if_neg fun z => by
    have := of_decide_eq_true (List.all_eq_true.mp z.1 w hw)
    grind]
theorem tgt_sub (b c : Bw) (rs : List Pt) : (tgtL b c rs).Sublist rs := List.filter_sublist
theorem tgt_gap {b c : Bw} {rs : List Pt} : ∀ w ∈ tgtL b c rs, gapQ b c w 0 = 0 := fun w hw => of_decide_eq_true (List.mem_filter.mp hw).2
/-- touching ways: one or two, not opposite -/
structure TsOk (ts : List Pt) : Prop where
  ne : ts ≠ []
  two : ts.length ≤ 2
  bd : ∀ w ∈ ts, WyS 23 w
  one : ∀ w ∈ ts, gcdI w.1 w.2 = 1
  opp : ∀ u v, ts = [u, v] → ¬ (u.1 + v.1 = 0 ∧ u.2 + v.2 = 0)
theorem tgt_ok {b c : Bw} (hb : ShOk b.cs) (hc : ShOk c.cs) {rs : List Pt} (hp : PwOk (waysOf b.cs) (waysOf c.cs) rs) (h0 : tgtL b c rs ≠ []) : TsOk (tgtL b c rs) := by
  have hs := tgt_sub b c rs
  have hm : ∀ w ∈ tgtL b c rs, w ∈ rs := fun w hw => hs.subset hw
  refine ⟨h0, tight_len hb hc hp hs tgt_gap, fun w hw => hp.wys hb hc w (hm w hw), fun w hw => hp.one hb hc w (hm w hw), fun u v e z => ?_⟩
  have hu : u ∈ tgtL b c rs := by rw [e]; simp
  have hv : v ∈ tgtL b c rs := by rw [e]; simp
  have : v = ngP u := Prod.ext (show v.1 = -u.1 by omega) (show v.2 = -u.2 by omega)
  exact opp_not hb hc (hp.nz hb hc u (hm u hu)) (tgt_gap u hu) (this ▸ tgt_gap v hv)
theorem wayI_self {w : Pt} (h : gcdI w.1 w.2 = 1) : wayI w.1 w.2 = w := by
  unfold wayI
  rw [h, Int.ediv_one, Int.ediv_one]
theorem conW_good {b c : Bw} {ts : List Pt} {w : Pt} (h : TsOk ts) (hg : gdL b c ts = [w]) : conW b c ts = w := by
  match ts, h, hg with
  | [x], _, hg =>
    have : w ∈ gdL b c [x] := by rw [hg]; simp
    have := (List.mem_filter.mp this).1
    exact (List.mem_singleton.mp this).symm
  | [x, y], _, hg =>
    show (match gdL b c [x, y] with
      | [w] => w
      | _ => smW [x, y]) = w
    rw [hg]
  | x :: y :: z :: r, h, _ => have := h.two; simp at this
theorem conW_sum {b c : Bw} {ts : List Pt} (h : TsOk ts) (hg : (gdL b c ts).length ≠ 1) : conW b c ts = smW ts := by
  match ts, h, hg with
  | [x], h, _ =>
    show x = wayI (x.1 + 0) (x.2 + 0)
    rw [Int.add_zero, Int.add_zero, wayI_self (h.one x (by simp))]
  | [x, y], _, hg =>
    show (match gdL b c [x, y] with
      | [w] => w
      | _ => smW [x, y]) = smW [x, y]
    match gdL b c [x, y], hg with
    | [], _ => rfl
    | [_], hg => exact absurd rfl hg
    | _ :: _ :: _, _ => rfl
  | x :: y :: z :: r, h, _ => have := h.two; simp at this
theorem sm_nz {ts : List Pt} (h : TsOk ts) : ¬ ((ts.map Prod.fst).sum = 0 ∧ (ts.map Prod.snd).sum = 0) := by
  match ts, h with
  | [x], h =>
    intro z
    have h1 := h.one x (by simp)
    have e1 : x.1 = 0 := by have := z.1; simpa using this
    have e2 : x.2 = 0 := by have := z.2; simpa using this
    rw [e1, e2] at h1
    exact absurd h1 (by decide)
  | [x, y], h =>
    intro z
    exact h.opp x y rfl ⟨by have := z.1; simpa using this, by have := z.2; simpa using this⟩
  | x :: y :: z :: r, h => have := h.two; simp at this
theorem sm_bd {ts : List Pt} (h : TsOk ts) : Bd 25 ((ts.map Prod.fst).sum) ∧ Bd 25 ((ts.map Prod.snd).sum) := by
  match ts, h with
  | [x], h =>
    have := h.bd x (by simp)
    refine ⟨?_, ?_⟩
    · show Bd 25 (x.1 + 0)
      rw [Int.add_zero]
      exact this.1.le (by decide)
    · show Bd 25 (x.2 + 0)
      rw [Int.add_zero]
      exact this.2.le (by decide)
  | [x, y], h =>
    have h1 := h.bd x (by simp)
    have h2 := h.bd y (by simp)
    refine ⟨?_, ?_⟩
    · show Bd 25 (x.1 + (y.1 + 0))
      rw [Int.add_zero]
      exact (h1.1.add h2.1).le (by decide)
    · show Bd 25 (x.2 + (y.2 + 0))
      rw [Int.add_zero]
      exact (h1.2.add h2.2).le (by decide)
  | x :: y :: z :: r, h => have := h.two; simp at this
theorem conW_ok {b c : Bw} {ts : List Pt} (h : TsOk ts) : WyS 25 (conW b c ts) ∧ gcdI (conW b c ts).1 (conW b c ts).2 = 1 := by
  by_cases hg : (gdL b c ts).length = 1
  · obtain ⟨w, hw⟩ := List.length_eq_one_iff.mp hg
    have hm : w ∈ ts := by
      have : w ∈ gdL b c ts := by rw [hw]; simp
      exact (List.mem_filter.mp this).1
    rw [conW_good h hw]
    exact ⟨⟨(h.bd w hm).1.le (by decide), (h.bd w hm).2.le (by decide)⟩, h.one w hm⟩
  · rw [conW_sum h hg]
    exact ⟨wayI_bd (sm_nz h) (sm_bd h).1 (sm_bd h).2, way_one (sm_nz h)⟩
noncomputable def conL (b c : Bw) : List Tch := match conO b c with
  | none => []
  | some w => [(b, c, w)]
noncomputable def conts (ps : List (Bw × Bw)) : List Tch := ps.flatMap fun p => conL p.1 p.2
theorem conO_ok {b c : Bw} (hb : ShOk b.cs) (hc : ShOk c.cs) {w : Pt} (h : conO b c = some w) : WyS 25 w ∧ gcdI w.1 w.2 = 1 := by
  unfold conO at h
  split at h
  · rename_i z
    cases h
    exact conW_ok (tgt_ok hb hc (rsOf_ok b c) z.2)
  · cases h
structure PrsOk (kp ks : Nat) (ps : List (Bw × Bw)) : Prop where
  two : ∀ p ∈ ps, Two kp ks p.1 p.2
  apt : ∀ p ∈ ps, Apart p.1 p.2
theorem conts_mem {ps : List (Bw × Bw)} {t : Tch} (h : t ∈ conts ps) : (t.1, t.2.1) ∈ ps ∧ conO t.1 t.2.1 = some t.2.2 := by
  obtain ⟨p, hp, ht⟩ := List.mem_flatMap.mp h
  unfold conL at ht
  split at ht
  · cases ht
  · rename_i w e
    rw [List.mem_singleton.mp ht]
    exact ⟨hp, e⟩
theorem conts_len (ps : List (Bw × Bw)) : (conts ps).length ≤ ps.length := by
  induction ps with
  | nil => exact Nat.le_refl _
  | cons p ps ih =>
    show (conL p.1 p.2 ++ conts ps).length ≤ _
    rw [List.length_append, List.length_cons]
    have : (conL p.1 p.2).length ≤ 1 := by
      unfold conL
      split <;> simp
    omega
noncomputable def a_p_sum_way : ASp := fun ds n Q => ∃ u v : Pt, ds = [pt u, pt v] ∧ WyS 23 u ∧ WyS 23 v ∧ ¬ (u.1 + v.1 = 0 ∧ u.2 + v.2 = 0) ∧ Q (pt (smW [u, v])) n
theorem ok_p_sum_way (T : Tx K mg A) : FnOk P w K mg base CX0 5 A.f_p_sum_way A.fd_p_sum_way ["one", "other"] (spOf K 2 a_p_sum_way) := by
  refine fn_mir [] 2 rfl (by decide) (by decide) T.F_p_sum_way sc_p_sum_way fun cdv Ar outer s H E hr => ?_
  refine ⟨_, _, (pss_one (ps_ret (pe_call (ok_p_way_of (P := P) (K := K) T) (hr.mono (by decide)) (by rfl) T.g_p_way_of T.F_p_way_of.kp T.b_p_way_of .nil pass0 (pa_cons (pe_op (k_add (K := K) rfl) (pe_ix (k_ix (K := K) rfl) (pv 0) pe_int (fun _ _ => rfl)) (pe_ix (k_ix (K := K) rfl) (pv 1) pe_int (fun _ _ => rfl))) (pa_cons (pe_op (k_add (K := K) rfl) (pe_ix (k_ix (K := K) rfl) (pv 0) pe_int (fun _ _ => rfl)) (pe_ix (k_ix (K := K) rfl) (pv 1) pe_int (fun _ _ => rfl))) pa_nil))))), by infer_instance, fun ds n Q hl hA => ?_⟩
  obtain ⟨u, v, rfl, hu, hv, h0, q⟩ := hA
  refine ⟨u.1 + v.1, u.2 + v.2, 24, rfl, h0, hu.1.add hv.1, hu.2.add hv.2, by decide, ?_⟩
  have : smW [u, v] = wayI (u.1 + v.1) (u.2 + v.2) := by
    show wayI (u.1 + (v.1 + 0)) (u.2 + (v.2 + 0)) = _
    rw [Int.add_zero, Int.add_zero]
  rw [← this]
  exact q
noncomputable def a_p_touching_way : ASp := fun ds n Q => ∃ (b c : Bw) (rs : List Pt) (B : Rat) (fS fL : Pt → Int) (k : Nat) (ts : List Pt), ds = [.lst (ts.map (cD fS fL))] ∧ CoOk b c k rs B fS fL ∧ TsOk ts ∧ Q (pt (conW b c ts)) n
theorem ok_p_touching_way (T : Tx K mg A) : FnOk P w K mg base CX0 6 A.f_p_touching_way A.fd_p_touching_way ["touching"] (spOf K 1 a_p_touching_way) := by
  refine fn_mir [] 5 rfl (by decide) (by decide) T.F_p_touching_way sc_p_touching_way fun cdv Ar outer s H E hr => ?_
  refine ⟨_, _, (pss_cons (ps_if (pt_cmpR (k_eq (K := K) rfl hr.units) (pe_callB (k_len (K := K) rfl) (by rfl) T.m_len (by decide +kernel) (pa_cons (pv 0) pa_nil)) pe_int (nomark _))
      (pss_one (ps_ret (pe_ix (k_ix (K := K) rfl) (pe_ix (k_ix (K := K) rfl) (pv 0) pe_int (fun _ _ => rfl)) pe_int (fun _ _ => rfl))))
      pss_nil)
    (pss_cons (ps_setLc (i := 1) (own := [("way", 2), ("start", 3), ("slope", 4)]) rfl sc_p_touching_way.nd rfl rfl (sw_true rfl rfl rfl (by decide +kernel)) (k_iter (K := K) rfl (pv 0)) (blkOk_by (own := [("way", 2), ("start", 3), ("slope", 4)]) (N := ["touching", "not_falling", "way", "start", "slope"]) (sc := defScope s_p_touching_way) (by decide +kernel)) (fun _ _ _ _ _ => (k_gtup (K := K) (m := 3) rfl rfl (pgs_cons (pg_name (i := 2) sc_p_touching_way.nd rfl (Or.inl rfl)) (pgs_cons (pg_name (i := 3) sc_p_touching_way.nd rfl (Or.inl rfl)) (pgs_cons (pg_name (i := 4) sc_p_touching_way.nd rfl (Or.inl rfl)) pgs_nil))))) (fun _ _ _ _ _ => (pts_one (pt_cmpR op_ge (pv 4) pe_int (nomark _)))) (fun _ _ _ _ _ => (pv 2)))
    (pss_cons (ps_if (pt_cmpR (k_eq (K := K) rfl hr.units) (pe_callB (k_len (K := K) rfl) (by rfl) T.m_len (by decide +kernel) (pa_cons (pv 1) pa_nil)) pe_int (nomark _))
      (pss_one (ps_ret (pe_ix (k_ix (K := K) rfl) (pv 1) pe_int (fun _ _ => rfl))))
      pss_nil)
    (pss_one (ps_ret (pe_call (ok_p_sum_way (P := P) (K := K) T) (hr.mono (by decide)) (by rfl) T.g_p_sum_way T.F_p_sum_way.kp T.b_p_sum_way .nil pass0 (pa_cons (pe_ix (k_ix (K := K) rfl) (pe_ix (k_ix (K := K) rfl) (pv 0) pe_int (fun _ _ => rfl)) pe_int (fun _ _ => rfl)) (pa_cons (pe_ix (k_ix (K := K) rfl) (pe_ix (k_ix (K := K) rfl) (pv 0) pe_int (fun _ _ => rfl)) pe_int (fun _ _ => rfl)) pa_nil)))))))), by infer_instance, fun ds n Q hl hA => ?_⟩
  obtain ⟨b, c, rs, B, fS, fL, k, ts, rfl, hco, hts, q⟩ := hA
  match ts, hts, q with
  | [], h, _ => exact absurd rfl h.ne
  | x :: y :: z :: r, h, _ => have := h.two; simp at this
  | [x], _, q => exact dIte (fun _ => q) fun h => absurd rfl h
  | [x, y], hts, q =>
    refine dIte (fun h => absurd h (show ¬ ((2 : Nat) : Int) = 1 by decide)) fun _ => ?_
    refine ⟨show 2 ≤ 1000000 by decide, ?_⟩
    refine aLc_ind (fun acc ds j => j = n ∧ ∃ us vs : List Pt, [x, y] = us ++ vs ∧ ds = vs.map (cD fS fL) ∧ acc = (gdL b c us).map pt) ?_ ?_ ⟨rfl, [], [x, y], rfl, rfl, rfl⟩
    · rintro acc d r j ⟨rfl, us, vs, e0, e, rfl⟩ ih
      cases vs with
      | nil => cases e
      | cons v vs =>
      obtain ⟨rfl, rfl⟩ := List.cons.inj e
      refine dIte (fun h => ?_) fun h => ?_
      · refine ih _ _ ⟨rfl, us ++ [v], vs, by rw [e0]; simp, rfl, ?_⟩
        unfold gdL
        rw [List.filter_append, List.filter_cons_of_pos (p := fun w => decide (0 ≤ rtQ b c w)) (decide_eq_true ((hco.lnn v).mp h)), List.filter_nil, List.map_append]
        rfl
      · refine ih _ _ ⟨rfl, us ++ [v], vs, by rw [e0]; simp, rfl, ?_⟩
        unfold gdL
        rw [List.filter_append, List.filter_cons_of_neg (p := fun w => decide (0 ≤ rtQ b c w)) (by rw [decide_eq_true_eq]; exact fun z => h ((hco.lnn v).mpr z)), List.filter_nil, List.append_nil]
    · rintro acc j ⟨rfl, us, vs, e0, e, rfl⟩
      cases vs with
      | cons v vs => cases e
      | nil =>
      rw [List.append_nil] at e0
      subst e0
      refine dIte (fun h => ?_) fun h => ?_
      · rw [List.length_map] at h
        obtain ⟨w, hw⟩ := List.length_eq_one_iff.mp (show (gdL b c [x, y]).length = 1 by omega)
        rw [conW_good hts hw] at q
        refine (show (match atI ((gdL b c [x, y]).map pt) 0 with
          | some d => _
          | none => False) from ?_)
        rw [hw, List.map_cons, at0]
        exact q
      · rw [conW_sum hts (fun z => h (by rw [List.length_map, z]; rfl))] at q
        exact ⟨x, y, rfl, hts.bd x (by simp), hts.bd y (by simp), hts.opp x y rfl, q⟩
theorem Scn.prs {bs : List Bw} (h : Scn 500 bs) : PrsOk 1001 21 (prsB bs) := by
  refine ⟨fun p hp => ?_, fun p hp => ?_⟩
  · obtain ⟨h1, h2, _, _⟩ := prsB_mem hp h.nd
    exact Two.of (h.row _ h1).ok (h.row _ h2).ok (by decide) (by decide) (by decide)
  · obtain ⟨h1, h2, h3, h4⟩ := prsB_mem hp h.nd
    rcases h.apart p.1 h1 p.2 h2 h3 (fun z => by unfold prOk at h4; omega) with z | z
    · exact z
    · exact z.sym
theorem prl6 {bs : List Bw} (h6 : bs.length ≤ 6) : (prsB bs).length ≤ 36 := by
  have := prsB_len bs
  have : bs.length * bs.length ≤ 6 * 6 := Nat.mul_le_mul h6 h6
  omega
/-! ### contacts, where two may be over one another -/
theorem apart_iff {b c : Bw} {rs : List Pt} (hp : PwOk (waysOf b.cs) (waysOf c.cs) rs) : Apart b c ↔ ¬ OverQ b c rs 0 := by
  constructor
  · intro h
    exact h rs hp
  · intro h rs' hp'
    rw [← hp.uniq hp']
    exact h
noncomputable def NmS (b : Bw) : Prop := ∃ z : Str, b.nm = .str z ∧ z.length ≤ 1000
noncomputable def a_p_pair_contacts (A : Ad) : ASX := fun ds n Q X => ∃ (b c : Bw) (kp ks : Nat), ds = [b.d, c.d] ∧ Two kp ks b c ∧ NmS b ∧ NmS c ∧ (¬ Apart b c → X A.c_Over ["other", "one"] [c.nm, b.nm] n) ∧ (Apart b c → Q (.lst ((conL b c).map tchD)) n)
theorem ok_p_pair_contacts [Sx P K A] (T : Tx K mg A) : FnOk P w K mg base (L2N.CX P w) 9 A.f_p_pair_contacts A.fd_p_pair_contacts ["one", "other"] (spE K 2 (a_p_pair_contacts A)) := by
  refine fn_mirX [] 8 rfl (by decide) (by decide) T.F_p_pair_contacts sc_p_pair_contacts fun cdv Ar outer s H E hr => ?_
  refine ⟨_, _, (pss_cons (ps_set (i := 2) sc_p_pair_contacts.nd rfl (.inl rfl) (pe_call (ok_p_courses (P := P) (K := K) T) (hr.mono (by decide)) (by rfl) T.g_p_courses T.F_p_courses.kp T.b_p_courses .nil pass0 (pa_cons (pv 0) (pa_cons (pv 1) pa_nil))))
    (pss_cons (ps_set (i := 3) sc_p_pair_contacts.nd rfl (.inl rfl) (pe_callB (k_max1 (K := K) rfl rfl) (by rfl) T.m_max (by decide +kernel) (pa_cons (pe_lc (own := [("way", 4), ("start", 5), ("slope", 6)]) rfl sc_p_pair_contacts.nd (k_iter (K := K) rfl (pv 2)) (blkOk_by (own := [("way", 4), ("start", 5), ("slope", 6)]) (N := ["one", "other", "all_courses", "greatest", "way", "start", "slope", "course"]) (sc := defScope s_p_pair_contacts) (by decide +kernel)) (fun _ _ _ _ _ => (k_gtup (K := K) (m := 3) rfl rfl (pgs_cons (pg_name (i := 4) sc_p_pair_contacts.nd rfl (Or.inl rfl)) (pgs_cons (pg_name (i := 5) sc_p_pair_contacts.nd rfl (Or.inl rfl)) (pgs_cons (pg_name (i := 6) sc_p_pair_contacts.nd rfl (Or.inl rfl)) pgs_nil))))) (fun _ _ _ _ _ => pts_nil) (fun _ _ _ _ _ => (pv 5))) pa_nil)))
    (pss_cons (ps_if (pt_cmpR op_lt (pv 3) pe_int (nomark _))
      (pss_one (k_rse rfl (L2N.takes_of rfl rfl rfl rfl) (pmk_oexN (Sx.O_Over (P := P) (K := K) (A := A)) (Sx.iC_Over (P := P) (K := K) (A := A)) (Sx.tI_Over (P := P) (K := K) (A := A)) (ok_ini_Over (P := P) (K := K) (A := A)) (hr.mono (by decide)) (Sx.bI_Over (P := P) (K := K) (A := A)) pass0 rfl T.g_Over (pa_cons (pe_ix (k_ix (K := K) rfl) (pv 0) pe_int (fun _ _ => rfl)) (pa_cons (pe_ix (k_ix (K := K) rfl) (pv 1) pe_int (fun _ _ => rfl)) pa_nil)))))
      pss_nil)
    (pss_cons (ps_if (pt_cmpR op_gt (pv 3) pe_int (nomark _))
      (pss_one (ps_ret (pe_lst pa_nil)))
      pss_nil)
    (pss_one (ps_ret (pe_lst (pa_cons (pe_tup (pa_cons (pe_ix (k_ix (K := K) rfl) (pv 0) pe_int (fun _ _ => rfl)) (pa_cons (pe_ix (k_ix (K := K) rfl) (pv 1) pe_int (fun _ _ => rfl)) (pa_cons (pe_call (ok_p_touching_way (P := P) (K := K) T) (hr.mono (by decide)) (by rfl) T.g_p_touching_way T.F_p_touching_way.kp T.b_p_touching_way .nil pass0 (pa_cons (pe_lc (own := [("course", 7)]) rfl sc_p_pair_contacts.nd (k_iter (K := K) rfl (pv 2)) (blkOk_by (own := [("course", 7)]) (N := ["one", "other", "all_courses", "greatest", "way", "start", "slope", "course"]) (sc := defScope s_p_pair_contacts) (by decide +kernel)) (fun _ _ _ _ _ => (pg_name (i := 7) sc_p_pair_contacts.nd rfl (Or.inl rfl))) (fun _ _ _ _ _ => (pts_one (pt_cmpR (k_eq (K := K) rfl hr.units) (pe_ix (k_ix (K := K) rfl) (pv 7) pe_int (fun _ _ => rfl)) pe_int (nomark _)))) (fun _ _ _ _ _ => (pv 7))) pa_nil)) pa_nil)))) pa_nil)))))))), by infer_instance, fun ds n Q X hl hA => ?_⟩
  obtain ⟨b, c, kp, ks, rfl, h2, ⟨zb, eb, lb⟩, ⟨zc, ec, lc⟩, qx, q⟩ := hA
  refine ⟨b, c, kp, ks, rfl, h2, fun rs B fS fL hco => ?_⟩
  have hlen := hco.len
  have hrs : 0 < rs.length := by
    have h3 := h2.sb.1
    have hw : (waysOf b.cs).length = b.cs.length := by
      unfold waysOf
      rw [List.length_map, prs_len (fun z => by rw [z] at h3; simp at h3)]
    obtain ⟨v, hv⟩ : ∃ v, v ∈ waysOf b.cs := List.exists_mem_of_length_pos (by omega)
    exact List.length_pos_of_mem ((hco.pw.mem v).mpr (.inl hv))
  refine ⟨by rw [List.length_map]; omega, ?_⟩
  refine aLc_ind (fun acc ds j => j = n ∧ ∃ us vs : List Pt, rs = us ++ vs ∧ ds = vs.map (cD fS fL) ∧ acc = us.map fun w => .int (fS w)) ?_ ?_ ⟨rfl, [], rs, rfl, rfl, rfl⟩
  · rintro acc d r j ⟨rfl, us, vs, e0, e, rfl⟩ ih
    cases vs with
    | nil => cases e
    | cons v vs =>
    obtain ⟨rfl, rfl⟩ := List.cons.inj e
    exact aT (ih _ _ ⟨rfl, us ++ [v], vs, by rw [e0]; simp, rfl, by rw [List.map_append]; rfl⟩)
  · rintro acc j ⟨rfl, us, vs, e0, e, rfl⟩
    cases vs with
    | cons v vs => cases e
    | nil =>
    rw [List.append_nil] at e0
    subst e0
    refine ⟨rs.map fS, by rw [List.map_map]; rfl, by rw [List.length_map]; exact hrs, fun m hm hmax => ?_⟩
    have hle : ∀ w ∈ rs, fS w ≤ m := fun w hw => hmax _ (List.mem_map.mpr ⟨w, hw, rfl⟩)
    obtain ⟨w1, hw1, e1⟩ := List.mem_map.mp hm
    refine dIte (fun hneg => ?_) fun hneg => ?_
    · refine ⟨⟨⟨zb, zc, by rw [eb, ec], lb, lc⟩, rfl, by decide⟩, qx fun hap => ?_⟩
      exact hap rs hco.pw fun w hw => (hco.sneg w).mp (by have := hle w hw; omega)
    have hap : Apart b c := (apart_iff hco.pw).mpr fun ho => by
      have := (hco.sneg w1).mpr (ho w1 hw1)
      omega
    replace q := q hap
    refine dIte (fun h => ?_) fun h => ?_
    · have hg : 0 < gapQ b c w1 0 := by
        have h1 := hco.st w1
        have : (0 : Rat) < ((fS w1 : Int) : Rat) := (Rat.intCast_lt_intCast (a := 0)).mpr (by omega)
        rw [h1] at this
        exact (rat_pos_iff hco.pos).mp this
      unfold conL at q
      rw [conO_no hco.pw hw1 hg] at q
      exact q
    · have mz : m = 0 := by omega
      have eqz : ∀ w, fS w = 0 ↔ gapQ b c w 0 = 0 := fun w => by
        have h1 := hco.st w
        have hp := hco.pos
        constructor
        · intro z
          rw [z] at h1
          rcases Rat.mul_eq_zero.mp h1.symm with y | y
          · rw [y] at hp
            exact absurd hp (by decide)
          · exact y
        · intro z
          rw [z, Rat.mul_zero] at h1
          exact Rat.intCast_inj.mp (show ((fS w : Int) : Rat) = ((0 : Int) : Rat) from h1)
      have hall : ∀ w ∈ rs, gapQ b c w 0 ≤ 0 := fun w hw => by
        have := hle w hw
        rcases (show fS w < 0 ∨ fS w = 0 by omega) with z | z
        · exact Rat.le_of_lt ((hco.sneg w).mp z)
        · rw [(eqz w).mp z]; exact Rat.le_refl
      have hne : tgtL b c rs ≠ [] := fun z => by
        have : w1 ∈ tgtL b c rs := List.mem_filter.mpr ⟨hw1, decide_eq_true ((eqz w1).mp (by omega))⟩
        rw [z] at this
        cases this
      refine ⟨by rw [List.length_map]; omega, ?_⟩
      refine aLc_ind (fun acc ds i => i = j ∧ ∃ us vs : List Pt, rs = us ++ vs ∧ ds = vs.map (cD fS fL) ∧ acc = (tgtL b c us).map (cD fS fL)) ?_ ?_ ⟨rfl, [], rs, rfl, rfl, rfl⟩
      · rintro acc d r i ⟨rfl, us, vs, e0, e, rfl⟩ ih
        cases vs with
        | nil => cases e
        | cons v vs =>
        obtain ⟨rfl, rfl⟩ := List.cons.inj e
        refine dIte (fun h => ?_) fun h => ?_
        · refine ih _ _ ⟨rfl, us ++ [v], vs, by rw [e0]; simp, rfl, ?_⟩
          unfold tgtL
          rw [List.filter_append, List.filter_cons_of_pos (p := fun w => decide (gapQ b c w 0 = 0)) (decide_eq_true ((eqz v).mp h)), List.filter_nil, List.map_append]
          rfl
        · refine ih _ _ ⟨rfl, us ++ [v], vs, by rw [e0]; simp, rfl, ?_⟩
          unfold tgtL
          rw [List.filter_append, List.filter_cons_of_neg (p := fun w => decide (gapQ b c w 0 = 0)) (by rw [decide_eq_true_eq]; exact fun z => h ((eqz v).mpr z)), List.filter_nil, List.append_nil]
      · rintro acc i ⟨rfl, us, vs, e0, e, rfl⟩
        cases vs with
        | cons v vs => cases e
        | nil =>
        rw [List.append_nil] at e0
        subst e0
        refine ⟨b, c, rs, B, fS, fL, _, tgtL b c rs, rfl, hco, tgt_ok h2.sb h2.sc hco.pw hne, ?_⟩
        unfold conL at q
        rw [conO_yes hco.pw hall hne] at q
        exact q
noncomputable def a_p_contacts (A : Ad) : ASX := fun ds n Q X => ∃ (bs : List Bw) (kp ks : Nat), ds = [.tup (bs.map Bw.d)] ∧ bs.length ≤ 100 ∧ (∀ p ∈ prsB bs, Two kp ks p.1 p.2 ∧ NmS p.1 ∧ NmS p.2) ∧ (∀ us p vs, prsB bs = us ++ p :: vs → (∀ q ∈ us, Apart q.1 q.2) → ¬ Apart p.1 p.2 → X A.c_Over ["other", "one"] [p.2.nm, p.1.nm] n) ∧ ((∀ p ∈ prsB bs, Apart p.1 p.2) → Q (.tup ((conts (prsB bs)).map tchD)) n)
theorem ok_p_contacts [Sx P K A] (T : Tx K mg A) : FnOk P w K mg base (L2N.CX P w) 10 A.f_p_contacts A.fd_p_contacts ["rows"] (spE K 1 (a_p_contacts A)) := by
  refine fn_mirX [1] 4 rfl (by decide) (by decide) T.F_p_contacts sc_p_contacts fun cdv Ar outer s H E hr => ?_
  refine ⟨_, _, (pss_cons (k_own (ps_set (i := 1) sc_p_contacts.nd rfl (.inl rfl) (pe_lst pa_nil)))
    (pss_cons (ps_for (passes_of rfl) rfl (k_iter (K := K) rfl (pe_call (ok_p_pairs (P := P) (K := K) T) (hr.mono (by decide)) (by rfl) T.g_p_pairs T.F_p_pairs.kp T.b_p_pairs .nil pass0 (pa_cons (pv 0) pa_nil))) (k_gtup (K := K) (m := 2) rfl rfl (pgs_cons (pg_name (i := 2) sc_p_contacts.nd rfl (.inl rfl)) (pgs_cons (pg_name (i := 3) sc_p_contacts.nd rfl (.inl rfl)) pgs_nil)))
      (pss_one (k_ext (ps_aug (i := 1) sc_p_contacts.nd rfl (.inl rfl) (k_callE (pe_callS (ok_p_pair_contacts (P := P) (K := K) T) (hr.mono (by decide)) (by rfl) T.g_p_pair_contacts T.F_p_pair_contacts.kp T.b_p_pair_contacts (fun σ => L2N.passAt (L2N.takes_of rfl rfl rfl rfl) σ) (pa_cons (pv 2) (pa_cons (pv 3) pa_nil)))) ip_ext))))
    (pss_one (ps_ret (pe_callTy (k_tuple (K := K) rfl) (by rfl) T.m_tuple (by decide +kernel) (pa_cons (pv 1) pa_nil)))))), by infer_instance, fun ds n Q X hl hA => ?_⟩
  obtain ⟨bs, kp, ks, rfl, hl, hP, qx, q⟩ := hA
  have hpl := prsB_len bs
  have hpl2 : bs.length * bs.length ≤ 100 * 100 := Nat.mul_le_mul hl hl
  refine ⟨bs, rfl, hl, ?_⟩
  refine aFor_ind (fun ds ρ m => m = n ∧ ∃ (us vs : List (Bw × Bw)) (L : List D) (y2 y3 : Option D), prsB bs = us ++ vs ∧ ds = vs.map prBD ∧ L = (conts us).map tchD ∧ ρ = [some (.tup (bs.map Bw.d)), some (.lst L), y2, y3] ∧ ∀ p ∈ us, Apart p.1 p.2) ?_ ?_ ⟨rfl, [], prsB bs, [], none, none, rfl, rfl, rfl, rfl, fun p h => by cases h⟩
  · rintro d r _ m ⟨rfl, us, vs, L, y2, y3, e0, e, rfl, rfl, hap⟩ ih
    cases vs with
    | nil => cases e
    | cons v vs =>
    obtain ⟨rfl, rfl⟩ := List.cons.inj e
    have hv : v ∈ prsB bs := by rw [e0]; exact List.mem_append_right _ List.mem_cons_self
    have hul : us.length + 1 ≤ (prsB bs).length := by rw [e0, List.length_append, List.length_cons]; omega
    have hcl := conts_len us
    have hcv : (conL v.1 v.2).length ≤ 1 := by
      have := conts_len [v]
      unfold conts at this
      simpa using this
    refine ⟨v.1, v.2, kp, ks, rfl, (hP v hv).1, (hP v hv).2.1, (hP v hv).2.2, fun hno => qx us v vs e0 hap hno, fun hyes => ?_⟩
    refine ⟨by rw [List.length_map, List.length_map]; omega, ih _ _ ⟨rfl, us ++ [v], vs, _, _, _, by rw [e0]; simp, rfl, ?_, rfl, fun p hp => ?_⟩⟩
    · unfold conts
      rw [List.flatMap_append, List.map_append]
      simp
    · rcases List.mem_append.mp hp with z | z
      · exact hap p z
      · rw [List.mem_singleton.mp z]; exact hyes
  · rintro _ m ⟨rfl, us, vs, L, y2, y3, e0, e, rfl, rfl, hap⟩
    cases vs with
    | cons v vs => cases e
    | nil =>
    rw [List.append_nil] at e0
    subst e0
    exact q hap
/-! CUT -/
/-! ### the law's own look at contacts -/
noncomputable def a_l_whole : ASp := fun ds n Q => ∃ i : Int, ds = [.int i] ∧ Q (.bl true) n
theorem ok_l_whole (T : Tx K mg A) : FnOk P w K mg base CX0 1 A.f_l_whole A.fd_l_whole ["_law_found"] (spOf K 1 a_l_whole) := by
  refine fn_mir [] 1 rfl (by decide) (by decide) T.F_l_whole sc_l_whole fun cdv Ar outer s H E hr => ?_
  refine ⟨_, _, (pss_one (ps_ret (pe_and (pe_callB (k_isi (K := K) rfl) (by rfl) T.m_isinstance (by decide +kernel) (pa_cons (pv 0) (pa_cons (k_ty (t := .int) (by rfl) T.m_int (by decide +kernel)) pa_nil))) (pe_one (pe_not (pe_callB (k_isi (K := K) rfl) (by rfl) T.m_isinstance (by decide +kernel) (pa_cons (pv 0) (pa_cons (k_ty (t := .bl) (by rfl) T.m_bool (by decide +kernel)) pa_nil)))))))), by infer_instance, fun ds n Q hl hA => ?_⟩
  obtain ⟨i, rfl, q⟩ := hA
  exact aT q
noncomputable def a_l_two : ASp := fun ds n Q => ∃ a b : Int, ds = [.tup [.int a, .int b]] ∧ Q (.bl (decide (gcdI a b = 1))) n
theorem ok_l_two (T : Tx K mg A) : FnOk P w K mg base CX0 2 A.f_l_two A.fd_l_two ["_law_x"] (spOf K 1 a_l_two) := by
  refine fn_mir [] 1 rfl (by decide) (by decide) T.F_l_two sc_l_two fun cdv Ar outer s H E hr => ?_
  refine ⟨_, _, (pss_cons (ps_if (PW.pt (pw_or (pt_not (pt_val (pe_callB (k_isi (K := K) rfl) (by rfl) T.m_isinstance (by decide +kernel) (pa_cons (pv 0) (pa_cons (k_ty (t := .tup) (by rfl) T.m_tuple (by decide +kernel)) pa_nil))))) (pw_or (pt_cmpR (k_ne (K := K) rfl hr.units) (pe_callB (k_len (K := K) rfl) (by rfl) T.m_len (by decide +kernel) (pa_cons (pv 0) pa_nil)) pe_int (nomark _)) (pw_or (pt_not (pt_val (pe_call (ok_l_whole (P := P) (K := K) T) (hr.mono (by decide)) (by rfl) T.g_l_whole T.F_l_whole.kp T.b_l_whole .nil pass0 (pa_cons (pe_ix (k_ix (K := K) rfl) (pv 0) pe_int (fun _ _ => rfl)) pa_nil)))) (pw_or1 (pt_not (pt_val (pe_call (ok_l_whole (P := P) (K := K) T) (hr.mono (by decide)) (by rfl) T.g_l_whole T.F_l_whole.kp T.b_l_whole .nil pass0 (pa_cons (pe_ix (k_ix (K := K) rfl) (pv 0) pe_int (fun _ _ => rfl)) pa_nil)))))))))
      (pss_one (ps_ret pe_bl))
      pss_nil)
    (pss_one (ps_ret (pe_cmpR (k_eq (K := K) rfl hr.units) (pe_call (ok_l_gcd (P := P) (K := K) T) (hr.mono (by decide)) (by rfl) T.g_l_gcd T.F_l_gcd.kp T.b_l_gcd .nil pass0 (pa_cons (pe_ix (k_ix (K := K) rfl) (pv 0) pe_int (fun _ _ => rfl)) (pa_cons (pe_ix (k_ix (K := K) rfl) (pv 0) pe_int (fun _ _ => rfl)) pa_nil))) pe_int (nomark _))))), by infer_instance, fun ds n Q hl hA => ?_⟩
  obtain ⟨a, b, rfl, q⟩ := hA
  refine aF ?_
  refine aF ?_
  refine ⟨a, rfl, aF ?_⟩
  refine ⟨b, rfl, aF ?_⟩
  exact ⟨a, b, rfl, q⟩
theorem sh_nn {q : Rat} : 0 ≤ q.num ↔ 0 ≤ q := by
  rw [Rat.le_iff]
  have : (0 : Rat).num = 0 := rfl
  have : (0 : Rat).den = 1 := rfl
  simp
noncomputable def ctD (p : Bw × Bw) : D := match conO p.1 p.2 with
  | none => .non
  | some w => tchD (p.1, p.2, w)
noncomputable def a_l_contact : ASp := fun ds n Q => ∃ b c : Bw, ds = [b.d, c.d] ∧ b.ok 500 10 ∧ c.ok 500 10 ∧ Apart b c ∧ Q (ctD (b, c)) n
theorem ok_l_contact (T : Tx K mg A) : FnOk P w K mg base CX0 8 A.f_l_contact A.fd_l_contact ["_law_one", "_law_other"] (spOf K 2 a_l_contact) := by
  refine fn_mir [] 10 rfl (by decide) (by decide) T.F_l_contact sc_l_contact fun cdv Ar outer s H E hr => ?_
  refine ⟨_, _, (pss_cons (ps_set (i := 2) sc_l_contact.nd rfl (.inl rfl) (pe_call (ok_l_rooms (P := P) (K := K) T) (hr.mono (by decide)) (by rfl) T.g_l_rooms T.F_l_rooms.kp T.b_l_rooms .nil pass0 (pa_cons (pv 0) (pa_cons (pv 1) (pa_cons (pe_tup (pa_cons pe_int (pa_cons pe_int pa_nil))) pa_nil)))))
    (pss_cons (ps_if (pt_cmpR (k_ne (K := K) rfl hr.units) (pe_ix (k_ix (K := K) rfl) (pe_callB (k_maxT (K := K) rfl rfl hr.units) (by rfl) T.m_max (by decide +kernel) (pa_cons (pv 2) pa_nil)) pe_int (fun _ _ => rfl)) pe_int (nomark _))
      (pss_one (ps_ret pe_non))
      pss_nil)
    (pss_cons (ps_setLc (i := 3) (own := [("_law_room", 8), ("_law_way", 9)]) rfl sc_l_contact.nd rfl rfl (sw_true rfl rfl rfl (by decide +kernel)) (k_iter (K := K) rfl (pv 2)) (blkOk_by (own := [("_law_room", 8), ("_law_way", 9)]) (N := ["_law_one", "_law_other", "_law_rooms_here", "_law_ways", "_law_good", "_law_p", "_law_q", "_law_part", "_law_room", "_law_way"]) (sc := defScope s_l_contact) (by decide +kernel)) (fun _ _ _ _ _ => (k_gtup (K := K) (m := 2) rfl rfl (pgs_cons (pg_name (i := 8) sc_l_contact.nd rfl (Or.inl rfl)) (pgs_cons (pg_name (i := 9) sc_l_contact.nd rfl (Or.inl rfl)) pgs_nil)))) (fun _ _ _ _ _ => (pts_one (pt_cmpR (k_eq (K := K) rfl hr.units) (pv 8) pe_int (nomark _)))) (fun _ _ _ _ _ => (pv 9)))
    (pss_cons (ps_setLc (i := 4) (own := [("_law_way", 9)]) rfl sc_l_contact.nd rfl rfl (sw_true rfl rfl rfl (by decide +kernel)) (k_iter (K := K) rfl (pv 3)) (blkOk_by (own := [("_law_way", 9)]) (N := ["_law_one", "_law_other", "_law_rooms_here", "_law_ways", "_law_good", "_law_p", "_law_q", "_law_part", "_law_room", "_law_way"]) (sc := defScope s_l_contact) (by decide +kernel)) (fun _ _ _ _ _ => (pg_name (i := 9) sc_l_contact.nd rfl (Or.inl rfl))) (fun _ _ _ _ _ => (pts_one (pt_cmpR op_ge (pe_ix (k_ix (K := K) rfl) (pe_call (ok_l_speed (P := P) (K := K) T) (hr.mono (by decide)) (by rfl) T.g_l_speed T.F_l_speed.kp T.b_l_speed .nil pass0 (pa_cons (pv 0) (pa_cons (pv 1) (pa_cons (pv 9) pa_nil)))) pe_int (fun _ _ => rfl)) pe_int (nomark _)))) (fun _ _ _ _ _ => (pv 9)))
    (pss_cons (ps_if (pt_cmpR (k_eq (K := K) rfl hr.units) (pe_callB (k_len (K := K) rfl) (by rfl) T.m_len (by decide +kernel) (pa_cons (pv 4) pa_nil)) pe_int (nomark _))
      (pss_one (ps_ret (pe_tup (pa_cons (pe_ix (k_ix (K := K) rfl) (pv 0) pe_int (fun _ _ => rfl)) (pa_cons (pe_ix (k_ix (K := K) rfl) (pv 1) pe_int (fun _ _ => rfl)) (pa_cons (pe_ix (k_ix (K := K) rfl) (pv 4) pe_int (fun _ _ => rfl)) pa_nil))))))
      pss_nil)
    (pss_cons (ps_set (i := 5) sc_l_contact.nd rfl (.inl rfl) (pe_callB (k_sum (K := K) rfl rfl) (by rfl) T.m_sum (by decide +kernel) (pa_cons (pe_lc (own := [("_law_way", 9)]) rfl sc_l_contact.nd (k_iter (K := K) rfl (pv 3)) (blkOk_by (own := [("_law_way", 9)]) (N := ["_law_one", "_law_other", "_law_rooms_here", "_law_ways", "_law_good", "_law_p", "_law_q", "_law_part", "_law_room", "_law_way"]) (sc := defScope s_l_contact) (by decide +kernel)) (fun _ _ _ _ _ => (pg_name (i := 9) sc_l_contact.nd rfl (Or.inl rfl))) (fun _ _ _ _ _ => pts_nil) (fun _ _ _ _ _ => (pe_ix (k_ix (K := K) rfl) (pv 9) pe_int (fun _ _ => rfl)))) pa_nil)))
    (pss_cons (ps_set (i := 6) sc_l_contact.nd rfl (.inl rfl) (pe_callB (k_sum (K := K) rfl rfl) (by rfl) T.m_sum (by decide +kernel) (pa_cons (pe_lc (own := [("_law_way", 9)]) rfl sc_l_contact.nd (k_iter (K := K) rfl (pv 3)) (blkOk_by (own := [("_law_way", 9)]) (N := ["_law_one", "_law_other", "_law_rooms_here", "_law_ways", "_law_good", "_law_p", "_law_q", "_law_part", "_law_room", "_law_way"]) (sc := defScope s_l_contact) (by decide +kernel)) (fun _ _ _ _ _ => (pg_name (i := 9) sc_l_contact.nd rfl (Or.inl rfl))) (fun _ _ _ _ _ => pts_nil) (fun _ _ _ _ _ => (pe_ix (k_ix (K := K) rfl) (pv 9) pe_int (fun _ _ => rfl)))) pa_nil)))
    (pss_cons (ps_set (i := 7) sc_l_contact.nd rfl (.inl rfl) (pe_call (ok_l_gcd (P := P) (K := K) T) (hr.mono (by decide)) (by rfl) T.g_l_gcd T.F_l_gcd.kp T.b_l_gcd .nil pass0 (pa_cons (pv 5) (pa_cons (pv 6) pa_nil))))
    (pss_one (ps_ret (pe_tup (pa_cons (pe_ix (k_ix (K := K) rfl) (pv 0) pe_int (fun _ _ => rfl)) (pa_cons (pe_ix (k_ix (K := K) rfl) (pv 1) pe_int (fun _ _ => rfl)) (pa_cons (pe_tup (pa_cons (pe_op k_fdiv (pv 5) (pv 7)) (pa_cons (pe_op k_fdiv (pv 6) (pv 7)) pa_nil))) pa_nil)))))))))))))), by infer_instance, fun ds n Q hl hA => ?_⟩
  obtain ⟨b, c, rfl, hb, hc, hap, q⟩ := hA
  refine ⟨b, c, 0, 500, 10, 500, 10, 1, rfl, hb, hc, bdq0, by decide, fun rs Z f hZ hr0 hr40 hpw hf => ?_⟩
  have hZ' : (0 : Rat) < (Z : Rat) := (Rat.intCast_lt_intCast (a := 0)).mpr hZ
  have hno := hap rs hpw
  obtain ⟨w0, hw0, g0⟩ : ∃ w ∈ rs, 0 ≤ gapQ b c w 0 := Classical.byContradiction fun z => hno fun w hw => Rat.not_le.mp fun y => z ⟨w, hw, y⟩
  have snn : ∀ w ∈ rs, (0 ≤ f w ↔ 0 ≤ gapQ b c w 0) := fun w hw => by rw [← cast_nn, hf w hw, rat_nn_iff hZ']
  have eqz : ∀ w ∈ rs, (f w = 0 ↔ gapQ b c w 0 = 0) := fun w hw => by
    have h1 := hf w hw
    constructor
    · intro z
      rw [z] at h1
      rcases Rat.mul_eq_zero.mp h1.symm with y | y
      · rw [y] at hZ'
        exact absurd hZ' (by decide)
      · exact y
    · intro z
      rw [z, Rat.mul_zero] at h1
      exact Rat.intCast_inj.mp (show ((f w : Int) : Rat) = ((0 : Int) : Rat) from h1)
  refine ⟨rs.map (rmD f), 2, rfl, fun z => hr0 (List.map_eq_nil_iff.mp z), by decide, fun e he => ?_, fun e he e' he' => ?_, fun e he hmax => ?_⟩
  · obtain ⟨w, _, rfl⟩ := List.mem_map.mp he
    exact rm_kd f w
  · obtain ⟨w, _, rfl⟩ := List.mem_map.mp he
    obtain ⟨v, _, rfl⟩ := List.mem_map.mp he'
    exact rm_shp f w v
  obtain ⟨w, hw, rfl⟩ := List.mem_map.mp he
  have hm : ∀ v ∈ rs, f v ≤ f w := fun v hv => rm_lt (by
    have := hmax (rmD f v) (List.mem_map.mpr ⟨v, hv, rfl⟩)
    rw [if_pos rfl] at this
    exact this)
  have m0 : 0 ≤ f w := Int.le_trans ((snn w0 hw0).mpr g0) (hm w0 hw0)
  refine nIte (p := f w = 0) (fun hne => ?_) fun hz => ?_
  · have hg : 0 < gapQ b c w 0 := by
      have : (0 : Rat) < ((f w : Int) : Rat) := (Rat.intCast_lt_intCast (a := 0)).mpr (by omega)
      rw [hf w hw] at this
      exact (rat_pos_iff hZ').mp this
    unfold ctD at q
    rw [conO_no hpw hw hg] at q
    exact q
  have hall : ∀ v ∈ rs, gapQ b c v 0 ≤ 0 := fun v hv => by
    have := hm v hv
    rcases (show f v < 0 ∨ f v = 0 by omega) with z | z
    · have : ((f v : Int) : Rat) < 0 := cast_lt0.mpr z
      rw [hf v hv, rat_neg_iff hZ'] at this
      exact Rat.le_of_lt this
    · rw [(eqz v hv).mp z]; exact Rat.le_refl
  have hne : tgtL b c rs ≠ [] := fun z => by
    have : w ∈ tgtL b c rs := List.mem_filter.mpr ⟨hw, decide_eq_true ((eqz w hw).mp hz)⟩
    rw [z] at this
    cases this
  have hts := tgt_ok hb.1 hc.1 hpw hne
  have ht2 := hts.two
  have hq : Q (tchD (b, c, conW b c (tgtL b c rs))) n := by
    unfold ctD at q
    rw [conO_yes hpw hall hne] at q
    exact q
  refine ⟨by rw [List.length_map]; omega, ?_⟩
  refine aLc_ind (fun acc ds i => i = n ∧ ∃ us vs : List Pt, rs = us ++ vs ∧ ds = vs.map (rmD f) ∧ acc = (tgtL b c us).map pt) ?_ ?_ ⟨rfl, [], rs, rfl, rfl, rfl⟩
  · rintro acc d r i ⟨rfl, us, vs, e0, e, rfl⟩ ih
    cases vs with
    | nil => cases e
    | cons v vs =>
    obtain ⟨rfl, rfl⟩ := List.cons.inj e
    have hv : v ∈ rs := by rw [e0]; exact List.mem_append_right _ List.mem_cons_self
    refine dIte (fun h => ?_) fun h => ?_
    · refine ih _ _ ⟨rfl, us ++ [v], vs, by rw [e0]; simp, rfl, ?_⟩
      unfold tgtL
      rw [List.filter_append, List.filter_cons_of_pos (p := fun w => decide (gapQ b c w 0 = 0)) (decide_eq_true ((eqz v hv).mp h)), List.filter_nil, List.map_append]
      rfl
    · refine ih _ _ ⟨rfl, us ++ [v], vs, by rw [e0]; simp, rfl, ?_⟩
      unfold tgtL
      rw [List.filter_append, List.filter_cons_of_neg (p := fun w => decide (gapQ b c w 0 = 0)) (by rw [decide_eq_true_eq]; exact fun z => h ((eqz v hv).mpr z)), List.filter_nil, List.append_nil]
  rintro acc i ⟨rfl, us, vs, e0, e, rfl⟩
  cases vs with
  | cons v vs => cases e
  | nil =>
  rw [List.append_nil] at e0
  subst e0
  generalize tgtL b c rs = ts at hts ht2 hq
  clear hne hall
  refine ⟨by rw [List.length_map]; omega, ?_⟩
  refine aLc_ind (fun acc ds j => j = i ∧ ∃ us vs : List Pt, ts = us ++ vs ∧ ds = vs.map pt ∧ acc = (gdL b c us).map pt) ?_ ?_ ⟨rfl, [], ts, rfl, rfl, rfl⟩
  · rintro acc d r j ⟨rfl, us, vs, e0, e, rfl⟩ ih
    cases vs with
    | nil => cases e
    | cons v vs =>
    obtain ⟨rfl, rfl⟩ := List.cons.inj e
    have hv : v ∈ ts := by rw [e0]; exact List.mem_append_right _ List.mem_cons_self
    refine ⟨b, c, v, 500, 10, 500, 10, 23, rfl, hb, hc, hts.bd v hv, by decide, by decide, ?_⟩
    refine dIte (fun h => ?_) fun h => ?_
    · refine ih _ _ ⟨rfl, us ++ [v], vs, by rw [e0]; simp, rfl, ?_⟩
      unfold gdL
      rw [List.filter_append, List.filter_cons_of_pos (p := fun w => decide (0 ≤ rtQ b c w)) (decide_eq_true (sh_nn.mp h)), List.filter_nil, List.map_append]
      rfl
    · refine ih _ _ ⟨rfl, us ++ [v], vs, by rw [e0]; simp, rfl, ?_⟩
      unfold gdL
      rw [List.filter_append, List.filter_cons_of_neg (p := fun w => decide (0 ≤ rtQ b c w)) (by rw [decide_eq_true_eq]; exact fun z => h (sh_nn.mpr z)), List.filter_nil, List.append_nil]
  rintro acc j ⟨rfl, us, vs, e0, e, rfl⟩
  cases vs with
  | cons v vs => cases e
  | nil =>
  rw [List.append_nil] at e0
  subst e0
  refine dIte (fun h => ?_) fun h => ?_
  · rw [List.length_map] at h
    obtain ⟨w, hw⟩ := List.length_eq_one_iff.mp (show (gdL b c ts).length = 1 by omega)
    rw [conW_good hts hw] at hq
    refine (show (match atI ((gdL b c ts).map pt) 0 with
      | some d => _
      | none => False) from ?_)
    rw [hw, List.map_cons, at0]
    exact hq
  · rw [conW_sum hts (fun z => h (by rw [List.length_map, z]; rfl))] at hq
    refine ⟨by rw [List.length_map]; omega, ?_⟩
    refine aLc_ind (fun acc ds i => i = j ∧ ∃ us vs : List Pt, ts = us ++ vs ∧ ds = vs.map pt ∧ acc = (us.map Prod.fst).map .int) ?_ ?_ ⟨rfl, [], ts, rfl, rfl, rfl⟩
    · rintro acc d r i ⟨rfl, us, vs, e0, e, rfl⟩ ih
      cases vs with
      | nil => cases e
      | cons v vs =>
      obtain ⟨rfl, rfl⟩ := List.cons.inj e
      exact aT (ih _ _ ⟨rfl, us ++ [v], vs, by rw [e0]; simp, rfl, by rw [List.map_append, List.map_append]; rfl⟩)
    rintro acc i ⟨rfl, us, vs, e0, e, rfl⟩
    cases vs with
    | cons v vs => cases e
    | nil =>
    rw [List.append_nil] at e0
    subst e0
    refine ⟨ts.map Prod.fst, rfl, ?_⟩
    refine ⟨by rw [List.length_map]; omega, ?_⟩
    refine aLc_ind (fun acc ds j => j = i ∧ ∃ us vs : List Pt, ts = us ++ vs ∧ ds = vs.map pt ∧ acc = (us.map Prod.snd).map .int) ?_ ?_ ⟨rfl, [], ts, rfl, rfl, rfl⟩
    · rintro acc d r j ⟨rfl, us, vs, e0, e, rfl⟩ ih
      cases vs with
      | nil => cases e
      | cons v vs =>
      obtain ⟨rfl, rfl⟩ := List.cons.inj e
      exact aT (ih _ _ ⟨rfl, us ++ [v], vs, by rw [e0]; simp, rfl, by rw [List.map_append, List.map_append]; rfl⟩)
    rintro acc j ⟨rfl, us, vs, e0, e, rfl⟩
    cases vs with
    | cons v vs => cases e
    | nil =>
    rw [List.append_nil] at e0
    subst e0
    refine ⟨ts.map Prod.snd, rfl, ?_⟩
    have nz := sm_nz hts
    have bb := sm_bd hts
    have gb := gcdI_bd2 bb.1 bb.2 nz
    have g0 := gcdI_pos2 nz
    exact ⟨_, _, rfl, divA gb g0 (by decide), divA gb g0 (by decide), hq⟩
noncomputable def a_l_touches : ASp := fun ds n Q => ∃ bs : List Bw, ds = [.tup (bs.map Bw.d)] ∧ Scn 500 bs ∧ bs.length ≤ 6 ∧ Q (.tup ((conts (prsB bs)).map tchD)) n
theorem ok_l_touches (T : Tx K mg A) : FnOk P w K mg base CX0 9 A.f_l_touches A.fd_l_touches ["_law_rows"] (spOf K 1 a_l_touches) := by
  refine fn_mir [] 5 rfl (by decide) (by decide) T.F_l_touches sc_l_touches fun cdv Ar outer s H E hr => ?_
  refine ⟨_, _, (pss_cons (ps_setLc (i := 1) (own := [("_law_one", 2), ("_law_other", 3)]) rfl sc_l_touches.nd rfl rfl (sw_true rfl rfl rfl (by decide +kernel)) (k_iter (K := K) rfl (pe_call (ok_l_pairs (P := P) (K := K) T) (hr.mono (by decide)) (by rfl) T.g_l_pairs T.F_l_pairs.kp T.b_l_pairs .nil pass0 (pa_cons (pv 0) pa_nil))) (blkOk_by (own := [("_law_one", 2), ("_law_other", 3)]) (N := ["_law_rows", "_law_found", "_law_one", "_law_other", "_law_touch"]) (sc := defScope s_l_touches) (by decide +kernel)) (fun _ _ _ _ _ => (k_gtup (K := K) (m := 2) rfl rfl (pgs_cons (pg_name (i := 2) sc_l_touches.nd rfl (Or.inl rfl)) (pgs_cons (pg_name (i := 3) sc_l_touches.nd rfl (Or.inl rfl)) pgs_nil)))) (fun _ _ _ _ _ => pts_nil) (fun _ _ _ _ _ => (pe_call (ok_l_contact (P := P) (K := K) T) (hr.mono (by decide)) (by rfl) T.g_l_contact T.F_l_contact.kp T.b_l_contact .nil pass0 (pa_cons (pv 2) (pa_cons (pv 3) pa_nil)))))
    (pss_one (ps_ret (pe_callTy (k_tuple (K := K) rfl) (by rfl) T.m_tuple (by decide +kernel) (pa_cons (pe_lc (own := [("_law_touch", 4)]) rfl sc_l_touches.nd (k_iter (K := K) rfl (pv 1)) (blkOk_by (own := [("_law_touch", 4)]) (N := ["_law_rows", "_law_found", "_law_one", "_law_other", "_law_touch"]) (sc := defScope s_l_touches) (by decide +kernel)) (fun _ _ _ _ _ => (pg_name (i := 4) sc_l_touches.nd rfl (Or.inl rfl))) (fun _ _ _ _ _ => (pts_one (pt_cmpR k_notN (pv 4) pe_non (nomark _)))) (fun _ _ _ _ _ => (pv 4))) pa_nil))))), by infer_instance, fun ds n Q hl hA => ?_⟩
  obtain ⟨bs, rfl, hS, h6, q⟩ := hA
  have hpl := prl6 h6
  have hP := hS.prs
  refine ⟨bs, rfl, by omega, fun b hb => (hS.row b hb).m0, ?_⟩
  refine ⟨by rw [List.length_map]; omega, ?_⟩
  refine aLc_ind (fun acc ds i => i = n ∧ ∃ us vs : List (Bw × Bw), prsB bs = us ++ vs ∧ ds = vs.map prBD ∧ acc = us.map ctD) ?_ ?_ ⟨rfl, [], prsB bs, rfl, rfl, rfl⟩
  · rintro acc d r i ⟨rfl, us, vs, e0, e, rfl⟩ ih
    cases vs with
    | nil => cases e
    | cons v vs =>
    obtain ⟨rfl, rfl⟩ := List.cons.inj e
    have hv : v ∈ prsB bs := by rw [e0]; exact List.mem_append_right _ List.mem_cons_self
    obtain ⟨h1, h2, _, _⟩ := prsB_mem hv hS.nd
    exact aT ⟨v.1, v.2, rfl, (hS.row _ h1).ok, (hS.row _ h2).ok, hP.apt v hv, ih _ _ ⟨rfl, us ++ [v], vs, by rw [e0]; simp, rfl, by rw [List.map_append]; rfl⟩⟩
  rintro acc i ⟨rfl, us, vs, e0, e, rfl⟩
  cases vs with
  | cons v vs => cases e
  | nil =>
  rw [List.append_nil] at e0
  subst e0
  refine ⟨by rw [List.length_map]; omega, ?_⟩
  refine aLc_ind (fun acc ds j => j = i ∧ ∃ us vs : List (Bw × Bw), prsB bs = us ++ vs ∧ ds = vs.map ctD ∧ acc = (conts us).map tchD) ?_ ?_ ⟨rfl, [], prsB bs, rfl, rfl, rfl⟩
  · rintro acc d r j ⟨rfl, us, vs, e0, e, rfl⟩ ih
    cases vs with
    | nil => cases e
    | cons v vs =>
    obtain ⟨rfl, rfl⟩ := List.cons.inj e
    have e1 : conts (us ++ [v]) = conts us ++ conL v.1 v.2 := by
      unfold conts
      rw [List.flatMap_append]
      simp
    unfold ctD
    cases hO : conO v.1 v.2 with
    | none =>
      refine aF (ih _ _ ⟨rfl, us ++ [v], vs, by rw [e0]; simp, rfl, ?_⟩)
      rw [e1]
      unfold conL
      rw [hO, List.append_nil]
    | some w =>
      refine aT (ih _ _ ⟨rfl, us ++ [v], vs, by rw [e0]; simp, rfl, ?_⟩)
      rw [e1]
      unfold conL
      rw [hO, List.map_append]
      rfl
  rintro acc j ⟨rfl, us, vs, e0, e, rfl⟩
  cases vs with
  | cons v vs => cases e
  | nil =>
  rw [List.append_nil] at e0
  subst e0
  exact q
/-- a contact as told: names, a way without a common divisor -/
structure TdOk (t : Tch) : Prop where
  n1 : ∃ z : Str, t.1.nm = .str z ∧ PyData.canLay0 (.str z) = true
  n2 : ∃ z : Str, t.2.1.nm = .str z ∧ PyData.canLay0 (.str z) = true
  one : gcdI t.2.2.1 t.2.2.2 = 1
theorem TdOk.sd {t : Tch} (h : TdOk t) : Sd 2 (tchD t) := Sd.tup fun d hd => by
  have : d = t.1.nm ∨ d = t.2.1.nm ∨ d = pt t.2.2 := by simpa [tchD] using hd
  rcases this with rfl | rfl | rfl
  · obtain ⟨z, e, hz⟩ := h.n1
    rw [e]
    exact Sd.str hz
  · obtain ⟨z, e, hz⟩ := h.n2
    rw [e]
    exact Sd.str hz
  · exact Sd.pt _
theorem Scn.tds {bs : List Bw} (h : Scn 500 bs) : ∀ t ∈ conts (prsB bs), TdOk t := fun t ht => by
  obtain ⟨hp, hO⟩ := conts_mem ht
  obtain ⟨h1, h2, _, _⟩ := prsB_mem hp h.nd
  obtain ⟨z, e, _, c⟩ := (h.row _ h1).nm
  obtain ⟨z', e', _, c'⟩ := (h.row _ h2).nm
  exact ⟨⟨z, e, c⟩, ⟨z', e', c'⟩, (conO_ok (h.row _ h1).ok.1 (h.row _ h2).ok.1 hO).2⟩
noncomputable def a_l_same_touches : ASp := fun ds n Q => ∃ ts : List Tch, ds = [.tup (ts.map tchD), .tup (ts.map tchD)] ∧ (∀ t ∈ ts, TdOk t) ∧ Q (.bl true) n
theorem ok_l_same_touches (T : Tx K mg A) : FnOk P w K mg base CX0 3 A.f_l_same_touches A.fd_l_same_touches ["_law_found", "_law_due"] (spOf K 2 a_l_same_touches) := by
  refine fn_mir [] 4 rfl (by decide) (by decide) T.F_l_same_touches sc_l_same_touches fun cdv Ar outer s H E hr => ?_
  refine ⟨_, _, (pss_cons (ps_if (PW.pt (pw_or (pt_not (pt_val (pe_callB (k_isi (K := K) rfl) (by rfl) T.m_isinstance (by decide +kernel) (pa_cons (pv 0) (pa_cons (k_ty (t := .tup) (by rfl) T.m_tuple (by decide +kernel)) pa_nil))))) (pw_or1 (pt_cmpR (k_ne (K := K) rfl hr.units) (pe_callB (k_len (K := K) rfl) (by rfl) T.m_len (by decide +kernel) (pa_cons (pv 0) pa_nil)) (pe_callB (k_len (K := K) rfl) (by rfl) T.m_len (by decide +kernel) (pa_cons (pv 1) pa_nil)) (nomark _)))))
      (pss_one (ps_ret pe_bl))
      pss_nil)
    (pss_cons (ps_for PassesOwn.never rfl (k_zip (K := K) rfl (by rfl) T.m_zip (pa_cons (pv 0) (pa_cons (pv 1) pa_nil))) (k_gtup (K := K) (m := 2) rfl rfl (pgs_cons (pg_name (i := 2) sc_l_same_touches.nd rfl (.inl rfl)) (pgs_cons (pg_name (i := 3) sc_l_same_touches.nd rfl (.inl rfl)) pgs_nil)))
      (pss_one (ps_if (PW.pt (pw_or (pt_not (pt_val (pe_callB (k_isi (K := K) rfl) (by rfl) T.m_isinstance (by decide +kernel) (pa_cons (pv 2) (pa_cons (k_ty (t := .tup) (by rfl) T.m_tuple (by decide +kernel)) pa_nil))))) (pw_or (pt_cmpR (k_ne (K := K) rfl hr.units) (pe_callB (k_len (K := K) rfl) (by rfl) T.m_len (by decide +kernel) (pa_cons (pv 2) pa_nil)) pe_int (nomark _)) (pw_or (pt_not (pt_val (pe_call (ok_l_two (P := P) (K := K) T) (hr.mono (by decide)) (by rfl) T.g_l_two T.F_l_two.kp T.b_l_two .nil pass0 (pa_cons (pe_ix (k_ix (K := K) rfl) (pv 2) pe_int (fun _ _ => rfl)) pa_nil)))) (pw_or1 (pt_cmpR (k_ne (K := K) rfl hr.units) (pv 2) (pv 3) (nomark _)))))))
      (pss_one (ps_ret pe_bl))
      pss_nil)))
    (pss_one (ps_ret pe_bl)))), by infer_instance, fun ds n Q hl hA => ?_⟩
  obtain ⟨ts, rfl, hT, q⟩ := hA
  refine aF ?_
  refine nIte (fun z => absurd rfl z) fun _ => ?_
  refine aFor_ind (fun ds ρ m => m = n ∧ ∃ (us vs : List Tch) (y2 y3 : Option D), ts = us ++ vs ∧ ds = zipD (vs.map tchD) (vs.map tchD) ∧ ρ = [some (.tup (ts.map tchD)), some (.tup (ts.map tchD)), y2, y3]) ?_ ?_ ⟨rfl, [], ts, none, none, rfl, rfl, rfl⟩
  · rintro d r _ m ⟨rfl, us, vs, y2, y3, e0, e, rfl⟩ ih
    cases vs with
    | nil => cases e
    | cons v vs =>
    obtain ⟨rfl, rfl⟩ := List.cons.inj e
    have hv := hT v (by rw [e0]; exact List.mem_append_right _ List.mem_cons_self)
    have sd := hv.sd
    refine aF (aF ?_)
    refine ⟨_, _, rfl, ?_⟩
    refine nIte (fun z => absurd hv.one z) fun _ => ?_
    refine ⟨⟨sd.1, sd.1, sd.shaped (by decide), sd.shaped (by decide)⟩, ?_⟩
    refine (show aIte (not (PyData.eqv (tchD v).pd (tchD v).pd)) _ _ from ?_)
    rw [SeqAt.eqv_refl _ sd.2.1]
    exact aF (ih _ _ ⟨rfl, us ++ [v], vs, _, _, by rw [e0]; simp, rfl, rfl⟩)
  · rintro _ m ⟨rfl, us, vs, y2, y3, e0, e, rfl⟩
    exact q
/-! ### rows with a corner on one spot; speeds drawn anew; turned -/
theorem gap0_pos {b c b' c' : Bw} (h1 : b'.cs = b.cs) (h2 : c'.cs = c.cs) (h3 : b'.px = b.px) (h4 : b'.py = b.py) (h5 : c'.px = c.px) (h6 : c'.py = c.py) (w : Pt) : gapQ b' c' w 0 = gapQ b c w 0 := by
  have e : wid b' c' w = wid b c w := by unfold wid; rw [h1, h2]
  rw [gap0, gap0, e, h3, h4, h5, h6]
theorem Apart.pos {b c b' c' : Bw} (h1 : b'.cs = b.cs) (h2 : c'.cs = c.cs) (h3 : b'.px = b.px) (h4 : b'.py = b.py) (h5 : c'.px = c.px) (h6 : c'.py = c.py) (h : Apart b c) : Apart b' c' := fun rs hp ho => h rs (by rw [← h1, ← h2]; exact hp) fun w hw => by
  have := ho w hw
  rw [gap0_pos h1 h2 h3 h4 h5 h6] at this
  exact this
/-- the same rows but for the speeds -/
structure Sped (b c : Bw) : Prop where
  nm : c.nm = b.nm
  cs : c.cs = b.cs
  m : c.m = b.m
  rl : c.rail = b.rail
  px : c.px = b.px
  py : c.py = b.py
theorem Scn.sped {bs cs : List Bw} (h : Scn 500 bs) (hp : Paired Sped bs cs) (hx : ∀ c ∈ cs, BdQ 10 c.x ∧ BdQ 10 c.y ∧ (c.m = 0 → c.x = 0 ∧ c.y = 0)) : Scn 500 cs := by
  have back : ∀ c ∈ cs, ∃ b ∈ bs, Sped b c := by
    clear hx h
    induction hp with
    | nil => exact fun c hc => by cases hc
    | @cons b c bs cs s r ih =>
      intro x hx
      rcases List.mem_cons.mp hx with rfl | hx
      · exact ⟨b, List.mem_cons_self, s⟩
      · obtain ⟨y, hy, s⟩ := ih x hx
        exact ⟨y, List.mem_cons_of_mem _ hy, s⟩
  have nms : cs.map Bw.nm = bs.map Bw.nm := by
    clear hx h back
    induction hp with
    | nil => rfl
    | cons s r ih => rw [List.map_cons, List.map_cons, ih, s.nm]
  refine ⟨fun c hc => ?_, by rw [nms]; exact h.nd, fun c hc d hd hne hm => ?_⟩
  · obtain ⟨b, hb, s⟩ := back c hc
    have r := h.row b hb
    obtain ⟨x1, x2, x3⟩ := hx c hc
    refine ⟨by rw [s.nm]; exact r.nm, ⟨by rw [s.cs]; exact r.ok.1, by rw [s.px]; exact r.ok.2.1, by rw [s.py]; exact r.ok.2.2.1, x1, x2⟩, by rw [s.rl]; exact r.rl, fun z => ⟨?_, x3 z⟩, by rw [s.m]; exact r.m0, by rw [s.m]; exact r.m5⟩
    rw [s.rl]
    exact (r.still (by rw [← s.m]; exact z)).1
  · obtain ⟨b, hb, s⟩ := back c hc
    obtain ⟨b', hb', s'⟩ := back d hd
    rcases h.apart b hb b' hb' (by rw [← s.nm, ← s'.nm]; exact hne) (by rw [← s.m, ← s'.m]; exact hm) with z | z
    · exact .inl (z.pos s.cs s'.cs s.px s.py s'.px s'.py)
    · exact .inr (z.pos s'.cs s.cs s'.px s'.py s.px s.py)
noncomputable def a_l_anew : ASp := fun ds n Q => ∃ bs : List Bw, ds = [.deck, .tup (bs.map Bw.d)] ∧ Scn 500 bs ∧ bs.length ≤ 6 ∧ 60 ≤ n ∧ ∀ (cs : List Bw) (n' : Nat), Scn 500 cs → Paired Sped bs cs → n ≤ n' + 60 → Q (.tup (cs.map Bw.d)) n'
theorem ok_l_anew (T : Tx K mg A) : FnOk P w K mg base CX0 6 A.f_l_anew A.fd_l_anew ["_law_deck", "_law_rows"] (spOf K 2 a_l_anew) := by
  refine fn_mir [2] 5 rfl (by decide) (by decide) T.F_l_anew sc_l_anew fun cdv Ar outer s H E hr => ?_
  refine ⟨_, _, (pss_cons (k_own (ps_set (i := 2) sc_l_anew.nd rfl (.inl rfl) (pe_lst pa_nil)))
    (pss_cons (ps_for PassesOwn.never rfl (k_iter (K := K) rfl (pv 1)) (pg_name (i := 3) sc_l_anew.nd rfl (.inl rfl))
      (pss_cons (ps_set (i := 4) sc_l_anew.nd rfl (.inl rfl) (pe_tup (pa_cons (pe_call (ok_l_drawn_size (P := P) (K := K) T) (hr.mono (by decide)) (by rfl) T.g_l_drawn_size T.F_l_drawn_size.kp T.b_l_drawn_size .nil pass0 (pa_cons (pv 0) (pa_cons pe_int pa_nil))) (pa_cons (pe_call (ok_l_drawn_size (P := P) (K := K) T) (hr.mono (by decide)) (by rfl) T.g_l_drawn_size T.F_l_drawn_size.kp T.b_l_drawn_size .nil pass0 (pa_cons (pv 0) (pa_cons pe_int pa_nil))) pa_nil))))
    (pss_cons (ps_if (pt_cmpR (k_eq (K := K) rfl hr.units) (pe_ix (k_ix (K := K) rfl) (pv 3) pe_int (fun _ _ => rfl)) pe_int (nomark _))
      (pss_one (ps_set (i := 4) sc_l_anew.nd rfl (.inl rfl) (pe_ix (k_ix (K := K) rfl) (pv 3) pe_int (fun _ _ => rfl))))
      pss_nil)
    (pss_cons (ps_if (pt_cmpR k_notN (pe_ix (k_ix (K := K) rfl) (pv 3) pe_int (fun _ _ => rfl)) pe_non (nomark _))
      (pss_one (ps_set (i := 4) sc_l_anew.nd rfl (.inl rfl) (pe_call (ok_l_spot_times (P := P) (K := K) T) (hr.mono (by decide)) (by rfl) T.g_l_spot_times T.F_l_spot_times.kp T.b_l_spot_times .nil pass0 (pa_cons (pe_call (ok_l_spot_of (P := P) (K := K) T) (hr.mono (by decide)) (by rfl) T.g_l_spot_of T.F_l_spot_of.kp T.b_l_spot_of .nil pass0 (pa_cons (pe_ix (k_ix (K := K) rfl) (pv 3) pe_int (fun _ _ => rfl)) pa_nil)) (pa_cons (pe_ix (k_ix (K := K) rfl) (pv 4) pe_int (fun _ _ => rfl)) pa_nil)))))
      pss_nil)
    (pss_one (k_app (K := K) rfl (ps_expr (pe_bm PySem.F.plainAttrs_list PySem.F.slot_list_append PySem.F.type_list_append mt_append (pv 2) (pa_cons (pe_op (k_add (K := K) rfl) (pe_slice (k_sl (K := K) rfl) (pv 3) po_none (po_some pe_int)) (pe_tup (pa_cons (pv 4) pa_nil))) pa_nil)))))))))
    (pss_one (ps_ret (pe_callTy (k_tuple (K := K) rfl) (by rfl) T.m_tuple (by decide +kernel) (pa_cons (pv 2) pa_nil)))))), by infer_instance, fun ds n Q hl hA => ?_⟩
  obtain ⟨bs, rfl, hS, hl6, hn, q⟩ := hA
  refine aFor_ind (fun ds ρ m => ∃ (us vs cs : List Bw) (L : List D) (y3 y4 : Option D), bs = us ++ vs ∧ ds = vs.map Bw.d ∧ L = cs.map Bw.d ∧ ρ = [some .deck, some (.tup (bs.map Bw.d)), some (.lst L), y3, y4] ∧ Paired Sped us cs ∧ (∀ c ∈ cs, BdQ 10 c.x ∧ BdQ 10 c.y ∧ (c.m = 0 → c.x = 0 ∧ c.y = 0)) ∧ n ≤ m + 6 * us.length) ?_ ?_ ⟨[], bs, [], [], none, none, rfl, rfl, rfl, rfl, .nil, (fun c hc => by cases hc), by simp⟩
  · rintro d r _ m ⟨us, vs, cs, L, y3, y4, e0, e, rfl, rfl, hpr, hcs, hm⟩ ih
    cases vs with
    | nil => cases e
    | cons v vs =>
    obtain ⟨rfl, rfl⟩ := List.cons.inj e
    have hv : v ∈ bs := by rw [e0]; exact List.mem_append_right _ List.mem_cons_self
    have hlen : us.length + 1 + vs.length = bs.length := by rw [e0, List.length_append, List.length_cons]; omega
    have hcl := paired_len hpr
    have hr := hS.row v hv
    have fin : ∀ (x y : Rat) (y3 y4 : Option D) (m' : Nat), BdQ 10 x → BdQ 10 y → (v.m = 0 → x = 0 ∧ y = 0) → m ≤ m' + 6 → aForGo _ _ _ _ (vs.map Bw.d) [some .deck, some (.tup (bs.map Bw.d)), some (.lst (cs.map Bw.d ++ [({ v with x := x, y := y } : Bw).d])), y3, y4] m' := fun x y y3 y4 m' bx by' h0 hm' => ih _ _ ⟨us ++ [v], vs, cs ++ [({ v with x := x, y := y } : Bw)], _, y3, y4, by rw [e0]; simp, rfl, by rw [List.map_append]; rfl, rfl, paired_snoc hpr ⟨rfl, rfl, rfl, rfl, rfl, rfl⟩, fun c hc => by
      rcases List.mem_append.mp hc with z | z
      · exact hcs c z
      · rw [List.mem_singleton.mp z]
        exact ⟨bx, by', h0⟩, by rw [List.length_append, List.length_singleton]; omega⟩
    refine ⟨4, rfl, by decide, by decide, by omega, fun x bx => ⟨4, rfl, by decide, by decide, by omega, fun y by' => ?_⟩⟩
    have hrl := hr.rl
    have hst := hr.still
    have hok := hr.ok
    have hlc : (cs.map Bw.d).length < 1000000 := by rw [List.length_map]; omega
    obtain ⟨vn, vc, vm, vr, vpx, vpy, vx, vy⟩ := v
    rcases hrl with e | ⟨w, e, w1, w2, w3, w4⟩
    · obtain rfl : vr = .non := e
      refine dIte (p := vm = 0) (fun hm0 => ?_) fun hm0 => ?_
      · refine aF ?_
        refine ⟨fun z => absurd z.2 (show ¬ HT.sIx 6 6 (some 5) = 6 by decide), List.cons_ne_nil _ _, show 5 + 1 ≤ 1000000 by decide, hlc, ?_⟩
        exact fin vx vy _ _ _ hok.2.2.2.1 hok.2.2.2.2 (fun z => (hst z).2) (by omega)
      · refine aF ?_
        refine ⟨fun z => absurd z.2 (show ¬ HT.sIx 6 6 (some 5) = 6 by decide), List.cons_ne_nil _ _, show 5 + 1 ≤ 1000000 by decide, hlc, ?_⟩
        exact fin x y _ _ _ (bx.le (by decide)) (by'.le (by decide)) (fun z => absurd z hm0) (by omega)
    · obtain rfl : vr = pt w := e
      have c1 : BdQ 4 (w.1 : Rat) := bdq_int (bd_abs (n := 15) (by decide) (by omega) (by omega)) (by decide)
      have c2 : BdQ 4 (w.2 : Rat) := bdq_int (bd_abs (n := 15) (by decide) (by omega) (by omega)) (by decide)
      refine dIte (p := vm = 0) (fun hm0 => absurd (hst hm0).1 fun z => by cases z) fun hm0 => ?_
      refine aT ?_
      refine ⟨w, rfl, ⟨_, _, x, 4, 4, rfl, c1, c2, bx, by decide, ?_⟩⟩
      refine ⟨fun z => absurd z.2 (show ¬ HT.sIx 6 6 (some 5) = 6 by decide), List.cons_ne_nil _ _, show 5 + 1 ≤ 1000000 by decide, hlc, ?_⟩
      exact fin _ _ _ _ _ ((c1.mul bx).le (by decide)) ((c2.mul bx).le (by decide)) (fun z => absurd z hm0) (by omega)
  · rintro _ m ⟨us, vs, cs, L, y3, y4, e0, e, rfl, rfl, hpr, hcs, hm⟩
    cases vs with
    | cons v vs => cases e
    | nil =>
    rw [List.append_nil] at e0
    subst e0
    exact q cs m (hS.sped hpr hcs) hpr (by omega)
noncomputable def trn (b : Bw) : Bw := { b with x := b.x * -1, y := b.y * -1 }
theorem paired_map {α β : Type} {F : α → β → Prop} {f : α → β} (h : ∀ a, F a (f a)) : ∀ l : List α, Paired F l (l.map f)
  | [] => .nil
  | a :: l => .cons (h a) (paired_map h l)
theorem Scn.trn {bs : List Bw} (h : Scn 500 bs) : Scn 500 (bs.map trn) := by
  refine h.sped (paired_map (fun a => ⟨rfl, rfl, rfl, rfl, rfl, rfl⟩) bs) fun c hc => ?_
  obtain ⟨a, ha, rfl⟩ := List.mem_map.mp hc
  have r := h.row a ha
  have e1 : a.x * -1 = -a.x := by grind
  have e2 : a.y * -1 = -a.y := by grind
  refine ⟨show BdQ 10 (a.x * -1) from e1 ▸ r.ok.2.2.2.1.neg, show BdQ 10 (a.y * -1) from e2 ▸ r.ok.2.2.2.2.neg, fun z => ?_⟩
  obtain ⟨_, h2, h3⟩ := r.still z
  refine ⟨?_, ?_⟩
  · show a.x * -1 = 0
    rw [h2]; grind
  · show a.y * -1 = 0
    rw [h3]; grind
noncomputable def a_l_turned : ASp := fun ds n Q => ∃ bs : List Bw, ds = [.tup (bs.map Bw.d)] ∧ Scn 500 bs ∧ bs.length ≤ 6 ∧ Q (.tup ((bs.map trn).map Bw.d)) n
theorem ok_l_turned (T : Tx K mg A) : FnOk P w K mg base CX0 5 A.f_l_turned A.fd_l_turned ["_law_rows"] (spOf K 1 a_l_turned) := by
  refine fn_mir [] 2 rfl (by decide) (by decide) T.F_l_turned sc_l_turned fun cdv Ar outer s H E hr => ?_
  refine ⟨_, _, (pss_one (ps_ret (pe_callTy (k_tuple (K := K) rfl) (by rfl) T.m_tuple (by decide +kernel) (pa_cons (pe_lc (own := [("_law_row", 1)]) rfl sc_l_turned.nd (k_iter (K := K) rfl (pv 0)) (blkOk_by (own := [("_law_row", 1)]) (N := ["_law_rows", "_law_row"]) (sc := defScope s_l_turned) (by decide +kernel)) (fun _ _ _ _ _ => (pg_name (i := 1) sc_l_turned.nd rfl (Or.inl rfl))) (fun _ _ _ _ _ => pts_nil) (fun _ _ _ _ _ => (pe_op (k_add (K := K) rfl) (pe_slice (k_sl (K := K) rfl) (pv 1) po_none (po_some pe_int)) (pe_tup (pa_cons (pe_call (ok_l_spot_times (P := P) (K := K) T) (hr.mono (by decide)) (by rfl) T.g_l_spot_times T.F_l_spot_times.kp T.b_l_spot_times .nil pass0 (pa_cons (pe_ix (k_ix (K := K) rfl) (pv 1) pe_int (fun _ _ => rfl)) (pa_cons (pe_tup (pa_cons (pe_un un_neg pe_int) (pa_cons pe_int pa_nil))) pa_nil))) pa_nil))))) pa_nil)))), by infer_instance, fun ds n Q hl hA => ?_⟩
  obtain ⟨bs, rfl, hS, h6, q⟩ := hA
  refine ⟨by rw [List.length_map]; omega, ?_⟩
  refine aLc_ind (fun acc ds j => j = n ∧ ∃ us vs : List Bw, bs = us ++ vs ∧ ds = vs.map Bw.d ∧ acc = (us.map trn).map Bw.d) ?_ ?_ ⟨rfl, [], bs, rfl, rfl, rfl⟩
  · rintro acc d r j ⟨rfl, us, vs, e0, e, rfl⟩ ih
    cases vs with
    | nil => cases e
    | cons v vs =>
    obtain ⟨rfl, rfl⟩ := List.cons.inj e
    have hv : v ∈ bs := by rw [e0]; exact List.mem_append_right _ List.mem_cons_self
    have r := hS.row v hv
    refine aT ⟨fun z => absurd z.2 (show ¬ HT.sIx 6 6 (some 5) = 6 by decide), ?_⟩
    refine ⟨v.x, v.y, -1, 10, 1, rfl, r.ok.2.2.2.1, r.ok.2.2.2.2, bdm1, by decide, ?_⟩
    refine ⟨List.cons_ne_nil _ _, show 5 + 1 ≤ 1000000 by decide, ?_⟩
    exact ih _ _ ⟨rfl, us ++ [v], vs, by rw [e0]; simp, rfl, by rw [List.map_append, List.map_append]; rfl⟩
  · rintro acc j ⟨rfl, us, vs, e0, e, rfl⟩
    cases vs with
    | cons v vs => cases e
    | nil =>
    rw [List.append_nil] at e0
    subst e0
    exact q
/-! CUT -/
/-! ### isinstance facts of own classes -/
theorem kit_ref {K : PySem.W.Frag} {D C : Addr} {b : Bool} (hc : PySem.W.isClsIn K C = true) (ht : PySem.W.typeIn K (.ref C) = some (.type "type")) (hs : PySem.W.subIn K (.ref D) (.ref C) = some b) (hd : PySem.W.subIn K (.ref D) (.ref D) = some true) : PySem.W.kitOne K (.ref D) (.ref C) = some b := by
  unfold PySem.W.kitOne
  by_cases e : D = C
  · subst e
    rw [hd] at hs
    cases hs
    rw [if_pos (beq_self_eq_true _)]
  · have hne : ¬ ((Value.ref D == Value.ref C) = true) := fun z => e (Value.ref.inj (beq_iff_eq.mp z))
    rw [if_neg hne]
    have h2 : ((PySem.W.clsIn K C).isSome && PySem.W.typeIn K (.ref C) == some (.type "type")) = true := by
      have h2' : (PySem.W.clsIn K C).isSome = true := hc
      rw [h2', ht] <;> rfl
    show (if ((PySem.W.clsIn K C).isSome && PySem.W.typeIn K (.ref C) == some (.type "type")) = true then PySem.W.subIn K (.ref D) (.ref C) else none) = some b
    rw [if_pos h2]
    exact hs
theorem kit_type {K : PySem.W.Frag} {D : Addr} {n : String} {b : Bool} (hm : PySem.W.kitMeta n = true) (hs : PySem.W.subIn K (.ref D) (.type n) = some b) : PySem.W.kitOne K (.ref D) (.type n) = some b := by
  unfold PySem.W.kitOne
  have hne : ¬ ((Value.ref D == Value.type n) = true) := fun z => nomatch (beq_iff_eq.mp z)
  rw [if_neg hne]
  show (if PySem.W.kitMeta n = true then PySem.W.subIn K (.ref D) (.type n) else none) = some b
  rw [if_pos hm]
  exact hs
/-! ### the caught error is Over alone -/
noncomputable def kindsL : List Bool := [false, false, false, false, true, false, false, false, false, false, false, false, false, false, false, false, false, false, false, false, false]
noncomputable def a_l_kinds (K : PySem.W.Frag) (A : Ad) : ASH := fun a d ds n Q => ∃ ns es, ds = [.xcp a A.c_Over d ns es] ∧ Q (.lst (kindsL.map D.bl)) n
theorem ok_l_kinds [Sx P K A] (T : Tx K mg A) : FnX P w K mg base 1 A.f_l_kinds A.fd_l_kinds ["_law_e"] (spH K A.c_Over 1 (a_l_kinds K A)) := by
  refine fn_mirH A.c_Over [] 2 rfl (by decide) (by decide) T.F_l_kinds sc_l_kinds fun cdv Ar outer s H E a oe d hot hr hz hf => ?_
  refine ⟨_, _, (pss_cons (ps_set (i := 1) sc_l_kinds.nd rfl (.inl rfl) (pe_lst (pa_cons (pe_callB (call_isXg (K := K) rfl (Sx.E_Over (P := P) (K := K) (A := A)) hz hf List.mem_cons_self) (by rfl) T.m_isinstance (by decide +kernel) (pa_cons (pv 0) (pa_cons (k_cls (by rfl) T.g_NoShare) pa_nil))) (pa_cons (pe_callB (call_isXg (K := K) rfl (Sx.E_Over (P := P) (K := K) (A := A)) hz hf List.mem_cons_self) (by rfl) T.m_isinstance (by decide +kernel) (pa_cons (pv 0) (pa_cons (k_cls (by rfl) T.g_NoWay) pa_nil))) (pa_cons (pe_callB (call_isXg (K := K) rfl (Sx.E_Over (P := P) (K := K) (A := A)) hz hf List.mem_cons_self) (by rfl) T.m_isinstance (by decide +kernel) (pa_cons (pv 0) (pa_cons (k_cls (by rfl) T.g_BadShape) pa_nil))) (pa_cons (pe_callB (call_isXg (K := K) rfl (Sx.E_Over (P := P) (K := K) (A := A)) hz hf List.mem_cons_self) (by rfl) T.m_isinstance (by decide +kernel) (pa_cons (pv 0) (pa_cons (k_cls (by rfl) T.g_BadRow) pa_nil))) pa_nil))))))
    (pss_cons (ps_set (i := 1) sc_l_kinds.nd rfl (.inl rfl) (pe_op (k_add (K := K) rfl) (pv 1) (pe_lst (pa_cons (pe_callB (call_isXg (K := K) rfl (Sx.E_Over (P := P) (K := K) (A := A)) hz hf List.mem_cons_self) (by rfl) T.m_isinstance (by decide +kernel) (pa_cons (pv 0) (pa_cons (k_cls (by rfl) T.g_Over) pa_nil))) (pa_cons (pe_callB (call_isXg (K := K) rfl (Sx.E_Over (P := P) (K := K) (A := A)) hz hf List.mem_cons_self) (by rfl) T.m_isinstance (by decide +kernel) (pa_cons (pv 0) (pa_cons (k_cls (by rfl) T.g_Early) pa_nil))) (pa_cons (pe_callB (call_isXg (K := K) rfl (Sx.E_Over (P := P) (K := K) (A := A)) hz hf List.mem_cons_self) (by rfl) T.m_isinstance (by decide +kernel) (pa_cons (pv 0) (pa_cons (k_cls (by rfl) T.g_Calm) pa_nil))) (pa_cons (pe_callB (call_isXg (K := K) rfl (Sx.E_Over (P := P) (K := K) (A := A)) hz hf List.mem_cons_self) (by rfl) T.m_isinstance (by decide +kernel) (pa_cons (pv 0) (pa_cons (k_cls (by rfl) T.g_NoBody) pa_nil))) pa_nil)))))))
    (pss_cons (ps_set (i := 1) sc_l_kinds.nd rfl (.inl rfl) (pe_op (k_add (K := K) rfl) (pv 1) (pe_lst (pa_cons (pe_callB (call_isXg (K := K) rfl (Sx.E_Over (P := P) (K := K) (A := A)) hz hf List.mem_cons_self) (by rfl) T.m_isinstance (by decide +kernel) (pa_cons (pv 0) (pa_cons (k_cls (by rfl) T.g_Twice) pa_nil))) (pa_cons (pe_callB (call_isXg (K := K) rfl (Sx.E_Over (P := P) (K := K) (A := A)) hz hf List.mem_cons_self) (by rfl) T.m_isinstance (by decide +kernel) (pa_cons (pv 0) (pa_cons (k_cls (by rfl) T.g_Full) pa_nil))) (pa_cons (pe_callB (call_isXg (K := K) rfl (Sx.E_Over (P := P) (K := K) (A := A)) hz hf List.mem_cons_self) (by rfl) T.m_isinstance (by decide +kernel) (pa_cons (pv 0) (pa_cons (k_cls (by rfl) T.g_Long) pa_nil))) (pa_cons (pe_callB (call_isXg (K := K) rfl (Sx.E_Over (P := P) (K := K) (A := A)) hz hf List.mem_cons_self) (by rfl) T.m_isinstance (by decide +kernel) (pa_cons (pv 0) (pa_cons (k_cls (by rfl) T.g_BadPush) pa_nil))) pa_nil)))))))
    (pss_cons (ps_set (i := 1) sc_l_kinds.nd rfl (.inl rfl) (pe_op (k_add (K := K) rfl) (pv 1) (pe_lst (pa_cons (pe_callB (call_isXg (K := K) rfl (Sx.E_Over (P := P) (K := K) (A := A)) hz hf List.mem_cons_self) (by rfl) T.m_isinstance (by decide +kernel) (pa_cons (pv 0) (pa_cons (k_cls (by rfl) T.g_BadSpan) pa_nil))) (pa_cons (pe_callB (call_isXg (K := K) rfl (Sx.E_Over (P := P) (K := K) (A := A)) hz hf List.mem_cons_self) (by rfl) T.m_isinstance (by decide +kernel) (pa_cons (pv 0) (pa_cons (k_cls (by rfl) T.g_BadCount) pa_nil))) (pa_cons (pe_callB (call_isXg (K := K) rfl (Sx.E_Over (P := P) (K := K) (A := A)) hz hf List.mem_cons_self) (by rfl) T.m_isinstance (by decide +kernel) (pa_cons (pv 0) (pa_cons (k_cls (by rfl) T.g_BadState) pa_nil))) pa_nil))))))
    (pss_cons (ps_set (i := 1) sc_l_kinds.nd rfl (.inl rfl) (pe_op (k_add (K := K) rfl) (pv 1) (pe_lst (pa_cons (pe_callB (call_isXg (K := K) rfl (Sx.E_Over (P := P) (K := K) (A := A)) hz hf List.mem_cons_self) (by rfl) T.m_isinstance (by decide +kernel) (pa_cons (pv 0) (pa_cons (k_cls (by rfl) T.g_Crowded) pa_nil))) (pa_cons (pe_callB (call_isXg (K := K) rfl (Sx.E_Over (P := P) (K := K) (A := A)) hz hf List.mem_cons_self) (by rfl) T.m_isinstance (by decide +kernel) (pa_cons (pv 0) (pa_cons (k_cls (by rfl) T.g_TooFine) pa_nil))) (pa_cons (pe_callB (call_isXg (K := K) rfl (Sx.E_Over (P := P) (K := K) (A := A)) hz hf List.mem_cons_self) (by rfl) T.m_isinstance (by decide +kernel) (pa_cons (pv 0) (pa_cons (k_cls (by rfl) T.g_Nothing) pa_nil))) (pa_cons (pe_callB (call_isXg (K := K) rfl (Sx.E_Over (P := P) (K := K) (A := A)) hz hf List.mem_cons_self) (by rfl) T.m_isinstance (by decide +kernel) (pa_cons (pv 0) (pa_cons (k_cls (by rfl) T.g_Wrong) pa_nil))) pa_nil)))))))
    (pss_one (ps_ret (pe_op (k_add (K := K) rfl) (pv 1) (pe_lst (pa_cons (pe_callB (call_isXg (K := K) rfl (Sx.E_Over (P := P) (K := K) (A := A)) hz hf List.mem_cons_self) (by rfl) T.m_isinstance (by decide +kernel) (pa_cons (pv 0) (pa_cons (k_cls (by rfl) T.g_BadText) pa_nil))) (pa_cons (pe_callB (call_isXg (K := K) rfl (Sx.E_Over (P := P) (K := K) (A := A)) hz hf List.mem_cons_self) (by rfl) T.m_isinstance (by decide +kernel) (pa_cons (pv 0) (pa_cons (k_cls (by rfl) T.g_BadLine) pa_nil))) pa_nil))))))))))), by infer_instance, fun ds n Q hl hA => ?_⟩
  obtain ⟨ns, es, rfl, q⟩ := hA
  refine ⟨⟨rfl, rfl⟩, _, _, rfl, T.i_Over_NoShare, ?_⟩
  refine ⟨⟨rfl, rfl⟩, _, _, rfl, T.i_Over_NoWay, ?_⟩
  refine ⟨⟨rfl, rfl⟩, _, _, rfl, T.i_Over_BadShape, ?_⟩
  refine ⟨⟨rfl, rfl⟩, _, _, rfl, T.i_Over_BadRow, ?_⟩
  refine ⟨⟨rfl, rfl⟩, _, _, rfl, T.i_Over_Over, ?_⟩
  refine ⟨⟨rfl, rfl⟩, _, _, rfl, T.i_Over_Early, ?_⟩
  refine ⟨⟨rfl, rfl⟩, _, _, rfl, T.i_Over_Calm, ?_⟩
  refine ⟨⟨rfl, rfl⟩, _, _, rfl, T.i_Over_NoBody, ?_⟩
  refine ⟨by show 4 + 4 ≤ 1000000; decide, ?_⟩
  refine ⟨⟨rfl, rfl⟩, _, _, rfl, T.i_Over_Twice, ?_⟩
  refine ⟨⟨rfl, rfl⟩, _, _, rfl, T.i_Over_Full, ?_⟩
  refine ⟨⟨rfl, rfl⟩, _, _, rfl, T.i_Over_Long, ?_⟩
  refine ⟨⟨rfl, rfl⟩, _, _, rfl, T.i_Over_BadPush, ?_⟩
  refine ⟨by show 8 + 4 ≤ 1000000; decide, ?_⟩
  refine ⟨⟨rfl, rfl⟩, _, _, rfl, T.i_Over_BadSpan, ?_⟩
  refine ⟨⟨rfl, rfl⟩, _, _, rfl, T.i_Over_BadCount, ?_⟩
  refine ⟨⟨rfl, rfl⟩, _, _, rfl, T.i_Over_BadState, ?_⟩
  refine ⟨by show 12 + 3 ≤ 1000000; decide, ?_⟩
  refine ⟨⟨rfl, rfl⟩, _, _, rfl, T.i_Over_Crowded, ?_⟩
  refine ⟨⟨rfl, rfl⟩, _, _, rfl, T.i_Over_TooFine, ?_⟩
  refine ⟨⟨rfl, rfl⟩, _, _, rfl, T.i_Over_Nothing, ?_⟩
  refine ⟨⟨rfl, rfl⟩, _, _, rfl, T.i_Over_Wrong, ?_⟩
  refine ⟨by show 15 + 4 ≤ 1000000; decide, ?_⟩
  refine ⟨⟨rfl, rfl⟩, _, _, rfl, T.i_Over_BadText, ?_⟩
  refine ⟨⟨rfl, rfl⟩, _, _, rfl, T.i_Over_BadLine, ?_⟩
  refine ⟨by show 19 + 2 ≤ 1000000; decide, ?_⟩
  exact q
noncomputable def a_l_alone (K : PySem.W.Frag) (A : Ad) : ASH := fun a d ds n Q => ∃ ns es, ds = [.xcp a A.c_Over d ns es] ∧ Q (.bl true) n
theorem ok_l_alone [Sx P K A] (T : Tx K mg A) : FnX P w K mg base 2 A.f_l_alone A.fd_l_alone ["_law_e"] (spH K A.c_Over 1 (a_l_alone K A)) := by
  refine fn_mirH A.c_Over [] 1 rfl (by decide) (by decide) T.F_l_alone sc_l_alone fun cdv Ar outer s H E a oe d hot hr hz hf => ?_
  refine ⟨_, _, (pss_one (ps_ret (pe_and (pe_callB (call_isXg (K := K) rfl (Sx.E_Over (P := P) (K := K) (A := A)) hz hf List.mem_cons_self) (by rfl) T.m_isinstance (by decide +kernel) (pa_cons (pv 0) (pa_cons (k_cls (by rfl) T.g_BodyError) pa_nil))) (pe_and (pe_callB (call_isXg (K := K) rfl (Sx.E_Over (P := P) (K := K) (A := A)) hz hf List.mem_cons_self) (by rfl) T.m_isinstance (by decide +kernel) (pa_cons (pv 0) (pa_cons (k_ty (t := .verr) (by rfl) T.m_ValueError (by decide +kernel)) pa_nil))) (pe_one (pe_cmpR (k_eq (K := K) rfl hr.units) (k_cntB (K := K) rfl (pe_bm PySem.F.plainAttrs_list PySem.F.slot_list_count PySem.F.type_list_count mt_cntB (k_callH (K := K) rfl hz hf hot List.mem_cons_self (ok_l_kinds (P := P) (K := K) T) (hr.mono (by decide)) (by rfl) T.g_l_kinds T.F_l_kinds.kp T.b_l_kinds (pa_cons (pv 0) pa_nil)) (pa_cons pe_bl pa_nil))) pe_int (nomark _))))))), by infer_instance, fun ds n Q hl hA => ?_⟩
  obtain ⟨ns, es, rfl, q⟩ := hA
  refine ⟨⟨rfl, rfl⟩, _, _, rfl, T.i_Over_BodyError, aT ?_⟩
  refine ⟨⟨rfl, rfl⟩, _, _, rfl, T.i_Over_ValueError, aT ?_⟩
  refine ⟨ns, es, rfl, ?_⟩
  refine ⟨kindsL, rfl, true, rfl, ?_⟩
  exact q
/-! ### k44's own -/
/-- rows that are right, over one another or not -/
structure Rws (bs : List Bw) : Prop where
  row : ∀ b ∈ bs, Rw1 500 b
  nd : (bs.map Bw.nm).Nodup
theorem Scn.rws {bs : List Bw} (h : Scn 500 bs) : Rws bs := ⟨h.row, h.nd⟩
theorem prsB_of {bs : List Bw} {b c : Bw} (hb : b ∈ bs) (hc : c ∈ bs) (hn : b.nm ≠ c.nm) (hp : prOk b c) : (b, c) ∈ prsB bs ∨ (c, b) ∈ prsB bs := by
  have hp' : prOk c b := by unfold prOk at *; omega
  induction bs with
  | nil => cases hb
  | cons a r ih =>
    rcases List.mem_cons.mp hb with rfl | hb'
    · rcases List.mem_cons.mp hc with rfl | hc'
      · exact absurd rfl hn
      · exact .inl (List.mem_append_left _ (List.mem_map.mpr ⟨c, List.mem_filter.mpr ⟨hc', decide_eq_true hp⟩, rfl⟩))
    · rcases List.mem_cons.mp hc with rfl | hc'
      · exact .inr (List.mem_append_left _ (List.mem_map.mpr ⟨b, List.mem_filter.mpr ⟨hb', decide_eq_true hp'⟩, rfl⟩))
      · rcases ih hb' hc' with z | z
        · exact .inl (List.mem_append_right _ z)
        · exact .inr (List.mem_append_right _ z)
theorem Rws.scn {bs : List Bw} (h : Rws bs) (ha : ∀ p ∈ prsB bs, Apart p.1 p.2) : Scn 500 bs := ⟨h.row, h.nd, fun b hb c hc hne hm => by
  have hp : prOk b c := by
    have h1 := (h.row b hb).m0
    have h2 := (h.row c hc).m0
    unfold prOk
    omega
  rcases prsB_of hb hc hne hp with z | z
  · exact .inl (ha _ z)
  · exact .inr (ha _ z)⟩
open Classical in
noncomputable def ovL (ps : List (Bw × Bw)) : List (Bw × Bw) := ps.filter fun p => decide (¬ Apart p.1 p.2)
open Classical in
theorem ovL_yes {us : List (Bw × Bw)} {p : Bw × Bw} (h : ¬ Apart p.1 p.2) : ovL (us ++ [p]) = ovL us ++ [p] := by
  unfold ovL
  rw [List.filter_append, List.filter_cons_of_pos (p := fun p : Bw × Bw => decide (¬ Apart p.1 p.2)) (decide_eq_true h), List.filter_nil]
open Classical in
theorem ovL_no {us : List (Bw × Bw)} {p : Bw × Bw} (h : Apart p.1 p.2) : ovL (us ++ [p]) = ovL us := by
  unfold ovL
  rw [List.filter_append, List.filter_cons_of_neg (p := fun p : Bw × Bw => decide (¬ Apart p.1 p.2)) (by rw [decide_eq_true_eq]; exact fun z => z h), List.filter_nil, List.append_nil]
open Classical in
theorem ovL_nil {ps : List (Bw × Bw)} (h : ∀ p ∈ ps, Apart p.1 p.2) : ovL ps = [] := by
  unfold ovL
  exact List.filter_eq_nil_iff.mpr fun p hp => by rw [decide_eq_true_eq]; exact fun z => z (h p hp)
open Classical in
theorem ovL_first {us vs : List (Bw × Bw)} {p : Bw × Bw} (h : ∀ q ∈ us, Apart q.1 q.2) (hp : ¬ Apart p.1 p.2) : ovL (us ++ p :: vs) = p :: ovL vs := by
  have e := ovL_nil h
  unfold ovL at *
  rw [List.filter_append, e, List.nil_append, List.filter_cons_of_pos (p := fun p : Bw × Bw => decide (¬ Apart p.1 p.2)) (decide_eq_true hp)]
noncomputable def nmD (p : Bw × Bw) : D := .tup [p.1.nm, p.2.nm]
noncomputable def a_l_are_over : ASp := fun ds n Q => ∃ bs : List Bw, ds = [.tup (bs.map Bw.d)] ∧ Rws bs ∧ bs.length ≤ 6 ∧ Q (.lst ((ovL (prsB bs)).map nmD)) n
theorem ok_l_are_over (T : Tx K mg A) : FnOk P w K mg base CX0 9 A.f_l_are_over A.fd_l_are_over ["_law_rows"] (spOf K 1 a_l_are_over) := by
  refine fn_mir [] 3 rfl (by decide) (by decide) T.F_l_are_over sc_l_are_over fun cdv Ar outer s H E hr => ?_
  refine ⟨_, _, (pss_one (ps_ret (pe_lc (own := [("_law_one", 1), ("_law_other", 2)]) rfl sc_l_are_over.nd (k_iter (K := K) rfl (pe_call (ok_l_pairs (P := P) (K := K) T) (hr.mono (by decide)) (by rfl) T.g_l_pairs T.F_l_pairs.kp T.b_l_pairs .nil pass0 (pa_cons (pv 0) pa_nil))) (blkOk_by (own := [("_law_one", 1), ("_law_other", 2)]) (N := ["_law_rows", "_law_one", "_law_other"]) (sc := defScope s_l_are_over) (by decide +kernel)) (fun _ _ _ _ _ => (k_gtup (K := K) (m := 2) rfl rfl (pgs_cons (pg_name (i := 1) sc_l_are_over.nd rfl (Or.inl rfl)) (pgs_cons (pg_name (i := 2) sc_l_are_over.nd rfl (Or.inl rfl)) pgs_nil)))) (fun _ _ _ _ _ => (pts_one (pt_val (pe_call (ok_l_over (P := P) (K := K) T) (hr.mono (by decide)) (by rfl) T.g_l_over T.F_l_over.kp T.b_l_over .nil pass0 (pa_cons (pv 1) (pa_cons (pv 2) (pa_cons (pe_tup (pa_cons pe_int (pa_cons pe_int pa_nil))) pa_nil))))))) (fun _ _ _ _ _ => (pe_tup (pa_cons (pe_ix (k_ix (K := K) rfl) (pv 1) pe_int (fun _ _ => rfl)) (pa_cons (pe_ix (k_ix (K := K) rfl) (pv 2) pe_int (fun _ _ => rfl)) pa_nil))))))), by infer_instance, fun ds n Q hl hA => ?_⟩
  obtain ⟨bs, rfl, hR, h6, q⟩ := hA
  have hpl := prl6 h6
  refine ⟨bs, rfl, by omega, fun b hb => (hR.row b hb).m0, ?_⟩
  refine ⟨by rw [List.length_map]; omega, ?_⟩
  refine aLc_ind (fun acc ds j => j = n ∧ ∃ us vs : List (Bw × Bw), prsB bs = us ++ vs ∧ ds = vs.map prBD ∧ acc = (ovL us).map nmD) ?_ ?_ ⟨rfl, [], prsB bs, rfl, rfl, by unfold ovL; rfl⟩
  · rintro acc d r j ⟨rfl, us, vs, e0, e, rfl⟩ ih
    cases vs with
    | nil => cases e
    | cons v vs =>
    obtain ⟨rfl, rfl⟩ := List.cons.inj e
    have hv : v ∈ prsB bs := by rw [e0]; exact List.mem_append_right _ List.mem_cons_self
    obtain ⟨hb, hc, _, _⟩ := prsB_mem hv hR.nd
    obtain ⟨rs, hpw⟩ := pw_ex (waysOf v.1.cs) (waysOf v.2.cs)
    refine ⟨v.1, v.2, 0, 500, 10, 500, 10, 1, rs, rfl, (hR.row _ hb).ok, (hR.row _ hc).ok, bdq0, by decide, hpw, fun ho => ?_, fun hno => ?_⟩
    · refine aT (ih _ _ ⟨rfl, us ++ [v], vs, by rw [e0]; simp, rfl, ?_⟩)
      rw [ovL_yes fun z => (apart_iff hpw).mp z ho, List.map_append]
      rfl
    · refine aF (ih _ _ ⟨rfl, us ++ [v], vs, by rw [e0]; simp, rfl, ?_⟩)
      rw [ovL_no ((apart_iff hpw).mpr hno)]
  · rintro acc j ⟨rfl, us, vs, e0, e, rfl⟩
    cases vs with
    | cons v vs => cases e
    | nil =>
    rw [List.append_nil] at e0
    subst e0
    exact q
theorem cut_to {xs : List D} {k : Nat} (h : k ≤ xs.length) : cutL xs none (some (k : Int)) = xs.take k := by
  unfold cutL
  have e : HT.sIx xs.length xs.length (some (k : Int)) = k := by
    unfold HT.sIx
    simp only [Int.natCast_nonneg]
    split <;> omega
  rw [HT.sIx_none, e, List.drop_zero, Nat.sub_zero]
noncomputable def a_l_put : ASp := fun ds n Q => ∃ (es : List D) (j : Nat) (d : D), ds = [.tup es, .int (j : Nat), d] ∧ j < es.length ∧ es.length ≤ 1000 ∧ Q (.tup (es.take j ++ [d] ++ es.drop (j + 1))) n
theorem ok_l_put (T : Tx K mg A) : FnOk P w K mg base CX0 1 A.f_l_put A.fd_l_put ["_law_row", "_law_at", "_law_thing"] (spOf K 3 a_l_put) := by
  refine fn_mir [] 3 rfl (by decide) (by decide) T.F_l_put sc_l_put fun cdv Ar outer s H E hr => ?_
  refine ⟨_, _, (pss_one (ps_ret (pe_op (k_catA (K := K) rfl) (pe_op (k_catA (K := K) rfl) (pe_slice (k_slW (K := K) rfl) (pv 0) po_none (po_some (pv 1))) (pe_tup (pa_cons (pv 2) pa_nil))) (pe_slice (k_slW (K := K) rfl) (pv 0) (po_some (pe_op (k_add (K := K) rfl) (pv 1) pe_int)) po_none)))), by infer_instance, fun ds n Q hl hA => ?_⟩
  obtain ⟨es, j, d, rfl, hj, hl, q⟩ := hA
  have c1 := cut_to (xs := es) (k := j) (by omega)
  have c2 := cut_from (xs := es) (k := j + 1) (by omega)
  rw [show ((j + 1 : Nat) : Int) = (j : Int) + 1 by omega] at c2
  refine (show (cutL es none (some (j : Int))).length + 1 ≤ 1000000 ∧ (cutL es none (some (j : Int)) ++ [d]).length + (cutL es (some ((j : Int) + 1)) none).length ≤ 1000000 ∧ Q (.tup (cutL es none (some (j : Int)) ++ [d] ++ cutL es (some ((j : Int) + 1)) none)) n from ?_)
  rw [c1, c2]
  refine ⟨by rw [List.length_take]; omega, by rw [List.length_append, List.length_take, List.length_drop]; simp; omega, q⟩
theorem Rws.put {bs : List Bw} (h : Rws bs) {j i : Nat} (hj : j < bs.length) (hi : i < bs.length) : Rws (bs.take j ++ [({ bs[j] with px := bs[i].px, py := bs[i].py } : Bw)] ++ bs.drop (j + 1)) := by
  have hmi := List.getElem_mem hi
  have hmj := List.getElem_mem hj
  refine ⟨fun b hb => ?_, ?_⟩
  · rcases List.mem_append.mp hb with z | z
    · rcases List.mem_append.mp z with y | y
      · exact h.row b (List.mem_of_mem_take y)
      · rw [List.mem_singleton.mp y]
        have r := h.row _ hmj
        have r' := h.row _ hmi
        exact ⟨r.nm, ⟨r.ok.1, r'.ok.2.1, r'.ok.2.2.1, r.ok.2.2.2.1, r.ok.2.2.2.2⟩, r.rl, r.still, r.m0, r.m5⟩
    · exact h.row b (List.mem_of_mem_drop z)
  · have e : (bs.take j ++ [({ bs[j] with px := bs[i].px, py := bs[i].py } : Bw)] ++ bs.drop (j + 1)).map Bw.nm = bs.map Bw.nm := by
      have e2 : bs = bs.take j ++ [bs[j]] ++ bs.drop (j + 1) := by
        rw [List.append_assoc, List.singleton_append, List.getElem_cons_drop, List.take_append_drop]
      rw [List.map_append, List.map_append]
      conv => rhs; rw [e2, List.map_append, List.map_append]
      rfl
    rw [e]
    exact h.nd
theorem map_put {bs : List Bw} {j : Nat} {c : Bw} : (bs.take j ++ [c] ++ bs.drop (j + 1)).map Bw.d = (bs.map Bw.d).take j ++ [c.d] ++ (bs.map Bw.d).drop (j + 1) := by
  rw [List.map_append, List.map_append, List.map_take, List.map_drop]
  rfl
noncomputable def a_l_laid_over : ASp := fun ds n Q => ∃ bs : List Bw, ds = [.deck, .tup (bs.map Bw.d)] ∧ Scn 500 bs ∧ bs.length ≤ 6 ∧ 10 ≤ n ∧ ∀ (cs : List Bw) (n' : Nat), Rws cs → cs.length ≤ 6 → n ≤ n' + 5 → Q (.tup (cs.map Bw.d)) n'
theorem ok_l_laid_over (T : Tx K mg A) : FnOk P w K mg base CX0 4 A.f_l_laid_over A.fd_l_laid_over ["_law_deck", "_law_rows"] (spOf K 2 a_l_laid_over) := by
  refine fn_mir [] 4 rfl (by decide) (by decide) T.F_l_laid_over sc_l_laid_over fun cdv Ar outer s H E hr => ?_
  refine ⟨_, _, (pss_cons (ps_if (pt_cmpR op_lt (pe_callB (k_len (K := K) rfl) (by rfl) T.m_len (by decide +kernel) (pa_cons (pv 1) pa_nil)) pe_int (nomark _))
      (pss_one (ps_ret (pv 1)))
      pss_nil)
    (pss_cons (ps_set (i := 2) sc_l_laid_over.nd rfl (.inl rfl) (pe_call (ok_l_take (P := P) (K := K) T) (hr.mono (by decide)) (by rfl) T.g_l_take T.F_l_take.kp T.b_l_take .nil pass0 (pa_cons (pv 0) (pa_cons (pe_callB (k_len (K := K) rfl) (by rfl) T.m_len (by decide +kernel) (pa_cons (pv 1) pa_nil)) pa_nil))))
    (pss_cons (ps_set (i := 3) sc_l_laid_over.nd rfl (.inl rfl) (pe_call (ok_l_take (P := P) (K := K) T) (hr.mono (by decide)) (by rfl) T.g_l_take T.F_l_take.kp T.b_l_take .nil pass0 (pa_cons (pv 0) (pa_cons (pe_callB (k_len (K := K) rfl) (by rfl) T.m_len (by decide +kernel) (pa_cons (pv 1) pa_nil)) pa_nil))))
    (pss_one (ps_ret (pe_call (ok_l_put (P := P) (K := K) T) (hr.mono (by decide)) (by rfl) T.g_l_put T.F_l_put.kp T.b_l_put .nil pass0 (pa_cons (pv 1) (pa_cons (pv 2) (pa_cons (pe_call (ok_l_put (P := P) (K := K) T) (hr.mono (by decide)) (by rfl) T.g_l_put T.F_l_put.kp T.b_l_put .nil pass0 (pa_cons (pe_ix (k_ixS (K := K) rfl) (pv 1) (pv 2) (fun _ _ => rfl)) (pa_cons pe_int (pa_cons (pe_ix (k_ix (K := K) rfl) (pe_ix (k_ixS (K := K) rfl) (pv 1) (pv 3) (fun _ _ => rfl)) pe_int (fun _ _ => rfl)) pa_nil)))) pa_nil))))))))), by infer_instance, fun ds n Q hl hA => ?_⟩
  obtain ⟨bs, rfl, hS, h6, hn, q⟩ := hA
  refine dIte (fun _ => q bs n hS.rws h6 (by omega)) fun h2 => ?_
  rw [List.length_map] at h2
  have hlm : (bs.map Bw.d).length = bs.length := List.length_map _
  refine ⟨((bs.map Bw.d).length : Int), rfl, by rw [hlm]; omega, small_log (by rw [hlm]; omega) (by rw [hlm]; omega), by omega, fun k1 l1 u1 => ?_⟩
  refine ⟨((bs.map Bw.d).length : Int), rfl, by rw [hlm]; omega, small_log (by rw [hlm]; omega) (by rw [hlm]; omega), by omega, fun k2 l2 u2 => ?_⟩
  obtain ⟨j, rfl⟩ := Int.eq_ofNat_of_zero_le l1
  obtain ⟨i, rfl⟩ := Int.eq_ofNat_of_zero_le l2
  have hj : j < bs.length := by rw [hlm] at u1; omega
  have hi : i < bs.length := by rw [hlm] at u2; omega
  have g1 : atI (bs.map Bw.d) (j : Int) = some (bs[j]).d := atI_nat (by rw [List.getElem?_map, List.getElem?_eq_getElem hj]; rfl)
  have g2 : atI (bs.map Bw.d) (i : Int) = some (bs[i]).d := atI_nat (by rw [List.getElem?_map, List.getElem?_eq_getElem hi]; rfl)
  refine aIx_tup g1 ?_
  refine aIx_tup g2 ?_
  refine ⟨_, 4, _, rfl, show 4 < 6 by decide, show 6 ≤ 1000 by decide, ?_⟩
  refine ⟨bs.map Bw.d, j, ({ bs[j] with px := (bs[i]).px, py := (bs[i]).py } : Bw).d, rfl, by rw [hlm]; exact hj, by rw [hlm]; omega, ?_⟩
  rw [← map_put]
  refine q _ _ (hS.rws.put hj hi) ?_ (by omega)
  rw [List.length_append, List.length_append, List.length_take, List.length_drop]
  simp
  omega
theorem nm_sd {b : Bw} {k : Nat} (h : Rw1 k b) : Sd 0 b.nm := by
  obtain ⟨z, e, _, hz⟩ := h.nm
  rw [e]
  exact Sd.str hz
theorem nms_sd {b c : Bw} {k : Nat} (h : Rw1 k b) (h' : Rw1 k c) : Sd 1 (.tup [b.nm, c.nm]) := Sd.tup fun d hd => by
  have : d = b.nm ∨ d = c.nm := by simpa using hd
  rcases this with rfl | rfl
  · exact nm_sd h
  · exact nm_sd h'
theorem sd_eqv {k : Nat} {d : D} (h : Sd k d) : PyData.eqv d.pd d.pd = true := SeqAt.eqv_refl _ h.2.1
theorem ov_sd {bs : List Bw} (h : Rws bs) : Sd 2 (.lst ((ovL (prsB bs)).map nmD)) := Sd.lst fun d hd => by
  obtain ⟨p, hp, rfl⟩ := List.mem_map.mp hd
  have hp' : p ∈ prsB bs := by
    unfold ovL at hp
    exact (List.mem_filter.mp hp).1
  obtain ⟨h1, h2, _, _⟩ := prsB_mem hp' h.nd
  exact nms_sd (h.row _ h1) (h.row _ h2)
noncomputable def a_l_right : ASp := fun ds n Q => ∃ bs : List Bw, ds = [.tup (bs.map Bw.d)] ∧ Rws bs ∧ bs.length ≤ 6 ∧ Q (.bl true) n
theorem ok_l_right [Sx P K A] (T : Tx K mg A) : FnOk P w K mg base CX0 11 A.f_l_right A.fd_l_right ["_law_rows"] (spOf K 1 a_l_right) := by
  refine fn_mir [] 6 rfl (by decide) (by decide) T.F_l_right sc_l_right fun cdv Ar outer s H E hr => ?_
  refine ⟨_, _, (pss_cons (ps_set (i := 1) sc_l_right.nd rfl (.inl rfl) pe_non)
    (pss_cons (ps_set (i := 2) sc_l_right.nd rfl (.inl rfl) pe_bl)
    (pss_cons (ps_set (i := 3) sc_l_right.nd rfl (.inl rfl) pe_non)
    (pss_cons (k_try (K := K) (i := 4) (Wout := W0) rfl rfl rfl sc_l_right.nd rfl rfl ⟨rfl, by decide, Or.inl T.g_Over⟩ takesN0
      (fun W pn xe tk po => (pss_one (ps_set (i := 1) sc_l_right.nd rfl (.inl rfl) (k_callE (pe_callS (ok_p_contacts (P := P) (K := K) T) (hr.mono (by decide)) (by rfl) T.g_p_contacts T.F_p_contacts.kp T.b_p_contacts (fun σ => L2N.passAt tk σ) (pa_cons (pv 0) pa_nil))))))
      (fun a oe cls d pn hz hf => (suite_ownM (D := A.c_Over) hz fun hz => (pss_cons (ps_set (i := 2) sc_l_right.nd rfl (.inl rfl) (k_callH (K := K) rfl hz hf (hot_suite hz hf) List.mem_cons_self (ok_l_alone (P := P) (K := K) T) (roomH_at hr) (by rfl) T.g_l_alone T.F_l_alone.kp T.b_l_alone (pa_cons (pv 4) pa_nil)))
    (pss_one (ps_set (i := 3) sc_l_right.nd rfl (.inl rfl) (pe_tup (pa_cons (pe_xf (Sx.X_Over (P := P) (K := K) (A := A)) (Sx.n_Over_one (P := P) (K := K) (A := A)) hz.zc hf (pv 4) rfl) (pa_cons (pe_xf (Sx.X_Over (P := P) (K := K) (A := A)) (Sx.n_Over_other (P := P) (K := K) (A := A)) hz.zc hf (pv 4) rfl) pa_nil)))))))))
    (pss_cons (ps_set (i := 5) sc_l_right.nd rfl (.inl rfl) (pe_call (ok_l_are_over (P := P) (K := K) T) (hr.mono (by decide)) (by rfl) T.g_l_are_over T.F_l_are_over.kp T.b_l_are_over .nil pass0 (pa_cons (pv 0) pa_nil)))
    (pss_cons (ps_if (pt_cmpR (k_ne (K := K) rfl hr.units) (pv 5) (pe_lst pa_nil) (nomark _))
      (pss_one (ps_ret (pe_and (pv 2) (pe_one (pe_cmpR (k_eq (K := K) rfl hr.units) (pv 3) (pe_ix (k_ix (K := K) rfl) (pv 5) pe_int (fun _ _ => rfl)) (nomark _))))))
      pss_nil)
    (pss_one (ps_ret (pe_and (pe_cmpR k_isN (pv 3) pe_non (nomark _)) (pe_one (pe_call (ok_l_same_touches (P := P) (K := K) T) (hr.mono (by decide)) (by rfl) T.g_l_same_touches T.F_l_same_touches.kp T.b_l_same_touches .nil pass0 (pa_cons (pv 1) (pa_cons (pe_call (ok_l_touches (P := P) (K := K) T) (hr.mono (by decide)) (by rfl) T.g_l_touches T.F_l_touches.kp T.b_l_touches .nil pass0 (pa_cons (pv 0) pa_nil)) pa_nil))))))))))))), by infer_instance, fun ds n Q hl hA => ?_⟩
  obtain ⟨bs, rfl, hR, h6, q⟩ := hA
  refine ⟨by decide, ?_⟩
  refine ⟨bs, 1001, 21, rfl, by omega, fun p hp => ?_, fun us p vs e0 hap hno => ?_, fun hap => ?_⟩
  · obtain ⟨h1, h2, _, _⟩ := prsB_mem hp hR.nd
    obtain ⟨z1, e1, l1, _⟩ := (hR.row _ h1).nm
    obtain ⟨z2, e2, l2, _⟩ := (hR.row _ h2).nm
    exact ⟨Two.of (hR.row _ h1).ok (hR.row _ h2).ok (by decide) (by decide) (by decide), ⟨z1, e1, by omega⟩, ⟨z2, e2, by omega⟩⟩
  · have hp : p ∈ prsB bs := by rw [e0]; exact List.mem_append_right _ List.mem_cons_self
    obtain ⟨h1, h2, _, _⟩ := prsB_mem hp hR.nd
    have hsd := nms_sd (hR.row _ h1) (hR.row _ h2)
    refine ⟨true, Sx.e_Over_Over (P := P), fun _ a d => ?_, fun z => by cases z⟩
    refine ⟨rfl, ?_⟩
    refine ⟨_, _, rfl, ?_⟩
    refine ⟨⟨rfl, rfl, rfl⟩, p.1.nm, rfl, ?_⟩
    refine ⟨⟨rfl, rfl, rfl⟩, p.2.nm, rfl, ?_⟩
    refine ⟨bs, rfl, hR, h6, ?_⟩
    have hall : Sd 2 (.lst ((ovL (prsB bs)).map nmD)) := ov_sd hR
    have e1 : ovL (prsB bs) = p :: ovL vs := by rw [e0]; exact ovL_first hap hno
    rw [e1] at hall ⊢
    refine ⟨⟨hall.1, rfl, hall.shaped (by decide), by rfl⟩, aT ?_⟩
    refine aT ?_
    refine (show aIx (.lst (nmD p :: (ovL vs).map nmD)) (.int 0) n (fun e n2 => aEq id (.tup [p.1.nm, p.2.nm]) e n2 Q) from aIx_lst0 ?_)
    refine ⟨⟨hsd.1, hsd.1, hsd.shaped (by decide), hsd.shaped (by decide)⟩, ?_⟩
    show Q (.bl (id (PyData.eqv (D.tup [p.1.nm, p.2.nm]).pd (D.tup [p.1.nm, p.2.nm]).pd))) n
    rw [sd_eqv hsd]
    exact q
  · refine ⟨bs, rfl, hR, h6, ?_⟩
    rw [ovL_nil hap]
    refine ⟨⟨rfl, rfl, by rfl, by rfl⟩, aF ?_⟩
    refine aT ?_
    have hS := hR.scn hap
    refine ⟨bs, rfl, hS, h6, ?_⟩
    exact ⟨_, rfl, hS.tds, q⟩
/-! CUT -/
theorem ok_law [Sx P K A] (T : Tx K mg A) : FnOk P w K mg base CX0 12 A.f_law A.fd_law ["_law_script"] (sp_law K) := by
  refine law_mir [] 6 1 rfl (by decide) (by decide) T.F_law sc_law fun cdv Ar outer s H E hr => ?_
  refine ⟨_, _, (pss_cons (ps_set (i := 1) sc_law.nd rfl (.inl rfl) (pe_call (ok_l_new_deck (P := P) (K := K) T) (hr.mono (by decide)) (by rfl) T.g_l_new_deck T.F_l_new_deck.kp T.b_l_new_deck .nil pass0 (pa_cons (pv 0) pa_nil)))
    (pss_cons (ps_set (i := 2) sc_law.nd rfl (.inl rfl) (pe_call (ok_l_take (P := P) (K := K) T) (hr.mono (by decide)) (by rfl) T.g_l_take T.F_l_take.kp T.b_l_take .nil pass0 (pa_cons (pv 1) (pa_cons pe_int pa_nil))))
    (pss_cons (ps_set (i := 3) sc_law.nd rfl (.inl rfl) (pe_call (ok_l_scene (P := P) (K := K) T) (hr.mono (by decide)) (by rfl) T.g_l_scene T.F_l_scene.kp T.b_l_scene .nil pass0 (pa_cons (pv 1) (pa_cons pe_int pa_nil))))
    (pss_cons (ps_set (i := 4) sc_law.nd rfl (.inl rfl) (pv 3))
    (pss_cons (ps_if (pt_cmpR (k_eq (K := K) rfl hr.units) (pv 2) pe_int (nomark _))
      (pss_one (ps_set (i := 4) sc_law.nd rfl (.inl rfl) (pe_call (ok_l_laid_over (P := P) (K := K) T) (hr.mono (by decide)) (by rfl) T.g_l_laid_over T.F_l_laid_over.kp T.b_l_laid_over .nil pass0 (pa_cons (pv 1) (pa_cons (pv 3) pa_nil)))))
      pss_nil)
    (pss_cons (ps_for PassesOwn.never rfl (k_iter (K := K) rfl (pe_lst (pa_cons (pv 3) (pa_cons (pv 4) (pa_cons (pe_call (ok_l_turned (P := P) (K := K) T) (hr.mono (by decide)) (by rfl) T.g_l_turned T.F_l_turned.kp T.b_l_turned .nil pass0 (pa_cons (pv 3) pa_nil)) (pa_cons (pv 3) (pa_cons (pe_call (ok_l_anew (P := P) (K := K) T) (hr.mono (by decide)) (by rfl) T.g_l_anew T.F_l_anew.kp T.b_l_anew .nil pass0 (pa_cons (pv 1) (pa_cons (pv 3) pa_nil))) (pa_cons (pv 4) (pa_cons (pv 3) pa_nil))))))))) (pg_name (i := 5) sc_law.nd rfl (.inl rfl))
      (pss_one (ps_if (pt_not (pt_val (pe_call (ok_l_right (P := P) (K := K) T) (hr.mono (by decide)) (by rfl) T.g_l_right T.F_l_right.kp T.b_l_right .nil pass0 (pa_cons (pv 5) pa_nil))))
      (pss_one (ps_ret pe_bl))
      pss_nil)))
    (pss_one (ps_ret pe_bl)))))))), by infer_instance, ?_⟩
  refine ⟨4, rfl, by decide, by decide, by decide, fun kd lk uk => ?_⟩
  refine ⟨4, rfl, by decide, by decide, by decide, fun bs n1 hS hb0 h6 _ h1 => ?_⟩
  simp only [startA, eSetAll, eSet, List.cons_append, List.nil_append]
  refine dIte (p := kd = 0) (fun _ => ?_) fun _ => ?_
  · refine ⟨bs, rfl, hS, h6, by omega, fun cs n2 hR hc6 h2 => ?_⟩
    have r2 : Rws cs ∧ cs.length ≤ 6 := ⟨hR, hc6⟩
    refine ⟨bs, rfl, hS, h6, ?_⟩
    refine ⟨bs, rfl, hS, h6, by omega, fun es n3 hSe hpr h3 => ?_⟩
    have hel : es.length ≤ 6 := by rw [paired_len hpr]; exact h6
    have r1 : Rws bs ∧ bs.length ≤ 6 := ⟨hS.rws, h6⟩
    have r3 : Rws (bs.map trn) ∧ (bs.map trn).length ≤ 6 := ⟨hS.trn.rws, by rw [List.length_map]; exact h6⟩
    obtain ⟨ls, hls0, hls⟩ : ∃ ls : List (List Bw), ls = [bs, cs, bs.map trn, bs, es, cs, bs] ∧ ∀ l ∈ ls, Rws l ∧ l.length ≤ 6 := ⟨_, rfl, List.forall_mem_cons.mpr ⟨r1, List.forall_mem_cons.mpr ⟨r2, List.forall_mem_cons.mpr ⟨r3, List.forall_mem_cons.mpr ⟨r1, List.forall_mem_cons.mpr ⟨⟨hSe.rws, hel⟩, List.forall_mem_cons.mpr ⟨r2, List.forall_mem_cons.mpr ⟨r1, fun l h => by cases h⟩⟩⟩⟩⟩⟩⟩⟩
    refine aFor_ind (fun ds ρ m => ∃ (us vs : List (List Bw)) (y0 y2 y3 y4 y5 : Option D), ls = us ++ vs ∧ ds = vs.map (fun l => .tup (l.map Bw.d)) ∧ ρ = [y0, some .deck, y2, y3, y4, y5]) ?_ ?_ ⟨[], ls, _, _, _, _, _, rfl, by rw [hls0]; rfl, rfl⟩
    · rintro d r _ m ⟨us, vs, y0, y2, y3, y4, y5, e0, e, rfl⟩ ih
      cases vs with
      | nil => cases e
      | cons v vs =>
      obtain ⟨rfl, rfl⟩ := List.cons.inj e
      have hv := hls v (by rw [e0]; exact List.mem_append_right _ List.mem_cons_self)
      refine ⟨v, rfl, hv.1, hv.2, aF ?_⟩
      exact ih _ _ ⟨us ++ [v], vs, _, _, _, _, _, by rw [e0]; simp, rfl, rfl⟩
    · rintro _ m ⟨us, vs, y0, y2, y3, y4, y5, e0, e, rfl⟩
      exact rfl
  · obtain ⟨cs, rfl⟩ : ∃ cs, cs = bs := ⟨_, rfl⟩
    have r2 : Rws cs ∧ cs.length ≤ 6 := ⟨hS.rws, h6⟩
    refine ⟨cs, rfl, hS, h6, ?_⟩
    refine ⟨cs, rfl, hS, h6, by omega, fun es n3 hSe hpr h3 => ?_⟩
    have hel : es.length ≤ 6 := by rw [paired_len hpr]; exact h6
    have r1 : Rws cs ∧ cs.length ≤ 6 := ⟨hS.rws, h6⟩
    have r3 : Rws (cs.map trn) ∧ (cs.map trn).length ≤ 6 := ⟨hS.trn.rws, by rw [List.length_map]; exact h6⟩
    obtain ⟨ls, hls0, hls⟩ : ∃ ls : List (List Bw), ls = [cs, cs, cs.map trn, cs, es, cs, cs] ∧ ∀ l ∈ ls, Rws l ∧ l.length ≤ 6 := ⟨_, rfl, List.forall_mem_cons.mpr ⟨r1, List.forall_mem_cons.mpr ⟨r2, List.forall_mem_cons.mpr ⟨r3, List.forall_mem_cons.mpr ⟨r1, List.forall_mem_cons.mpr ⟨⟨hSe.rws, hel⟩, List.forall_mem_cons.mpr ⟨r2, List.forall_mem_cons.mpr ⟨r1, fun l h => by cases h⟩⟩⟩⟩⟩⟩⟩⟩
    refine aFor_ind (fun ds ρ m => ∃ (us vs : List (List Bw)) (y0 y2 y3 y4 y5 : Option D), ls = us ++ vs ∧ ds = vs.map (fun l => .tup (l.map Bw.d)) ∧ ρ = [y0, some .deck, y2, y3, y4, y5]) ?_ ?_ ⟨[], ls, _, _, _, _, _, rfl, by rw [hls0]; rfl, rfl⟩
    · rintro d r _ m ⟨us, vs, y0, y2, y3, y4, y5, e0, e, rfl⟩ ih
      cases vs with
      | nil => cases e
      | cons v vs =>
      obtain ⟨rfl, rfl⟩ := List.cons.inj e
      have hv := hls v (by rw [e0]; exact List.mem_append_right _ List.mem_cons_self)
      refine ⟨v, rfl, hv.1, hv.2, aF ?_⟩
      exact ih _ _ ⟨us ++ [v], vs, _, _, _, _, _, by rw [e0]; simp, rfl, rfl⟩
    · rintro _ m ⟨us, vs, y0, y2, y3, y4, y5, e0, e, rfl⟩
      exact rfl
/-! CUT -/
end
theorem all_mk {l : PySem.W.OpenLaw} {w : World} {K : PySem.W.Frag} {h : Heap} {mg : Str → Option Value} {fa : Addr} (X : K.In h) (G : h.Ns mainGlobals mg) (hfa : mg "law" = some (.ref fa))
    {od0 an0 : Option Addr} {sl0 : Array (Option Value)} {oc0 kV0 dc0 pm0 cd0 ct0 : Value} {f0 : Addr}
    {od1 an1 : Option Addr} {sl1 : Array (Option Value)} {oc1 kV1 dc1 pm1 cd1 ct1 : Value} {f1 : Addr}
    {od2 an2 : Option Addr} {sl2 : Array (Option Value)} {oc2 kV2 dc2 pm2 cd2 ct2 : Value} {f2 : Addr}
    {od3 an3 : Option Addr} {sl3 : Array (Option Value)} {oc3 kV3 dc3 pm3 cd3 ct3 : Value} {f3 : Addr}
    {od4 an4 : Option Addr} {sl4 : Array (Option Value)} {oc4 kV4 dc4 pm4 cd4 ct4 : Value} {f4 : Addr}
    {od5 an5 : Option Addr} {sl5 : Array (Option Value)} {oc5 kV5 dc5 pm5 cd5 ct5 : Value} {f5 : Addr}
    {od6 an6 : Option Addr} {sl6 : Array (Option Value)} {oc6 kV6 dc6 pm6 cd6 ct6 : Value} {f6 : Addr}
    {od7 an7 : Option Addr} {sl7 : Array (Option Value)} {oc7 kV7 dc7 pm7 cd7 ct7 : Value} {f7 : Addr}
    {od8 an8 : Option Addr} {sl8 : Array (Option Value)} {oc8 kV8 dc8 pm8 cd8 ct8 : Value} {f8 : Addr}
    {od9 an9 : Option Addr} {sl9 : Array (Option Value)} {oc9 kV9 dc9 pm9 cd9 ct9 : Value} {f9 : Addr}
    {od10 an10 : Option Addr} {sl10 : Array (Option Value)} {oc10 kV10 dc10 pm10 cd10 ct10 : Value} {f10 : Addr}
    {od11 an11 : Option Addr} {sl11 : Array (Option Value)} {oc11 kV11 dc11 pm11 cd11 ct11 : Value} {f11 : Addr}
    {od12 an12 : Option Addr} {sl12 : Array (Option Value)} {oc12 kV12 dc12 pm12 cd12 ct12 : Value} {f12 : Addr}
    {od13 an13 : Option Addr} {sl13 : Array (Option Value)} {oc13 kV13 dc13 pm13 cd13 ct13 : Value} {f13 : Addr}
    {od14 an14 : Option Addr} {sl14 : Array (Option Value)} {oc14 kV14 dc14 pm14 cd14 ct14 : Value} {f14 : Addr}
    {od15 an15 : Option Addr} {sl15 : Array (Option Value)} {oc15 kV15 dc15 pm15 cd15 ct15 : Value} {f15 : Addr}
    {od16 an16 : Option Addr} {sl16 : Array (Option Value)} {oc16 kV16 dc16 pm16 cd16 ct16 : Value} {f16 : Addr}
    {od17 an17 : Option Addr} {sl17 : Array (Option Value)} {oc17 kV17 dc17 pm17 cd17 ct17 : Value} {f17 : Addr}
    {od18 an18 : Option Addr} {sl18 : Array (Option Value)} {oc18 kV18 dc18 pm18 cd18 ct18 : Value} {f18 : Addr}
    {od19 an19 : Option Addr} {sl19 : Array (Option Value)} {oc19 kV19 dc19 pm19 cd19 ct19 : Value} {f19 : Addr}
    {od20 an20 : Option Addr} {sl20 : Array (Option Value)} {oc20 kV20 dc20 pm20 cd20 ct20 : Value} {f20 : Addr}
    {od21 an21 : Option Addr} {sl21 : Array (Option Value)} {oc21 kV21 dc21 pm21 cd21 ct21 : Value} {f21 : Addr}
    {od22 an22 : Option Addr} {sl22 : Array (Option Value)} {oc22 kV22 dc22 pm22 cd22 ct22 : Value} {f22 : Addr}
    {od23 an23 : Option Addr} {sl23 : Array (Option Value)} {oc23 kV23 dc23 pm23 cd23 ct23 : Value} {f23 : Addr}
    {od24 an24 : Option Addr} {sl24 : Array (Option Value)} {oc24 kV24 dc24 pm24 cd24 ct24 : Value} {f24 : Addr}
    {od25 an25 : Option Addr} {sl25 : Array (Option Value)} {oc25 kV25 dc25 pm25 cd25 ct25 : Value} {f25 : Addr}
    {od26 an26 : Option Addr} {sl26 : Array (Option Value)} {oc26 kV26 dc26 pm26 cd26 ct26 : Value} {f26 : Addr}
    {od27 an27 : Option Addr} {sl27 : Array (Option Value)} {oc27 kV27 dc27 pm27 cd27 ct27 : Value} {f27 : Addr}
    {od28 an28 : Option Addr} {sl28 : Array (Option Value)} {oc28 kV28 dc28 pm28 cd28 ct28 : Value} {f28 : Addr}
    {od29 an29 : Option Addr} {sl29 : Array (Option Value)} {oc29 kV29 dc29 pm29 cd29 ct29 : Value} {f29 : Addr}
    {od30 an30 : Option Addr} {sl30 : Array (Option Value)} {oc30 kV30 dc30 pm30 cd30 ct30 : Value} {f30 : Addr}
    {od31 an31 : Option Addr} {sl31 : Array (Option Value)} {oc31 kV31 dc31 pm31 cd31 ct31 : Value} {f31 : Addr}
    {od32 an32 : Option Addr} {sl32 : Array (Option Value)} {oc32 kV32 dc32 pm32 cd32 ct32 : Value} {f32 : Addr}
    {od33 an33 : Option Addr} {sl33 : Array (Option Value)} {oc33 kV33 dc33 pm33 cd33 ct33 : Value} {f33 : Addr}
    {od34 an34 : Option Addr} {sl34 : Array (Option Value)} {oc34 kV34 dc34 pm34 cd34 ct34 : Value} {f34 : Addr}
    {od35 an35 : Option Addr} {sl35 : Array (Option Value)} {oc35 kV35 dc35 pm35 cd35 ct35 : Value} {f35 : Addr}
    {od36 an36 : Option Addr} {sl36 : Array (Option Value)} {oc36 kV36 dc36 pm36 cd36 ct36 : Value} {f36 : Addr}
    {od37 an37 : Option Addr} {sl37 : Array (Option Value)} {oc37 kV37 dc37 pm37 cd37 ct37 : Value} {f37 : Addr}
    {od38 an38 : Option Addr} {sl38 : Array (Option Value)} {oc38 kV38 dc38 pm38 cd38 ct38 : Value} {f38 : Addr}
    {od39 an39 : Option Addr} {sl39 : Array (Option Value)} {oc39 kV39 dc39 pm39 cd39 ct39 : Value} {f39 : Addr}
    {od40 an40 : Option Addr} {sl40 : Array (Option Value)} {oc40 kV40 dc40 pm40 cd40 ct40 : Value} {f40 : Addr}
    {od41 an41 : Option Addr} {sl41 : Array (Option Value)} {oc41 kV41 dc41 pm41 cd41 ct41 : Value} {f41 : Addr}
    {od42 an42 : Option Addr} {sl42 : Array (Option Value)} {oc42 kV42 dc42 pm42 cd42 ct42 : Value} {f42 : Addr}
    {od43 an43 : Option Addr} {sl43 : Array (Option Value)} {oc43 kV43 dc43 pm43 cd43 ct43 : Value} {f43 : Addr}
    {od44 an44 : Option Addr} {sl44 : Array (Option Value)} {oc44 kV44 dc44 pm44 cd44 ct44 : Value} {f44 : Addr}
    {od45 an45 : Option Addr} {sl45 : Array (Option Value)} {oc45 kV45 dc45 pm45 cd45 ct45 : Value} {f45 : Addr}
    {od46 an46 : Option Addr} {sl46 : Array (Option Value)} {oc46 kV46 dc46 pm46 cd46 ct46 : Value} {f46 : Addr}
    {od47 an47 : Option Addr} {sl47 : Array (Option Value)} {oc47 kV47 dc47 pm47 cd47 ct47 : Value} {f47 : Addr}
    {od48 an48 : Option Addr} {sl48 : Array (Option Value)} {oc48 kV48 dc48 pm48 cd48 ct48 : Value} {f48 : Addr}
    {od49 an49 : Option Addr} {sl49 : Array (Option Value)} {oc49 kV49 dc49 pm49 cd49 ct49 : Value} {f49 : Addr}
    {od50 an50 : Option Addr} {sl50 : Array (Option Value)} {oc50 kV50 dc50 pm50 cd50 ct50 : Value} {f50 : Addr}
    {od51 an51 : Option Addr} {sl51 : Array (Option Value)} {oc51 kV51 dc51 pm51 cd51 ct51 : Value} {f51 : Addr}
    {od52 an52 : Option Addr} {sl52 : Array (Option Value)} {oc52 kV52 dc52 pm52 cd52 ct52 : Value} {f52 : Addr}
    {od53 an53 : Option Addr} {sl53 : Array (Option Value)} {oc53 kV53 dc53 pm53 cd53 ct53 : Value} {f53 : Addr}
    {od54 an54 : Option Addr} {sl54 : Array (Option Value)} {oc54 kV54 dc54 pm54 cd54 ct54 : Value} {f54 : Addr}
    {od55 an55 : Option Addr} {sl55 : Array (Option Value)} {oc55 kV55 dc55 pm55 cd55 ct55 : Value} {f55 : Addr}
    {od56 an56 : Option Addr} {sl56 : Array (Option Value)} {oc56 kV56 dc56 pm56 cd56 ct56 : Value} {f56 : Addr}
    {od57 an57 : Option Addr} {sl57 : Array (Option Value)} {oc57 kV57 dc57 pm57 cd57 ct57 : Value} {f57 : Addr}
    {od58 an58 : Option Addr} {sl58 : Array (Option Value)} {oc58 kV58 dc58 pm58 cd58 ct58 : Value} {f58 : Addr}
    {od59 an59 : Option Addr} {sl59 : Array (Option Value)} {oc59 kV59 dc59 pm59 cd59 ct59 : Value} {f59 : Addr}
    {od60 an60 : Option Addr} {sl60 : Array (Option Value)} {oc60 kV60 dc60 pm60 cd60 ct60 : Value} {f60 : Addr}
    {od61 an61 : Option Addr} {sl61 : Array (Option Value)} {oc61 kV61 dc61 pm61 cd61 ct61 : Value} {f61 : Addr}
    {od62 an62 : Option Addr} {sl62 : Array (Option Value)} {oc62 kV62 dc62 pm62 cd62 ct62 : Value} {f62 : Addr}
    {od63 an63 : Option Addr} {sl63 : Array (Option Value)} {oc63 kV63 dc63 pm63 cd63 ct63 : Value} {f63 : Addr}
    {od64 an64 : Option Addr} {sl64 : Array (Option Value)} {oc64 kV64 dc64 pm64 cd64 ct64 : Value} {f64 : Addr}
    {od65 an65 : Option Addr} {sl65 : Array (Option Value)} {oc65 kV65 dc65 pm65 cd65 ct65 : Value} {f65 : Addr}
    {od66 an66 : Option Addr} {sl66 : Array (Option Value)} {oc66 kV66 dc66 pm66 cd66 ct66 : Value} {f66 : Addr}
    {od67 an67 : Option Addr} {sl67 : Array (Option Value)} {oc67 kV67 dc67 pm67 cd67 ct67 : Value} {f67 : Addr}
    {od68 an68 : Option Addr} {sl68 : Array (Option Value)} {oc68 kV68 dc68 pm68 cd68 ct68 : Value} {f68 : Addr}
    {od69 an69 : Option Addr} {sl69 : Array (Option Value)} {oc69 kV69 dc69 pm69 cd69 ct69 : Value} {f69 : Addr}
    {c_BodyError : Addr}
    {c_NoShare : Addr}
    {c_NoWay : Addr}
    {c_BadShape : Addr}
    {c_BadRow : Addr}
    {c_Over : Addr}
    {c_Early : Addr}
    {c_Calm : Addr}
    {c_NoBody : Addr}
    {c_Twice : Addr}
    {c_Full : Addr}
    {c_Long : Addr}
    {c_BadPush : Addr}
    {c_BadSpan : Addr}
    {c_BadCount : Addr}
    {c_BadState : Addr}
    {c_Crowded : Addr}
    {c_TooFine : Addr}
    {c_Nothing : Addr}
    {c_Wrong : Addr}
    {c_BadText : Addr}
    {c_BadLine : Addr}
    {odI_Over anI_Over : Option Addr} {slI_Over : Array (Option Value)} {ocI_Over kVI_Over dcI_Over pmI_Over ctI_Over : Value} {fI_Over cdaI_Over ccI_Over : Addr} {cclI_Over : Value} {cddI_Over : Option Addr} {vsI_Over : Array Value} {ccsI_Over : Array (Option Value)} {fileI_Over : Str} {tfI_Over : Tok} {clI_Over : Value} {cldI_Over : Option Addr} {cslI_Over : Array (Option Value)} {nmI_Over qnI_Over : Str} {NI_Over : Addr} {bsI_Over bmI_Over : List Value} {snI_Over : List Str} {subI_Over : List Value} {abI_Over : Bool} {colI_Over : Option Bool} {ddI_Over : Option Addr} {k0I_Over k1I_Over k2I_Over k3I_Over k5I_Over : Option Value}
    {k_LEADING : Tok}
    {k_LENGTHY : Tok}
    (a0 : PySem.W.nsIn K mainGlobals "divided" = some (some (.ref f0))) (l0 : K.lookup f0 = some ⟨oc0, od0, .func (PySem.W.fnOf "divided" "divided" (defArgs s_p_divided) (defBody s_p_divided) (defScope s_p_divided) .none kV0 dc0 pm0 an0 cd0 ct0), sl0⟩) (c0 : PySem.W.codeIn K cd0 "divided" = true) (k0 : PySem.W.keepIn K (.ref f0) = true)
    (a1 : PySem.W.nsIn K mainGlobals "shortened" = some (some (.ref f1))) (l1 : K.lookup f1 = some ⟨oc1, od1, .func (PySem.W.fnOf "shortened" "shortened" (defArgs s_p_shortened) (defBody s_p_shortened) (defScope s_p_shortened) .none kV1 dc1 pm1 an1 cd1 ct1), sl1⟩) (c1 : PySem.W.codeIn K cd1 "shortened" = true) (k1 : PySem.W.keepIn K (.ref f1) = true)
    (a2 : PySem.W.nsIn K mainGlobals "common_divisor" = some (some (.ref f2))) (l2 : K.lookup f2 = some ⟨oc2, od2, .func (PySem.W.fnOf "common_divisor" "common_divisor" (defArgs s_p_common_divisor) (defBody s_p_common_divisor) (defScope s_p_common_divisor) .none kV2 dc2 pm2 an2 cd2 ct2), sl2⟩) (c2 : PySem.W.codeIn K cd2 "common_divisor" = true) (k2 : PySem.W.keepIn K (.ref f2) = true)
    (a3 : PySem.W.nsIn K mainGlobals "plus" = some (some (.ref f3))) (l3 : K.lookup f3 = some ⟨oc3, od3, .func (PySem.W.fnOf "plus" "plus" (defArgs s_p_plus) (defBody s_p_plus) (defScope s_p_plus) .none kV3 dc3 pm3 an3 cd3 ct3), sl3⟩) (c3 : PySem.W.codeIn K cd3 "plus" = true) (k3 : PySem.W.keepIn K (.ref f3) = true)
    (a4 : PySem.W.nsIn K mainGlobals "minus" = some (some (.ref f4))) (l4 : K.lookup f4 = some ⟨oc4, od4, .func (PySem.W.fnOf "minus" "minus" (defArgs s_p_minus) (defBody s_p_minus) (defScope s_p_minus) .none kV4 dc4 pm4 an4 cd4 ct4), sl4⟩) (c4 : PySem.W.codeIn K cd4 "minus" = true) (k4 : PySem.W.keepIn K (.ref f4) = true)
    (a5 : PySem.W.nsIn K mainGlobals "on_one_bottom" = some (some (.ref f5))) (l5 : K.lookup f5 = some ⟨oc5, od5, .func (PySem.W.fnOf "on_one_bottom" "on_one_bottom" (defArgs s_p_on_one_bottom) (defBody s_p_on_one_bottom) (defScope s_p_on_one_bottom) .none kV5 dc5 pm5 an5 cd5 ct5), sl5⟩) (c5 : PySem.W.codeIn K cd5 "on_one_bottom" = true) (k5 : PySem.W.keepIn K (.ref f5) = true)
    (a6 : PySem.W.nsIn K mainGlobals "way_of" = some (some (.ref f6))) (l6 : K.lookup f6 = some ⟨oc6, od6, .func (PySem.W.fnOf "way_of" "way_of" (defArgs s_p_way_of) (defBody s_p_way_of) (defScope s_p_way_of) .none kV6 dc6 pm6 an6 cd6 ct6), sl6⟩) (c6 : PySem.W.codeIn K cd6 "way_of" = true) (k6 : PySem.W.keepIn K (.ref f6) = true)
    (a7 : PySem.W.nsIn K mainGlobals "spot_minus" = some (some (.ref f7))) (l7 : K.lookup f7 = some ⟨oc7, od7, .func (PySem.W.fnOf "spot_minus" "spot_minus" (defArgs s_p_spot_minus) (defBody s_p_spot_minus) (defScope s_p_spot_minus) .none kV7 dc7 pm7 an7 cd7 ct7), sl7⟩) (c7 : PySem.W.codeIn K cd7 "spot_minus" = true) (k7 : PySem.W.keepIn K (.ref f7) = true)
    (a8 : PySem.W.nsIn K mainGlobals "side_ends" = some (some (.ref f8))) (l8 : K.lookup f8 = some ⟨oc8, od8, .func (PySem.W.fnOf "side_ends" "side_ends" (defArgs s_p_side_ends) (defBody s_p_side_ends) (defScope s_p_side_ends) .none kV8 dc8 pm8 an8 cd8 ct8), sl8⟩) (c8 : PySem.W.codeIn K cd8 "side_ends" = true) (k8 : PySem.W.keepIn K (.ref f8) = true)
    (a9 : PySem.W.nsIn K mainGlobals "outwards" = some (some (.ref f9))) (l9 : K.lookup f9 = some ⟨oc9, od9, .func (PySem.W.fnOf "outwards" "outwards" (defArgs s_p_outwards) (defBody s_p_outwards) (defScope s_p_outwards) .none kV9 dc9 pm9 an9 cd9 ct9), sl9⟩) (c9 : PySem.W.codeIn K cd9 "outwards" = true) (k9 : PySem.W.keepIn K (.ref f9) = true)
    (a10 : PySem.W.nsIn K mainGlobals "sides" = some (some (.ref f10))) (l10 : K.lookup f10 = some ⟨oc10, od10, .func (PySem.W.fnOf "sides" "sides" (defArgs s_p_sides) (defBody s_p_sides) (defScope s_p_sides) .none kV10 dc10 pm10 an10 cd10 ct10), sl10⟩) (c10 : PySem.W.codeIn K cd10 "sides" = true) (k10 : PySem.W.keepIn K (.ref f10) = true)
    (a11 : PySem.W.nsIn K mainGlobals "reach" = some (some (.ref f11))) (l11 : K.lookup f11 = some ⟨oc11, od11, .func (PySem.W.fnOf "reach" "reach" (defArgs s_p_reach) (defBody s_p_reach) (defScope s_p_reach) .none kV11 dc11 pm11 an11 cd11 ct11), sl11⟩) (c11 : PySem.W.codeIn K cd11 "reach" = true) (k11 : PySem.W.keepIn K (.ref f11) = true)
    (a12 : PySem.W.nsIn K mainGlobals "turned" = some (some (.ref f12))) (l12 : K.lookup f12 = some ⟨oc12, od12, .func (PySem.W.fnOf "turned" "turned" (defArgs s_p_turned) (defBody s_p_turned) (defScope s_p_turned) .none kV12 dc12 pm12 an12 cd12 ct12), sl12⟩) (c12 : PySem.W.codeIn K cd12 "turned" = true) (k12 : PySem.W.keepIn K (.ref f12) = true)
    (a13 : PySem.W.nsIn K mainGlobals "pair_ways" = some (some (.ref f13))) (l13 : K.lookup f13 = some ⟨oc13, od13, .func (PySem.W.fnOf "pair_ways" "pair_ways" (defArgs s_p_pair_ways) (defBody s_p_pair_ways) (defScope s_p_pair_ways) .none kV13 dc13 pm13 an13 cd13 ct13), sl13⟩) (c13 : PySem.W.codeIn K cd13 "pair_ways" = true) (k13 : PySem.W.keepIn K (.ref f13) = true)
    (a14 : PySem.W.nsIn K mainGlobals "width" = some (some (.ref f14))) (l14 : K.lookup f14 = some ⟨oc14, od14, .func (PySem.W.fnOf "width" "width" (defArgs s_p_width) (defBody s_p_width) (defScope s_p_width) .none kV14 dc14 pm14 an14 cd14 ct14), sl14⟩) (c14 : PySem.W.codeIn K cd14 "width" = true) (k14 : PySem.W.keepIn K (.ref f14) = true)
    (a15 : PySem.W.nsIn K mainGlobals "place_apart" = some (some (.ref f15))) (l15 : K.lookup f15 = some ⟨oc15, od15, .func (PySem.W.fnOf "place_apart" "place_apart" (defArgs s_p_place_apart) (defBody s_p_place_apart) (defScope s_p_place_apart) .none kV15 dc15 pm15 an15 cd15 ct15), sl15⟩) (c15 : PySem.W.codeIn K cd15 "place_apart" = true) (k15 : PySem.W.keepIn K (.ref f15) = true)
    (a16 : PySem.W.nsIn K mainGlobals "speed_apart" = some (some (.ref f16))) (l16 : K.lookup f16 = some ⟨oc16, od16, .func (PySem.W.fnOf "speed_apart" "speed_apart" (defArgs s_p_speed_apart) (defBody s_p_speed_apart) (defScope s_p_speed_apart) .none kV16 dc16 pm16 an16 cd16 ct16), sl16⟩) (c16 : PySem.W.codeIn K cd16 "speed_apart" = true) (k16 : PySem.W.keepIn K (.ref f16) = true)
    (a17 : PySem.W.nsIn K mainGlobals "courses" = some (some (.ref f17))) (l17 : K.lookup f17 = some ⟨oc17, od17, .func (PySem.W.fnOf "courses" "courses" (defArgs s_p_courses) (defBody s_p_courses) (defScope s_p_courses) .none kV17 dc17 pm17 an17 cd17 ct17), sl17⟩) (c17 : PySem.W.codeIn K cd17 "courses" = true) (k17 : PySem.W.keepIn K (.ref f17) = true)
    (a18 : PySem.W.nsIn K mainGlobals "pairs" = some (some (.ref f18))) (l18 : K.lookup f18 = some ⟨oc18, od18, .func (PySem.W.fnOf "pairs" "pairs" (defArgs s_p_pairs) (defBody s_p_pairs) (defScope s_p_pairs) .none kV18 dc18 pm18 an18 cd18 ct18), sl18⟩) (c18 : PySem.W.codeIn K cd18 "pairs" = true) (k18 : PySem.W.keepIn K (.ref f18) = true)
    (a19 : PySem.W.nsIn K mainGlobals "sum_way" = some (some (.ref f19))) (l19 : K.lookup f19 = some ⟨oc19, od19, .func (PySem.W.fnOf "sum_way" "sum_way" (defArgs s_p_sum_way) (defBody s_p_sum_way) (defScope s_p_sum_way) .none kV19 dc19 pm19 an19 cd19 ct19), sl19⟩) (c19 : PySem.W.codeIn K cd19 "sum_way" = true) (k19 : PySem.W.keepIn K (.ref f19) = true)
    (a20 : PySem.W.nsIn K mainGlobals "touching_way" = some (some (.ref f20))) (l20 : K.lookup f20 = some ⟨oc20, od20, .func (PySem.W.fnOf "touching_way" "touching_way" (defArgs s_p_touching_way) (defBody s_p_touching_way) (defScope s_p_touching_way) .none kV20 dc20 pm20 an20 cd20 ct20), sl20⟩) (c20 : PySem.W.codeIn K cd20 "touching_way" = true) (k20 : PySem.W.keepIn K (.ref f20) = true)
    (a21 : PySem.W.nsIn K mainGlobals "pair_contacts" = some (some (.ref f21))) (l21 : K.lookup f21 = some ⟨oc21, od21, .func (PySem.W.fnOf "pair_contacts" "pair_contacts" (defArgs s_p_pair_contacts) (defBody s_p_pair_contacts) (defScope s_p_pair_contacts) .none kV21 dc21 pm21 an21 cd21 ct21), sl21⟩) (c21 : PySem.W.codeIn K cd21 "pair_contacts" = true) (k21 : PySem.W.keepIn K (.ref f21) = true)
    (a22 : PySem.W.nsIn K mainGlobals "contacts" = some (some (.ref f22))) (l22 : K.lookup f22 = some ⟨oc22, od22, .func (PySem.W.fnOf "contacts" "contacts" (defArgs s_p_contacts) (defBody s_p_contacts) (defScope s_p_contacts) .none kV22 dc22 pm22 an22 cd22 ct22), sl22⟩) (c22 : PySem.W.codeIn K cd22 "contacts" = true) (k22 : PySem.W.keepIn K (.ref f22) = true)
    (a23 : PySem.W.nsIn K mainGlobals "_law_cell_at" = some (some (.ref f23))) (l23 : K.lookup f23 = some ⟨oc23, od23, .func (PySem.W.fnOf "_law_cell_at" "_law_cell_at" (defArgs s_l_cell_at) (defBody s_l_cell_at) (defScope s_l_cell_at) .none kV23 dc23 pm23 an23 cd23 ct23), sl23⟩) (c23 : PySem.W.codeIn K cd23 "_law_cell_at" = true) (k23 : PySem.W.keepIn K (.ref f23) = true)
    (a24 : PySem.W.nsIn K mainGlobals "_law_mixed" = some (some (.ref f24))) (l24 : K.lookup f24 = some ⟨oc24, od24, .func (PySem.W.fnOf "_law_mixed" "_law_mixed" (defArgs s_l_mixed) (defBody s_l_mixed) (defScope s_l_mixed) .none kV24 dc24 pm24 an24 cd24 ct24), sl24⟩) (c24 : PySem.W.codeIn K cd24 "_law_mixed" = true) (k24 : PySem.W.keepIn K (.ref f24) = true)
    (a25 : PySem.W.nsIn K mainGlobals "_law_new_deck" = some (some (.ref f25))) (l25 : K.lookup f25 = some ⟨oc25, od25, .func (PySem.W.fnOf "_law_new_deck" "_law_new_deck" (defArgs s_l_new_deck) (defBody s_l_new_deck) (defScope s_l_new_deck) .none kV25 dc25 pm25 an25 cd25 ct25), sl25⟩) (c25 : PySem.W.codeIn K cd25 "_law_new_deck" = true) (k25 : PySem.W.keepIn K (.ref f25) = true)
    (a26 : PySem.W.nsIn K mainGlobals "_law_take" = some (some (.ref f26))) (l26 : K.lookup f26 = some ⟨oc26, od26, .func (PySem.W.fnOf "_law_take" "_law_take" (defArgs s_l_take) (defBody s_l_take) (defScope s_l_take) .none kV26 dc26 pm26 an26 cd26 ct26), sl26⟩) (c26 : PySem.W.codeIn K cd26 "_law_take" = true) (k26 : PySem.W.keepIn K (.ref f26) = true)
    (a27 : PySem.W.nsIn K mainGlobals "_law_gcd" = some (some (.ref f27))) (l27 : K.lookup f27 = some ⟨oc27, od27, .func (PySem.W.fnOf "_law_gcd" "_law_gcd" (defArgs s_l_gcd) (defBody s_l_gcd) (defScope s_l_gcd) .none kV27 dc27 pm27 an27 cd27 ct27), sl27⟩) (c27 : PySem.W.codeIn K cd27 "_law_gcd" = true) (k27 : PySem.W.keepIn K (.ref f27) = true)
    (a28 : PySem.W.nsIn K mainGlobals "_law_lowest" = some (some (.ref f28))) (l28 : K.lookup f28 = some ⟨oc28, od28, .func (PySem.W.fnOf "_law_lowest" "_law_lowest" (defArgs s_l_lowest) (defBody s_l_lowest) (defScope s_l_lowest) .none kV28 dc28 pm28 an28 cd28 ct28), sl28⟩) (c28 : PySem.W.codeIn K cd28 "_law_lowest" = true) (k28 : PySem.W.keepIn K (.ref f28) = true)
    (a29 : PySem.W.nsIn K mainGlobals "_law_plus" = some (some (.ref f29))) (l29 : K.lookup f29 = some ⟨oc29, od29, .func (PySem.W.fnOf "_law_plus" "_law_plus" (defArgs s_l_plus) (defBody s_l_plus) (defScope s_l_plus) .none kV29 dc29 pm29 an29 cd29 ct29), sl29⟩) (c29 : PySem.W.codeIn K cd29 "_law_plus" = true) (k29 : PySem.W.keepIn K (.ref f29) = true)
    (a30 : PySem.W.nsIn K mainGlobals "_law_times" = some (some (.ref f30))) (l30 : K.lookup f30 = some ⟨oc30, od30, .func (PySem.W.fnOf "_law_times" "_law_times" (defArgs s_l_times) (defBody s_l_times) (defScope s_l_times) .none kV30 dc30 pm30 an30 cd30 ct30), sl30⟩) (c30 : PySem.W.codeIn K cd30 "_law_times" = true) (k30 : PySem.W.keepIn K (.ref f30) = true)
    (a31 : PySem.W.nsIn K mainGlobals "_law_spot_plus" = some (some (.ref f31))) (l31 : K.lookup f31 = some ⟨oc31, od31, .func (PySem.W.fnOf "_law_spot_plus" "_law_spot_plus" (defArgs s_l_spot_plus) (defBody s_l_spot_plus) (defScope s_l_spot_plus) .none kV31 dc31 pm31 an31 cd31 ct31), sl31⟩) (c31 : PySem.W.codeIn K cd31 "_law_spot_plus" = true) (k31 : PySem.W.keepIn K (.ref f31) = true)
    (a32 : PySem.W.nsIn K mainGlobals "_law_spot_times" = some (some (.ref f32))) (l32 : K.lookup f32 = some ⟨oc32, od32, .func (PySem.W.fnOf "_law_spot_times" "_law_spot_times" (defArgs s_l_spot_times) (defBody s_l_spot_times) (defScope s_l_spot_times) .none kV32 dc32 pm32 an32 cd32 ct32), sl32⟩) (c32 : PySem.W.codeIn K cd32 "_law_spot_times" = true) (k32 : PySem.W.keepIn K (.ref f32) = true)
    (a33 : PySem.W.nsIn K mainGlobals "_law_spot_less" = some (some (.ref f33))) (l33 : K.lookup f33 = some ⟨oc33, od33, .func (PySem.W.fnOf "_law_spot_less" "_law_spot_less" (defArgs s_l_spot_less) (defBody s_l_spot_less) (defScope s_l_spot_less) .none kV33 dc33 pm33 an33 cd33 ct33), sl33⟩) (c33 : PySem.W.codeIn K cd33 "_law_spot_less" = true) (k33 : PySem.W.keepIn K (.ref f33) = true)
    (a34 : PySem.W.nsIn K mainGlobals "_law_dot" = some (some (.ref f34))) (l34 : K.lookup f34 = some ⟨oc34, od34, .func (PySem.W.fnOf "_law_dot" "_law_dot" (defArgs s_l_dot) (defBody s_l_dot) (defScope s_l_dot) .none kV34 dc34 pm34 an34 cd34 ct34), sl34⟩) (c34 : PySem.W.codeIn K cd34 "_law_dot" = true) (k34 : PySem.W.keepIn K (.ref f34) = true)
    (a35 : PySem.W.nsIn K mainGlobals "_law_spot_of" = some (some (.ref f35))) (l35 : K.lookup f35 = some ⟨oc35, od35, .func (PySem.W.fnOf "_law_spot_of" "_law_spot_of" (defArgs s_l_spot_of) (defBody s_l_spot_of) (defScope s_l_spot_of) .none kV35 dc35 pm35 an35 cd35 ct35), sl35⟩) (c35 : PySem.W.codeIn K cd35 "_law_spot_of" = true) (k35 : PySem.W.keepIn K (.ref f35) = true)
    (a36 : PySem.W.nsIn K mainGlobals "_law_half" = some (some (.ref f36))) (l36 : K.lookup f36 = some ⟨oc36, od36, .func (PySem.W.fnOf "_law_half" "_law_half" (defArgs s_l_half) (defBody s_l_half) (defScope s_l_half) .none kV36 dc36 pm36 an36 cd36 ct36), sl36⟩) (c36 : PySem.W.codeIn K cd36 "_law_half" = true) (k36 : PySem.W.keepIn K (.ref f36) = true)
    (a37 : PySem.W.nsIn K mainGlobals "_law_left" = some (some (.ref f37))) (l37 : K.lookup f37 = some ⟨oc37, od37, .func (PySem.W.fnOf "_law_left" "_law_left" (defArgs s_l_left) (defBody s_l_left) (defScope s_l_left) .none kV37 dc37 pm37 an37 cd37 ct37), sl37⟩) (c37 : PySem.W.codeIn K cd37 "_law_left" = true) (k37 : PySem.W.keepIn K (.ref f37) = true)
    (a38 : PySem.W.nsIn K mainGlobals "_law_signed" = some (some (.ref f38))) (l38 : K.lookup f38 = some ⟨oc38, od38, .func (PySem.W.fnOf "_law_signed" "_law_signed" (defArgs s_l_signed) (defBody s_l_signed) (defScope s_l_signed) .none kV38 dc38 pm38 an38 cd38 ct38), sl38⟩) (c38 : PySem.W.codeIn K cd38 "_law_signed" = true) (k38 : PySem.W.keepIn K (.ref f38) = true)
    (a39 : PySem.W.nsIn K mainGlobals "_law_drawn_shape" = some (some (.ref f39))) (l39 : K.lookup f39 = some ⟨oc39, od39, .func (PySem.W.fnOf "_law_drawn_shape" "_law_drawn_shape" (defArgs s_l_drawn_shape) (defBody s_l_drawn_shape) (defScope s_l_drawn_shape) .none kV39 dc39 pm39 an39 cd39 ct39), sl39⟩) (c39 : PySem.W.codeIn K cd39 "_law_drawn_shape" = true) (k39 : PySem.W.keepIn K (.ref f39) = true)
    (a40 : PySem.W.nsIn K mainGlobals "_law_drawn_size" = some (some (.ref f40))) (l40 : K.lookup f40 = some ⟨oc40, od40, .func (PySem.W.fnOf "_law_drawn_size" "_law_drawn_size" (defArgs s_l_drawn_size) (defBody s_l_drawn_size) (defScope s_l_drawn_size) .none kV40 dc40 pm40 an40 cd40 ct40), sl40⟩) (c40 : PySem.W.codeIn K cd40 "_law_drawn_size" = true) (k40 : PySem.W.keepIn K (.ref f40) = true)
    (a41 : PySem.W.nsIn K mainGlobals "_law_above" = some (some (.ref f41))) (l41 : K.lookup f41 = some ⟨oc41, od41, .func (PySem.W.fnOf "_law_above" "_law_above" (defArgs s_l_above) (defBody s_l_above) (defScope s_l_above) .none kV41 dc41 pm41 an41 cd41 ct41), sl41⟩) (c41 : PySem.W.codeIn K cd41 "_law_above" = true) (k41 : PySem.W.keepIn K (.ref f41) = true)
    (a42 : PySem.W.nsIn K mainGlobals "_law_side_ways" = some (some (.ref f42))) (l42 : K.lookup f42 = some ⟨oc42, od42, .func (PySem.W.fnOf "_law_side_ways" "_law_side_ways" (defArgs s_l_side_ways) (defBody s_l_side_ways) (defScope s_l_side_ways) .none kV42 dc42 pm42 an42 cd42 ct42), sl42⟩) (c42 : PySem.W.codeIn K cd42 "_law_side_ways" = true) (k42 : PySem.W.keepIn K (.ref f42) = true)
    (a43 : PySem.W.nsIn K mainGlobals "_law_pair_ways" = some (some (.ref f43))) (l43 : K.lookup f43 = some ⟨oc43, od43, .func (PySem.W.fnOf "_law_pair_ways" "_law_pair_ways" (defArgs s_l_pair_ways) (defBody s_l_pair_ways) (defScope s_l_pair_ways) .none kV43 dc43 pm43 an43 cd43 ct43), sl43⟩) (c43 : PySem.W.codeIn K cd43 "_law_pair_ways" = true) (k43 : PySem.W.keepIn K (.ref f43) = true)
    (a44 : PySem.W.nsIn K mainGlobals "_law_far" = some (some (.ref f44))) (l44 : K.lookup f44 = some ⟨oc44, od44, .func (PySem.W.fnOf "_law_far" "_law_far" (defArgs s_l_far) (defBody s_l_far) (defScope s_l_far) .none kV44 dc44 pm44 an44 cd44 ct44), sl44⟩) (c44 : PySem.W.codeIn K cd44 "_law_far" = true) (k44 : PySem.W.keepIn K (.ref f44) = true)
    (a45 : PySem.W.nsIn K mainGlobals "_law_speed" = some (some (.ref f45))) (l45 : K.lookup f45 = some ⟨oc45, od45, .func (PySem.W.fnOf "_law_speed" "_law_speed" (defArgs s_l_speed) (defBody s_l_speed) (defScope s_l_speed) .none kV45 dc45 pm45 an45 cd45 ct45), sl45⟩) (c45 : PySem.W.codeIn K cd45 "_law_speed" = true) (k45 : PySem.W.keepIn K (.ref f45) = true)
    (a46 : PySem.W.nsIn K mainGlobals "_law_between" = some (some (.ref f46))) (l46 : K.lookup f46 = some ⟨oc46, od46, .func (PySem.W.fnOf "_law_between" "_law_between" (defArgs s_l_between) (defBody s_l_between) (defScope s_l_between) .none kV46 dc46 pm46 an46 cd46 ct46), sl46⟩) (c46 : PySem.W.codeIn K cd46 "_law_between" = true) (k46 : PySem.W.keepIn K (.ref f46) = true)
    (a47 : PySem.W.nsIn K mainGlobals "_law_room_by" = some (some (.ref f47))) (l47 : K.lookup f47 = some ⟨oc47, od47, .func (PySem.W.fnOf "_law_room_by" "_law_room_by" (defArgs s_l_room_by) (defBody s_l_room_by) (defScope s_l_room_by) .none kV47 dc47 pm47 an47 cd47 ct47), sl47⟩) (c47 : PySem.W.codeIn K cd47 "_law_room_by" = true) (k47 : PySem.W.keepIn K (.ref f47) = true)
    (a48 : PySem.W.nsIn K mainGlobals "_law_rooms" = some (some (.ref f48))) (l48 : K.lookup f48 = some ⟨oc48, od48, .func (PySem.W.fnOf "_law_rooms" "_law_rooms" (defArgs s_l_rooms) (defBody s_l_rooms) (defScope s_l_rooms) .none kV48 dc48 pm48 an48 cd48 ct48), sl48⟩) (c48 : PySem.W.codeIn K cd48 "_law_rooms" = true) (k48 : PySem.W.keepIn K (.ref f48) = true)
    (a49 : PySem.W.nsIn K mainGlobals "_law_over" = some (some (.ref f49))) (l49 : K.lookup f49 = some ⟨oc49, od49, .func (PySem.W.fnOf "_law_over" "_law_over" (defArgs s_l_over) (defBody s_l_over) (defScope s_l_over) .none kV49 dc49 pm49 an49 cd49 ct49), sl49⟩) (c49 : PySem.W.codeIn K cd49 "_law_over" = true) (k49 : PySem.W.keepIn K (.ref f49) = true)
    (a50 : PySem.W.nsIn K mainGlobals "_law_drawn_name" = some (some (.ref f50))) (l50 : K.lookup f50 = some ⟨oc50, od50, .func (PySem.W.fnOf "_law_drawn_name" "_law_drawn_name" (defArgs s_l_drawn_name) (defBody s_l_drawn_name) (defScope s_l_drawn_name) .none kV50 dc50 pm50 an50 cd50 ct50), sl50⟩) (c50 : PySem.W.codeIn K cd50 "_law_drawn_name" = true) (k50 : PySem.W.keepIn K (.ref f50) = true)
    (a51 : PySem.W.nsIn K mainGlobals "_law_drawn_way" = some (some (.ref f51))) (l51 : K.lookup f51 = some ⟨oc51, od51, .func (PySem.W.fnOf "_law_drawn_way" "_law_drawn_way" (defArgs s_l_drawn_way) (defBody s_l_drawn_way) (defScope s_l_drawn_way) .none kV51 dc51 pm51 an51 cd51 ct51), sl51⟩) (c51 : PySem.W.codeIn K cd51 "_law_drawn_way" = true) (k51 : PySem.W.keepIn K (.ref f51) = true)
    (a52 : PySem.W.nsIn K mainGlobals "_law_drawn_row" = some (some (.ref f52))) (l52 : K.lookup f52 = some ⟨oc52, od52, .func (PySem.W.fnOf "_law_drawn_row" "_law_drawn_row" (defArgs s_l_drawn_row) (defBody s_l_drawn_row) (defScope s_l_drawn_row) .none kV52 dc52 pm52 an52 cd52 ct52), sl52⟩) (c52 : PySem.W.codeIn K cd52 "_law_drawn_row" = true) (k52 : PySem.W.keepIn K (.ref f52) = true)
    (a53 : PySem.W.nsIn K mainGlobals "_law_beside" = some (some (.ref f53))) (l53 : K.lookup f53 = some ⟨oc53, od53, .func (PySem.W.fnOf "_law_beside" "_law_beside" (defArgs s_l_beside) (defBody s_l_beside) (defScope s_l_beside) .none kV53 dc53 pm53 an53 cd53 ct53), sl53⟩) (c53 : PySem.W.codeIn K cd53 "_law_beside" = true) (k53 : PySem.W.keepIn K (.ref f53) = true)
    (a54 : PySem.W.nsIn K mainGlobals "_law_scene" = some (some (.ref f54))) (l54 : K.lookup f54 = some ⟨oc54, od54, .func (PySem.W.fnOf "_law_scene" "_law_scene" (defArgs s_l_scene) (defBody s_l_scene) (defScope s_l_scene) .none kV54 dc54 pm54 an54 cd54 ct54), sl54⟩) (c54 : PySem.W.codeIn K cd54 "_law_scene" = true) (k54 : PySem.W.keepIn K (.ref f54) = true)
    (a55 : PySem.W.nsIn K mainGlobals "_law_pairs" = some (some (.ref f55))) (l55 : K.lookup f55 = some ⟨oc55, od55, .func (PySem.W.fnOf "_law_pairs" "_law_pairs" (defArgs s_l_pairs) (defBody s_l_pairs) (defScope s_l_pairs) .none kV55 dc55 pm55 an55 cd55 ct55), sl55⟩) (c55 : PySem.W.codeIn K cd55 "_law_pairs" = true) (k55 : PySem.W.keepIn K (.ref f55) = true)
    (a56 : PySem.W.nsIn K mainGlobals "_law_whole" = some (some (.ref f56))) (l56 : K.lookup f56 = some ⟨oc56, od56, .func (PySem.W.fnOf "_law_whole" "_law_whole" (defArgs s_l_whole) (defBody s_l_whole) (defScope s_l_whole) .none kV56 dc56 pm56 an56 cd56 ct56), sl56⟩) (c56 : PySem.W.codeIn K cd56 "_law_whole" = true) (k56 : PySem.W.keepIn K (.ref f56) = true)
    (a57 : PySem.W.nsIn K mainGlobals "_law_two" = some (some (.ref f57))) (l57 : K.lookup f57 = some ⟨oc57, od57, .func (PySem.W.fnOf "_law_two" "_law_two" (defArgs s_l_two) (defBody s_l_two) (defScope s_l_two) .none kV57 dc57 pm57 an57 cd57 ct57), sl57⟩) (c57 : PySem.W.codeIn K cd57 "_law_two" = true) (k57 : PySem.W.keepIn K (.ref f57) = true)
    (a58 : PySem.W.nsIn K mainGlobals "_law_contact" = some (some (.ref f58))) (l58 : K.lookup f58 = some ⟨oc58, od58, .func (PySem.W.fnOf "_law_contact" "_law_contact" (defArgs s_l_contact) (defBody s_l_contact) (defScope s_l_contact) .none kV58 dc58 pm58 an58 cd58 ct58), sl58⟩) (c58 : PySem.W.codeIn K cd58 "_law_contact" = true) (k58 : PySem.W.keepIn K (.ref f58) = true)
    (a59 : PySem.W.nsIn K mainGlobals "_law_touches" = some (some (.ref f59))) (l59 : K.lookup f59 = some ⟨oc59, od59, .func (PySem.W.fnOf "_law_touches" "_law_touches" (defArgs s_l_touches) (defBody s_l_touches) (defScope s_l_touches) .none kV59 dc59 pm59 an59 cd59 ct59), sl59⟩) (c59 : PySem.W.codeIn K cd59 "_law_touches" = true) (k59 : PySem.W.keepIn K (.ref f59) = true)
    (a60 : PySem.W.nsIn K mainGlobals "_law_are_over" = some (some (.ref f60))) (l60 : K.lookup f60 = some ⟨oc60, od60, .func (PySem.W.fnOf "_law_are_over" "_law_are_over" (defArgs s_l_are_over) (defBody s_l_are_over) (defScope s_l_are_over) .none kV60 dc60 pm60 an60 cd60 ct60), sl60⟩) (c60 : PySem.W.codeIn K cd60 "_law_are_over" = true) (k60 : PySem.W.keepIn K (.ref f60) = true)
    (a61 : PySem.W.nsIn K mainGlobals "_law_same_touches" = some (some (.ref f61))) (l61 : K.lookup f61 = some ⟨oc61, od61, .func (PySem.W.fnOf "_law_same_touches" "_law_same_touches" (defArgs s_l_same_touches) (defBody s_l_same_touches) (defScope s_l_same_touches) .none kV61 dc61 pm61 an61 cd61 ct61), sl61⟩) (c61 : PySem.W.codeIn K cd61 "_law_same_touches" = true) (k61 : PySem.W.keepIn K (.ref f61) = true)
    (a62 : PySem.W.nsIn K mainGlobals "_law_kinds" = some (some (.ref f62))) (l62 : K.lookup f62 = some ⟨oc62, od62, .func (PySem.W.fnOf "_law_kinds" "_law_kinds" (defArgs s_l_kinds) (defBody s_l_kinds) (defScope s_l_kinds) .none kV62 dc62 pm62 an62 cd62 ct62), sl62⟩) (c62 : PySem.W.codeIn K cd62 "_law_kinds" = true) (k62 : PySem.W.keepIn K (.ref f62) = true)
    (a63 : PySem.W.nsIn K mainGlobals "_law_alone" = some (some (.ref f63))) (l63 : K.lookup f63 = some ⟨oc63, od63, .func (PySem.W.fnOf "_law_alone" "_law_alone" (defArgs s_l_alone) (defBody s_l_alone) (defScope s_l_alone) .none kV63 dc63 pm63 an63 cd63 ct63), sl63⟩) (c63 : PySem.W.codeIn K cd63 "_law_alone" = true) (k63 : PySem.W.keepIn K (.ref f63) = true)
    (a64 : PySem.W.nsIn K mainGlobals "_law_put" = some (some (.ref f64))) (l64 : K.lookup f64 = some ⟨oc64, od64, .func (PySem.W.fnOf "_law_put" "_law_put" (defArgs s_l_put) (defBody s_l_put) (defScope s_l_put) .none kV64 dc64 pm64 an64 cd64 ct64), sl64⟩) (c64 : PySem.W.codeIn K cd64 "_law_put" = true) (k64 : PySem.W.keepIn K (.ref f64) = true)
    (a65 : PySem.W.nsIn K mainGlobals "_law_turned" = some (some (.ref f65))) (l65 : K.lookup f65 = some ⟨oc65, od65, .func (PySem.W.fnOf "_law_turned" "_law_turned" (defArgs s_l_turned) (defBody s_l_turned) (defScope s_l_turned) .none kV65 dc65 pm65 an65 cd65 ct65), sl65⟩) (c65 : PySem.W.codeIn K cd65 "_law_turned" = true) (k65 : PySem.W.keepIn K (.ref f65) = true)
    (a66 : PySem.W.nsIn K mainGlobals "_law_anew" = some (some (.ref f66))) (l66 : K.lookup f66 = some ⟨oc66, od66, .func (PySem.W.fnOf "_law_anew" "_law_anew" (defArgs s_l_anew) (defBody s_l_anew) (defScope s_l_anew) .none kV66 dc66 pm66 an66 cd66 ct66), sl66⟩) (c66 : PySem.W.codeIn K cd66 "_law_anew" = true) (k66 : PySem.W.keepIn K (.ref f66) = true)
    (a67 : PySem.W.nsIn K mainGlobals "_law_laid_over" = some (some (.ref f67))) (l67 : K.lookup f67 = some ⟨oc67, od67, .func (PySem.W.fnOf "_law_laid_over" "_law_laid_over" (defArgs s_l_laid_over) (defBody s_l_laid_over) (defScope s_l_laid_over) .none kV67 dc67 pm67 an67 cd67 ct67), sl67⟩) (c67 : PySem.W.codeIn K cd67 "_law_laid_over" = true) (k67 : PySem.W.keepIn K (.ref f67) = true)
    (a68 : PySem.W.nsIn K mainGlobals "_law_right" = some (some (.ref f68))) (l68 : K.lookup f68 = some ⟨oc68, od68, .func (PySem.W.fnOf "_law_right" "_law_right" (defArgs s_l_right) (defBody s_l_right) (defScope s_l_right) .none kV68 dc68 pm68 an68 cd68 ct68), sl68⟩) (c68 : PySem.W.codeIn K cd68 "_law_right" = true) (k68 : PySem.W.keepIn K (.ref f68) = true)
    (a69 : PySem.W.nsIn K mainGlobals "law" = some (some (.ref f69))) (l69 : K.lookup f69 = some ⟨oc69, od69, .func (PySem.W.fnOf "law" "law" (defArgs s_law) (defBody s_law) (defScope s_law) .none kV69 dc69 pm69 an69 cd69 ct69), sl69⟩) (c69 : PySem.W.codeIn K cd69 "law" = true) (k69 : PySem.W.keepIn K (.ref f69) = true)
    (z_ValueError : PySem.W.nsIn K mainGlobals "ValueError" = some none)
    (z_abs : PySem.W.nsIn K mainGlobals "abs" = some none)
    (z_bool : PySem.W.nsIn K mainGlobals "bool" = some none)
    (z_enumerate : PySem.W.nsIn K mainGlobals "enumerate" = some none)
    (z_int : PySem.W.nsIn K mainGlobals "int" = some none)
    (z_isinstance : PySem.W.nsIn K mainGlobals "isinstance" = some none)
    (z_len : PySem.W.nsIn K mainGlobals "len" = some none)
    (z_list : PySem.W.nsIn K mainGlobals "list" = some none)
    (z_max : PySem.W.nsIn K mainGlobals "max" = some none)
    (z_min : PySem.W.nsIn K mainGlobals "min" = some none)
    (z_range : PySem.W.nsIn K mainGlobals "range" = some none)
    (z_set : PySem.W.nsIn K mainGlobals "set" = some none)
    (z_sorted : PySem.W.nsIn K mainGlobals "sorted" = some none)
    (z_sum : PySem.W.nsIn K mainGlobals "sum" = some none)
    (z_tuple : PySem.W.nsIn K mainGlobals "tuple" = some none)
    (z_zip : PySem.W.nsIn K mainGlobals "zip" = some none)
    (ac_BodyError : PySem.W.nsIn K mainGlobals "BodyError" = some (some (.ref c_BodyError)))
    (ac_NoShare : PySem.W.nsIn K mainGlobals "NoShare" = some (some (.ref c_NoShare)))
    (ac_NoWay : PySem.W.nsIn K mainGlobals "NoWay" = some (some (.ref c_NoWay)))
    (ac_BadShape : PySem.W.nsIn K mainGlobals "BadShape" = some (some (.ref c_BadShape)))
    (ac_BadRow : PySem.W.nsIn K mainGlobals "BadRow" = some (some (.ref c_BadRow)))
    (ac_Over : PySem.W.nsIn K mainGlobals "Over" = some (some (.ref c_Over)))
    (ac_Early : PySem.W.nsIn K mainGlobals "Early" = some (some (.ref c_Early)))
    (ac_Calm : PySem.W.nsIn K mainGlobals "Calm" = some (some (.ref c_Calm)))
    (ac_NoBody : PySem.W.nsIn K mainGlobals "NoBody" = some (some (.ref c_NoBody)))
    (ac_Twice : PySem.W.nsIn K mainGlobals "Twice" = some (some (.ref c_Twice)))
    (ac_Full : PySem.W.nsIn K mainGlobals "Full" = some (some (.ref c_Full)))
    (ac_Long : PySem.W.nsIn K mainGlobals "Long" = some (some (.ref c_Long)))
    (ac_BadPush : PySem.W.nsIn K mainGlobals "BadPush" = some (some (.ref c_BadPush)))
    (ac_BadSpan : PySem.W.nsIn K mainGlobals "BadSpan" = some (some (.ref c_BadSpan)))
    (ac_BadCount : PySem.W.nsIn K mainGlobals "BadCount" = some (some (.ref c_BadCount)))
    (ac_BadState : PySem.W.nsIn K mainGlobals "BadState" = some (some (.ref c_BadState)))
    (ac_Crowded : PySem.W.nsIn K mainGlobals "Crowded" = some (some (.ref c_Crowded)))
    (ac_TooFine : PySem.W.nsIn K mainGlobals "TooFine" = some (some (.ref c_TooFine)))
    (ac_Nothing : PySem.W.nsIn K mainGlobals "Nothing" = some (some (.ref c_Nothing)))
    (ac_Wrong : PySem.W.nsIn K mainGlobals "Wrong" = some (some (.ref c_Wrong)))
    (ac_BadText : PySem.W.nsIn K mainGlobals "BadText" = some (some (.ref c_BadText)))
    (ac_BadLine : PySem.W.nsIn K mainGlobals "BadLine" = some (some (.ref c_BadLine)))
    (opI : PySem.W.nsIn K cStatics "thirdparty.any" = some none)
    (glI : PySem.W.nsIn K mainGlobals "super" = some none)
    (topI : (l.prog.main.scope.names.lookup ("super" : Str)).isSome = false)
    (iI_Over : PySem.W.findIn K (.ref c_Over) "__init__" = some (some (.ref fI_Over)))
    (lI_Over : K.lookup fI_Over = some ⟨ocI_Over, odI_Over, .func (PySem.W.ksFn "__init__" "Over.__init__" (defArgs s_m_Over___init__) (defBody s_m_Over___init__) (defScope s_m_Over___init__) .none kVI_Over dcI_Over pmI_Over anI_Over (.ref cdaI_Over) ctI_Over ccI_Over), slI_Over⟩)
    (cI_Over : PySem.W.codeIn K (.ref cdaI_Over) "Over.__init__" = true)
    (kI_Over : K.lookup cdaI_Over = some ⟨cclI_Over, cddI_Over, .fields vsI_Over, ccsI_Over⟩)
    (vI_Over : vsI_Over[2]? = some (.str fileI_Over tfI_Over))
    (pI_Over : ((l.prog.main.file : Str) == fileI_Over) = true)
    (eI_Over : K.lookup ccI_Over = some ⟨clI_Over, cldI_Over, .cell (some (.ref c_Over)), cslI_Over⟩)
    (tI_Over : PySem.W.typeIn K (.ref fI_Over) = some (.type "function"))
    (sI_Over : PySem.W.ks_superIn K c_Over c_Over "__init__" = some (some (.builtin "ValueError.__init__")))
    (vE_Over : PySem.W.subIn K (.ref c_Over) (.type "ValueError") = some true)
    (mI_Over : PySem.W.mroIn K c_Over (.ref c_Over) = some true)
    (oI_Over : K.lookup c_Over = some (excClassObj nmI_Over qnI_Over c_Over NI_Over bsI_Over bmI_Over true snI_Over subI_Over abI_Over colI_Over ddI_Over k0I_Over k1I_Over k2I_Over k3I_Over k5I_Over "ValueError.__new__"))
    (rI_Over : PySem.HandSPX.refsVE bmI_Over = true)
    (saI_Over : PySem.W.findIn K (.ref c_Over) "__setattr__" = some (some (.builtin "object.__setattr__")))
    (bcI_Over : PySem.W.subIn K (.ref c_Over) (.type "BaseException") = some true)
    (tcI_Over : PySem.W.typeIn K (.ref c_Over) = some (.type "type"))
    (kcI_Over : PySem.W.keepIn K (.ref c_Over) = true)
    (gaI_Over : PySem.W.findIn K (.ref c_Over) "__getattribute__" = some (some (.builtin "BaseException.__getattribute__")))
    (ggI_Over : PySem.W.findIn K (.ref c_Over) "__getattr__" = some none)
    (hdI_Over : PySem.W.hasDictIn K c_Over = true)
    (haI_Over : PySem.W.findIn K (.ref c_Over) "__class__" = some (some (.builtin "object.__class__")))
    (hnI_Over : PySem.W.specialIn K (.builtin "object.__class__") "__get__" = some (some (.builtin "getset_descriptor.__get__")))
    (htI_Over : PySem.W.takesIn K (.builtin "object.__class__") = some true)
    (hmI_Over : PySem.W.mroIn K c_Over (.type "object") = some true)
    (nI_Over_one : PySem.W.findIn K (.ref c_Over) "one" = some none)
    (nI_Over_other : PySem.W.findIn K (.ref c_Over) "other" = some none)
    (bcX_Over : PySem.W.subIn K (.ref c_Over) (.type "BaseException") = some true)
    (hdX_Over : PySem.W.hasDictIn K c_Over = true)
    (tcX_Over : PySem.W.typeIn K (.ref c_Over) = some (.type "type"))
    (sX_Over_Over : PySem.W.subIn K (.ref c_Over) (.ref c_Over) = some true)
    (sc_Over : PySem.W.subIn K (.ref c_Over) (.ref c_Over) = some true)
    (ic_NoShare : PySem.W.isClsIn K c_NoShare = true)
    (it_NoShare : PySem.W.typeIn K (.ref c_NoShare) = some (.type "type"))
    (is_Over_NoShare : PySem.W.subIn K (.ref c_Over) (.ref c_NoShare) = some false)
    (ic_NoWay : PySem.W.isClsIn K c_NoWay = true)
    (it_NoWay : PySem.W.typeIn K (.ref c_NoWay) = some (.type "type"))
    (is_Over_NoWay : PySem.W.subIn K (.ref c_Over) (.ref c_NoWay) = some false)
    (ic_BadShape : PySem.W.isClsIn K c_BadShape = true)
    (it_BadShape : PySem.W.typeIn K (.ref c_BadShape) = some (.type "type"))
    (is_Over_BadShape : PySem.W.subIn K (.ref c_Over) (.ref c_BadShape) = some false)
    (ic_BadRow : PySem.W.isClsIn K c_BadRow = true)
    (it_BadRow : PySem.W.typeIn K (.ref c_BadRow) = some (.type "type"))
    (is_Over_BadRow : PySem.W.subIn K (.ref c_Over) (.ref c_BadRow) = some false)
    (ic_Over : PySem.W.isClsIn K c_Over = true)
    (it_Over : PySem.W.typeIn K (.ref c_Over) = some (.type "type"))
    (is_Over_Over : PySem.W.subIn K (.ref c_Over) (.ref c_Over) = some true)
    (ic_Early : PySem.W.isClsIn K c_Early = true)
    (it_Early : PySem.W.typeIn K (.ref c_Early) = some (.type "type"))
    (is_Over_Early : PySem.W.subIn K (.ref c_Over) (.ref c_Early) = some false)
    (ic_Calm : PySem.W.isClsIn K c_Calm = true)
    (it_Calm : PySem.W.typeIn K (.ref c_Calm) = some (.type "type"))
    (is_Over_Calm : PySem.W.subIn K (.ref c_Over) (.ref c_Calm) = some false)
    (ic_NoBody : PySem.W.isClsIn K c_NoBody = true)
    (it_NoBody : PySem.W.typeIn K (.ref c_NoBody) = some (.type "type"))
    (is_Over_NoBody : PySem.W.subIn K (.ref c_Over) (.ref c_NoBody) = some false)
    (ic_Twice : PySem.W.isClsIn K c_Twice = true)
    (it_Twice : PySem.W.typeIn K (.ref c_Twice) = some (.type "type"))
    (is_Over_Twice : PySem.W.subIn K (.ref c_Over) (.ref c_Twice) = some false)
    (ic_Full : PySem.W.isClsIn K c_Full = true)
    (it_Full : PySem.W.typeIn K (.ref c_Full) = some (.type "type"))
    (is_Over_Full : PySem.W.subIn K (.ref c_Over) (.ref c_Full) = some false)
    (ic_Long : PySem.W.isClsIn K c_Long = true)
    (it_Long : PySem.W.typeIn K (.ref c_Long) = some (.type "type"))
    (is_Over_Long : PySem.W.subIn K (.ref c_Over) (.ref c_Long) = some false)
    (ic_BadPush : PySem.W.isClsIn K c_BadPush = true)
    (it_BadPush : PySem.W.typeIn K (.ref c_BadPush) = some (.type "type"))
    (is_Over_BadPush : PySem.W.subIn K (.ref c_Over) (.ref c_BadPush) = some false)
    (ic_BadSpan : PySem.W.isClsIn K c_BadSpan = true)
    (it_BadSpan : PySem.W.typeIn K (.ref c_BadSpan) = some (.type "type"))
    (is_Over_BadSpan : PySem.W.subIn K (.ref c_Over) (.ref c_BadSpan) = some false)
    (ic_BadCount : PySem.W.isClsIn K c_BadCount = true)
    (it_BadCount : PySem.W.typeIn K (.ref c_BadCount) = some (.type "type"))
    (is_Over_BadCount : PySem.W.subIn K (.ref c_Over) (.ref c_BadCount) = some false)
    (ic_BadState : PySem.W.isClsIn K c_BadState = true)
    (it_BadState : PySem.W.typeIn K (.ref c_BadState) = some (.type "type"))
    (is_Over_BadState : PySem.W.subIn K (.ref c_Over) (.ref c_BadState) = some false)
    (ic_Crowded : PySem.W.isClsIn K c_Crowded = true)
    (it_Crowded : PySem.W.typeIn K (.ref c_Crowded) = some (.type "type"))
    (is_Over_Crowded : PySem.W.subIn K (.ref c_Over) (.ref c_Crowded) = some false)
    (ic_TooFine : PySem.W.isClsIn K c_TooFine = true)
    (it_TooFine : PySem.W.typeIn K (.ref c_TooFine) = some (.type "type"))
    (is_Over_TooFine : PySem.W.subIn K (.ref c_Over) (.ref c_TooFine) = some false)
    (ic_Nothing : PySem.W.isClsIn K c_Nothing = true)
    (it_Nothing : PySem.W.typeIn K (.ref c_Nothing) = some (.type "type"))
    (is_Over_Nothing : PySem.W.subIn K (.ref c_Over) (.ref c_Nothing) = some false)
    (ic_Wrong : PySem.W.isClsIn K c_Wrong = true)
    (it_Wrong : PySem.W.typeIn K (.ref c_Wrong) = some (.type "type"))
    (is_Over_Wrong : PySem.W.subIn K (.ref c_Over) (.ref c_Wrong) = some false)
    (ic_BadText : PySem.W.isClsIn K c_BadText = true)
    (it_BadText : PySem.W.typeIn K (.ref c_BadText) = some (.type "type"))
    (is_Over_BadText : PySem.W.subIn K (.ref c_Over) (.ref c_BadText) = some false)
    (ic_BadLine : PySem.W.isClsIn K c_BadLine = true)
    (it_BadLine : PySem.W.typeIn K (.ref c_BadLine) = some (.type "type"))
    (is_Over_BadLine : PySem.W.subIn K (.ref c_Over) (.ref c_BadLine) = some false)
    (ic_BodyError : PySem.W.isClsIn K c_BodyError = true)
    (it_BodyError : PySem.W.typeIn K (.ref c_BodyError) = some (.type "type"))
    (is_Over_BodyError : PySem.W.subIn K (.ref c_Over) (.ref c_BodyError) = some true)
    (is_Over_ValueError : PySem.W.subIn K (.ref c_Over) (.type "ValueError") = some true)
    (an_LEADING : PySem.W.nsIn K mainGlobals "LEADING" = some (some (.int 120 k_LEADING)))
    (an_LENGTHY : PySem.W.nsIn K mainGlobals "LENGTHY" = some (some (.int 4000 k_LENGTHY)))
    : ∃ fd : FuncData, (∀ (s : Shared) (v : Value), BindsTo s fd ⟨[v], []⟩ [("_law_script", v)]) ∧ ∀ base : Heap, K.In base → base.Ns mainGlobals mg → FnOk l.prog w K mg base CX0 12 fa fd ["_law_script"] (sp_law K) := by
  have e := hfa.symm.trans (PySem.W.mg_of X G a69)
  cases e
  let A0 : Ad := { f_p_divided := f0, fd_p_divided := PySem.W.fnOf "divided" "divided" (defArgs s_p_divided) (defBody s_p_divided) (defScope s_p_divided) .none kV0 dc0 pm0 an0 cd0 ct0, f_p_shortened := f1, fd_p_shortened := PySem.W.fnOf "shortened" "shortened" (defArgs s_p_shortened) (defBody s_p_shortened) (defScope s_p_shortened) .none kV1 dc1 pm1 an1 cd1 ct1, f_p_common_divisor := f2, fd_p_common_divisor := PySem.W.fnOf "common_divisor" "common_divisor" (defArgs s_p_common_divisor) (defBody s_p_common_divisor) (defScope s_p_common_divisor) .none kV2 dc2 pm2 an2 cd2 ct2, f_p_plus := f3, fd_p_plus := PySem.W.fnOf "plus" "plus" (defArgs s_p_plus) (defBody s_p_plus) (defScope s_p_plus) .none kV3 dc3 pm3 an3 cd3 ct3, f_p_minus := f4, fd_p_minus := PySem.W.fnOf "minus" "minus" (defArgs s_p_minus) (defBody s_p_minus) (defScope s_p_minus) .none kV4 dc4 pm4 an4 cd4 ct4, f_p_on_one_bottom := f5, fd_p_on_one_bottom := PySem.W.fnOf "on_one_bottom" "on_one_bottom" (defArgs s_p_on_one_bottom) (defBody s_p_on_one_bottom) (defScope s_p_on_one_bottom) .none kV5 dc5 pm5 an5 cd5 ct5, f_p_way_of := f6, fd_p_way_of := PySem.W.fnOf "way_of" "way_of" (defArgs s_p_way_of) (defBody s_p_way_of) (defScope s_p_way_of) .none kV6 dc6 pm6 an6 cd6 ct6, f_p_spot_minus := f7, fd_p_spot_minus := PySem.W.fnOf "spot_minus" "spot_minus" (defArgs s_p_spot_minus) (defBody s_p_spot_minus) (defScope s_p_spot_minus) .none kV7 dc7 pm7 an7 cd7 ct7, f_p_side_ends := f8, fd_p_side_ends := PySem.W.fnOf "side_ends" "side_ends" (defArgs s_p_side_ends) (defBody s_p_side_ends) (defScope s_p_side_ends) .none kV8 dc8 pm8 an8 cd8 ct8, f_p_outwards := f9, fd_p_outwards := PySem.W.fnOf "outwards" "outwards" (defArgs s_p_outwards) (defBody s_p_outwards) (defScope s_p_outwards) .none kV9 dc9 pm9 an9 cd9 ct9, f_p_sides := f10, fd_p_sides := PySem.W.fnOf "sides" "sides" (defArgs s_p_sides) (defBody s_p_sides) (defScope s_p_sides) .none kV10 dc10 pm10 an10 cd10 ct10, f_p_reach := f11, fd_p_reach := PySem.W.fnOf "reach" "reach" (defArgs s_p_reach) (defBody s_p_reach) (defScope s_p_reach) .none kV11 dc11 pm11 an11 cd11 ct11, f_p_turned := f12, fd_p_turned := PySem.W.fnOf "turned" "turned" (defArgs s_p_turned) (defBody s_p_turned) (defScope s_p_turned) .none kV12 dc12 pm12 an12 cd12 ct12, f_p_pair_ways := f13, fd_p_pair_ways := PySem.W.fnOf "pair_ways" "pair_ways" (defArgs s_p_pair_ways) (defBody s_p_pair_ways) (defScope s_p_pair_ways) .none kV13 dc13 pm13 an13 cd13 ct13, f_p_width := f14, fd_p_width := PySem.W.fnOf "width" "width" (defArgs s_p_width) (defBody s_p_width) (defScope s_p_width) .none kV14 dc14 pm14 an14 cd14 ct14, f_p_place_apart := f15, fd_p_place_apart := PySem.W.fnOf "place_apart" "place_apart" (defArgs s_p_place_apart) (defBody s_p_place_apart) (defScope s_p_place_apart) .none kV15 dc15 pm15 an15 cd15 ct15, f_p_speed_apart := f16, fd_p_speed_apart := PySem.W.fnOf "speed_apart" "speed_apart" (defArgs s_p_speed_apart) (defBody s_p_speed_apart) (defScope s_p_speed_apart) .none kV16 dc16 pm16 an16 cd16 ct16, f_p_courses := f17, fd_p_courses := PySem.W.fnOf "courses" "courses" (defArgs s_p_courses) (defBody s_p_courses) (defScope s_p_courses) .none kV17 dc17 pm17 an17 cd17 ct17, f_p_pairs := f18, fd_p_pairs := PySem.W.fnOf "pairs" "pairs" (defArgs s_p_pairs) (defBody s_p_pairs) (defScope s_p_pairs) .none kV18 dc18 pm18 an18 cd18 ct18, f_p_sum_way := f19, fd_p_sum_way := PySem.W.fnOf "sum_way" "sum_way" (defArgs s_p_sum_way) (defBody s_p_sum_way) (defScope s_p_sum_way) .none kV19 dc19 pm19 an19 cd19 ct19, f_p_touching_way := f20, fd_p_touching_way := PySem.W.fnOf "touching_way" "touching_way" (defArgs s_p_touching_way) (defBody s_p_touching_way) (defScope s_p_touching_way) .none kV20 dc20 pm20 an20 cd20 ct20, f_p_pair_contacts := f21, fd_p_pair_contacts := PySem.W.fnOf "pair_contacts" "pair_contacts" (defArgs s_p_pair_contacts) (defBody s_p_pair_contacts) (defScope s_p_pair_contacts) .none kV21 dc21 pm21 an21 cd21 ct21, f_p_contacts := f22, fd_p_contacts := PySem.W.fnOf "contacts" "contacts" (defArgs s_p_contacts) (defBody s_p_contacts) (defScope s_p_contacts) .none kV22 dc22 pm22 an22 cd22 ct22, f_l_cell_at := f23, fd_l_cell_at := PySem.W.fnOf "_law_cell_at" "_law_cell_at" (defArgs s_l_cell_at) (defBody s_l_cell_at) (defScope s_l_cell_at) .none kV23 dc23 pm23 an23 cd23 ct23, f_l_mixed := f24, fd_l_mixed := PySem.W.fnOf "_law_mixed" "_law_mixed" (defArgs s_l_mixed) (defBody s_l_mixed) (defScope s_l_mixed) .none kV24 dc24 pm24 an24 cd24 ct24, f_l_new_deck := f25, fd_l_new_deck := PySem.W.fnOf "_law_new_deck" "_law_new_deck" (defArgs s_l_new_deck) (defBody s_l_new_deck) (defScope s_l_new_deck) .none kV25 dc25 pm25 an25 cd25 ct25, f_l_take := f26, fd_l_take := PySem.W.fnOf "_law_take" "_law_take" (defArgs s_l_take) (defBody s_l_take) (defScope s_l_take) .none kV26 dc26 pm26 an26 cd26 ct26, f_l_gcd := f27, fd_l_gcd := PySem.W.fnOf "_law_gcd" "_law_gcd" (defArgs s_l_gcd) (defBody s_l_gcd) (defScope s_l_gcd) .none kV27 dc27 pm27 an27 cd27 ct27, f_l_lowest := f28, fd_l_lowest := PySem.W.fnOf "_law_lowest" "_law_lowest" (defArgs s_l_lowest) (defBody s_l_lowest) (defScope s_l_lowest) .none kV28 dc28 pm28 an28 cd28 ct28, f_l_plus := f29, fd_l_plus := PySem.W.fnOf "_law_plus" "_law_plus" (defArgs s_l_plus) (defBody s_l_plus) (defScope s_l_plus) .none kV29 dc29 pm29 an29 cd29 ct29, f_l_times := f30, fd_l_times := PySem.W.fnOf "_law_times" "_law_times" (defArgs s_l_times) (defBody s_l_times) (defScope s_l_times) .none kV30 dc30 pm30 an30 cd30 ct30, f_l_spot_plus := f31, fd_l_spot_plus := PySem.W.fnOf "_law_spot_plus" "_law_spot_plus" (defArgs s_l_spot_plus) (defBody s_l_spot_plus) (defScope s_l_spot_plus) .none kV31 dc31 pm31 an31 cd31 ct31, f_l_spot_times := f32, fd_l_spot_times := PySem.W.fnOf "_law_spot_times" "_law_spot_times" (defArgs s_l_spot_times) (defBody s_l_spot_times) (defScope s_l_spot_times) .none kV32 dc32 pm32 an32 cd32 ct32, f_l_spot_less := f33, fd_l_spot_less := PySem.W.fnOf "_law_spot_less" "_law_spot_less" (defArgs s_l_spot_less) (defBody s_l_spot_less) (defScope s_l_spot_less) .none kV33 dc33 pm33 an33 cd33 ct33, f_l_dot := f34, fd_l_dot := PySem.W.fnOf "_law_dot" "_law_dot" (defArgs s_l_dot) (defBody s_l_dot) (defScope s_l_dot) .none kV34 dc34 pm34 an34 cd34 ct34, f_l_spot_of := f35, fd_l_spot_of := PySem.W.fnOf "_law_spot_of" "_law_spot_of" (defArgs s_l_spot_of) (defBody s_l_spot_of) (defScope s_l_spot_of) .none kV35 dc35 pm35 an35 cd35 ct35, f_l_half := f36, fd_l_half := PySem.W.fnOf "_law_half" "_law_half" (defArgs s_l_half) (defBody s_l_half) (defScope s_l_half) .none kV36 dc36 pm36 an36 cd36 ct36, f_l_left := f37, fd_l_left := PySem.W.fnOf "_law_left" "_law_left" (defArgs s_l_left) (defBody s_l_left) (defScope s_l_left) .none kV37 dc37 pm37 an37 cd37 ct37, f_l_signed := f38, fd_l_signed := PySem.W.fnOf "_law_signed" "_law_signed" (defArgs s_l_signed) (defBody s_l_signed) (defScope s_l_signed) .none kV38 dc38 pm38 an38 cd38 ct38, f_l_drawn_shape := f39, fd_l_drawn_shape := PySem.W.fnOf "_law_drawn_shape" "_law_drawn_shape" (defArgs s_l_drawn_shape) (defBody s_l_drawn_shape) (defScope s_l_drawn_shape) .none kV39 dc39 pm39 an39 cd39 ct39, f_l_drawn_size := f40, fd_l_drawn_size := PySem.W.fnOf "_law_drawn_size" "_law_drawn_size" (defArgs s_l_drawn_size) (defBody s_l_drawn_size) (defScope s_l_drawn_size) .none kV40 dc40 pm40 an40 cd40 ct40, f_l_above := f41, fd_l_above := PySem.W.fnOf "_law_above" "_law_above" (defArgs s_l_above) (defBody s_l_above) (defScope s_l_above) .none kV41 dc41 pm41 an41 cd41 ct41, f_l_side_ways := f42, fd_l_side_ways := PySem.W.fnOf "_law_side_ways" "_law_side_ways" (defArgs s_l_side_ways) (defBody s_l_side_ways) (defScope s_l_side_ways) .none kV42 dc42 pm42 an42 cd42 ct42, f_l_pair_ways := f43, fd_l_pair_ways := PySem.W.fnOf "_law_pair_ways" "_law_pair_ways" (defArgs s_l_pair_ways) (defBody s_l_pair_ways) (defScope s_l_pair_ways) .none kV43 dc43 pm43 an43 cd43 ct43, f_l_far := f44, fd_l_far := PySem.W.fnOf "_law_far" "_law_far" (defArgs s_l_far) (defBody s_l_far) (defScope s_l_far) .none kV44 dc44 pm44 an44 cd44 ct44, f_l_speed := f45, fd_l_speed := PySem.W.fnOf "_law_speed" "_law_speed" (defArgs s_l_speed) (defBody s_l_speed) (defScope s_l_speed) .none kV45 dc45 pm45 an45 cd45 ct45, f_l_between := f46, fd_l_between := PySem.W.fnOf "_law_between" "_law_between" (defArgs s_l_between) (defBody s_l_between) (defScope s_l_between) .none kV46 dc46 pm46 an46 cd46 ct46, f_l_room_by := f47, fd_l_room_by := PySem.W.fnOf "_law_room_by" "_law_room_by" (defArgs s_l_room_by) (defBody s_l_room_by) (defScope s_l_room_by) .none kV47 dc47 pm47 an47 cd47 ct47, f_l_rooms := f48, fd_l_rooms := PySem.W.fnOf "_law_rooms" "_law_rooms" (defArgs s_l_rooms) (defBody s_l_rooms) (defScope s_l_rooms) .none kV48 dc48 pm48 an48 cd48 ct48, f_l_over := f49, fd_l_over := PySem.W.fnOf "_law_over" "_law_over" (defArgs s_l_over) (defBody s_l_over) (defScope s_l_over) .none kV49 dc49 pm49 an49 cd49 ct49, f_l_drawn_name := f50, fd_l_drawn_name := PySem.W.fnOf "_law_drawn_name" "_law_drawn_name" (defArgs s_l_drawn_name) (defBody s_l_drawn_name) (defScope s_l_drawn_name) .none kV50 dc50 pm50 an50 cd50 ct50, f_l_drawn_way := f51, fd_l_drawn_way := PySem.W.fnOf "_law_drawn_way" "_law_drawn_way" (defArgs s_l_drawn_way) (defBody s_l_drawn_way) (defScope s_l_drawn_way) .none kV51 dc51 pm51 an51 cd51 ct51, f_l_drawn_row := f52, fd_l_drawn_row := PySem.W.fnOf "_law_drawn_row" "_law_drawn_row" (defArgs s_l_drawn_row) (defBody s_l_drawn_row) (defScope s_l_drawn_row) .none kV52 dc52 pm52 an52 cd52 ct52, f_l_beside := f53, fd_l_beside := PySem.W.fnOf "_law_beside" "_law_beside" (defArgs s_l_beside) (defBody s_l_beside) (defScope s_l_beside) .none kV53 dc53 pm53 an53 cd53 ct53, f_l_scene := f54, fd_l_scene := PySem.W.fnOf "_law_scene" "_law_scene" (defArgs s_l_scene) (defBody s_l_scene) (defScope s_l_scene) .none kV54 dc54 pm54 an54 cd54 ct54, f_l_pairs := f55, fd_l_pairs := PySem.W.fnOf "_law_pairs" "_law_pairs" (defArgs s_l_pairs) (defBody s_l_pairs) (defScope s_l_pairs) .none kV55 dc55 pm55 an55 cd55 ct55, f_l_whole := f56, fd_l_whole := PySem.W.fnOf "_law_whole" "_law_whole" (defArgs s_l_whole) (defBody s_l_whole) (defScope s_l_whole) .none kV56 dc56 pm56 an56 cd56 ct56, f_l_two := f57, fd_l_two := PySem.W.fnOf "_law_two" "_law_two" (defArgs s_l_two) (defBody s_l_two) (defScope s_l_two) .none kV57 dc57 pm57 an57 cd57 ct57, f_l_contact := f58, fd_l_contact := PySem.W.fnOf "_law_contact" "_law_contact" (defArgs s_l_contact) (defBody s_l_contact) (defScope s_l_contact) .none kV58 dc58 pm58 an58 cd58 ct58, f_l_touches := f59, fd_l_touches := PySem.W.fnOf "_law_touches" "_law_touches" (defArgs s_l_touches) (defBody s_l_touches) (defScope s_l_touches) .none kV59 dc59 pm59 an59 cd59 ct59, f_l_are_over := f60, fd_l_are_over := PySem.W.fnOf "_law_are_over" "_law_are_over" (defArgs s_l_are_over) (defBody s_l_are_over) (defScope s_l_are_over) .none kV60 dc60 pm60 an60 cd60 ct60, f_l_same_touches := f61, fd_l_same_touches := PySem.W.fnOf "_law_same_touches" "_law_same_touches" (defArgs s_l_same_touches) (defBody s_l_same_touches) (defScope s_l_same_touches) .none kV61 dc61 pm61 an61 cd61 ct61, f_l_kinds := f62, fd_l_kinds := PySem.W.fnOf "_law_kinds" "_law_kinds" (defArgs s_l_kinds) (defBody s_l_kinds) (defScope s_l_kinds) .none kV62 dc62 pm62 an62 cd62 ct62, f_l_alone := f63, fd_l_alone := PySem.W.fnOf "_law_alone" "_law_alone" (defArgs s_l_alone) (defBody s_l_alone) (defScope s_l_alone) .none kV63 dc63 pm63 an63 cd63 ct63, f_l_put := f64, fd_l_put := PySem.W.fnOf "_law_put" "_law_put" (defArgs s_l_put) (defBody s_l_put) (defScope s_l_put) .none kV64 dc64 pm64 an64 cd64 ct64, f_l_turned := f65, fd_l_turned := PySem.W.fnOf "_law_turned" "_law_turned" (defArgs s_l_turned) (defBody s_l_turned) (defScope s_l_turned) .none kV65 dc65 pm65 an65 cd65 ct65, f_l_anew := f66, fd_l_anew := PySem.W.fnOf "_law_anew" "_law_anew" (defArgs s_l_anew) (defBody s_l_anew) (defScope s_l_anew) .none kV66 dc66 pm66 an66 cd66 ct66, f_l_laid_over := f67, fd_l_laid_over := PySem.W.fnOf "_law_laid_over" "_law_laid_over" (defArgs s_l_laid_over) (defBody s_l_laid_over) (defScope s_l_laid_over) .none kV67 dc67 pm67 an67 cd67 ct67, f_l_right := f68, fd_l_right := PySem.W.fnOf "_law_right" "_law_right" (defArgs s_l_right) (defBody s_l_right) (defScope s_l_right) .none kV68 dc68 pm68 an68 cd68 ct68, f_law := fa, fd_law := PySem.W.fnOf "law" "law" (defArgs s_law) (defBody s_law) (defScope s_law) .none kV69 dc69 pm69 an69 cd69 ct69, c_BodyError := c_BodyError, c_NoShare := c_NoShare, c_NoWay := c_NoWay, c_BadShape := c_BadShape, c_BadRow := c_BadRow, c_Over := c_Over, c_Early := c_Early, c_Calm := c_Calm, c_NoBody := c_NoBody, c_Twice := c_Twice, c_Full := c_Full, c_Long := c_Long, c_BadPush := c_BadPush, c_BadSpan := c_BadSpan, c_BadCount := c_BadCount, c_BadState := c_BadState, c_Crowded := c_Crowded, c_TooFine := c_TooFine, c_Nothing := c_Nothing, c_Wrong := c_Wrong, c_BadText := c_BadText, c_BadLine := c_BadLine, f_m_Over___init__ := fI_Over, fd_m_Over___init__ := (PySem.W.ksFn "__init__" "Over.__init__" (defArgs s_m_Over___init__) (defBody s_m_Over___init__) (defScope s_m_Over___init__) .none kVI_Over dcI_Over pmI_Over anI_Over (.ref cdaI_Over) ctI_Over ccI_Over), k_LEADING := k_LEADING, k_LENGTHY := k_LENGTHY }
  have T : Tx K mg A0 := { F_p_divided := fun_mk (st := s_p_divided) l0 c0 k0, b_p_divided := (fun_mk (st := s_p_divided) l0 c0 k0).binds (ps := ["one", "other"]) fun _ _ _ _ _ _ us hl => match us, hl with | [_, _], _ => rfl, g_p_divided := PySem.W.mg_of X G a0, F_p_shortened := fun_mk (st := s_p_shortened) l1 c1 k1, b_p_shortened := (fun_mk (st := s_p_shortened) l1 c1 k1).binds (ps := ["one", "other"]) fun _ _ _ _ _ _ us hl => match us, hl with | [_, _], _ => rfl, g_p_shortened := PySem.W.mg_of X G a1, F_p_common_divisor := fun_mk (st := s_p_common_divisor) l2 c2 k2, b_p_common_divisor := (fun_mk (st := s_p_common_divisor) l2 c2 k2).binds (ps := ["one", "other"]) fun _ _ _ _ _ _ us hl => match us, hl with | [_, _], _ => rfl, g_p_common_divisor := PySem.W.mg_of X G a2, F_p_plus := fun_mk (st := s_p_plus) l3 c3 k3, b_p_plus := (fun_mk (st := s_p_plus) l3 c3 k3).binds (ps := ["one", "other"]) fun _ _ _ _ _ _ us hl => match us, hl with | [_, _], _ => rfl, g_p_plus := PySem.W.mg_of X G a3, F_p_minus := fun_mk (st := s_p_minus) l4 c4 k4, b_p_minus := (fun_mk (st := s_p_minus) l4 c4 k4).binds (ps := ["one", "other"]) fun _ _ _ _ _ _ us hl => match us, hl with | [_, _], _ => rfl, g_p_minus := PySem.W.mg_of X G a4, F_p_on_one_bottom := fun_mk (st := s_p_on_one_bottom) l5 c5 k5, b_p_on_one_bottom := (fun_mk (st := s_p_on_one_bottom) l5 c5 k5).binds (ps := ["shares"]) fun _ _ _ _ _ _ us hl => match us, hl with | [_], _ => rfl, g_p_on_one_bottom := PySem.W.mg_of X G a5, F_p_way_of := fun_mk (st := s_p_way_of) l6 c6 k6, b_p_way_of := (fun_mk (st := s_p_way_of) l6 c6 k6).binds (ps := ["p", "q"]) fun _ _ _ _ _ _ us hl => match us, hl with | [_, _], _ => rfl, g_p_way_of := PySem.W.mg_of X G a6, F_p_spot_minus := fun_mk (st := s_p_spot_minus) l7 c7 k7, b_p_spot_minus := (fun_mk (st := s_p_spot_minus) l7 c7 k7).binds (ps := ["one", "other"]) fun _ _ _ _ _ _ us hl => match us, hl with | [_, _], _ => rfl, g_p_spot_minus := PySem.W.mg_of X G a7, F_p_side_ends := fun_mk (st := s_p_side_ends) l8 c8 k8, b_p_side_ends := (fun_mk (st := s_p_side_ends) l8 c8 k8).binds (ps := ["corners"]) fun _ _ _ _ _ _ us hl => match us, hl with | [_], _ => rfl, g_p_side_ends := PySem.W.mg_of X G a8, F_p_outwards := fun_mk (st := s_p_outwards) l9 c9 k9, b_p_outwards := (fun_mk (st := s_p_outwards) l9 c9 k9).binds (ps := ["start", "end"]) fun _ _ _ _ _ _ us hl => match us, hl with | [_, _], _ => rfl, g_p_outwards := PySem.W.mg_of X G a9, F_p_sides := fun_mk (st := s_p_sides) l10 c10 k10, b_p_sides := (fun_mk (st := s_p_sides) l10 c10 k10).binds (ps := ["shape"]) fun _ _ _ _ _ _ us hl => match us, hl with | [_], _ => rfl, g_p_sides := PySem.W.mg_of X G a10, F_p_reach := fun_mk (st := s_p_reach) l11 c11 k11, b_p_reach := (fun_mk (st := s_p_reach) l11 c11 k11).binds (ps := ["shape", "way"]) fun _ _ _ _ _ _ us hl => match us, hl with | [_, _], _ => rfl, g_p_reach := PySem.W.mg_of X G a11, F_p_turned := fun_mk (st := s_p_turned) l12 c12 k12, b_p_turned := (fun_mk (st := s_p_turned) l12 c12 k12).binds (ps := ["way"]) fun _ _ _ _ _ _ us hl => match us, hl with | [_], _ => rfl, g_p_turned := PySem.W.mg_of X G a12, F_p_pair_ways := fun_mk (st := s_p_pair_ways) l13 c13 k13, b_p_pair_ways := (fun_mk (st := s_p_pair_ways) l13 c13 k13).binds (ps := ["one", "other"]) fun _ _ _ _ _ _ us hl => match us, hl with | [_, _], _ => rfl, g_p_pair_ways := PySem.W.mg_of X G a13, F_p_width := fun_mk (st := s_p_width) l14 c14 k14, b_p_width := (fun_mk (st := s_p_width) l14 c14 k14).binds (ps := ["one", "other", "way"]) fun _ _ _ _ _ _ us hl => match us, hl with | [_, _, _], _ => rfl, g_p_width := PySem.W.mg_of X G a14, F_p_place_apart := fun_mk (st := s_p_place_apart) l15 c15 k15, b_p_place_apart := (fun_mk (st := s_p_place_apart) l15 c15 k15).binds (ps := ["one", "other"]) fun _ _ _ _ _ _ us hl => match us, hl with | [_, _], _ => rfl, g_p_place_apart := PySem.W.mg_of X G a15, F_p_speed_apart := fun_mk (st := s_p_speed_apart) l16 c16 k16, b_p_speed_apart := (fun_mk (st := s_p_speed_apart) l16 c16 k16).binds (ps := ["one", "other"]) fun _ _ _ _ _ _ us hl => match us, hl with | [_, _], _ => rfl, g_p_speed_apart := PySem.W.mg_of X G a16, F_p_courses := fun_mk (st := s_p_courses) l17 c17 k17, b_p_courses := (fun_mk (st := s_p_courses) l17 c17 k17).binds (ps := ["one", "other"]) fun _ _ _ _ _ _ us hl => match us, hl with | [_, _], _ => rfl, g_p_courses := PySem.W.mg_of X G a17, F_p_pairs := fun_mk (st := s_p_pairs) l18 c18 k18, b_p_pairs := (fun_mk (st := s_p_pairs) l18 c18 k18).binds (ps := ["rows"]) fun _ _ _ _ _ _ us hl => match us, hl with | [_], _ => rfl, g_p_pairs := PySem.W.mg_of X G a18, F_p_sum_way := fun_mk (st := s_p_sum_way) l19 c19 k19, b_p_sum_way := (fun_mk (st := s_p_sum_way) l19 c19 k19).binds (ps := ["one", "other"]) fun _ _ _ _ _ _ us hl => match us, hl with | [_, _], _ => rfl, g_p_sum_way := PySem.W.mg_of X G a19, F_p_touching_way := fun_mk (st := s_p_touching_way) l20 c20 k20, b_p_touching_way := (fun_mk (st := s_p_touching_way) l20 c20 k20).binds (ps := ["touching"]) fun _ _ _ _ _ _ us hl => match us, hl with | [_], _ => rfl, g_p_touching_way := PySem.W.mg_of X G a20, F_p_pair_contacts := fun_mk (st := s_p_pair_contacts) l21 c21 k21, b_p_pair_contacts := (fun_mk (st := s_p_pair_contacts) l21 c21 k21).binds (ps := ["one", "other"]) fun _ _ _ _ _ _ us hl => match us, hl with | [_, _], _ => rfl, g_p_pair_contacts := PySem.W.mg_of X G a21, F_p_contacts := fun_mk (st := s_p_contacts) l22 c22 k22, b_p_contacts := (fun_mk (st := s_p_contacts) l22 c22 k22).binds (ps := ["rows"]) fun _ _ _ _ _ _ us hl => match us, hl with | [_], _ => rfl, g_p_contacts := PySem.W.mg_of X G a22, F_l_cell_at := fun_mk (st := s_l_cell_at) l23 c23 k23, b_l_cell_at := (fun_mk (st := s_l_cell_at) l23 c23 k23).binds (ps := ["_law_script", "_law_k"]) fun _ _ _ _ _ _ us hl => match us, hl with | [_, _], _ => rfl, g_l_cell_at := PySem.W.mg_of X G a23, F_l_mixed := fun_mk (st := s_l_mixed) l24 c24 k24, b_l_mixed := (fun_mk (st := s_l_mixed) l24 c24 k24).binds (ps := ["_law_script", "_law_k", "_law_many"]) fun _ _ _ _ _ _ us hl => match us, hl with | [_, _, _], _ => rfl, g_l_mixed := PySem.W.mg_of X G a24, F_l_new_deck := fun_mk (st := s_l_new_deck) l25 c25 k25, b_l_new_deck := (fun_mk (st := s_l_new_deck) l25 c25 k25).binds (ps := ["_law_script"]) fun _ _ _ _ _ _ us hl => match us, hl with | [_], _ => rfl, g_l_new_deck := PySem.W.mg_of X G a25, F_l_take := fun_mk (st := s_l_take) l26 c26 k26, b_l_take := (fun_mk (st := s_l_take) l26 c26 k26).binds (ps := ["_law_deck", "_law_many"]) fun _ _ _ _ _ _ us hl => match us, hl with | [_, _], _ => rfl, g_l_take := PySem.W.mg_of X G a26, F_l_gcd := fun_mk (st := s_l_gcd) l27 c27 k27, b_l_gcd := (fun_mk (st := s_l_gcd) l27 c27 k27).binds (ps := ["_law_one", "_law_other"]) fun _ _ _ _ _ _ us hl => match us, hl with | [_, _], _ => rfl, g_l_gcd := PySem.W.mg_of X G a27, F_l_lowest := fun_mk (st := s_l_lowest) l28 c28 k28, b_l_lowest := (fun_mk (st := s_l_lowest) l28 c28 k28).binds (ps := ["_law_top", "_law_bottom"]) fun _ _ _ _ _ _ us hl => match us, hl with | [_, _], _ => rfl, g_l_lowest := PySem.W.mg_of X G a28, F_l_plus := fun_mk (st := s_l_plus) l29 c29 k29, b_l_plus := (fun_mk (st := s_l_plus) l29 c29 k29).binds (ps := ["_law_one", "_law_other"]) fun _ _ _ _ _ _ us hl => match us, hl with | [_, _], _ => rfl, g_l_plus := PySem.W.mg_of X G a29, F_l_times := fun_mk (st := s_l_times) l30 c30 k30, b_l_times := (fun_mk (st := s_l_times) l30 c30 k30).binds (ps := ["_law_one", "_law_other"]) fun _ _ _ _ _ _ us hl => match us, hl with | [_, _], _ => rfl, g_l_times := PySem.W.mg_of X G a30, F_l_spot_plus := fun_mk (st := s_l_spot_plus) l31 c31 k31, b_l_spot_plus := (fun_mk (st := s_l_spot_plus) l31 c31 k31).binds (ps := ["_law_one", "_law_other"]) fun _ _ _ _ _ _ us hl => match us, hl with | [_, _], _ => rfl, g_l_spot_plus := PySem.W.mg_of X G a31, F_l_spot_times := fun_mk (st := s_l_spot_times) l32 c32 k32, b_l_spot_times := (fun_mk (st := s_l_spot_times) l32 c32 k32).binds (ps := ["_law_spot", "_law_size"]) fun _ _ _ _ _ _ us hl => match us, hl with | [_, _], _ => rfl, g_l_spot_times := PySem.W.mg_of X G a32, F_l_spot_less := fun_mk (st := s_l_spot_less) l33 c33 k33, b_l_spot_less := (fun_mk (st := s_l_spot_less) l33 c33 k33).binds (ps := ["_law_one", "_law_other"]) fun _ _ _ _ _ _ us hl => match us, hl with | [_, _], _ => rfl, g_l_spot_less := PySem.W.mg_of X G a33, F_l_dot := fun_mk (st := s_l_dot) l34 c34 k34, b_l_dot := (fun_mk (st := s_l_dot) l34 c34 k34).binds (ps := ["_law_way", "_law_spot"]) fun _ _ _ _ _ _ us hl => match us, hl with | [_, _], _ => rfl, g_l_dot := PySem.W.mg_of X G a34, F_l_spot_of := fun_mk (st := s_l_spot_of) l35 c35 k35, b_l_spot_of := (fun_mk (st := s_l_spot_of) l35 c35 k35).binds (ps := ["_law_way"]) fun _ _ _ _ _ _ us hl => match us, hl with | [_], _ => rfl, g_l_spot_of := PySem.W.mg_of X G a35, F_l_half := fun_mk (st := s_l_half) l36 c36 k36, b_l_half := (fun_mk (st := s_l_half) l36 c36 k36).binds (ps := ["_law_points"]) fun _ _ _ _ _ _ us hl => match us, hl with | [_], _ => rfl, g_l_half := PySem.W.mg_of X G a36, F_l_left := fun_mk (st := s_l_left) l37 c37 k37, b_l_left := (fun_mk (st := s_l_left) l37 c37 k37).binds (ps := ["_law_a", "_law_b", "_law_c"]) fun _ _ _ _ _ _ us hl => match us, hl with | [_, _, _], _ => rfl, g_l_left := PySem.W.mg_of X G a37, F_l_signed := fun_mk (st := s_l_signed) l38 c38 k38, b_l_signed := (fun_mk (st := s_l_signed) l38 c38 k38).binds (ps := ["_law_deck", "_law_span"]) fun _ _ _ _ _ _ us hl => match us, hl with | [_, _], _ => rfl, g_l_signed := PySem.W.mg_of X G a38, F_l_drawn_shape := fun_mk (st := s_l_drawn_shape) l39 c39 k39, b_l_drawn_shape := (fun_mk (st := s_l_drawn_shape) l39 c39 k39).binds (ps := ["_law_deck", "_law_span"]) fun _ _ _ _ _ _ us hl => match us, hl with | [_, _], _ => rfl, g_l_drawn_shape := PySem.W.mg_of X G a39, F_l_drawn_size := fun_mk (st := s_l_drawn_size) l40 c40 k40, b_l_drawn_size := (fun_mk (st := s_l_drawn_size) l40 c40 k40).binds (ps := ["_law_deck", "_law_span"]) fun _ _ _ _ _ _ us hl => match us, hl with | [_, _], _ => rfl, g_l_drawn_size := PySem.W.mg_of X G a40, F_l_above := fun_mk (st := s_l_above) l41 c41 k41, b_l_above := (fun_mk (st := s_l_above) l41 c41 k41).binds (ps := ["_law_deck", "_law_span"]) fun _ _ _ _ _ _ us hl => match us, hl with | [_, _], _ => rfl, g_l_above := PySem.W.mg_of X G a41, F_l_side_ways := fun_mk (st := s_l_side_ways) l42 c42 k42, b_l_side_ways := (fun_mk (st := s_l_side_ways) l42 c42 k42).binds (ps := ["_law_shape"]) fun _ _ _ _ _ _ us hl => match us, hl with | [_], _ => rfl, g_l_side_ways := PySem.W.mg_of X G a42, F_l_pair_ways := fun_mk (st := s_l_pair_ways) l43 c43 k43, b_l_pair_ways := (fun_mk (st := s_l_pair_ways) l43 c43 k43).binds (ps := ["_law_one", "_law_other"]) fun _ _ _ _ _ _ us hl => match us, hl with | [_, _], _ => rfl, g_l_pair_ways := PySem.W.mg_of X G a43, F_l_far := fun_mk (st := s_l_far) l44 c44 k44, b_l_far := (fun_mk (st := s_l_far) l44 c44 k44).binds (ps := ["_law_shape", "_law_way"]) fun _ _ _ _ _ _ us hl => match us, hl with | [_, _], _ => rfl, g_l_far := PySem.W.mg_of X G a44, F_l_speed := fun_mk (st := s_l_speed) l45 c45 k45, b_l_speed := (fun_mk (st := s_l_speed) l45 c45 k45).binds (ps := ["_law_one", "_law_other", "_law_way"]) fun _ _ _ _ _ _ us hl => match us, hl with | [_, _, _], _ => rfl, g_l_speed := PySem.W.mg_of X G a45, F_l_between := fun_mk (st := s_l_between) l46 c46 k46, b_l_between := (fun_mk (st := s_l_between) l46 c46 k46).binds (ps := ["_law_one", "_law_other", "_law_after"]) fun _ _ _ _ _ _ us hl => match us, hl with | [_, _, _], _ => rfl, g_l_between := PySem.W.mg_of X G a46, F_l_room_by := fun_mk (st := s_l_room_by) l47 c47 k47, b_l_room_by := (fun_mk (st := s_l_room_by) l47 c47 k47).binds (ps := ["_law_one", "_law_other", "_law_way", "_law_gone"]) fun _ _ _ _ _ _ us hl => match us, hl with | [_, _, _, _], _ => rfl, g_l_room_by := PySem.W.mg_of X G a47, F_l_rooms := fun_mk (st := s_l_rooms) l48 c48 k48, b_l_rooms := (fun_mk (st := s_l_rooms) l48 c48 k48).binds (ps := ["_law_a", "_law_b", "_law_after"]) fun _ _ _ _ _ _ us hl => match us, hl with | [_, _, _], _ => rfl, g_l_rooms := PySem.W.mg_of X G a48, F_l_over := fun_mk (st := s_l_over) l49 c49 k49, b_l_over := (fun_mk (st := s_l_over) l49 c49 k49).binds (ps := ["_law_one", "_law_other", "_law_after"]) fun _ _ _ _ _ _ us hl => match us, hl with | [_, _, _], _ => rfl, g_l_over := PySem.W.mg_of X G a49, F_l_drawn_name := fun_mk (st := s_l_drawn_name) l50 c50 k50, b_l_drawn_name := (fun_mk (st := s_l_drawn_name) l50 c50 k50).binds (ps := ["_law_deck"]) fun _ _ _ _ _ _ us hl => match us, hl with | [_], _ => rfl, g_l_drawn_name := PySem.W.mg_of X G a50, F_l_drawn_way := fun_mk (st := s_l_drawn_way) l51 c51 k51, b_l_drawn_way := (fun_mk (st := s_l_drawn_way) l51 c51 k51).binds (ps := ["_law_deck", "_law_span"]) fun _ _ _ _ _ _ us hl => match us, hl with | [_, _], _ => rfl, g_l_drawn_way := PySem.W.mg_of X G a51, F_l_drawn_row := fun_mk (st := s_l_drawn_row) l52 c52 k52, b_l_drawn_row := (fun_mk (st := s_l_drawn_row) l52 c52 k52).binds (ps := ["_law_deck", "_law_shape", "_law_spot"]) fun _ _ _ _ _ _ us hl => match us, hl with | [_, _, _], _ => rfl, g_l_drawn_row := PySem.W.mg_of X G a52, F_l_beside := fun_mk (st := s_l_beside) l53 c53 k53, b_l_beside := (fun_mk (st := s_l_beside) l53 c53 k53).binds (ps := ["_law_deck", "_law_one", "_law_row"]) fun _ _ _ _ _ _ us hl => match us, hl with | [_, _, _], _ => rfl, g_l_beside := PySem.W.mg_of X G a53, F_l_scene := fun_mk (st := s_l_scene) l54 c54 k54, b_l_scene := (fun_mk (st := s_l_scene) l54 c54 k54).binds (ps := ["_law_deck", "_law_many"]) fun _ _ _ _ _ _ us hl => match us, hl with | [_, _], _ => rfl, g_l_scene := PySem.W.mg_of X G a54, F_l_pairs := fun_mk (st := s_l_pairs) l55 c55 k55, b_l_pairs := (fun_mk (st := s_l_pairs) l55 c55 k55).binds (ps := ["_law_rows"]) fun _ _ _ _ _ _ us hl => match us, hl with | [_], _ => rfl, g_l_pairs := PySem.W.mg_of X G a55, F_l_whole := fun_mk (st := s_l_whole) l56 c56 k56, b_l_whole := (fun_mk (st := s_l_whole) l56 c56 k56).binds (ps := ["_law_found"]) fun _ _ _ _ _ _ us hl => match us, hl with | [_], _ => rfl, g_l_whole := PySem.W.mg_of X G a56, F_l_two := fun_mk (st := s_l_two) l57 c57 k57, b_l_two := (fun_mk (st := s_l_two) l57 c57 k57).binds (ps := ["_law_x"]) fun _ _ _ _ _ _ us hl => match us, hl with | [_], _ => rfl, g_l_two := PySem.W.mg_of X G a57, F_l_contact := fun_mk (st := s_l_contact) l58 c58 k58, b_l_contact := (fun_mk (st := s_l_contact) l58 c58 k58).binds (ps := ["_law_one", "_law_other"]) fun _ _ _ _ _ _ us hl => match us, hl with | [_, _], _ => rfl, g_l_contact := PySem.W.mg_of X G a58, F_l_touches := fun_mk (st := s_l_touches) l59 c59 k59, b_l_touches := (fun_mk (st := s_l_touches) l59 c59 k59).binds (ps := ["_law_rows"]) fun _ _ _ _ _ _ us hl => match us, hl with | [_], _ => rfl, g_l_touches := PySem.W.mg_of X G a59, F_l_are_over := fun_mk (st := s_l_are_over) l60 c60 k60, b_l_are_over := (fun_mk (st := s_l_are_over) l60 c60 k60).binds (ps := ["_law_rows"]) fun _ _ _ _ _ _ us hl => match us, hl with | [_], _ => rfl, g_l_are_over := PySem.W.mg_of X G a60, F_l_same_touches := fun_mk (st := s_l_same_touches) l61 c61 k61, b_l_same_touches := (fun_mk (st := s_l_same_touches) l61 c61 k61).binds (ps := ["_law_found", "_law_due"]) fun _ _ _ _ _ _ us hl => match us, hl with | [_, _], _ => rfl, g_l_same_touches := PySem.W.mg_of X G a61, F_l_kinds := fun_mk (st := s_l_kinds) l62 c62 k62, b_l_kinds := (fun_mk (st := s_l_kinds) l62 c62 k62).binds (ps := ["_law_e"]) fun _ _ _ _ _ _ us hl => match us, hl with | [_], _ => rfl, g_l_kinds := PySem.W.mg_of X G a62, F_l_alone := fun_mk (st := s_l_alone) l63 c63 k63, b_l_alone := (fun_mk (st := s_l_alone) l63 c63 k63).binds (ps := ["_law_e"]) fun _ _ _ _ _ _ us hl => match us, hl with | [_], _ => rfl, g_l_alone := PySem.W.mg_of X G a63, F_l_put := fun_mk (st := s_l_put) l64 c64 k64, b_l_put := (fun_mk (st := s_l_put) l64 c64 k64).binds (ps := ["_law_row", "_law_at", "_law_thing"]) fun _ _ _ _ _ _ us hl => match us, hl with | [_, _, _], _ => rfl, g_l_put := PySem.W.mg_of X G a64, F_l_turned := fun_mk (st := s_l_turned) l65 c65 k65, b_l_turned := (fun_mk (st := s_l_turned) l65 c65 k65).binds (ps := ["_law_rows"]) fun _ _ _ _ _ _ us hl => match us, hl with | [_], _ => rfl, g_l_turned := PySem.W.mg_of X G a65, F_l_anew := fun_mk (st := s_l_anew) l66 c66 k66, b_l_anew := (fun_mk (st := s_l_anew) l66 c66 k66).binds (ps := ["_law_deck", "_law_rows"]) fun _ _ _ _ _ _ us hl => match us, hl with | [_, _], _ => rfl, g_l_anew := PySem.W.mg_of X G a66, F_l_laid_over := fun_mk (st := s_l_laid_over) l67 c67 k67, b_l_laid_over := (fun_mk (st := s_l_laid_over) l67 c67 k67).binds (ps := ["_law_deck", "_law_rows"]) fun _ _ _ _ _ _ us hl => match us, hl with | [_, _], _ => rfl, g_l_laid_over := PySem.W.mg_of X G a67, F_l_right := fun_mk (st := s_l_right) l68 c68 k68, b_l_right := (fun_mk (st := s_l_right) l68 c68 k68).binds (ps := ["_law_rows"]) fun _ _ _ _ _ _ us hl => match us, hl with | [_], _ => rfl, g_l_right := PySem.W.mg_of X G a68, F_law := fun_mk (st := s_law) l69 c69 k69, b_law := (fun_mk (st := s_law) l69 c69 k69).binds (ps := ["_law_script"]) fun _ _ _ _ _ _ us hl => match us, hl with | [_], _ => rfl, g_law := PySem.W.mg_of X G a69, m_ValueError := PySem.W.mg_none_of X G z_ValueError, m_abs := PySem.W.mg_none_of X G z_abs, m_bool := PySem.W.mg_none_of X G z_bool, m_enumerate := PySem.W.mg_none_of X G z_enumerate, m_int := PySem.W.mg_none_of X G z_int, m_isinstance := PySem.W.mg_none_of X G z_isinstance, m_len := PySem.W.mg_none_of X G z_len, m_list := PySem.W.mg_none_of X G z_list, m_max := PySem.W.mg_none_of X G z_max, m_min := PySem.W.mg_none_of X G z_min, m_range := PySem.W.mg_none_of X G z_range, m_set := PySem.W.mg_none_of X G z_set, m_sorted := PySem.W.mg_none_of X G z_sorted, m_sum := PySem.W.mg_none_of X G z_sum, m_tuple := PySem.W.mg_none_of X G z_tuple, m_zip := PySem.W.mg_none_of X G z_zip, g_BodyError := PySem.W.mg_of X G ac_BodyError, g_NoShare := PySem.W.mg_of X G ac_NoShare, g_NoWay := PySem.W.mg_of X G ac_NoWay, g_BadShape := PySem.W.mg_of X G ac_BadShape, g_BadRow := PySem.W.mg_of X G ac_BadRow, g_Over := PySem.W.mg_of X G ac_Over, g_Early := PySem.W.mg_of X G ac_Early, g_Calm := PySem.W.mg_of X G ac_Calm, g_NoBody := PySem.W.mg_of X G ac_NoBody, g_Twice := PySem.W.mg_of X G ac_Twice, g_Full := PySem.W.mg_of X G ac_Full, g_Long := PySem.W.mg_of X G ac_Long, g_BadPush := PySem.W.mg_of X G ac_BadPush, g_BadSpan := PySem.W.mg_of X G ac_BadSpan, g_BadCount := PySem.W.mg_of X G ac_BadCount, g_BadState := PySem.W.mg_of X G ac_BadState, g_Crowded := PySem.W.mg_of X G ac_Crowded, g_TooFine := PySem.W.mg_of X G ac_TooFine, g_Nothing := PySem.W.mg_of X G ac_Nothing, g_Wrong := PySem.W.mg_of X G ac_Wrong, g_BadText := PySem.W.mg_of X G ac_BadText, g_BadLine := PySem.W.mg_of X G ac_BadLine, i_Over_NoShare := kit_ref ic_NoShare it_NoShare is_Over_NoShare sc_Over, i_Over_NoWay := kit_ref ic_NoWay it_NoWay is_Over_NoWay sc_Over, i_Over_BadShape := kit_ref ic_BadShape it_BadShape is_Over_BadShape sc_Over, i_Over_BadRow := kit_ref ic_BadRow it_BadRow is_Over_BadRow sc_Over, i_Over_Over := kit_ref ic_Over it_Over is_Over_Over sc_Over, i_Over_Early := kit_ref ic_Early it_Early is_Over_Early sc_Over, i_Over_Calm := kit_ref ic_Calm it_Calm is_Over_Calm sc_Over, i_Over_NoBody := kit_ref ic_NoBody it_NoBody is_Over_NoBody sc_Over, i_Over_Twice := kit_ref ic_Twice it_Twice is_Over_Twice sc_Over, i_Over_Full := kit_ref ic_Full it_Full is_Over_Full sc_Over, i_Over_Long := kit_ref ic_Long it_Long is_Over_Long sc_Over, i_Over_BadPush := kit_ref ic_BadPush it_BadPush is_Over_BadPush sc_Over, i_Over_BadSpan := kit_ref ic_BadSpan it_BadSpan is_Over_BadSpan sc_Over, i_Over_BadCount := kit_ref ic_BadCount it_BadCount is_Over_BadCount sc_Over, i_Over_BadState := kit_ref ic_BadState it_BadState is_Over_BadState sc_Over, i_Over_Crowded := kit_ref ic_Crowded it_Crowded is_Over_Crowded sc_Over, i_Over_TooFine := kit_ref ic_TooFine it_TooFine is_Over_TooFine sc_Over, i_Over_Nothing := kit_ref ic_Nothing it_Nothing is_Over_Nothing sc_Over, i_Over_Wrong := kit_ref ic_Wrong it_Wrong is_Over_Wrong sc_Over, i_Over_BadText := kit_ref ic_BadText it_BadText is_Over_BadText sc_Over, i_Over_BadLine := kit_ref ic_BadLine it_BadLine is_Over_BadLine sc_Over, i_Over_BodyError := kit_ref ic_BodyError it_BodyError is_Over_BodyError sc_Over, i_Over_ValueError := kit_type (by decide +kernel) is_Over_ValueError, g_LEADING := PySem.W.mg_of X G an_LEADING, g_LENGTHY := PySem.W.mg_of X G an_LENGTHY }
  have sx_S_Over : SupI l.prog K "Over.__init__" (defArgs s_m_Over___init__) (defBody s_m_Over___init__) (defScope s_m_Over___init__) c_Over fI_Over (PySem.W.ksFn "__init__" "Over.__init__" (defArgs s_m_Over___init__) (defBody s_m_Over___init__) (defScope s_m_Over___init__) .none kVI_Over dcI_Over pmI_Over anI_Over (.ref cdaI_Over) ctI_Over ccI_Over) := ⟨⟨_, _, _, _, _, _, _, _, _, _, _, _, _, _, _, _, _, _, _, rfl, lI_Over, cI_Over, kI_Over, vI_Over, pI_Over, eI_Over⟩, topI, sI_Over, vE_Over, opI, glI, mI_Over⟩
  have sx_O_Over : OexC K c_Over := ⟨⟨_, _, _, _, _, _, _, _, _, _, _, _, _, _, _, oI_Over, rI_Over⟩, saI_Over, bcI_Over, tcI_Over, kcI_Over⟩
  have sx_bI_Over : Binds K (PySem.W.ksFn "__init__" "Over.__init__" (defArgs s_m_Over___init__) (defBody s_m_Over___init__) (defScope s_m_Over___init__) .none kVI_Over dcI_Over pmI_Over anI_Over (.ref cdaI_Over) ctI_Over ccI_Over) ["self", "one", "other"] [] := .all (fun us hl => match us, hl with | [_, _, _], _ => rfl)
  have sx_iC_Over : PySem.W.findIn K (.ref c_Over) "__init__" = some (some (.ref fI_Over)) := iI_Over
  have sx_tI_Over : PySem.W.typeIn K (.ref fI_Over) = some (.type "function") := tI_Over
  have sx_X_Over : XfC K c_Over := ⟨gaI_Over, ggI_Over, bcI_Over, hdI_Over⟩
  have sx_E_Over : ExcC K c_Over := ⟨gaI_Over, ggI_Over, bcI_Over, hdI_Over, haI_Over, hnI_Over, htI_Over, hmI_Over⟩
  have sx_n_Over_one : PySem.W.findIn K (.ref c_Over) "one" = some none := nI_Over_one
  have sx_n_Over_other : PySem.W.findIn K (.ref c_Over) "other" = some none := nI_Over_other
  have sx_e_Over_Over : PySem.W.exmOne K (.ref c_Over) (.ref c_Over) = some true := PySem.W.exm_ref bcX_Over hdX_Over tcX_Over sX_Over_Over
  haveI : Sx l.prog K A0 := { S_Over := sx_S_Over, O_Over := sx_O_Over, bI_Over := sx_bI_Over, iC_Over := sx_iC_Over, tI_Over := sx_tI_Over, X_Over := sx_X_Over, E_Over := sx_E_Over, n_Over_one := sx_n_Over_one, n_Over_other := sx_n_Over_other, e_Over_Over := sx_e_Over_Over }
  exact ⟨PySem.W.fnOf "law" "law" (defArgs s_law) (defBody s_law) (defScope s_law) .none kV69 dc69 pm69 an69 cd69 ct69, fun s v => .of_eq rfl, fun base _ _ => ok_law (A := A0) T⟩
end R
open PySem PySem.W PyProof.Rows
set_option maxRecDepth 100000 in
set_option maxHeartbeats 0 in
theorem PySem.Challenge.cw_restbodies_k44_contacts_told_holds : PySem.Challenge.rw_restbodies_k44_contacts_told.Holds := by
  w_on; o_law; k_head; (case hw => w_witness2)
  k_fill
  refine L2.walk_of (l := PySem.Challenge.rw_restbodies_k44_contacts_told) (n := 63) (k := 12) (x := "_law_script") (CX := fun _ => L2.CX0) (sp := fun w => R.sp_law _) rfl (by decide) rfl ⟨rfl, by decide, by decide⟩ (fun w h Y => PySem.W.kIn_of Y) ?F (fun _ _ a ns hl hO hS => ⟨a, ns, rfl, hO, hS, hl, fun _ => rfl⟩) (fun _ _ _ _ _ h => h)
  case F =>
    intro w mg fa h KX G hmg
    refine' R.all_mk KX G hmg ?a0 ?l0 ?c0 ?k0 ?a1 ?l1 ?c1 ?k1 ?a2 ?l2 ?c2 ?k2 ?a3 ?l3 ?c3 ?k3 ?a4 ?l4 ?c4 ?k4 ?a5 ?l5 ?c5 ?k5 ?a6 ?l6 ?c6 ?k6 ?a7 ?l7 ?c7 ?k7 ?a8 ?l8 ?c8 ?k8 ?a9 ?l9 ?c9 ?k9 ?a10 ?l10 ?c10 ?k10 ?a11 ?l11 ?c11 ?k11 ?a12 ?l12 ?c12 ?k12 ?a13 ?l13 ?c13 ?k13 ?a14 ?l14 ?c14 ?k14 ?a15 ?l15 ?c15 ?k15 ?a16 ?l16 ?c16 ?k16 ?a17 ?l17 ?c17 ?k17 ?a18 ?l18 ?c18 ?k18 ?a19 ?l19 ?c19 ?k19 ?a20 ?l20 ?c20 ?k20 ?a21 ?l21 ?c21 ?k21 ?a22 ?l22 ?c22 ?k22 ?a23 ?l23 ?c23 ?k23 ?a24 ?l24 ?c24 ?k24 ?a25 ?l25 ?c25 ?k25 ?a26 ?l26 ?c26 ?k26 ?a27 ?l27 ?c27 ?k27 ?a28 ?l28 ?c28 ?k28 ?a29 ?l29 ?c29 ?k29 ?a30 ?l30 ?c30 ?k30 ?a31 ?l31 ?c31 ?k31 ?a32 ?l32 ?c32 ?k32 ?a33 ?l33 ?c33 ?k33 ?a34 ?l34 ?c34 ?k34 ?a35 ?l35 ?c35 ?k35 ?a36 ?l36 ?c36 ?k36 ?a37 ?l37 ?c37 ?k37 ?a38 ?l38 ?c38 ?k38 ?a39 ?l39 ?c39 ?k39 ?a40 ?l40 ?c40 ?k40 ?a41 ?l41 ?c41 ?k41 ?a42 ?l42 ?c42 ?k42 ?a43 ?l43 ?c43 ?k43 ?a44 ?l44 ?c44 ?k44 ?a45 ?l45 ?c45 ?k45 ?a46 ?l46 ?c46 ?k46 ?a47 ?l47 ?c47 ?k47 ?a48 ?l48 ?c48 ?k48 ?a49 ?l49 ?c49 ?k49 ?a50 ?l50 ?c50 ?k50 ?a51 ?l51 ?c51 ?k51 ?a52 ?l52 ?c52 ?k52 ?a53 ?l53 ?c53 ?k53 ?a54 ?l54 ?c54 ?k54 ?a55 ?l55 ?c55 ?k55 ?a56 ?l56 ?c56 ?k56 ?a57 ?l57 ?c57 ?k57 ?a58 ?l58 ?c58 ?k58 ?a59 ?l59 ?c59 ?k59 ?a60 ?l60 ?c60 ?k60 ?a61 ?l61 ?c61 ?k61 ?a62 ?l62 ?c62 ?k62 ?a63 ?l63 ?c63 ?k63 ?a64 ?l64 ?c64 ?k64 ?a65 ?l65 ?c65 ?k65 ?a66 ?l66 ?c66 ?k66 ?a67 ?l67 ?c67 ?k67 ?a68 ?l68 ?c68 ?k68 ?a69 ?l69 ?c69 ?k69 ?z_ValueError ?z_abs ?z_bool ?z_enumerate ?z_int ?z_isinstance ?z_len ?z_list ?z_max ?z_min ?z_range ?z_set ?z_sorted ?z_sum ?z_tuple ?z_zip ?ac_BodyError ?ac_NoShare ?ac_NoWay ?ac_BadShape ?ac_BadRow ?ac_Over ?ac_Early ?ac_Calm ?ac_NoBody ?ac_Twice ?ac_Full ?ac_Long ?ac_BadPush ?ac_BadSpan ?ac_BadCount ?ac_BadState ?ac_Crowded ?ac_TooFine ?ac_Nothing ?ac_Wrong ?ac_BadText ?ac_BadLine ?opI ?glI ?topI ?iI_Over ?lI_Over ?cI_Over ?kI_Over ?vI_Over ?pI_Over ?eI_Over ?tI_Over ?sI_Over ?vE_Over ?mI_Over ?oI_Over ?rI_Over ?saI_Over ?bcI_Over ?tcI_Over ?kcI_Over ?gaI_Over ?ggI_Over ?hdI_Over ?haI_Over ?hnI_Over ?htI_Over ?hmI_Over ?nI_Over_one ?nI_Over_other ?bcX_Over ?hdX_Over ?tcX_Over ?sX_Over_Over ?sc_Over ?ic_NoShare ?it_NoShare ?is_Over_NoShare ?ic_NoWay ?it_NoWay ?is_Over_NoWay ?ic_BadShape ?it_BadShape ?is_Over_BadShape ?ic_BadRow ?it_BadRow ?is_Over_BadRow ?ic_Over ?it_Over ?is_Over_Over ?ic_Early ?it_Early ?is_Over_Early ?ic_Calm ?it_Calm ?is_Over_Calm ?ic_NoBody ?it_NoBody ?is_Over_NoBody ?ic_Twice ?it_Twice ?is_Over_Twice ?ic_Full ?it_Full ?is_Over_Full ?ic_Long ?it_Long ?is_Over_Long ?ic_BadPush ?it_BadPush ?is_Over_BadPush ?ic_BadSpan ?it_BadSpan ?is_Over_BadSpan ?ic_BadCount ?it_BadCount ?is_Over_BadCount ?ic_BadState ?it_BadState ?is_Over_BadState ?ic_Crowded ?it_Crowded ?is_Over_Crowded ?ic_TooFine ?it_TooFine ?is_Over_TooFine ?ic_Nothing ?it_Nothing ?is_Over_Nothing ?ic_Wrong ?it_Wrong ?is_Over_Wrong ?ic_BadText ?it_BadText ?is_Over_BadText ?ic_BadLine ?it_BadLine ?is_Over_BadLine ?ic_BodyError ?it_BodyError ?is_Over_BodyError ?is_Over_ValueError ?an_LEADING ?an_LENGTHY
    (case a0 => k_is)
    (case l0 => k_is)
    (case c0 => k_is)
    (case k0 => k_is)
    (case a1 => k_is)
    (case l1 => k_is)
    (case c1 => k_is)
    (case k1 => k_is)
    (case a2 => k_is)
    (case l2 => k_is)
    (case c2 => k_is)
    (case k2 => k_is)
    (case a3 => k_is)
    (case l3 => k_is)
    (case c3 => k_is)
    (case k3 => k_is)
    (case a4 => k_is)
    (case l4 => k_is)
    (case c4 => k_is)
    (case k4 => k_is)
    (case a5 => k_is)
    (case l5 => k_is)
    (case c5 => k_is)
    (case k5 => k_is)
    (case a6 => k_is)
    (case l6 => k_is)
    (case c6 => k_is)
    (case k6 => k_is)
    (case a7 => k_is)
    (case l7 => k_is)
    (case c7 => k_is)
    (case k7 => k_is)
    (case a8 => k_is)
    (case l8 => k_is)
    (case c8 => k_is)
    (case k8 => k_is)
    (case a9 => k_is)
    (case l9 => k_is)
    (case c9 => k_is)
    (case k9 => k_is)
    (case a10 => k_is)
    (case l10 => k_is)
    (case c10 => k_is)
    (case k10 => k_is)
    (case a11 => k_is)
    (case l11 => k_is)
    (case c11 => k_is)
    (case k11 => k_is)
    (case a12 => k_is)
    (case l12 => k_is)
    (case c12 => k_is)
    (case k12 => k_is)
    (case a13 => k_is)
    (case l13 => k_is)
    (case c13 => k_is)
    (case k13 => k_is)
    (case a14 => k_is)
    (case l14 => k_is)
    (case c14 => k_is)
    (case k14 => k_is)
    (case a15 => k_is)
    (case l15 => k_is)
    (case c15 => k_is)
    (case k15 => k_is)
    (case a16 => k_is)
    (case l16 => k_is)
    (case c16 => k_is)
    (case k16 => k_is)
    (case a17 => k_is)
    (case l17 => k_is)
    (case c17 => k_is)
    (case k17 => k_is)
    (case a18 => k_is)
    (case l18 => k_is)
    (case c18 => k_is)
    (case k18 => k_is)
    (case a19 => k_is)
    (case l19 => k_is)
    (case c19 => k_is)
    (case k19 => k_is)
    (case a20 => k_is)
    (case l20 => k_is)
    (case c20 => k_is)
    (case k20 => k_is)
    (case a21 => k_is)
    (case l21 => k_is)
    (case c21 => k_is)
    (case k21 => k_is)
    (case a22 => k_is)
    (case l22 => k_is)
    (case c22 => k_is)
    (case k22 => k_is)
    (case a23 => k_is)
    (case l23 => k_is)
    (case c23 => k_is)
    (case k23 => k_is)
    (case a24 => k_is)
    (case l24 => k_is)
    (case c24 => k_is)
    (case k24 => k_is)
    (case a25 => k_is)
    (case l25 => k_is)
    (case c25 => k_is)
    (case k25 => k_is)
    (case a26 => k_is)
    (case l26 => k_is)
    (case c26 => k_is)
    (case k26 => k_is)
    (case a27 => k_is)
    (case l27 => k_is)
    (case c27 => k_is)
    (case k27 => k_is)
    (case a28 => k_is)
    (case l28 => k_is)
    (case c28 => k_is)
    (case k28 => k_is)
    (case a29 => k_is)
    (case l29 => k_is)
    (case c29 => k_is)
    (case k29 => k_is)
    (case a30 => k_is)
    (case l30 => k_is)
    (case c30 => k_is)
    (case k30 => k_is)
    (case a31 => k_is)
    (case l31 => k_is)
    (case c31 => k_is)
    (case k31 => k_is)
    (case a32 => k_is)
    (case l32 => k_is)
    (case c32 => k_is)
    (case k32 => k_is)
    (case a33 => k_is)
    (case l33 => k_is)
    (case c33 => k_is)
    (case k33 => k_is)
    (case a34 => k_is)
    (case l34 => k_is)
    (case c34 => k_is)
    (case k34 => k_is)
    (case a35 => k_is)
    (case l35 => k_is)
    (case c35 => k_is)
    (case k35 => k_is)
    (case a36 => k_is)
    (case l36 => k_is)
    (case c36 => k_is)
    (case k36 => k_is)
    (case a37 => k_is)
    (case l37 => k_is)
    (case c37 => k_is)
    (case k37 => k_is)
    (case a38 => k_is)
    (case l38 => k_is)
    (case c38 => k_is)
    (case k38 => k_is)
    (case a39 => k_is)
    (case l39 => k_is)
    (case c39 => k_is)
    (case k39 => k_is)
    (case a40 => k_is)
    (case l40 => k_is)
    (case c40 => k_is)
    (case k40 => k_is)
    (case a41 => k_is)
    (case l41 => k_is)
    (case c41 => k_is)
    (case k41 => k_is)
    (case a42 => k_is)
    (case l42 => k_is)
    (case c42 => k_is)
    (case k42 => k_is)
    (case a43 => k_is)
    (case l43 => k_is)
    (case c43 => k_is)
    (case k43 => k_is)
    (case a44 => k_is)
    (case l44 => k_is)
    (case c44 => k_is)
    (case k44 => k_is)
    (case a45 => k_is)
    (case l45 => k_is)
    (case c45 => k_is)
    (case k45 => k_is)
    (case a46 => k_is)
    (case l46 => k_is)
    (case c46 => k_is)
    (case k46 => k_is)
    (case a47 => k_is)
    (case l47 => k_is)
    (case c47 => k_is)
    (case k47 => k_is)
    (case a48 => k_is)
    (case l48 => k_is)
    (case c48 => k_is)
    (case k48 => k_is)
    (case a49 => k_is)
    (case l49 => k_is)
    (case c49 => k_is)
    (case k49 => k_is)
    (case a50 => k_is)
    (case l50 => k_is)
    (case c50 => k_is)
    (case k50 => k_is)
    (case a51 => k_is)
    (case l51 => k_is)
    (case c51 => k_is)
    (case k51 => k_is)
    (case a52 => k_is)
    (case l52 => k_is)
    (case c52 => k_is)
    (case k52 => k_is)
    (case a53 => k_is)
    (case l53 => k_is)
    (case c53 => k_is)
    (case k53 => k_is)
    (case a54 => k_is)
    (case l54 => k_is)
    (case c54 => k_is)
    (case k54 => k_is)
    (case a55 => k_is)
    (case l55 => k_is)
    (case c55 => k_is)
    (case k55 => k_is)
    (case a56 => k_is)
    (case l56 => k_is)
    (case c56 => k_is)
    (case k56 => k_is)
    (case a57 => k_is)
    (case l57 => k_is)
    (case c57 => k_is)
    (case k57 => k_is)
    (case a58 => k_is)
    (case l58 => k_is)
    (case c58 => k_is)
    (case k58 => k_is)
    (case a59 => k_is)
    (case l59 => k_is)
    (case c59 => k_is)
    (case k59 => k_is)
    (case a60 => k_is)
    (case l60 => k_is)
    (case c60 => k_is)
    (case k60 => k_is)
    (case a61 => k_is)
    (case l61 => k_is)
    (case c61 => k_is)
    (case k61 => k_is)
    (case a62 => k_is)
    (case l62 => k_is)
    (case c62 => k_is)
    (case k62 => k_is)
    (case a63 => k_is)
    (case l63 => k_is)
    (case c63 => k_is)
    (case k63 => k_is)
    (case a64 => k_is)
    (case l64 => k_is)
    (case c64 => k_is)
    (case k64 => k_is)
    (case a65 => k_is)
    (case l65 => k_is)
    (case c65 => k_is)
    (case k65 => k_is)
    (case a66 => k_is)
    (case l66 => k_is)
    (case c66 => k_is)
    (case k66 => k_is)
    (case a67 => k_is)
    (case l67 => k_is)
    (case c67 => k_is)
    (case k67 => k_is)
    (case a68 => k_is)
    (case l68 => k_is)
    (case c68 => k_is)
    (case k68 => k_is)
    (case a69 => k_is)
    (case l69 => k_is)
    (case c69 => k_is)
    (case k69 => k_is)
    (case z_ValueError => k_is)
    (case z_abs => k_is)
    (case z_bool => k_is)
    (case z_enumerate => k_is)
    (case z_int => k_is)
    (case z_isinstance => k_is)
    (case z_len => k_is)
    (case z_list => k_is)
    (case z_max => k_is)
    (case z_min => k_is)
    (case z_range => k_is)
    (case z_set => k_is)
    (case z_sorted => k_is)
    (case z_sum => k_is)
    (case z_tuple => k_is)
    (case z_zip => k_is)
    (case ac_BodyError => k_is)
    (case ac_NoShare => k_is)
    (case ac_NoWay => k_is)
    (case ac_BadShape => k_is)
    (case ac_BadRow => k_is)
    (case ac_Over => k_is)
    (case ac_Early => k_is)
    (case ac_Calm => k_is)
    (case ac_NoBody => k_is)
    (case ac_Twice => k_is)
    (case ac_Full => k_is)
    (case ac_Long => k_is)
    (case ac_BadPush => k_is)
    (case ac_BadSpan => k_is)
    (case ac_BadCount => k_is)
    (case ac_BadState => k_is)
    (case ac_Crowded => k_is)
    (case ac_TooFine => k_is)
    (case ac_Nothing => k_is)
    (case ac_Wrong => k_is)
    (case ac_BadText => k_is)
    (case ac_BadLine => k_is)
    (case opI => k_is)
    (case glI => k_is)
    (case topI => decide +kernel)
    (case iI_Over => k_is)
    (case lI_Over => k_is)
    (case cI_Over => k_is)
    (case kI_Over => k_is)
    (case vI_Over => rfl)
    (case pI_Over => decide +kernel)
    (case eI_Over => k_is)
    (case tI_Over => k_is)
    (case sI_Over => ks_is)
    (case vE_Over => k_is)
    (case mI_Over => k_is)
    (case oI_Over => k_is)
    (case rI_Over => decide +kernel)
    (case saI_Over => k_is)
    (case bcI_Over => k_is)
    (case tcI_Over => k_is)
    (case kcI_Over => k_is)
    (case gaI_Over => k_is)
    (case ggI_Over => k_is)
    (case hdI_Over => k_is)
    (case haI_Over => k_is)
    (case hnI_Over => k_is)
    (case htI_Over => k_is)
    (case hmI_Over => k_is)
    (case nI_Over_one => k_is)
    (case nI_Over_other => k_is)
    (case bcX_Over => k_is)
    (case hdX_Over => k_is)
    (case tcX_Over => k_is)
    (case sX_Over_Over => k_is)
    (case sc_Over => k_is)
    (case ic_NoShare => k_is)
    (case it_NoShare => k_is)
    (case is_Over_NoShare => k_is)
    (case ic_NoWay => k_is)
    (case it_NoWay => k_is)
    (case is_Over_NoWay => k_is)
    (case ic_BadShape => k_is)
    (case it_BadShape => k_is)
    (case is_Over_BadShape => k_is)
    (case ic_BadRow => k_is)
    (case it_BadRow => k_is)
    (case is_Over_BadRow => k_is)
    (case ic_Over => k_is)
    (case it_Over => k_is)
    (case is_Over_Over => k_is)
    (case ic_Early => k_is)
    (case it_Early => k_is)
    (case is_Over_Early => k_is)
    (case ic_Calm => k_is)
    (case it_Calm => k_is)
    (case is_Over_Calm => k_is)
    (case ic_NoBody => k_is)
    (case it_NoBody => k_is)
    (case is_Over_NoBody => k_is)
    (case ic_Twice => k_is)
    (case it_Twice => k_is)
    (case is_Over_Twice => k_is)
    (case ic_Full => k_is)
    (case it_Full => k_is)
    (case is_Over_Full => k_is)
    (case ic_Long => k_is)
    (case it_Long => k_is)
    (case is_Over_Long => k_is)
    (case ic_BadPush => k_is)
    (case it_BadPush => k_is)
    (case is_Over_BadPush => k_is)
    (case ic_BadSpan => k_is)
    (case it_BadSpan => k_is)
    (case is_Over_BadSpan => k_is)
    (case ic_BadCount => k_is)
    (case it_BadCount => k_is)
    (case is_Over_BadCount => k_is)
    (case ic_BadState => k_is)
    (case it_BadState => k_is)
    (case is_Over_BadState => k_is)
    (case ic_Crowded => k_is)
    (case it_Crowded => k_is)
    (case is_Over_Crowded => k_is)
    (case ic_TooFine => k_is)
    (case it_TooFine => k_is)
    (case is_Over_TooFine => k_is)
    (case ic_Nothing => k_is)
    (case it_Nothing => k_is)
    (case is_Over_Nothing => k_is)
    (case ic_Wrong => k_is)
    (case it_Wrong => k_is)
    (case is_Over_Wrong => k_is)
    (case ic_BadText => k_is)
    (case it_BadText => k_is)
    (case is_Over_BadText => k_is)
    (case ic_BadLine => k_is)
    (case it_BadLine => k_is)
    (case is_Over_BadLine => k_is)
    (case ic_BodyError => k_is)
    (case it_BodyError => k_is)
    (case is_Over_BodyError => k_is)
    (case is_Over_ValueError => k_is)
    (case an_LEADING => k_is)
    (case an_LENGTHY => k_is)
