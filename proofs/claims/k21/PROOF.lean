import PyProof.Rows.All
import Wide.All
import OpenK.AllK
import Wide.FinOn
import HandS.ForMost
import HandS.Wide
import HandS.IsInst
import HandS.Defaults
import HandS.WideBits

import HandS.ForExc
import HandS.ExcIs
import HandS.Style
import HandS.Sort
import HandS.SortRule
import HandS.Zip
import HandS.Iter
import HandS.Deep
import HandS.TupSets
import HandS.TupLe
import HandS.TupAny
import HandS.DictComp
import HandS.Ends
import PyProof.ReprRoads
import PySem.Challenge.RW_restbodies_k21_first_held
set_option Elab.async false
set_option linter.all false
set_option maxRecDepth 100000
set_option maxHeartbeats 2000000
set_option synthInstance.maxSize 100000
set_option synthInstance.maxHeartbeats 2000000
namespace R
open PySem PySem.Spec PyProof.Rows L2
/-! ### the text -/
def topS (i : Nat) : Stmt := PySem.Challenge.pw_restbodies_k21_first_held.main.body.getD i (.Pass ⟨0, 0, 0, 0⟩)
abbrev s_p_is_whole : Stmt := topS 8
theorem sc_p_is_whole : FnScope ["thing"] ["thing"] (defScope s_p_is_whole) := ⟨rfl, rfl, rfl, by decide +kernel, rfl, by decide +kernel, by decide +kernel⟩
abbrev s_p_divided : Stmt := topS 9
theorem sc_p_divided : FnScope ["one", "other", "shift", "x", "y", "a", "b", "c", "d", "many"] ["one", "other"] (defScope s_p_divided) := ⟨rfl, rfl, rfl, by decide +kernel, rfl, by decide +kernel, by decide +kernel⟩
abbrev s_p_shortened : Stmt := topS 10
theorem sc_p_shortened : FnScope ["one", "other", "a", "b", "c", "d", "low", "high"] ["one", "other"] (defScope s_p_shortened) := ⟨rfl, rfl, rfl, by decide +kernel, rfl, by decide +kernel, by decide +kernel⟩
abbrev s_p_common_divisor : Stmt := topS 11
theorem sc_p_common_divisor : FnScope ["one", "other"] ["one", "other"] (defScope s_p_common_divisor) := ⟨rfl, rfl, rfl, by decide +kernel, rfl, by decide +kernel, by decide +kernel⟩
abbrev s_p_is_share : Stmt := topS 14
theorem sc_p_is_share : FnScope ["thing", "top", "bottom"] ["thing"] (defScope s_p_is_share) := ⟨rfl, rfl, rfl, by decide +kernel, rfl, by decide +kernel, by decide +kernel⟩
abbrev s_p_share : Stmt := topS 15
theorem sc_p_share : FnScope ["top", "bottom", "divisor"] ["top", "bottom"] (defScope s_p_share) := ⟨rfl, rfl, rfl, by decide +kernel, rfl, by decide +kernel, by decide +kernel⟩
abbrev s_p_plus : Stmt := topS 16
theorem sc_p_plus : FnScope ["one", "other", "top", "bottom", "more", "part", "divisor", "total", "again"] ["one", "other"] (defScope s_p_plus) := ⟨rfl, rfl, rfl, by decide +kernel, rfl, by decide +kernel, by decide +kernel⟩
abbrev s_p_minus : Stmt := topS 17
theorem sc_p_minus : FnScope ["one", "other", "top", "bottom"] ["one", "other"] (defScope s_p_minus) := ⟨rfl, rfl, rfl, by decide +kernel, rfl, by decide +kernel, by decide +kernel⟩
abbrev s_p_times : Stmt := topS 18
theorem sc_p_times : FnScope ["one", "other", "top", "bottom", "more", "part", "divisor", "again"] ["one", "other"] (defScope s_p_times) := ⟨rfl, rfl, rfl, by decide +kernel, rfl, by decide +kernel, by decide +kernel⟩
abbrev s_p_order : Stmt := topS 19
theorem sc_p_order : FnScope ["one", "other", "left", "right"] ["one", "other"] (defScope s_p_order) := ⟨rfl, rfl, rfl, by decide +kernel, rfl, by decide +kernel, by decide +kernel⟩
abbrev s_p_on_one_bottom : Stmt := topS 20
theorem sc_p_on_one_bottom : FnScope ["shares", "base", "top", "bottom"] ["shares"] (defScope s_p_on_one_bottom) := ⟨rfl, rfl, rfl, by decide +kernel, rfl, by decide +kernel, by decide +kernel⟩
abbrev s_p_is_way : Stmt := topS 22
theorem sc_p_is_way : FnScope ["thing", "p", "q"] ["thing"] (defScope s_p_is_way) := ⟨rfl, rfl, rfl, by decide +kernel, rfl, by decide +kernel, by decide +kernel⟩
abbrev s_p_way_of : Stmt := topS 23
theorem sc_p_way_of : FnScope ["p", "q", "divisor"] ["p", "q"] (defScope s_p_way_of) := ⟨rfl, rfl, rfl, by decide +kernel, rfl, by decide +kernel, by decide +kernel⟩
abbrev s_p_along : Stmt := topS 24
theorem sc_p_along : FnScope ["way", "spot", "p", "q", "x", "y"] ["way", "spot"] (defScope s_p_along) := ⟨rfl, rfl, rfl, by decide +kernel, rfl, by decide +kernel, by decide +kernel⟩
abbrev s_p_spot_plus : Stmt := topS 25
theorem sc_p_spot_plus : FnScope ["one", "other"] ["one", "other"] (defScope s_p_spot_plus) := ⟨rfl, rfl, rfl, by decide +kernel, rfl, by decide +kernel, by decide +kernel⟩
abbrev s_p_spot_minus : Stmt := topS 26
theorem sc_p_spot_minus : FnScope ["one", "other"] ["one", "other"] (defScope s_p_spot_minus) := ⟨rfl, rfl, rfl, by decide +kernel, rfl, by decide +kernel, by decide +kernel⟩
abbrev s_p_spot_times : Stmt := topS 27
theorem sc_p_spot_times : FnScope ["spot", "share"] ["spot", "share"] (defScope s_p_spot_times) := ⟨rfl, rfl, rfl, by decide +kernel, rfl, by decide +kernel, by decide +kernel⟩
abbrev s_p_side_ends : Stmt := topS 29
theorem sc_p_side_ends : FnScope ["corners"] ["corners"] (defScope s_p_side_ends) := ⟨rfl, rfl, rfl, by decide +kernel, rfl, by decide +kernel, by decide +kernel⟩
abbrev s_p_outwards : Stmt := topS 30
theorem sc_p_outwards : FnScope ["start", "end", "a", "b", "c", "d"] ["start", "end"] (defScope s_p_outwards) := ⟨rfl, rfl, rfl, by decide +kernel, rfl, by decide +kernel, by decide +kernel⟩
abbrev s_p_sides : Stmt := topS 31
theorem sc_p_sides : FnScope ["shape", "start", "end"] ["shape"] (defScope s_p_sides) := ⟨rfl, rfl, rfl, by decide +kernel, rfl, by decide +kernel, by decide +kernel⟩
abbrev s_p_reach : Stmt := topS 32
theorem sc_p_reach : FnScope ["shape", "way", "p", "q", "x", "y"] ["shape", "way"] (defScope s_p_reach) := ⟨rfl, rfl, rfl, by decide +kernel, rfl, by decide +kernel, by decide +kernel⟩
abbrev s_p_turned : Stmt := topS 34
theorem sc_p_turned : FnScope ["way", "p", "q"] ["way"] (defScope s_p_turned) := ⟨rfl, rfl, rfl, by decide +kernel, rfl, by decide +kernel, by decide +kernel⟩
abbrev s_p_pair_ways : Stmt := topS 35
theorem sc_p_pair_ways : FnScope ["one", "other", "ways", "way"] ["one", "other"] (defScope s_p_pair_ways) := ⟨rfl, rfl, rfl, by decide +kernel, rfl, by decide +kernel, by decide +kernel⟩
abbrev s_p_width : Stmt := topS 36
theorem sc_p_width : FnScope ["one", "other", "way"] ["one", "other", "way"] (defScope s_p_width) := ⟨rfl, rfl, rfl, by decide +kernel, rfl, by decide +kernel, by decide +kernel⟩
abbrev s_p_place_apart : Stmt := topS 37
theorem sc_p_place_apart : FnScope ["one", "other"] ["one", "other"] (defScope s_p_place_apart) := ⟨rfl, rfl, rfl, by decide +kernel, rfl, by decide +kernel, by decide +kernel⟩
abbrev s_p_speed_apart : Stmt := topS 38
theorem sc_p_speed_apart : FnScope ["one", "other"] ["one", "other"] (defScope s_p_speed_apart) := ⟨rfl, rfl, rfl, by decide +kernel, rfl, by decide +kernel, by decide +kernel⟩
abbrev s_p_offset : Stmt := topS 39
theorem sc_p_offset : FnScope ["one", "other", "after"] ["one", "other", "after"] (defScope s_p_offset) := ⟨rfl, rfl, rfl, by decide +kernel, rfl, by decide +kernel, by decide +kernel⟩
abbrev s_p_gap : Stmt := topS 40
theorem sc_p_gap : FnScope ["one", "other", "way", "after"] ["one", "other", "way", "after"] (defScope s_p_gap) := ⟨rfl, rfl, rfl, by decide +kernel, rfl, by decide +kernel, by decide +kernel⟩
abbrev s_p_courses : Stmt := topS 41
theorem sc_p_courses : FnScope ["one", "other", "x", "y", "u", "v", "bottom", "told", "way", "p", "q"] ["one", "other"] (defScope s_p_courses) := ⟨rfl, rfl, rfl, by decide +kernel, rfl, by decide +kernel, by decide +kernel⟩
abbrev s_p_height : Stmt := topS 42
theorem sc_p_height : FnScope ["course", "time", "way", "start", "slope"] ["course", "time"] (defScope s_p_height) := ⟨rfl, rfl, rfl, by decide +kernel, rfl, by decide +kernel, by decide +kernel⟩
abbrev s_p_time_of : Stmt := topS 44
theorem sc_p_time_of : FnScope ["course", "way", "start", "slope"] ["course"] (defScope s_p_time_of) := ⟨rfl, rfl, rfl, by decide +kernel, rfl, by decide +kernel, by decide +kernel⟩
abbrev s_p_meets_along : Stmt := topS 45
theorem sc_p_meets_along : FnScope ["course", "all_courses", "way", "start", "slope", "each", "other_start", "other_slope", "then"] ["course", "all_courses"] (defScope s_p_meets_along) := ⟨rfl, rfl, rfl, by decide +kernel, rfl, by decide +kernel, by decide +kernel⟩
abbrev s_p_meeting_courses : Stmt := topS 46
theorem sc_p_meeting_courses : FnScope ["all_courses", "until", "met", "course"] ["all_courses", "until"] (defScope s_p_meeting_courses) := ⟨rfl, rfl, rfl, by decide +kernel, rfl, by decide +kernel, by decide +kernel⟩
abbrev s_p_upright_ways : Stmt := topS 47
theorem sc_p_upright_ways : FnScope ["one", "other", "x", "y", "bottom"] ["one", "other"] (defScope s_p_upright_ways) := ⟨rfl, rfl, rfl, by decide +kernel, rfl, by decide +kernel, by decide +kernel⟩
abbrev s_p_is_clear : Stmt := topS 48
theorem sc_p_is_clear : FnScope ["one", "other", "way", "until"] ["one", "other", "way", "until"] (defScope s_p_is_clear) := ⟨rfl, rfl, rfl, by decide +kernel, rfl, by decide +kernel, by decide +kernel⟩
abbrev s_p_clear_way : Stmt := topS 49
theorem sc_p_clear_way : FnScope ["one", "other", "until", "all_courses", "course", "way"] ["one", "other", "until", "all_courses"] (defScope s_p_clear_way) := ⟨rfl, rfl, rfl, by decide +kernel, rfl, by decide +kernel, by decide +kernel⟩
abbrev s_p_first : Stmt := topS 50
theorem sc_p_first : FnScope ["one", "other", "until", "all_courses", "low", "high", "met", "way", "start", "slope"] ["one", "other", "until"] (defScope s_p_first) := ⟨rfl, rfl, rfl, by decide +kernel, rfl, by decide +kernel, by decide +kernel⟩
abbrev s_p_is_meeting : Stmt := topS 51
theorem sc_p_is_meeting : FnScope ["one", "other", "until", "time", "way", "met", "course"] ["one", "other", "until", "time", "way"] (defScope s_p_is_meeting) := ⟨rfl, rfl, rfl, by decide +kernel, rfl, by decide +kernel, by decide +kernel⟩
abbrev s_p_first_held : Stmt := topS 52
theorem sc_p_first_held : FnScope ["one", "other", "until", "paper"] ["one", "other", "until", "paper"] (defScope s_p_first_held) := ⟨rfl, rfl, rfl, by decide +kernel, rfl, by decide +kernel, by decide +kernel⟩
abbrev s_l_cell : Stmt := topS 54
theorem sc_l_cell : FnScope ["_law_script", "_law_k"] ["_law_script", "_law_k"] (defScope s_l_cell) := ⟨rfl, rfl, rfl, by decide +kernel, rfl, by decide +kernel, by decide +kernel⟩
abbrev s_l_deck : Stmt := topS 55
theorem sc_l_deck : FnScope ["_law_script", "_law_cells", "_law_cell_here"] ["_law_script"] (defScope s_l_deck) := ⟨rfl, rfl, rfl, by decide +kernel, rfl, by decide +kernel, by decide +kernel⟩
abbrev s_l_take : Stmt := topS 56
theorem sc_l_take : FnScope ["_law_deck_here", "_law_many", "_law_cell_here", "_law_number_here"] ["_law_deck_here", "_law_many"] (defScope s_l_take) := ⟨rfl, rfl, rfl, by decide +kernel, rfl, by decide +kernel, by decide +kernel⟩
abbrev s_l_long : Stmt := topS 57
theorem sc_l_long : FnScope ["_law_deck_here", "_law_many", "_law_found", "_law_turn"] ["_law_deck_here", "_law_many"] (defScope s_l_long) := ⟨rfl, rfl, rfl, by decide +kernel, rfl, by decide +kernel, by decide +kernel⟩
abbrev s_l_gcd : Stmt := topS 58
theorem sc_l_gcd : FnScope ["_law_one", "_law_other", "_law_rest"] ["_law_one", "_law_other"] (defScope s_l_gcd) := ⟨rfl, rfl, rfl, by decide +kernel, rfl, by decide +kernel, by decide +kernel⟩
abbrev s_l_share : Stmt := topS 59
theorem sc_l_share : FnScope ["_law_top", "_law_bottom", "_law_part"] ["_law_top", "_law_bottom"] (defScope s_l_share) := ⟨rfl, rfl, rfl, by decide +kernel, rfl, by decide +kernel, by decide +kernel⟩
abbrev s_l_plus : Stmt := topS 60
theorem sc_l_plus : FnScope ["_law_one", "_law_other"] ["_law_one", "_law_other"] (defScope s_l_plus) := ⟨rfl, rfl, rfl, by decide +kernel, rfl, by decide +kernel, by decide +kernel⟩
abbrev s_l_times : Stmt := topS 61
theorem sc_l_times : FnScope ["_law_one", "_law_other"] ["_law_one", "_law_other"] (defScope s_l_times) := ⟨rfl, rfl, rfl, by decide +kernel, rfl, by decide +kernel, by decide +kernel⟩
abbrev s_l_along : Stmt := topS 62
theorem sc_l_along : FnScope ["_law_way_here", "_law_spot_here"] ["_law_way_here", "_law_spot_here"] (defScope s_l_along) := ⟨rfl, rfl, rfl, by decide +kernel, rfl, by decide +kernel, by decide +kernel⟩
abbrev s_l_spot : Stmt := topS 63
theorem sc_l_spot : FnScope ["_law_spot_here"] ["_law_spot_here"] (defScope s_l_spot) := ⟨rfl, rfl, rfl, by decide +kernel, rfl, by decide +kernel, by decide +kernel⟩
abbrev s_l_spot_plus : Stmt := topS 64
theorem sc_l_spot_plus : FnScope ["_law_one", "_law_other"] ["_law_one", "_law_other"] (defScope s_l_spot_plus) := ⟨rfl, rfl, rfl, by decide +kernel, rfl, by decide +kernel, by decide +kernel⟩
abbrev s_l_spot_times : Stmt := topS 65
theorem sc_l_spot_times : FnScope ["_law_spot_here", "_law_size"] ["_law_spot_here", "_law_size"] (defScope s_l_spot_times) := ⟨rfl, rfl, rfl, by decide +kernel, rfl, by decide +kernel, by decide +kernel⟩
abbrev s_l_left : Stmt := topS 66
theorem sc_l_left : FnScope ["_law_a", "_law_b", "_law_c"] ["_law_a", "_law_b", "_law_c"] (defScope s_l_left) := ⟨rfl, rfl, rfl, by decide +kernel, rfl, by decide +kernel, by decide +kernel⟩
abbrev s_l_half : Stmt := topS 67
theorem sc_l_half : FnScope ["_law_points", "_law_found", "_law_point"] ["_law_points"] (defScope s_l_half) := ⟨rfl, rfl, rfl, by decide +kernel, rfl, by decide +kernel, by decide +kernel⟩
abbrev s_l_number : Stmt := topS 68
theorem sc_l_number : FnScope ["_law_deck_here", "_law_span"] ["_law_deck_here", "_law_span"] (defScope s_l_number) := ⟨rfl, rfl, rfl, by decide +kernel, rfl, by decide +kernel, by decide +kernel⟩
abbrev s_l_eight : Stmt := topS 69
theorem sc_l_eight : FnScope ["_law_deck_here", "_law_most", "_law_wide", "_law_high", "_law_cuts", "_law_found", "_law_turn"] ["_law_deck_here", "_law_most"] (defScope s_l_eight) := ⟨rfl, rfl, rfl, by decide +kernel, rfl, by decide +kernel, by decide +kernel⟩
abbrev s_l_shape : Stmt := topS 70
theorem sc_l_shape : FnScope ["_law_deck_here", "_law_span", "_law_kind", "_law_x", "_law_y", "_law_wide", "_law_high", "_law_many", "_law_rows", "_law_found", "_law_turn"] ["_law_deck_here", "_law_span"] (defScope s_l_shape) := ⟨rfl, rfl, rfl, by decide +kernel, rfl, by decide +kernel, by decide +kernel⟩
abbrev s_l_ways : Stmt := topS 71
theorem sc_l_ways : FnScope ["_law_shape_here", "_law_found", "_law_k", "_law_corner", "_law_behind"] ["_law_shape_here"] (defScope s_l_ways) := ⟨rfl, rfl, rfl, by decide +kernel, rfl, by decide +kernel, by decide +kernel⟩
abbrev s_l_way : Stmt := topS 72
theorem sc_l_way : FnScope ["_law_p", "_law_q", "_law_part"] ["_law_p", "_law_q"] (defScope s_l_way) := ⟨rfl, rfl, rfl, by decide +kernel, rfl, by decide +kernel, by decide +kernel⟩
abbrev s_l_pair_ways : Stmt := topS 73
theorem sc_l_pair_ways : FnScope ["_law_one", "_law_other", "_law_found", "_law_way_here"] ["_law_one", "_law_other"] (defScope s_l_pair_ways) := ⟨rfl, rfl, rfl, by decide +kernel, rfl, by decide +kernel, by decide +kernel⟩
abbrev s_l_reach : Stmt := topS 74
theorem sc_l_reach : FnScope ["_law_shape_here", "_law_way_here", "_law_corner"] ["_law_shape_here", "_law_way_here"] (defScope s_l_reach) := ⟨rfl, rfl, rfl, by decide +kernel, rfl, by decide +kernel, by decide +kernel⟩
abbrev s_l_between : Stmt := topS 75
theorem sc_l_between : FnScope ["_law_one", "_law_other", "_law_after", "_law_far", "_law_fast", "_law_gone"] ["_law_one", "_law_other", "_law_after"] (defScope s_l_between) := ⟨rfl, rfl, rfl, by decide +kernel, rfl, by decide +kernel, by decide +kernel⟩
abbrev s_l_room : Stmt := topS 76
theorem sc_l_room : FnScope ["_law_one", "_law_other", "_law_way_here", "_law_gone", "_law_wide"] ["_law_one", "_law_other", "_law_way_here", "_law_gone"] (defScope s_l_room) := ⟨rfl, rfl, rfl, by decide +kernel, rfl, by decide +kernel, by decide +kernel⟩
abbrev s_l_rooms : Stmt := topS 77
theorem sc_l_rooms : FnScope ["_law_one", "_law_other", "_law_after", "_law_gone", "_law_way_here"] ["_law_one", "_law_other", "_law_after"] (defScope s_l_rooms) := ⟨rfl, rfl, rfl, by decide +kernel, rfl, by decide +kernel, by decide +kernel⟩
abbrev s_l_over : Stmt := topS 78
theorem sc_l_over : FnScope ["_law_one", "_law_other", "_law_after"] ["_law_one", "_law_other", "_law_after"] (defScope s_l_over) := ⟨rfl, rfl, rfl, by decide +kernel, rfl, by decide +kernel, by decide +kernel⟩
abbrev s_l_speeding : Stmt := topS 79
theorem sc_l_speeding : FnScope ["_law_one", "_law_other", "_law_way_here", "_law_fast"] ["_law_one", "_law_other", "_law_way_here"] (defScope s_l_speeding) := ⟨rfl, rfl, rfl, by decide +kernel, rfl, by decide +kernel, by decide +kernel⟩
abbrev s_l_names : Stmt := topS 80
theorem sc_l_names : FnScope ["_law_deck_here", "_law_letters", "_law_stem", "_law_at", "_law_first_letter", "_law_second_letter", "_law_turn"] ["_law_deck_here"] (defScope s_l_names) := ⟨rfl, rfl, rfl, by decide +kernel, rfl, by decide +kernel, by decide +kernel⟩
abbrev s_l_drawn : Stmt := topS 81
theorem sc_l_drawn : FnScope ["_law_deck_here", "_law_size", "_law_many", "_law_sign"] ["_law_deck_here", "_law_size"] (defScope s_l_drawn) := ⟨rfl, rfl, rfl, by decide +kernel, rfl, by decide +kernel, by decide +kernel⟩
abbrev s_l_row : Stmt := topS 82
theorem sc_l_row : FnScope ["_law_deck_here", "_law_name", "_law_span", "_law_size", "_law_is_free", "_law_kind", "_law_shape_here", "_law_place", "_law_mass", "_law_p", "_law_q", "_law_rail", "_law_speed"] ["_law_deck_here", "_law_name", "_law_span", "_law_size", "_law_is_free"] (defScope s_l_row) := ⟨rfl, rfl, rfl, by decide +kernel, rfl, by decide +kernel, by decide +kernel⟩
abbrev s_l_pair : Stmt := topS 83
theorem sc_l_pair : FnScope ["_law_deck_here", "_law_near", "_law_aim", "_law_size", "_law_span", "_law_names_here", "_law_one", "_law_other", "_law_when", "_law_at", "_law_corner", "_law_behind", "_law_side", "_law_tip", "_law_part", "_law_spot_here", "_law_place", "_law_speed", "_law_some", "_law_to"] ["_law_deck_here"] (defScope s_l_pair) := ⟨rfl, rfl, rfl, by decide +kernel, rfl, by decide +kernel, by decide +kernel⟩
abbrev s_l_until : Stmt := topS 84
theorem sc_l_until : FnScope ["_law_deck_here", "_law_when", "_law_which", "_law_little"] ["_law_deck_here", "_law_when"] (defScope s_l_until) := ⟨rfl, rfl, rfl, by decide +kernel, rfl, by decide +kernel, by decide +kernel⟩
abbrev s_l_is_whole : Stmt := topS 85
theorem sc_l_is_whole : FnScope ["_law_thing"] ["_law_thing"] (defScope s_l_is_whole) := ⟨rfl, rfl, rfl, by decide +kernel, rfl, by decide +kernel, by decide +kernel⟩
abbrev s_l_is_share : Stmt := topS 86
theorem sc_l_is_share : FnScope ["_law_thing"] ["_law_thing"] (defScope s_l_is_share) := ⟨rfl, rfl, rfl, by decide +kernel, rfl, by decide +kernel, by decide +kernel⟩
abbrev s_l_is_way : Stmt := topS 87
theorem sc_l_is_way : FnScope ["_law_thing"] ["_law_thing"] (defScope s_l_is_way) := ⟨rfl, rfl, rfl, by decide +kernel, rfl, by decide +kernel, by decide +kernel⟩
abbrev s_l_meets : Stmt := topS 88
theorem sc_l_meets : FnScope ["_law_one", "_law_other", "_law_until_here", "_law_time", "_law_way_here", "_law_gone", "_law_ways_here", "_law_side", "_law_room_here"] ["_law_one", "_law_other", "_law_until_here", "_law_time", "_law_way_here"] (defScope s_l_meets) := ⟨rfl, rfl, rfl, by decide +kernel, rfl, by decide +kernel, by decide +kernel⟩
abbrev s_l_due : Stmt := topS 89
theorem sc_l_due : FnScope ["_law_one", "_law_other", "_law_until_here", "_law_paper", "_law_now", "_law_then"] ["_law_one", "_law_other", "_law_until_here", "_law_paper"] (defScope s_l_due) := ⟨rfl, rfl, rfl, by decide +kernel, rfl, by decide +kernel, by decide +kernel⟩
abbrev s_l_crossings : Stmt := topS 90
theorem sc_l_crossings : FnScope ["_law_one", "_law_other", "_law_found", "_law_gone", "_law_later", "_law_way_here", "_law_now", "_law_then", "_law_grown"] ["_law_one", "_law_other"] (defScope s_l_crossings) := ⟨rfl, rfl, rfl, by decide +kernel, rfl, by decide +kernel, by decide +kernel⟩
abbrev s_l_upright : Stmt := topS 91
theorem sc_l_upright : FnScope ["_law_one", "_law_other", "_law_fast", "_law_p", "_law_q"] ["_law_one", "_law_other"] (defScope s_l_upright) := ⟨rfl, rfl, rfl, by decide +kernel, rfl, by decide +kernel, by decide +kernel⟩
abbrev s_l_bent : Stmt := topS 92
theorem sc_l_bent : FnScope ["_law_deck_here", "_law_paper", "_law_p", "_law_q", "_law_ways_here", "_law_way_here", "_law_which", "_law_a", "_law_b", "_law_some"] ["_law_deck_here", "_law_paper"] (defScope s_l_bent) := ⟨rfl, rfl, rfl, by decide +kernel, rfl, by decide +kernel, by decide +kernel⟩
abbrev s_l_papers : Stmt := topS 93
theorem sc_l_papers : FnScope ["_law_deck_here", "_law_one", "_law_other", "_law_until_here", "_law_p", "_law_q", "_law_some", "_law_things", "_law_ways_here", "_law_time", "_law_way_here", "_law_bent_here", "_law_paper"] ["_law_deck_here", "_law_one", "_law_other", "_law_until_here"] (defScope s_l_papers) := ⟨rfl, rfl, rfl, by decide +kernel, rfl, by decide +kernel, by decide +kernel⟩
abbrev s_law : Stmt := topS 94
theorem sc_law : FnScope ["_law_script", "_law_deck_here", "_law_one", "_law_other", "_law_when", "_law_until_here", "_law_paper", "_law_kept", "_law_found"] ["_law_script"] (defScope s_law) := ⟨rfl, rfl, rfl, by decide +kernel, rfl, by decide +kernel, by decide +kernel⟩
/-! ### heaps -/
theorem upd_some {H : Hp} {p x : Addr} {o u : HO} (hp : H p = none) (h : H x = some u) : (upd H p o) x = some u := by
  rw [upd_ne (ne_of_none h hp)]
  exact h
theorem same_upd {H : Hp} {p : Addr} {o : HO} (h : H p = none) : Same H (upd H p o) := fun b x e => upd_some h e
theorem alloc {H G : Hp} {p : Addr} {o : HO} (e : upd H p o = G) (hp : H p = none) : Same H G ∧ G p = some o := by
  subst e
  exact ⟨same_upd hp, upd_same⟩
theorem Same.seqT {K : PySem.W.Frag} {H H' : Hp} {a : Addr} {xs : List V} (e : Same H H') (h : SqT K H a xs) : SqT K H' a xs := by
  rcases h with (h | ⟨o, h⟩) | h
  · exact .inl (.inl (e _ _ h))
  · exact .inl (.inr ⟨o, e _ _ h⟩)
  · exact .inr h
/-- all but what stands at d and b is as it was -/
def Kp (d b : Addr) (H H' : Hp) : Prop := ∀ x o, x ≠ d → x ≠ b → H x = some o → H' x = some o
theorem Kp.refl {d b : Addr} {H : Hp} : Kp d b H H := fun _ _ _ _ h => h
theorem Kp.trans {d b : Addr} {H H1 H2 : Hp} (u : Kp d b H H1) (v : Kp d b H1 H2) : Kp d b H H2 := fun x o h1 h2 h => v x o h1 h2 (u x o h1 h2 h)
theorem Kp.same {d b : Addr} {H H' : Hp} (s : Same H H') : Kp d b H H' := fun x o _ _ h => s x o h
theorem Kp.free {d b : Addr} {H H' : Hp} (u : Kp d b H H') {x : Addr} (hd : H d ≠ none) (hb : H b ≠ none) (h : H' x = none) (h1 : H' d ≠ none) (h2 : H' b ≠ none) : H x = none := by
  cases e : H x with
  | none => rfl
  | some o =>
    by_cases e1 : x = d
    · subst e1; exact absurd h h1
    by_cases e2 : x = b
    · subst e2; exact absurd h h2
    rw [u x o e1 e2 e] at h
    cases h
/-- the law's script -/
def Sc (K : PySem.W.Frag) (H : Hp) (s : Addr) (ns : List Int) : Prop := (∃ o, H s = some (.frz o (.lst (ns.map V.int)))) ∨ ∀ H', SqL K H' s (ns.map V.int)
theorem Sc.seq {K : PySem.W.Frag} {H : Hp} {s : Addr} {ns : List Int} (h : Sc K H s ns) : SqL K H s (ns.map V.int) := by
  rcases h with ⟨o, h⟩ | h
  · exact .inl (.inr ⟨o, h⟩)
  · exact h H
theorem Sc.mk {K : PySem.W.Frag} {H : Hp} {s : Addr} {ns : List Int} (hO : Only H) (h : SqL K H s (ns.map V.int)) : Sc K H s ns := by
  rcases h with (h | ⟨o, h⟩) | h
  · rcases hO s with e | ⟨o, xs, e⟩
    · rw [e] at h; cases h
    · rw [e] at h; cases h
  · exact .inl ⟨o, h⟩
  · exact .inr fun H' => .inr h
theorem Sc.upd {K : PySem.W.Frag} {H : Hp} {s b : Addr} {ns : List Int} {u : HO} (h : Sc K H s ns) (hb : H b = none ∨ ∃ xs, H b = some (.lst xs)) : Sc K (upd H b u) s ns := by
  rcases h with ⟨o, h⟩ | h
  · refine .inl ⟨o, ?_⟩
    have n : s ≠ b := fun e => by
      subst e
      rcases hb with e | ⟨xs, e⟩ <;> rw [e] at h <;> cases h
    rw [upd_ne n]
    exact h
  · exact .inr h
theorem Sc.keep {K : PySem.W.Frag} {H H' : Hp} {s : Addr} {ns : List Int} (h : Sc K H s ns) (k : Same H H') : Sc K H' s ns := by
  rcases h with ⟨o, h⟩ | h
  · exact .inl ⟨o, k _ _ h⟩
  · exact .inr h
/-- the deck at d, its cells at b, drawn at most c times -/
structure Deck (K : PySem.W.Frag) (H : Hp) (d b : Addr) (c : Int) : Prop where
  ex : ∃ (s : Addr) (ns cs : List Int) (i k : Int), H d = some (.lst [.ref s, .ref b, .int i, .int k]) ∧ H b = some (.lst (cs.map V.int)) ∧ Sc K H s ns ∧ 0 ≤ i ∧ 0 ≤ k ∧ k ≤ c
  ne : b ≠ d
theorem Deck.keep {K : PySem.W.Frag} {H H' : Hp} {d b : Addr} {c : Int} (D : Deck K H d b c) (k : Same H H') : Deck K H' d b c := by
  obtain ⟨⟨s, ns, cs, i, j, h1, h2, h3, h4⟩, n⟩ := D
  exact ⟨⟨s, ns, cs, i, j, k _ _ h1, k _ _ h2, h3.keep k, h4⟩, n⟩
theorem Deck.le {K : PySem.W.Frag} {H : Hp} {d b : Addr} {c c' : Int} (D : Deck K H d b c) (h : c ≤ c') : Deck K H d b c' := by
  obtain ⟨⟨s, ns, cs, i, j, h1, h2, h3, h4, h5, h6⟩, n⟩ := D
  exact ⟨⟨s, ns, cs, i, j, h1, h2, h3, h4, h5, by omega⟩, n⟩
/-- an object beside the deck stands -/
theorem Deck.tup {K : PySem.W.Frag} {H H' : Hp} {d b x : Addr} {c : Int} {xs : List V} (D : Deck K H d b c) (k : Kp d b H H') (h : H x = some (.tup xs)) : H' x = some (.tup xs) := by
  obtain ⟨⟨s, ns, cs, i, j, h1, h2, _⟩, n⟩ := D
  exact k x _ (fun e => by rw [e, h1] at h; cases h) (fun e => by rw [e, h2] at h; cases h) h
theorem Deck.seqT {K : PySem.W.Frag} {H H' : Hp} {d b x : Addr} {c : Int} {xs : List V} (D : Deck K H d b c) (k : Kp d b H H') (h : SqT K H x xs) : SqT K H' x xs := by
  obtain ⟨⟨s, ns, cs, i, j, h1, h2, _⟩, n⟩ := D
  rcases h with (h | ⟨o, h⟩) | h
  · exact .inl (.inl (k x _ (fun e => by rw [e, h1] at h; cases h) (fun e => by rw [e, h2] at h; cases h) h))
  · exact .inl (.inr ⟨o, k x _ (fun e => by rw [e, h1] at h; cases h) (fun e => by rw [e, h2] at h; cases h) h⟩)
  · exact .inr h
theorem Deck.hd {K : PySem.W.Frag} {H : Hp} {d b : Addr} {c : Int} (D : Deck K H d b c) : H d ≠ none := by
  obtain ⟨⟨s, ns, cs, i, j, h1, _⟩, n⟩ := D
  rw [h1]; exact fun e => nomatch e
theorem Deck.hb {K : PySem.W.Frag} {H : Hp} {d b : Addr} {c : Int} (D : Deck K H d b c) : H b ≠ none := by
  obtain ⟨⟨s, ns, cs, i, j, _, h1, _⟩, n⟩ := D
  rw [h1]; exact fun e => nomatch e
theorem Deck.free {K : PySem.W.Frag} {H H' : Hp} {d b x : Addr} {c c' : Int} (D : Deck K H d b c) (D' : Deck K H' d b c') (k : Kp d b H H') (h : H' x = none) : H x = none := k.free D.hd D.hb h D'.hd D'.hb
theorem Deck.ne_d {K : PySem.W.Frag} {H : Hp} {d b x : Addr} {c : Int} (D : Deck K H d b c) (h : H x = none) : x ≠ d := fun e => D.hd (e ▸ h)
theorem Deck.ne_b {K : PySem.W.Frag} {H : Hp} {d b x : Addr} {c : Int} (D : Deck K H d b c) (h : H x = none) : x ≠ b := fun e => D.hb (e ▸ h)
/-! ### numbers -/
theorem log2_lt {n k : Nat} (h : n < 2 ^ k) (h0 : 0 < k) : n.log2 < k := PySem.Flt.log2_lt_of h0 h
theorem size63 {n : Nat} (h : n ≤ 1000) : n ≤ sizeLine := Nat.le_of_lt (small1000 h)
theorem abs_nn (i : Int) : 0 ≤ (if i < 0 then -i else i) := by
  split <;> omega
theorem abs_nat (i : Int) : (if i < 0 then -i else i) = (i.natAbs : Int) := by
  split <;> omega
/-! ### the facts of the text -/
structure Ad where
  f_p_is_whole : Addr
  fd_p_is_whole : FuncData
  f_p_divided : Addr
  fd_p_divided : FuncData
  f_p_shortened : Addr
  fd_p_shortened : FuncData
  f_p_common_divisor : Addr
  fd_p_common_divisor : FuncData
  f_p_is_share : Addr
  fd_p_is_share : FuncData
  f_p_share : Addr
  fd_p_share : FuncData
  f_p_plus : Addr
  fd_p_plus : FuncData
  f_p_minus : Addr
  fd_p_minus : FuncData
  f_p_times : Addr
  fd_p_times : FuncData
  f_p_order : Addr
  fd_p_order : FuncData
  f_p_on_one_bottom : Addr
  fd_p_on_one_bottom : FuncData
  f_p_is_way : Addr
  fd_p_is_way : FuncData
  f_p_way_of : Addr
  fd_p_way_of : FuncData
  f_p_along : Addr
  fd_p_along : FuncData
  f_p_spot_plus : Addr
  fd_p_spot_plus : FuncData
  f_p_spot_minus : Addr
  fd_p_spot_minus : FuncData
  f_p_spot_times : Addr
  fd_p_spot_times : FuncData
  f_p_side_ends : Addr
  fd_p_side_ends : FuncData
  f_p_outwards : Addr
  fd_p_outwards : FuncData
  f_p_sides : Addr
  fd_p_sides : FuncData
  f_p_reach : Addr
  fd_p_reach : FuncData
  f_p_turned : Addr
  fd_p_turned : FuncData
  f_p_pair_ways : Addr
  fd_p_pair_ways : FuncData
  f_p_width : Addr
  fd_p_width : FuncData
  f_p_place_apart : Addr
  fd_p_place_apart : FuncData
  f_p_speed_apart : Addr
  fd_p_speed_apart : FuncData
  f_p_offset : Addr
  fd_p_offset : FuncData
  f_p_gap : Addr
  fd_p_gap : FuncData
  f_p_courses : Addr
  fd_p_courses : FuncData
  f_p_height : Addr
  fd_p_height : FuncData
  f_p_time_of : Addr
  fd_p_time_of : FuncData
  f_p_meets_along : Addr
  fd_p_meets_along : FuncData
  f_p_meeting_courses : Addr
  fd_p_meeting_courses : FuncData
  f_p_upright_ways : Addr
  fd_p_upright_ways : FuncData
  f_p_is_clear : Addr
  fd_p_is_clear : FuncData
  f_p_clear_way : Addr
  fd_p_clear_way : FuncData
  f_p_first : Addr
  fd_p_first : FuncData
  f_p_is_meeting : Addr
  fd_p_is_meeting : FuncData
  f_p_first_held : Addr
  fd_p_first_held : FuncData
  f_l_cell : Addr
  fd_l_cell : FuncData
  f_l_deck : Addr
  fd_l_deck : FuncData
  f_l_take : Addr
  fd_l_take : FuncData
  f_l_long : Addr
  fd_l_long : FuncData
  f_l_gcd : Addr
  fd_l_gcd : FuncData
  f_l_share : Addr
  fd_l_share : FuncData
  f_l_plus : Addr
  fd_l_plus : FuncData
  f_l_times : Addr
  fd_l_times : FuncData
  f_l_along : Addr
  fd_l_along : FuncData
  f_l_spot : Addr
  fd_l_spot : FuncData
  f_l_spot_plus : Addr
  fd_l_spot_plus : FuncData
  f_l_spot_times : Addr
  fd_l_spot_times : FuncData
  f_l_left : Addr
  fd_l_left : FuncData
  f_l_half : Addr
  fd_l_half : FuncData
  f_l_number : Addr
  fd_l_number : FuncData
  f_l_eight : Addr
  fd_l_eight : FuncData
  f_l_shape : Addr
  fd_l_shape : FuncData
  f_l_ways : Addr
  fd_l_ways : FuncData
  f_l_way : Addr
  fd_l_way : FuncData
  f_l_pair_ways : Addr
  fd_l_pair_ways : FuncData
  f_l_reach : Addr
  fd_l_reach : FuncData
  f_l_between : Addr
  fd_l_between : FuncData
  f_l_room : Addr
  fd_l_room : FuncData
  f_l_rooms : Addr
  fd_l_rooms : FuncData
  f_l_over : Addr
  fd_l_over : FuncData
  f_l_speeding : Addr
  fd_l_speeding : FuncData
  f_l_names : Addr
  fd_l_names : FuncData
  f_l_drawn : Addr
  fd_l_drawn : FuncData
  f_l_row : Addr
  fd_l_row : FuncData
  f_l_pair : Addr
  fd_l_pair : FuncData
  f_l_until : Addr
  fd_l_until : FuncData
  f_l_is_whole : Addr
  fd_l_is_whole : FuncData
  f_l_is_share : Addr
  fd_l_is_share : FuncData
  f_l_is_way : Addr
  fd_l_is_way : FuncData
  f_l_meets : Addr
  fd_l_meets : FuncData
  f_l_due : Addr
  fd_l_due : FuncData
  f_l_crossings : Addr
  fd_l_crossings : FuncData
  f_l_upright : Addr
  fd_l_upright : FuncData
  f_l_bent : Addr
  fd_l_bent : FuncData
  f_l_papers : Addr
  fd_l_papers : FuncData
  f_law : Addr
  fd_law : FuncData
  c_BodyError : Addr
  c_NoShare : Addr
  c_NoWay : Addr
  c_Over : Addr
  n_NOUGHT : Addr
  k_LEADING : Tok
  k_LENGTHY : Tok
structure Tx (K : PySem.W.Frag) (mg : Str → Option Value) (A : Ad) : Prop where
  F_p_is_whole : Fun K "is_whole" "is_whole" s_p_is_whole A.f_p_is_whole A.fd_p_is_whole
  b_p_is_whole : Binds K A.fd_p_is_whole ["thing"] []
  g_p_is_whole : mg "is_whole" = some (.ref A.f_p_is_whole)
  F_p_divided : Fun K "divided" "divided" s_p_divided A.f_p_divided A.fd_p_divided
  b_p_divided : Binds K A.fd_p_divided ["one", "other"] []
  g_p_divided : mg "divided" = some (.ref A.f_p_divided)
  F_p_shortened : Fun K "shortened" "shortened" s_p_shortened A.f_p_shortened A.fd_p_shortened
  b_p_shortened : Binds K A.fd_p_shortened ["one", "other"] []
  g_p_shortened : mg "shortened" = some (.ref A.f_p_shortened)
  F_p_common_divisor : Fun K "common_divisor" "common_divisor" s_p_common_divisor A.f_p_common_divisor A.fd_p_common_divisor
  b_p_common_divisor : Binds K A.fd_p_common_divisor ["one", "other"] []
  g_p_common_divisor : mg "common_divisor" = some (.ref A.f_p_common_divisor)
  F_p_is_share : Fun K "is_share" "is_share" s_p_is_share A.f_p_is_share A.fd_p_is_share
  b_p_is_share : Binds K A.fd_p_is_share ["thing"] []
  g_p_is_share : mg "is_share" = some (.ref A.f_p_is_share)
  g_p_share : mg "share" = some (.ref A.f_p_share)
  F_p_plus : Fun K "plus" "plus" s_p_plus A.f_p_plus A.fd_p_plus
  b_p_plus : Binds K A.fd_p_plus ["one", "other"] []
  g_p_plus : mg "plus" = some (.ref A.f_p_plus)
  F_p_minus : Fun K "minus" "minus" s_p_minus A.f_p_minus A.fd_p_minus
  b_p_minus : Binds K A.fd_p_minus ["one", "other"] []
  g_p_minus : mg "minus" = some (.ref A.f_p_minus)
  F_p_times : Fun K "times" "times" s_p_times A.f_p_times A.fd_p_times
  b_p_times : Binds K A.fd_p_times ["one", "other"] []
  g_p_times : mg "times" = some (.ref A.f_p_times)
  F_p_order : Fun K "order" "order" s_p_order A.f_p_order A.fd_p_order
  b_p_order : Binds K A.fd_p_order ["one", "other"] []
  g_p_order : mg "order" = some (.ref A.f_p_order)
  F_p_on_one_bottom : Fun K "on_one_bottom" "on_one_bottom" s_p_on_one_bottom A.f_p_on_one_bottom A.fd_p_on_one_bottom
  b_p_on_one_bottom : Binds K A.fd_p_on_one_bottom ["shares"] []
  g_p_on_one_bottom : mg "on_one_bottom" = some (.ref A.f_p_on_one_bottom)
  F_p_is_way : Fun K "is_way" "is_way" s_p_is_way A.f_p_is_way A.fd_p_is_way
  b_p_is_way : Binds K A.fd_p_is_way ["thing"] []
  g_p_is_way : mg "is_way" = some (.ref A.f_p_is_way)
  F_p_way_of : Fun K "way_of" "way_of" s_p_way_of A.f_p_way_of A.fd_p_way_of
  b_p_way_of : Binds K A.fd_p_way_of ["p", "q"] []
  g_p_way_of : mg "way_of" = some (.ref A.f_p_way_of)
  F_p_along : Fun K "along" "along" s_p_along A.f_p_along A.fd_p_along
  b_p_along : Binds K A.fd_p_along ["way", "spot"] []
  g_p_along : mg "along" = some (.ref A.f_p_along)
  F_p_spot_plus : Fun K "spot_plus" "spot_plus" s_p_spot_plus A.f_p_spot_plus A.fd_p_spot_plus
  b_p_spot_plus : Binds K A.fd_p_spot_plus ["one", "other"] []
  g_p_spot_plus : mg "spot_plus" = some (.ref A.f_p_spot_plus)
  F_p_spot_minus : Fun K "spot_minus" "spot_minus" s_p_spot_minus A.f_p_spot_minus A.fd_p_spot_minus
  b_p_spot_minus : Binds K A.fd_p_spot_minus ["one", "other"] []
  g_p_spot_minus : mg "spot_minus" = some (.ref A.f_p_spot_minus)
  F_p_spot_times : Fun K "spot_times" "spot_times" s_p_spot_times A.f_p_spot_times A.fd_p_spot_times
  b_p_spot_times : Binds K A.fd_p_spot_times ["spot", "share"] []
  g_p_spot_times : mg "spot_times" = some (.ref A.f_p_spot_times)
  F_p_side_ends : Fun K "side_ends" "side_ends" s_p_side_ends A.f_p_side_ends A.fd_p_side_ends
  b_p_side_ends : Binds K A.fd_p_side_ends ["corners"] []
  g_p_side_ends : mg "side_ends" = some (.ref A.f_p_side_ends)
  F_p_outwards : Fun K "outwards" "outwards" s_p_outwards A.f_p_outwards A.fd_p_outwards
  b_p_outwards : Binds K A.fd_p_outwards ["start", "end"] []
  g_p_outwards : mg "outwards" = some (.ref A.f_p_outwards)
  F_p_sides : Fun K "sides" "sides" s_p_sides A.f_p_sides A.fd_p_sides
  b_p_sides : Binds K A.fd_p_sides ["shape"] []
  g_p_sides : mg "sides" = some (.ref A.f_p_sides)
  F_p_reach : Fun K "reach" "reach" s_p_reach A.f_p_reach A.fd_p_reach
  b_p_reach : Binds K A.fd_p_reach ["shape", "way"] []
  g_p_reach : mg "reach" = some (.ref A.f_p_reach)
  F_p_turned : Fun K "turned" "turned" s_p_turned A.f_p_turned A.fd_p_turned
  b_p_turned : Binds K A.fd_p_turned ["way"] []
  g_p_turned : mg "turned" = some (.ref A.f_p_turned)
  F_p_pair_ways : Fun K "pair_ways" "pair_ways" s_p_pair_ways A.f_p_pair_ways A.fd_p_pair_ways
  b_p_pair_ways : Binds K A.fd_p_pair_ways ["one", "other"] []
  g_p_pair_ways : mg "pair_ways" = some (.ref A.f_p_pair_ways)
  F_p_width : Fun K "width" "width" s_p_width A.f_p_width A.fd_p_width
  b_p_width : Binds K A.fd_p_width ["one", "other", "way"] []
  g_p_width : mg "width" = some (.ref A.f_p_width)
  F_p_place_apart : Fun K "place_apart" "place_apart" s_p_place_apart A.f_p_place_apart A.fd_p_place_apart
  b_p_place_apart : Binds K A.fd_p_place_apart ["one", "other"] []
  g_p_place_apart : mg "place_apart" = some (.ref A.f_p_place_apart)
  F_p_speed_apart : Fun K "speed_apart" "speed_apart" s_p_speed_apart A.f_p_speed_apart A.fd_p_speed_apart
  b_p_speed_apart : Binds K A.fd_p_speed_apart ["one", "other"] []
  g_p_speed_apart : mg "speed_apart" = some (.ref A.f_p_speed_apart)
  F_p_offset : Fun K "offset" "offset" s_p_offset A.f_p_offset A.fd_p_offset
  b_p_offset : Binds K A.fd_p_offset ["one", "other", "after"] []
  g_p_offset : mg "offset" = some (.ref A.f_p_offset)
  g_p_gap : mg "gap" = some (.ref A.f_p_gap)
  F_p_courses : Fun K "courses" "courses" s_p_courses A.f_p_courses A.fd_p_courses
  b_p_courses : Binds K A.fd_p_courses ["one", "other"] []
  g_p_courses : mg "courses" = some (.ref A.f_p_courses)
  F_p_height : Fun K "height" "height" s_p_height A.f_p_height A.fd_p_height
  b_p_height : Binds K A.fd_p_height ["course", "time"] []
  g_p_height : mg "height" = some (.ref A.f_p_height)
  F_p_time_of : Fun K "time_of" "time_of" s_p_time_of A.f_p_time_of A.fd_p_time_of
  b_p_time_of : Binds K A.fd_p_time_of ["course"] []
  g_p_time_of : mg "time_of" = some (.ref A.f_p_time_of)
  F_p_meets_along : Fun K "meets_along" "meets_along" s_p_meets_along A.f_p_meets_along A.fd_p_meets_along
  b_p_meets_along : Binds K A.fd_p_meets_along ["course", "all_courses"] []
  g_p_meets_along : mg "meets_along" = some (.ref A.f_p_meets_along)
  F_p_meeting_courses : Fun K "meeting_courses" "meeting_courses" s_p_meeting_courses A.f_p_meeting_courses A.fd_p_meeting_courses
  b_p_meeting_courses : Binds K A.fd_p_meeting_courses ["all_courses", "until"] []
  g_p_meeting_courses : mg "meeting_courses" = some (.ref A.f_p_meeting_courses)
  F_p_upright_ways : Fun K "upright_ways" "upright_ways" s_p_upright_ways A.f_p_upright_ways A.fd_p_upright_ways
  b_p_upright_ways : Binds K A.fd_p_upright_ways ["one", "other"] []
  g_p_upright_ways : mg "upright_ways" = some (.ref A.f_p_upright_ways)
  F_p_is_clear : Fun K "is_clear" "is_clear" s_p_is_clear A.f_p_is_clear A.fd_p_is_clear
  b_p_is_clear : Binds K A.fd_p_is_clear ["one", "other", "way", "until"] []
  g_p_is_clear : mg "is_clear" = some (.ref A.f_p_is_clear)
  F_p_clear_way : Fun K "clear_way" "clear_way" s_p_clear_way A.f_p_clear_way A.fd_p_clear_way
  b_p_clear_way : Binds K A.fd_p_clear_way ["one", "other", "until", "all_courses"] []
  g_p_clear_way : mg "clear_way" = some (.ref A.f_p_clear_way)
  F_p_first : Fun K "first" "first" s_p_first A.f_p_first A.fd_p_first
  b_p_first : Binds K A.fd_p_first ["one", "other", "until"] []
  g_p_first : mg "first" = some (.ref A.f_p_first)
  F_p_is_meeting : Fun K "is_meeting" "is_meeting" s_p_is_meeting A.f_p_is_meeting A.fd_p_is_meeting
  b_p_is_meeting : Binds K A.fd_p_is_meeting ["one", "other", "until", "time", "way"] []
  g_p_is_meeting : mg "is_meeting" = some (.ref A.f_p_is_meeting)
  F_p_first_held : Fun K "first_held" "first_held" s_p_first_held A.f_p_first_held A.fd_p_first_held
  b_p_first_held : Binds K A.fd_p_first_held ["one", "other", "until", "paper"] []
  g_p_first_held : mg "first_held" = some (.ref A.f_p_first_held)
  F_l_cell : Fun K "_law_cell" "_law_cell" s_l_cell A.f_l_cell A.fd_l_cell
  b_l_cell : Binds K A.fd_l_cell ["_law_script", "_law_k"] []
  g_l_cell : mg "_law_cell" = some (.ref A.f_l_cell)
  F_l_deck : Fun K "_law_deck" "_law_deck" s_l_deck A.f_l_deck A.fd_l_deck
  b_l_deck : Binds K A.fd_l_deck ["_law_script"] []
  g_l_deck : mg "_law_deck" = some (.ref A.f_l_deck)
  F_l_take : Fun K "_law_take" "_law_take" s_l_take A.f_l_take A.fd_l_take
  b_l_take : Binds K A.fd_l_take ["_law_deck_here", "_law_many"] []
  g_l_take : mg "_law_take" = some (.ref A.f_l_take)
  F_l_long : Fun K "_law_long" "_law_long" s_l_long A.f_l_long A.fd_l_long
  b_l_long : Binds K A.fd_l_long ["_law_deck_here", "_law_many"] []
  g_l_long : mg "_law_long" = some (.ref A.f_l_long)
  F_l_gcd : Fun K "_law_gcd" "_law_gcd" s_l_gcd A.f_l_gcd A.fd_l_gcd
  b_l_gcd : Binds K A.fd_l_gcd ["_law_one", "_law_other"] []
  g_l_gcd : mg "_law_gcd" = some (.ref A.f_l_gcd)
  F_l_share : Fun K "_law_share" "_law_share" s_l_share A.f_l_share A.fd_l_share
  b_l_share : Binds K A.fd_l_share ["_law_top", "_law_bottom"] []
  g_l_share : mg "_law_share" = some (.ref A.f_l_share)
  F_l_plus : Fun K "_law_plus" "_law_plus" s_l_plus A.f_l_plus A.fd_l_plus
  b_l_plus : Binds K A.fd_l_plus ["_law_one", "_law_other"] []
  g_l_plus : mg "_law_plus" = some (.ref A.f_l_plus)
  F_l_times : Fun K "_law_times" "_law_times" s_l_times A.f_l_times A.fd_l_times
  b_l_times : Binds K A.fd_l_times ["_law_one", "_law_other"] []
  g_l_times : mg "_law_times" = some (.ref A.f_l_times)
  F_l_along : Fun K "_law_along" "_law_along" s_l_along A.f_l_along A.fd_l_along
  b_l_along : Binds K A.fd_l_along ["_law_way_here", "_law_spot_here"] []
  g_l_along : mg "_law_along" = some (.ref A.f_l_along)
  F_l_spot : Fun K "_law_spot" "_law_spot" s_l_spot A.f_l_spot A.fd_l_spot
  b_l_spot : Binds K A.fd_l_spot ["_law_spot_here"] []
  g_l_spot : mg "_law_spot" = some (.ref A.f_l_spot)
  F_l_spot_plus : Fun K "_law_spot_plus" "_law_spot_plus" s_l_spot_plus A.f_l_spot_plus A.fd_l_spot_plus
  b_l_spot_plus : Binds K A.fd_l_spot_plus ["_law_one", "_law_other"] []
  g_l_spot_plus : mg "_law_spot_plus" = some (.ref A.f_l_spot_plus)
  F_l_spot_times : Fun K "_law_spot_times" "_law_spot_times" s_l_spot_times A.f_l_spot_times A.fd_l_spot_times
  b_l_spot_times : Binds K A.fd_l_spot_times ["_law_spot_here", "_law_size"] []
  g_l_spot_times : mg "_law_spot_times" = some (.ref A.f_l_spot_times)
  F_l_left : Fun K "_law_left" "_law_left" s_l_left A.f_l_left A.fd_l_left
  b_l_left : Binds K A.fd_l_left ["_law_a", "_law_b", "_law_c"] []
  g_l_left : mg "_law_left" = some (.ref A.f_l_left)
  F_l_half : Fun K "_law_half" "_law_half" s_l_half A.f_l_half A.fd_l_half
  b_l_half : Binds K A.fd_l_half ["_law_points"] []
  g_l_half : mg "_law_half" = some (.ref A.f_l_half)
  F_l_number : Fun K "_law_number" "_law_number" s_l_number A.f_l_number A.fd_l_number
  b_l_number : Binds K A.fd_l_number ["_law_deck_here", "_law_span"] []
  g_l_number : mg "_law_number" = some (.ref A.f_l_number)
  F_l_eight : Fun K "_law_eight" "_law_eight" s_l_eight A.f_l_eight A.fd_l_eight
  b_l_eight : Binds K A.fd_l_eight ["_law_deck_here", "_law_most"] []
  g_l_eight : mg "_law_eight" = some (.ref A.f_l_eight)
  F_l_shape : Fun K "_law_shape" "_law_shape" s_l_shape A.f_l_shape A.fd_l_shape
  b_l_shape : Binds K A.fd_l_shape ["_law_deck_here", "_law_span"] []
  g_l_shape : mg "_law_shape" = some (.ref A.f_l_shape)
  F_l_ways : Fun K "_law_ways" "_law_ways" s_l_ways A.f_l_ways A.fd_l_ways
  b_l_ways : Binds K A.fd_l_ways ["_law_shape_here"] []
  g_l_ways : mg "_law_ways" = some (.ref A.f_l_ways)
  F_l_way : Fun K "_law_way" "_law_way" s_l_way A.f_l_way A.fd_l_way
  b_l_way : Binds K A.fd_l_way ["_law_p", "_law_q"] []
  g_l_way : mg "_law_way" = some (.ref A.f_l_way)
  F_l_pair_ways : Fun K "_law_pair_ways" "_law_pair_ways" s_l_pair_ways A.f_l_pair_ways A.fd_l_pair_ways
  b_l_pair_ways : Binds K A.fd_l_pair_ways ["_law_one", "_law_other"] []
  g_l_pair_ways : mg "_law_pair_ways" = some (.ref A.f_l_pair_ways)
  F_l_reach : Fun K "_law_reach" "_law_reach" s_l_reach A.f_l_reach A.fd_l_reach
  b_l_reach : Binds K A.fd_l_reach ["_law_shape_here", "_law_way_here"] []
  g_l_reach : mg "_law_reach" = some (.ref A.f_l_reach)
  F_l_between : Fun K "_law_between" "_law_between" s_l_between A.f_l_between A.fd_l_between
  b_l_between : Binds K A.fd_l_between ["_law_one", "_law_other", "_law_after"] []
  g_l_between : mg "_law_between" = some (.ref A.f_l_between)
  F_l_room : Fun K "_law_room" "_law_room" s_l_room A.f_l_room A.fd_l_room
  b_l_room : Binds K A.fd_l_room ["_law_one", "_law_other", "_law_way_here", "_law_gone"] []
  g_l_room : mg "_law_room" = some (.ref A.f_l_room)
  F_l_rooms : Fun K "_law_rooms" "_law_rooms" s_l_rooms A.f_l_rooms A.fd_l_rooms
  b_l_rooms : Binds K A.fd_l_rooms ["_law_one", "_law_other", "_law_after"] []
  g_l_rooms : mg "_law_rooms" = some (.ref A.f_l_rooms)
  F_l_over : Fun K "_law_over" "_law_over" s_l_over A.f_l_over A.fd_l_over
  b_l_over : Binds K A.fd_l_over ["_law_one", "_law_other", "_law_after"] []
  g_l_over : mg "_law_over" = some (.ref A.f_l_over)
  F_l_speeding : Fun K "_law_speeding" "_law_speeding" s_l_speeding A.f_l_speeding A.fd_l_speeding
  b_l_speeding : Binds K A.fd_l_speeding ["_law_one", "_law_other", "_law_way_here"] []
  g_l_speeding : mg "_law_speeding" = some (.ref A.f_l_speeding)
  F_l_names : Fun K "_law_names" "_law_names" s_l_names A.f_l_names A.fd_l_names
  b_l_names : Binds K A.fd_l_names ["_law_deck_here"] []
  g_l_names : mg "_law_names" = some (.ref A.f_l_names)
  F_l_drawn : Fun K "_law_drawn" "_law_drawn" s_l_drawn A.f_l_drawn A.fd_l_drawn
  b_l_drawn : Binds K A.fd_l_drawn ["_law_deck_here", "_law_size"] []
  g_l_drawn : mg "_law_drawn" = some (.ref A.f_l_drawn)
  F_l_row : Fun K "_law_row" "_law_row" s_l_row A.f_l_row A.fd_l_row
  b_l_row : Binds K A.fd_l_row ["_law_deck_here", "_law_name", "_law_span", "_law_size", "_law_is_free"] []
  g_l_row : mg "_law_row" = some (.ref A.f_l_row)
  F_l_pair : Fun K "_law_pair" "_law_pair" s_l_pair A.f_l_pair A.fd_l_pair
  b_l_pair : Binds K A.fd_l_pair ["_law_deck_here"] []
  g_l_pair : mg "_law_pair" = some (.ref A.f_l_pair)
  F_l_until : Fun K "_law_until" "_law_until" s_l_until A.f_l_until A.fd_l_until
  b_l_until : Binds K A.fd_l_until ["_law_deck_here", "_law_when"] []
  g_l_until : mg "_law_until" = some (.ref A.f_l_until)
  F_l_is_whole : Fun K "_law_is_whole" "_law_is_whole" s_l_is_whole A.f_l_is_whole A.fd_l_is_whole
  b_l_is_whole : Binds K A.fd_l_is_whole ["_law_thing"] []
  g_l_is_whole : mg "_law_is_whole" = some (.ref A.f_l_is_whole)
  F_l_is_share : Fun K "_law_is_share" "_law_is_share" s_l_is_share A.f_l_is_share A.fd_l_is_share
  b_l_is_share : Binds K A.fd_l_is_share ["_law_thing"] []
  g_l_is_share : mg "_law_is_share" = some (.ref A.f_l_is_share)
  F_l_is_way : Fun K "_law_is_way" "_law_is_way" s_l_is_way A.f_l_is_way A.fd_l_is_way
  b_l_is_way : Binds K A.fd_l_is_way ["_law_thing"] []
  g_l_is_way : mg "_law_is_way" = some (.ref A.f_l_is_way)
  F_l_meets : Fun K "_law_meets" "_law_meets" s_l_meets A.f_l_meets A.fd_l_meets
  b_l_meets : Binds K A.fd_l_meets ["_law_one", "_law_other", "_law_until_here", "_law_time", "_law_way_here"] []
  g_l_meets : mg "_law_meets" = some (.ref A.f_l_meets)
  F_l_due : Fun K "_law_due" "_law_due" s_l_due A.f_l_due A.fd_l_due
  b_l_due : Binds K A.fd_l_due ["_law_one", "_law_other", "_law_until_here", "_law_paper"] []
  g_l_due : mg "_law_due" = some (.ref A.f_l_due)
  F_l_crossings : Fun K "_law_crossings" "_law_crossings" s_l_crossings A.f_l_crossings A.fd_l_crossings
  b_l_crossings : Binds K A.fd_l_crossings ["_law_one", "_law_other"] []
  g_l_crossings : mg "_law_crossings" = some (.ref A.f_l_crossings)
  F_l_upright : Fun K "_law_upright" "_law_upright" s_l_upright A.f_l_upright A.fd_l_upright
  b_l_upright : Binds K A.fd_l_upright ["_law_one", "_law_other"] []
  g_l_upright : mg "_law_upright" = some (.ref A.f_l_upright)
  F_l_bent : Fun K "_law_bent" "_law_bent" s_l_bent A.f_l_bent A.fd_l_bent
  b_l_bent : Binds K A.fd_l_bent ["_law_deck_here", "_law_paper"] []
  g_l_bent : mg "_law_bent" = some (.ref A.f_l_bent)
  F_l_papers : Fun K "_law_papers" "_law_papers" s_l_papers A.f_l_papers A.fd_l_papers
  b_l_papers : Binds K A.fd_l_papers ["_law_deck_here", "_law_one", "_law_other", "_law_until_here"] []
  g_l_papers : mg "_law_papers" = some (.ref A.f_l_papers)
  F_law : Fun K "law" "law" s_law A.f_law A.fd_law
  b_law : Binds K A.fd_law ["_law_script"] []
  g_law : mg "law" = some (.ref A.f_law)
  m_abs : mg "abs" = none
  m_all : mg "all" = none
  m_bool : mg "bool" = none
  m_enumerate : mg "enumerate" = none
  m_int : mg "int" = none
  m_isinstance : mg "isinstance" = none
  m_len : mg "len" = none
  m_list : mg "list" = none
  m_max : mg "max" = none
  m_min : mg "min" = none
  m_range : mg "range" = none
  m_repr : mg "repr" = none
  m_set : mg "set" = none
  m_sorted : mg "sorted" = none
  m_str : mg "str" = none
  m_tuple : mg "tuple" = none
  m_zip : mg "zip" = none
  g_NOUGHT : mg "NOUGHT" = some (.ref A.n_NOUGHT)
  t_NOUGHT : ∀ H, SqT K H A.n_NOUGHT [.int 0, .int 1]
  g_LEADING : mg "LEADING" = some (.int 120 A.k_LEADING)
  g_LENGTHY : mg "LENGTHY" = some (.int 4000 A.k_LENGTHY)
  g_BodyError : mg "BodyError" = some (.ref A.c_BodyError)
  g_NoShare : mg "NoShare" = some (.ref A.c_NoShare)
  g_NoWay : mg "NoWay" = some (.ref A.c_NoWay)
  g_Over : mg "Over" = some (.ref A.c_Over)
  F_p_gap : FunD K "gap" "gap" (defArgs s_p_gap) (defBody s_p_gap) (defScope s_p_gap) [.ref A.n_NOUGHT] [] A.f_p_gap A.fd_p_gap
  b_p_gap : Binds K A.fd_p_gap ["one", "other", "way", "after"] []
  b1_p_gap : Binds K A.fd_p_gap ["one", "other", "way", "after"] [Value.ref A.n_NOUGHT]
  F_p_share : FunD K "share" "share" (defArgs s_p_share) (defBody s_p_share) (defScope s_p_share) [.int 1] [] A.f_p_share A.fd_p_share
  b_p_share : Binds K A.fd_p_share ["top", "bottom"] []
section
variable {P : Program} {w : World} {K : PySem.W.Frag} {mg : Str → Option Value} {base : Heap} {A : Ad}
theorem ixN_nat {n j : Nat} (h : j < n) : ixN n (j : Int) = some j := by
  unfold ixN
  rw [if_pos (by omega), if_pos (by omega)]
  rfl
theorem ty_tup {H : Hp} {a : Addr} {xs : List V} (h : SqT K H a xs) : TyX K H (.ref a) (.type "tuple") := by
  rcases h with (h | ⟨o, h⟩) | ⟨o, its, n, h, hc, _⟩
  · exact .base (.tup h)
  · exact .fTuple h
  · exact .kTuple h hc

/-! ### a cell of the script -/
def sp_l_cell (K : PySem.W.Frag) : Sp := fun vs H Q _ => ∃ (s : Addr) (ns : List Int) (k : Int), vs = [.ref s, .int k] ∧ SqL K H s (ns.map V.int) ∧ 0 ≤ k ∧ k ≤ 1000000 ∧ ∀ r, 0 ≤ r → Q (.int r) H
theorem ok_l_cell (T : Tx K mg A) : FnOk P w K mg base CX0 1 A.f_l_cell A.fd_l_cell ["_law_script", "_law_k"] (sp_l_cell K) := by
  refine T.F_l_cell.ok sc_l_cell (fun vs H Q E h => ?_) (fun cdv Ar outer s H vs Q E hr h => ?_)
  · obtain ⟨s, ns, k, rfl, _⟩ := h
    rfl
  · obtain ⟨s, ns, k, rfl, hS, h0, h1, q⟩ := h
    refine ⟨_, (pss_cons (ps_if (pt_cmpR op_eq (pe_callB call_len_seq (by rfl) T.m_len (by decide +kernel) (pa_cons (pv 0) pa_nil)) pe_int (nomark _))
      (pss_one (ps_ret (pe_op op_add (pe_op op_mul pe_int (pv 1)) pe_int)))
      pss_nil)
    (pss_one (ps_ret (pe_callB call_abs (by rfl) T.m_abs (by decide +kernel) (pa_cons (pe_ix ix_list (pv 0) (pe_op op_mod (pv 1) (pe_callB call_len_seq (by rfl) T.m_len (by decide +kernel) (pa_cons (pv 0) pa_nil))) (fun _ _ => rfl)) pa_nil))))), ?_⟩
    refine ⟨.ref s, rfl, s, ns.map V.int, rfl, .inl hS, rfl, _, rfl, ite2 (fun e => ?_) (fun e => ?_)⟩
    · exact ⟨_, rfl, 7, k, rfl, rfl, .inl (by decide), _, _, rfl, rfl, q _ (by omega)⟩
    · have hl : ns.length ≠ 0 := fun z => e (decide_eq_true (by rw [List.length_map, z]; rfl))
      have hp : (0 : Int) < ((ns.map V.int).length : Int) := by
        rw [List.length_map]
        omega
      have hm0 : 0 ≤ k % ((ns.map V.int).length : Int) := Int.emod_nonneg _ (by omega)
      have hm1 : k % ((ns.map V.int).length : Int) < ((ns.map V.int).length : Int) := Int.emod_lt_of_pos _ hp
      obtain ⟨j, hj⟩ : ∃ j : Nat, (j : Int) = k % ((ns.map V.int).length : Int) := ⟨_, Int.toNat_of_nonneg hm0⟩
      have hj2 : j < ns.length := by
        rw [List.length_map] at hj hm1
        omega
      have ha : atI (ns.map V.int) (k % ((ns.map V.int).length : Int)) = some (.int ns[j]) := by
        rw [← hj]
        exact atI_nat (by rw [List.getElem?_map, List.getElem?_eq_getElem hj2]; rfl)
      exact ⟨_, rfl, _, rfl, _, rfl, s, _, rfl, .inl hS, k, _, rfl, rfl, hp, s, _, _, _, rfl, rfl, hS, ha, _, rfl, q _ (abs_nn _)⟩
theorem mixed_bound {r k : Int} (h0 : 0 ≤ r) (h1 : r < 1000003) (k0 : 0 ≤ k) (k1 : k ≤ 1000000) : ((r + 5) * (k + 2) + 7919 * k).natAbs < 2 ^ 64 := by
  have e1 : (r + 5) * (k + 2) ≤ 1000008 * 1000002 := Int.mul_le_mul (by omega) (by omega) (by omega) (by omega)
  have e0 : 0 ≤ (r + 5) * (k + 2) := Int.mul_nonneg (by omega) (by omega)
  omega
/-! ### the deck is made: of a copy of the script, which is never changed again -/
def tFreeze (te : TE) : TE := fun σ H Q => te σ H fun v H1 => ∃ (a : Addr) (xs : List V), v = .ref a ∧ H1 a = some (.lst xs) ∧ ∀ o, Q (.ref a) (upd H1 a (.frz o (.lst xs)))
theorem pe_freeze {X : Cx} {e : Expr} {te : TE} (h : PE X e te) : PE X e (tFreeze te) := ⟨fun pins s σ H Q I q => thn (h.run pins s σ H _ I q) fun v s1 ⟨x, H1, I1, rx, a, xs, ex, ha, qa⟩ => by
  obtain ⟨o, I2⟩ := I1.lock ha (by first | trivial | exact .lst _ | simp [Mut])
  subst ex
  exact ⟨.ref a, _, I2, rx, qa o⟩⟩
theorem cut63 (ns : List Int) : ∃ ms : List Int, cutV (ns.map V.int) none (some 63) = ms.map V.int ∧ ms.length ≤ ns.length := by
  refine ⟨ns.take (HT.sIx (ns.map V.int).length (ns.map V.int).length (some 63)), ?_, by rw [List.length_take]; omega⟩
  unfold cutV
  rw [HT.sIx_none, List.drop_zero, Nat.sub_zero, List.map_take]
def sp_l_deck (K : PySem.W.Frag) : Sp := fun vs H Q _ => ∃ (s : Addr) (ns : List Int), vs = [.ref s] ∧ Sc K H s ns ∧ ns.length ≤ 63 ∧ ∀ H' d b, H d = none → H b = none → Deck K H' d b 0 → Same H H' → Q (.ref d) H'
theorem ok_l_deck (T : Tx K mg A) : FnOk P w K mg base CX0 1 A.f_l_deck A.fd_l_deck ["_law_script"] (sp_l_deck K) := by
  refine T.F_l_deck.ok sc_l_deck (fun vs H Q E h => ?_) (fun cdv Ar outer s H vs Q E hr h => ?_)
  · obtain ⟨s, ns, rfl, _⟩ := h
    rfl
  · obtain ⟨s0, ns0, rfl, hS0, hlen0, q0⟩ := h
    refine ⟨_, (pss_cons (ps_set (i := 1) sc_l_deck.nd rfl (.inl rfl) (pe_freeze (pe_callTy call_list_of (by rfl) T.m_list (by decide +kernel) (pa_cons (pe_slice sl_list (pv 0) po_none (po_some pe_int)) pa_nil))))
    (pss_one (ps_ret (pe_lst (pa_cons (pv 1) (pa_cons (pe_lc (own := [("_law_cell_here", 2)]) rfl sc_l_deck.nd (pi_list (pv 1)) (blkOk_by (own := [("_law_cell_here", 2)]) (N := ["_law_script", "_law_cells", "_law_cell_here"]) (sc := defScope s_l_deck) (by decide +kernel)) (fun _ _ _ _ _ => (pg_name (i := 2) sc_l_deck.nd rfl (Or.inl rfl))) (fun _ _ _ _ _ => (pts_one (pt_cmpR op_ge (pe_callB call_abs (by rfl) T.m_abs (by decide +kernel) (pa_cons (pv 2) pa_nil)) (pe_op op_pow pe_int pe_int) (nomark _)))) (fun _ _ _ _ _ => (pe_callB call_abs (by rfl) T.m_abs (by decide +kernel) (pa_cons (pv 2) pa_nil)))) (pa_cons pe_int (pa_cons pe_int pa_nil)))))))), ?_⟩
    obtain ⟨ns, ems, hms⟩ := cut63 ns0
    refine ⟨_, rfl, 63, rfl, s0, _, rfl, hS0.seq, fun p1 hp1 => ?_⟩
    generalize hG1 : upd _ p1 _ = G1
    obtain ⟨s1, e1⟩ := alloc hG1 hp1
    refine ⟨p1, _, rfl, .inl (SqL.of e1), fun s hp2 => ?_⟩
    generalize hG2 : upd _ s _ = G2
    obtain ⟨s2, e2⟩ := alloc hG2 hp2
    refine ⟨s, _, rfl, e2, fun o => ?_⟩
    have hs0 : H s = none := (s1.free hp2)
    have e3 : upd G2 s (.frz o (.lst (cutV (ns0.map V.int) none (some 63)))) = upd G1 s (.frz o (.lst (cutV (ns0.map V.int) none (some 63)))) := by
      rw [← hG2]
      funext x
      by_cases hx : x = s
      · subst hx; rw [upd_same, upd_same]
      · rw [upd_ne hx, upd_ne hx, upd_ne hx]
    have sm0 : Same H (upd G2 s (.frz o (.lst (cutV (ns0.map V.int) none (some 63))))) := by
      rw [e3]
      exact s1.trans (same_upd hp2)
    have hS : Sc K (upd G2 s (.frz o (.lst (cutV (ns0.map V.int) none (some 63))))) s ns := .inl ⟨o, by rw [upd_same, ems]⟩
    have hlen : ns.length ≤ 63 := by omega
    generalize upd G2 s (.frz o (.lst (cutV (ns0.map V.int) none (some 63)))) = H1 at sm0 hS
    have q : ∀ H' d b, H1 d = none → H1 b = none → Deck K H' d b 0 → Same H1 H' → Q (.ref d) H' := fun H' d b hd hb D sm => q0 H' d b (sm0.free hd) (sm0.free hb) D (sm0.trans sm)
    clear q0
    refine ⟨_, rfl, _, rfl, s, rfl, ⟨_, hS.seq⟩, fun D hD => lc_list (K := K) (a := s) (xs := ns.map V.int) (fun i H' => ∃ cs : List Int, Same H1 H' ∧ Sc K H' s ns ∧ H' D = some (.lst (cs.map V.int)) ∧ cs.length ≤ i) ?_ ?_ ?_ ?_⟩
    · exact ⟨[], same_upd hD, hS.upd (.inl hD), upd_same, Nat.le_refl _⟩
    · rintro i H' _ ⟨cs, _, h, _⟩
      exact h.seq
    · rintro i x H' hx ⟨cs, sm, hs, hd, hc⟩
      obtain ⟨n, rfl⟩ : ∃ n : Int, x = .int n := by
        rw [List.getElem?_map] at hx
        cases e : ns[i]? with
        | none => rw [e] at hx; cases hx
        | some n => rw [e] at hx; exact ⟨n, (Option.some.inj hx).symm⟩
      have hi : i < ns.length := by
        have := (List.getElem?_eq_some_iff.mp hx).1
        rw [List.length_map] at this
        exact this
      refine ⟨rfl, _, rfl, n, rfl, 10, 18, rfl, rfl, ⟨by decide, by decide, by decide⟩, _, _, rfl, rfl, _, rfl, ite2 (fun e => ?_) (fun e => ?_)⟩
      · refine ⟨_, rfl, n, rfl, cs.map V.int, hd, small1000 (by rw [List.length_map]; omega), cs ++ [(if n < 0 then -n else n)], ?_, ?_, ?_, ?_⟩
        · exact fun x o h => by
            rw [upd_ne (ne_of_none h hD)]
            exact sm _ _ h
        · exact hs.upd (.inr ⟨_, hd⟩)
        · rw [upd_same, List.map_append]
          rfl
        · rw [List.length_append]
          exact Nat.succ_le_succ hc
      · exact ⟨cs, sm, hs, hd, Nat.le_succ_of_le hc⟩
    · rintro H' ⟨cs, sm, hs, hd, hc⟩
      refine ⟨size63 (show 4 ≤ 1000 by decide), fun d hn => ?_⟩
      have ne : D ≠ d := ne_of_none hd hn
      refine q _ d D (sm.free hn) hD ⟨⟨s, ns, cs, 0, 0, upd_same, ?_, hs.upd (.inl hn), by omega, by omega, by omega⟩, ne⟩ (sm.trans (same_upd hn))
      rw [upd_ne ne]
      exact hd
/-! ### a number is taken -/
def sp_l_take (K : PySem.W.Frag) : Sp := fun vs H Q _ => ∃ (d b : Addr) (c m : Int), vs = [.ref d, .int m] ∧ Deck K H d b c ∧ c < 1000000 ∧ 0 < m ∧ m.natAbs.log2 < 9000 ∧ ∀ H' r, Deck K H' d b (c + 1) → Kp d b H H' → 0 ≤ r → r < m → Q (.int r) H'
theorem ok0_l_take (T : Tx K mg A) : FnOk P w K mg base CX0 2 A.f_l_take A.fd_l_take ["_law_deck_here", "_law_many"] (sp_l_take K) := by
  refine T.F_l_take.ok sc_l_take (fun vs H Q E h => ?_) (fun cdv Ar outer s H vs Q E hr h => ?_)
  · obtain ⟨d, b, c, m, rfl, _⟩ := h
    rfl
  · obtain ⟨d, b, c, m, rfl, ⟨⟨s, ns, cs, i0, k, hd, hb, hS, hi0, hk0, hk1⟩, ne⟩, hc, hm, hm2, q⟩ := h
    refine ⟨_, (pss_cons (ps_while PassesOwn.never (pt_cmpR op_lt (pe_ix ix_list (pv 0) pe_int (fun _ _ => rfl)) (pe_callB call_len_seq (by rfl) T.m_len (by decide +kernel) (pa_cons (pe_ix ix_list (pv 0) pe_int (fun _ _ => rfl)) pa_nil)) (nomark _))
      (pss_cons (ps_set (i := 2) sc_l_take.nd rfl (.inl rfl) (pe_ix ix_list (pe_ix ix_list (pv 0) pe_int (fun _ _ => rfl)) (pe_ix ix_list (pv 0) pe_int (fun _ _ => rfl)) (fun _ _ => rfl)))
    (pss_cons (ps_if (pt_cmpR op_gt (pv 2) pe_int (nomark _))
      (pss_cons (ps_asg (pe_op op_fdivW (pv 2) (pv 1)) (pg_sub (pe_ix ix_list (pv 0) pe_int (fun _ _ => rfl)) (pe_ix ix_list (pv 0) pe_int (fun _ _ => rfl)) set_list))
    (pss_one (ps_ret (pe_op op_mod (pv 2) (pv 1)))))
      pss_nil)
    (pss_one (ps_asg (pe_op op_add (pe_ix ix_list (pv 0) pe_int (fun _ _ => rfl)) pe_int) (pg_sub (pv 0) pe_int set_list))))))
    (pss_cons (ps_asg (pe_op op_add (pe_ix ix_list (pv 0) pe_int (fun _ _ => rfl)) pe_int) (pg_sub (pv 0) pe_int set_list))
    (pss_cons (ps_set (i := 3) sc_l_take.nd rfl (.inl rfl) (pe_op op_add (pe_op op_mul (pe_op op_add (pe_op op_mod (pe_call (ok_l_cell T) (hr.mono (by decide)) (by rfl) T.g_l_cell T.F_l_cell.kp T.b_l_cell .nil pass0 (pa_cons (pe_ix ix_list (pv 0) pe_int (fun _ _ => rfl)) (pa_cons (pe_ix ix_list (pv 0) pe_int (fun _ _ => rfl)) pa_nil))) pe_int) pe_int) (pe_op op_add (pe_ix ix_list (pv 0) pe_int (fun _ _ => rfl)) pe_int)) (pe_op op_mul pe_int (pe_ix ix_list (pv 0) pe_int (fun _ _ => rfl)))))
    (pss_one (ps_ret (pe_op op_mod (pe_op op_fdivW (pe_op op_mod (pe_op op_pow (pv 3) pe_int) pe_int) pe_int) (pv 1))))))), ?_⟩
    refine ⟨fun n σ H' => ∃ (y : Option V) (i : Int), σ = [some (.ref d), some (.int m), y, none] ∧ 0 ≤ i ∧ n = cs.length - i.toNat ∧ H' d = some (.lst [.ref s, .ref b, .int i, .int k]) ∧ H' b = some (.lst (cs.map V.int)) ∧ Sc K H' s ns ∧ Kp d b H H', ⟨_, none, i0, rfl, hi0, rfl, hd, hb, hS, Kp.refl⟩, fun n σ H' hW => ?_⟩
    obtain ⟨y, i, rfl, hi, hn, hd', hb', hS', kp⟩ := hW
    refine ⟨_, rfl, d, _, 2, .int i, rfl, rfl, SqL.of hd', rfl, _, rfl, d, _, 1, .ref b, rfl, rfl, SqL.of hd', rfl, b, _, rfl, .inl (SqL.of hb'), i, _, rfl, rfl, _, rfl, ite2 (fun e => ?_) (fun e => ?_)⟩
    · -- a turn
      have hlt : i < ((cs.map V.int).length : Int) := of_decide_eq_true e
      rw [List.length_map] at hlt
      obtain ⟨j, rfl⟩ : ∃ j : Nat, i = (j : Int) := ⟨_, (Int.toNat_of_nonneg hi).symm⟩
      have hj : j < cs.length := by omega
      have ha : atI (cs.map V.int) (j : Int) = some (.int cs[j]) := atI_nat (by rw [List.getElem?_map, List.getElem?_eq_getElem hj]; rfl)
      refine ⟨fun σ' H'' => ∃ (y : Option V), σ' = [some (.ref d), some (.int m), y, none] ∧ H'' d = some (.lst [.ref s, .ref b, .int ((j : Int) + 1), .int k]) ∧ H'' b = some (.lst (cs.map V.int)) ∧ Sc K H'' s ns ∧ Kp d b H H'', ?_, ?_⟩
      · rintro σ' H'' ⟨y, e1, e2, e3, e4, e5⟩
        exact ⟨cs.length - ((j : Int) + 1).toNat, by omega, y, _, e1, by omega, rfl, e2, e3, e4, e5⟩
      · refine ⟨_, rfl, d, _, 1, .ref b, rfl, rfl, SqL.of hd', rfl, _, rfl, d, _, 2, .int (j : Int), rfl, rfl, SqL.of hd', rfl, b, _, (j : Int), .int cs[j], rfl, rfl, SqL.of hb', ha, ?_⟩
        refine ⟨_, rfl, cs[j], 0, rfl, rfl, _, rfl, ite2 (fun e2 => ?_) (fun e2 => ?_)⟩
        · -- the cell is drawn from
          refine ⟨_, rfl, _, rfl, cs[j], m, rfl, rfl, ⟨hm, hm2⟩, _, rfl, d, _, 1, .ref b, rfl, rfl, SqL.of hd', rfl, _, rfl, d, _, 2, .int (j : Int), rfl, rfl, SqL.of hd', rfl, b, _, (j : Int), j, rfl, rfl, hb', ?_, ?_⟩
          · exact ixN_nat (by rw [List.length_map]; exact hj)
          · refine ⟨_, rfl, _, rfl, cs[j], m, rfl, rfl, hm, ?_⟩
            refine q _ _ ⟨⟨s, ns, cs.set j (cs[j] / m), (j : Int), k, ?_, ?_, hS'.upd (.inr ⟨_, hb'⟩), by omega, hk0, by omega⟩, ne⟩ ?_ (Int.emod_nonneg _ (by omega)) (Int.emod_lt_of_pos _ hm)
            · rw [upd_ne (Ne.symm ne)]
              exact hd'
            · rw [upd_same, List.map_set]
            · intro x o h1 h2 h
              rw [upd_ne h2]
              exact kp x o h1 h2 h
        · -- the next cell
          refine ⟨_, rfl, d, _, 2, .int (j : Int), rfl, rfl, SqL.of hd', rfl, _, _, rfl, rfl, _, rfl, d, _, 2, 2, rfl, rfl, hd', rfl, ?_⟩
          refine ⟨_, rfl, ?_, ?_, hS'.upd (.inr ⟨_, hd'⟩), ?_⟩
          · rw [upd_same]; rfl
          · rw [upd_ne ne]; exact hb'
          · intro x o h1 h2 h
            rw [upd_ne h1]
            exact kp x o h1 h2 h
    · -- no cell is left
      refine ⟨_, rfl, d, _, 3, .int k, rfl, rfl, SqL.of hd', rfl, _, _, rfl, rfl, _, rfl, d, _, 3, 3, rfl, rfl, hd', rfl, ?_⟩
      have hd2 : (upd H' d (.lst ([V.ref s, V.ref b, V.int i, V.int k].set 3 (V.int (k + 1))))) d = some (.lst [.ref s, .ref b, .int i, .int (k + 1)]) := upd_same
      have hS2 : Sc K (upd H' d (.lst ([V.ref s, V.ref b, V.int i, V.int k].set 3 (V.int (k + 1))))) s ns := hS'.upd (.inr ⟨_, hd'⟩)
      refine ⟨_, rfl, d, _, 0, .ref s, rfl, rfl, SqL.of hd2, rfl, _, rfl, d, _, 3, .int (k + 1), rfl, rfl, SqL.of hd2, rfl, s, ns, k + 1, rfl, hS2.seq, by omega, by omega, fun r hr0 => ?_⟩
      have c0 : 0 ≤ r % 1000003 := Int.emod_nonneg _ (by decide)
      have c1 : r % 1000003 < 1000003 := Int.emod_lt_of_pos _ (by decide)
      refine ⟨r, 1000003, rfl, rfl, (show (0 : Int) < 1000003 by decide), _, _, rfl, rfl, _, rfl, d, _, 3, .int (k + 1), rfl, rfl, SqL.of hd2, rfl, _, _, rfl, rfl, _, _, rfl, rfl, ?_, _, rfl, d, _, 3, .int (k + 1), rfl, rfl, SqL.of hd2, rfl, _, _, rfl, rfl, .inl (by decide), _, _, rfl, rfl, ?_⟩
      · exact .inl ⟨by omega, by omega⟩
      refine ⟨_, rfl, _, _, rfl, rfl, ⟨by decide, by decide, mixed_bound c0 c1 (by omega) (by omega)⟩, _, _, rfl, rfl, (show (0 : Int) < 2147483647 by decide), _, _, rfl, rfl, ⟨by decide, by decide⟩, _, rfl, _, _, rfl, rfl, hm, ?_⟩
      refine q _ _ ⟨⟨s, ns, cs, i, k + 1, hd2, ?_, hS2, hi, by omega, by omega⟩, ne⟩ ?_ (Int.emod_nonneg _ (by omega)) (Int.emod_lt_of_pos _ hm)
      · rw [upd_ne ne]; exact hb'
      · intro x o h1 h2 h
        rw [upd_ne h1]
        exact kp x o h1 h2 h

/-! ### divisors -/
def gcdI (a b : Int) : Int := ((Nat.gcd a.natAbs b.natAbs : Nat) : Int)
/-- a share's two numbers -/
def IsSh (t u : Int) : Prop := 1 ≤ u ∧ gcdI t u = 1
instance (t u : Int) : Decidable (IsSh t u) := inferInstanceAs (Decidable (_ ∧ _))
theorem gcdI_nn (a b : Int) : 0 ≤ gcdI a b := Int.natCast_nonneg _
theorem gcdI_pos {a b : Int} (h : b ≠ 0) : 0 < gcdI a b := by
  have : 0 < Nat.gcd a.natAbs b.natAbs := Nat.gcd_pos_of_pos_right _ (by omega)
  unfold gcdI
  omega
theorem gcdI_neg_l (a b : Int) : gcdI (-a) b = gcdI a b := by
  unfold gcdI
  rw [Int.natAbs_neg]
theorem gcdI_neg_r (a b : Int) : gcdI a (-b) = gcdI a b := by
  unfold gcdI
  rw [Int.natAbs_neg]
theorem gcdI_dvd_l (a b : Int) : gcdI a b ∣ a := by
  unfold gcdI
  exact Int.ofNat_dvd_left.mpr (Nat.gcd_dvd_left _ _)
theorem gcdI_dvd_r (a b : Int) : gcdI a b ∣ b := by
  unfold gcdI
  exact Int.ofNat_dvd_left.mpr (Nat.gcd_dvd_right _ _)
/-- a share is told by what it is worth -/
theorem share_uniq {t u t' u' : Int} (h : IsSh t u) (h' : IsSh t' u') (e : t * u' = t' * u) : t = t' ∧ u = u' := by
  obtain ⟨u1, g1⟩ := h
  obtain ⟨u2, g2⟩ := h'
  have c1 : Nat.gcd t.natAbs u.natAbs = 1 := by unfold gcdI at g1; omega
  have c2 : Nat.gcd t'.natAbs u'.natAbs = 1 := by unfold gcdI at g2; omega
  have en : t.natAbs * u'.natAbs = t'.natAbs * u.natAbs := by
    rw [← Int.natAbs_mul, ← Int.natAbs_mul, e]
  have d1 : u.natAbs ∣ u'.natAbs := (Nat.Coprime.symm c1).dvd_of_dvd_mul_left (by rw [en]; exact Nat.dvd_mul_left _ _)
  have d2 : u'.natAbs ∣ u.natAbs := (Nat.Coprime.symm c2).dvd_of_dvd_mul_left (by rw [← en]; exact Nat.dvd_mul_left _ _)
  have eu : u = u' := by
    have := Nat.dvd_antisymm d1 d2
    omega
  subst eu
  exact ⟨Int.eq_of_mul_eq_mul_right (by omega) e, rfl⟩
theorem dvd_le_natAbs {g a : Int} (h : g ∣ a) (ha : a ≠ 0) : g.natAbs ≤ a.natAbs := Nat.le_of_dvd (by omega) (Int.natAbs_dvd_natAbs.mpr h)
theorem div_natAbs_le {a g : Int} (hg : 0 < g) (h : g ∣ a) : (a / g).natAbs ≤ a.natAbs := by
  obtain ⟨q, rfl⟩ := h
  rw [Int.mul_ediv_cancel_left _ (by omega), Int.natAbs_mul]
  exact Nat.le_mul_of_pos_left _ (by omega)
/-- a over b (b above nought) in lowest terms -/
theorem low_is {a b : Int} (hb : 0 < b) : IsSh (a / gcdI a b) (b / gcdI a b) ∧ (a / gcdI a b) * b = (b / gcdI a b) * a ∧ (a / gcdI a b).natAbs ≤ a.natAbs ∧ (b / gcdI a b).natAbs ≤ b.natAbs := by
  have hg : 0 < gcdI a b := gcdI_pos (by omega)
  have d1 := gcdI_dvd_l a b
  have d2 := gcdI_dvd_r a b
  refine ⟨⟨?_, ?_⟩, ?_, div_natAbs_le hg d1, div_natAbs_le hg d2⟩
  · have : 0 < b / gcdI a b := Int.ediv_pos_of_pos_of_dvd hb (by omega) d2
    omega
  · unfold gcdI at hg d1 d2 ⊢
    have e1 : (a / ((Nat.gcd a.natAbs b.natAbs : Nat) : Int)).natAbs = a.natAbs / Nat.gcd a.natAbs b.natAbs := by
      rw [Int.natAbs_ediv_of_dvd d1]
      rfl
    have e2 : (b / ((Nat.gcd a.natAbs b.natAbs : Nat) : Int)).natAbs = b.natAbs / Nat.gcd a.natAbs b.natAbs := by
      rw [Int.natAbs_ediv_of_dvd d2]
      rfl
    rw [e1, e2, Nat.gcd_div_gcd_div_gcd_of_pos_right (by omega)]
    rfl
  · obtain ⟨x, hx⟩ := d1
    obtain ⟨y, hy⟩ := d2
    have q1 : a / gcdI a b = x := (Int.eq_ediv_of_mul_eq_right (by omega) hx.symm).symm
    have q2 : b / gcdI a b = y := (Int.eq_ediv_of_mul_eq_right (by omega) hy.symm).symm
    rw [q1, q2]
    conv => lhs; rw [hy]
    conv => rhs; rw [hx]
    rw [Int.mul_left_comm, Int.mul_left_comm y, Int.mul_comm x y]
theorem log_le {m n k : Nat} (h : m ≤ n) (hn : n < 2 ^ k) (h0 : 0 < k) : m.log2 < k := log2_lt (Nat.lt_of_le_of_lt h hn) h0
/-! ### the law's gcd -/

/-! ### the law's own share -/
def Bd (n : Nat) (x : Int) : Prop := x.natAbs < 2 ^ n
theorem Bd.le {n m : Nat} {x : Int} (h : Bd n x) (l : n ≤ m) : Bd m x := Nat.lt_of_lt_of_le h (Nat.pow_le_pow_right (by decide) l)
theorem Bd.mul {n m : Nat} {x y : Int} (h : Bd n x) (g : Bd m y) : Bd (n + m) (x * y) := wide_lt h g
theorem Bd.of_le {n : Nat} {x y : Int} (h : Bd n x) (l : y.natAbs ≤ x.natAbs) : Bd n y := Nat.lt_of_le_of_lt l h
theorem Bd.neg {n : Nat} {x : Int} (h : Bd n x) : Bd n (-x) := by
  unfold Bd
  rw [Int.natAbs_neg]
  exact h
theorem Bd.add {n : Nat} {x y : Int} (h : Bd n x) (g : Bd n y) : Bd (n + 1) (x + y) := by
  unfold Bd at *
  rw [Nat.pow_succ]
  omega
theorem Bd.mulW {n m : Nat} {x y : Int} (h : Bd n x) (g : Bd m y) (hn : n ≤ 400000) (hm : m ≤ 400000) : CMulW x y := wide_mul (a := n + 1) (b := m + 1) (h.le (Nat.le_succ _)) (g.le (Nat.le_succ _)) (by omega) (by omega) (by omega)
theorem Bd.divW {n : Nat} {x y : Int} (h : Bd n y) (h0 : 0 < y) (hn : n < 9000) : CDivW x y := wide_div (b := n + 1) h0 (h.le (Nat.le_succ _)) (by omega) (by omega)
theorem gcdI_bd {n : Nat} {a b : Int} (h : Bd n b) (hb : b ≠ 0) : Bd n (gcdI a b) := h.of_le (by
  unfold gcdI
  exact Nat.le_of_dvd (by omega) (Nat.gcd_dvd_right _ _))

/-! ### fractions -/
theorem isSh_q (q : Rat) : IsSh q.num q.den := by
  refine ⟨by have := q.den_pos; omega, ?_⟩
  unfold gcdI
  rw [Int.natAbs_natCast]
  exact congrArg Int.ofNat q.reduced
theorem divInt_cross {a b : Int} (hb : b ≠ 0) : a * ((Rat.divInt a b).den : Int) = (Rat.divInt a b).num * b := by
  have h : Rat.divInt a b = Rat.divInt (Rat.divInt a b).num ((Rat.divInt a b).den : Int) := (Rat.num_divInt_den _).symm
  exact (Rat.divInt_eq_divInt_iff hb (by have := (Rat.divInt a b).den_pos; omega)).mp h
theorem rep_of {t u : Int} {q : Rat} (h : IsSh t u) (e : t * (q.den : Int) = q.num * u) : t = q.num ∧ u = (q.den : Int) := share_uniq h (isSh_q q) e
theorem rep_divInt {t u a b : Int} (h : IsSh t u) (hb : b ≠ 0) (e : t * b = u * a) : t = (Rat.divInt a b).num ∧ u = ((Rat.divInt a b).den : Int) := by
  have hu : u ≠ 0 := by have := h.1; omega
  have eq : Rat.divInt t u = Rat.divInt a b := (Rat.divInt_eq_divInt_iff hu hb).mpr (by rw [e, Int.mul_comm])
  rw [← eq]
  exact rep_of h (divInt_cross hu)
theorem low_bd {t u a b : Int} (h : IsSh t u) (hb : 0 < b) (e : t * b = u * a) : t.natAbs ≤ a.natAbs ∧ u.natAbs ≤ b.natAbs := by
  obtain ⟨h1, h2, h3, h4⟩ := low_is (a := a) (b := b) hb
  have hu : u ≠ 0 := by have := h.1; omega
  have e1 := rep_divInt h (by omega) e
  have e2 := rep_divInt h1 (by omega) h2
  rw [e1.1, e1.2, ← e2.1, ← e2.2]
  exact ⟨h3, h4⟩
def BdQ (n : Nat) (q : Rat) : Prop := Bd n q.num ∧ Bd n (q.den : Int)
theorem BdQ.le {n m : Nat} {q : Rat} (h : BdQ n q) (l : n ≤ m) : BdQ m q := ⟨h.1.le l, h.2.le l⟩
theorem divInt_bd {a b : Int} {n : Nat} (hb : 0 < b) (ha : Bd n a) (hn : Bd n b) : BdQ n (Rat.divInt a b) := by
  have h := low_bd (isSh_q (Rat.divInt a b)) hb (by rw [← divInt_cross (by omega), Int.mul_comm])
  exact ⟨ha.of_le h.1, hn.of_le h.2⟩
theorem den_pos (q : Rat) : (0 : Int) < (q.den : Int) := by have := q.den_pos; omega
theorem add_divInt (p q : Rat) : p + q = Rat.divInt (p.num * q.den + q.num * p.den) (p.den * q.den) := by
  have h := Rat.divInt_add_divInt p.num q.num (d₁ := p.den) (d₂ := q.den) (by have := den_pos p; omega) (by have := den_pos q; omega)
  rw [Rat.num_divInt_den, Rat.num_divInt_den] at h
  exact h
theorem mul_divInt (p q : Rat) : p * q = Rat.divInt (p.num * q.num) (p.den * q.den) := by
  have h := Rat.divInt_mul_divInt p.num q.num (d₁ := p.den) (d₂ := q.den)
  rw [Rat.num_divInt_den, Rat.num_divInt_den] at h
  exact h
theorem BdQ.add {n m : Nat} {p q : Rat} (h : BdQ n p) (g : BdQ m q) : BdQ (n + m + 1) (p + q) := by
  rw [add_divInt]
  refine divInt_bd (Int.mul_pos (den_pos p) (den_pos q)) ?_ ((h.2.mul g.2).le (Nat.le_succ _))
  exact (h.1.mul g.2).add ((g.1.mul h.2).le (by omega))
theorem BdQ.mul {n m : Nat} {p q : Rat} (h : BdQ n p) (g : BdQ m q) : BdQ (n + m) (p * q) := by
  rw [mul_divInt]
  exact divInt_bd (Int.mul_pos (den_pos p) (den_pos q)) (h.1.mul g.1) (h.2.mul g.2)
theorem BdQ.neg {n : Nat} {q : Rat} (h : BdQ n q) : BdQ n (-q) := by
  refine ⟨?_, h.2⟩
  rw [Rat.neg_num]
  exact h.1.neg
theorem BdQ.sub {n m : Nat} {p q : Rat} (h : BdQ n p) (g : BdQ m q) : BdQ (n + m + 1) (p - q) := by
  rw [Rat.sub_eq_add_neg]
  exact h.add g.neg
theorem neg_num (q : Rat) : (-q).num = -q.num := Rat.neg_num q
theorem neg_den (q : Rat) : (-q).den = q.den := rfl
/-- one over a fraction -/
theorem inv_rep {q : Rat} (h : 0 < q.num) : (q⁻¹).num = q.den ∧ ((q⁻¹).den : Int) = q.num := by
  have hs := isSh_q q
  have e := rep_divInt (t := (q.den : Int)) (u := q.num) (a := (q.den : Int)) (b := q.num) ⟨by omega, by
    have := hs.2
    unfold gcdI at this ⊢
    rw [Nat.gcd_comm]
    exact this⟩ (by omega) (Int.mul_comm _ _)
  rw [Rat.inv_def]
  exact ⟨e.1.symm, e.2.symm⟩
theorem inv_rep_neg {q : Rat} (h : q.num < 0) : (q⁻¹).num = -(q.den : Int) ∧ ((q⁻¹).den : Int) = -q.num := by
  have hs := isSh_q q
  have e := rep_divInt (t := -(q.den : Int)) (u := -q.num) (a := (q.den : Int)) (b := q.num) ⟨by omega, by
    rw [gcdI_neg_l, gcdI_neg_r]
    have := hs.2
    unfold gcdI at this ⊢
    rw [Nat.gcd_comm]
    exact this⟩ (by omega) (by rw [Int.neg_mul, Int.neg_mul, Int.mul_comm])
  rw [Rat.inv_def]
  exact ⟨e.1.symm, e.2.symm⟩
/-! ### divisors, further -/
theorem cop_iff {a b : Int} : gcdI a b = 1 ↔ ∀ k : Nat, (k : Int) ∣ a → (k : Int) ∣ b → k = 1 := by
  constructor
  · intro h k h1 h2
    have h3 : k ∣ Nat.gcd a.natAbs b.natAbs := Nat.dvd_gcd (Int.ofNat_dvd_left.mp h1) (Int.ofNat_dvd_left.mp h2)
    have h4 : Nat.gcd a.natAbs b.natAbs = 1 := by unfold gcdI at h; omega
    rw [h4] at h3
    exact Nat.dvd_one.mp h3
  · intro h
    have := h (Nat.gcd a.natAbs b.natAbs) (gcdI_dvd_l a b) (gcdI_dvd_r a b)
    unfold gcdI
    rw [this]
    rfl
theorem cop_comm {a b : Int} (h : gcdI a b = 1) : gcdI b a = 1 := cop_iff.mpr fun k h1 h2 => cop_iff.mp h k h2 h1
theorem cop_dvd_l {a a' b : Int} (h : gcdI a b = 1) (d : a' ∣ a) : gcdI a' b = 1 := cop_iff.mpr fun k h1 h2 => cop_iff.mp h k (Int.dvd_trans h1 d) h2
theorem cop_dvd_r {a b b' : Int} (h : gcdI a b = 1) (d : b' ∣ b) : gcdI a b' = 1 := cop_iff.mpr fun k h1 h2 => cop_iff.mp h k h1 (Int.dvd_trans h2 d)
theorem cop_mul_r {a b c : Int} (h : gcdI a b = 1) (g : gcdI a c = 1) : gcdI a (b * c) = 1 := by
  unfold gcdI at *
  rw [Int.natAbs_mul]
  have h1 : Nat.Coprime a.natAbs b.natAbs := by unfold Nat.Coprime; omega
  have h2 : Nat.Coprime a.natAbs c.natAbs := by unfold Nat.Coprime; omega
  have h3 : Nat.Coprime a.natAbs (b.natAbs * c.natAbs) := Nat.Coprime.mul_right h1 h2
  unfold Nat.Coprime at h3
  omega
theorem cop_mul_l {a b c : Int} (h : gcdI a c = 1) (g : gcdI b c = 1) : gcdI (a * b) c = 1 := cop_comm (cop_mul_r (cop_comm h) (cop_comm g))
theorem cop_add {x y a : Int} (h : gcdI x a = 1) (d : a ∣ y) : gcdI (x + y) a = 1 := cop_iff.mpr fun k h1 h2 => cop_iff.mp h k ((Int.dvd_add_left (Int.dvd_trans h2 d)).mp h1) h2
theorem cop_div {a b : Int} (h : b ≠ 0) : gcdI (a / gcdI a b) (b / gcdI a b) = 1 := by
  rcases Int.lt_or_gt_of_ne h with h | h
  · have := (low_is (a := a) (b := -b) (by omega)).1.2
    rw [gcdI_neg_r, Int.neg_ediv_of_dvd (gcdI_dvd_r a b), gcdI_neg_r] at this
    exact this
  · exact (low_is h).1.2
theorem div_mul {g a : Int} (h : g ∣ a) : g * (a / g) = a := Int.mul_ediv_cancel' h
theorem div_dvd {g a : Int} (h : g ∣ a) : a / g ∣ a := ⟨g, by rw [Int.mul_comm]; exact (div_mul h).symm⟩
/-! ### sums and products of shares, as the program reckons them -/
theorem plus_one {t u t' u' : Int} (h : IsSh t u) (h' : IsSh t' u') (e : gcdI u u' = 1) : IsSh (t * u' + t' * u) (u * u') := by
  have hu : 0 < u * u' := Int.mul_pos (by have := h.1; omega) (by have := h'.1; omega)
  refine ⟨by omega, cop_mul_r ?_ ?_⟩
  · exact cop_add (cop_mul_l h.2 (cop_comm e)) (Int.dvd_mul_left ..)
  · rw [Int.add_comm]
    exact cop_add (cop_mul_l h'.2 e) (Int.dvd_mul_left ..)
theorem plus_two {t u t' u' d tot g : Int} (h : IsSh t u) (h' : IsSh t' u') (ed : gcdI u u' = d) (et : t * (u' / d) + t' * (u / d) = tot) (eg : gcdI tot d = g) :
    IsSh (tot / g) (u / d * (u' / g)) ∧ (tot / g) * (u * u') = (u / d * (u' / g)) * (t * u' + t' * u) := by
  have hu1 := h.1
  have hu2 := h'.1
  have d0 : 0 < d := by rw [← ed]; exact gcdI_pos (by omega)
  have g0 : 0 < g := by rw [← eg]; exact gcdI_pos (by omega)
  have da : d ∣ u := by rw [← ed]; exact gcdI_dvd_l _ _
  have db : d ∣ u' := by rw [← ed]; exact gcdI_dvd_r _ _
  have gt : g ∣ tot := by rw [← eg]; exact gcdI_dvd_l _ _
  have gd : g ∣ d := by rw [← eg]; exact gcdI_dvd_r _ _
  have hab : gcdI (u / d) (u' / d) = 1 := by rw [← ed]; exact cop_div (by omega)
  have hgd : gcdI (tot / g) (d / g) = 1 := by rw [← eg]; exact cop_div (by omega)
  obtain ⟨a, rfl⟩ := da
  obtain ⟨b, rfl⟩ := db
  obtain ⟨e, rfl⟩ := gd
  obtain ⟨f, rfl⟩ := gt
  have g1 : g ≠ 0 := by omega
  have d1 : g * e ≠ 0 := by omega
  rw [Int.mul_ediv_cancel_left _ d1] at et hab ⊢
  rw [Int.mul_ediv_cancel_left _ d1] at et hab
  rw [Int.mul_ediv_cancel_left _ g1] at hgd ⊢
  rw [Int.mul_ediv_cancel_left _ g1] at hgd
  have eb : g * e * b / g = e * b := by rw [Int.mul_assoc, Int.mul_ediv_cancel_left _ g1]
  rw [eb]
  have e0 : 0 < e := by
    rcases Int.lt_trichotomy e 0 with z | z | z
    · have := Int.mul_neg_of_pos_of_neg g0 z
      omega
    · rw [z] at d0; simp at d0
    · exact z
  have a0 : 0 < a := Int.pos_of_mul_pos_right (a := g * e) (by omega) d0
  have b0 : 0 < b := Int.pos_of_mul_pos_right (a := g * e) (by omega) d0
  have c1 : gcdI f a = 1 := by
    refine cop_dvd_l (a := g * f) ?_ (Int.dvd_mul_left ..)
    rw [← et]
    exact cop_add (cop_mul_l (cop_dvd_r h.2 (Int.dvd_mul_left ..)) (cop_comm hab)) (Int.dvd_mul_left ..)
  have c2 : gcdI f b = 1 := by
    refine cop_dvd_l (a := g * f) ?_ (Int.dvd_mul_left ..)
    rw [← et, Int.add_comm]
    exact cop_add (cop_mul_l (cop_dvd_r h'.2 (Int.dvd_mul_left ..)) hab) (Int.dvd_mul_left ..)
  refine ⟨⟨?_, cop_mul_r c1 (cop_mul_r hgd c2)⟩, ?_⟩
  · have := Int.mul_pos a0 (Int.mul_pos e0 b0)
    omega
  · have : a * (e * b) * (t * (g * e * b) + t' * (g * e * a)) = a * (e * b) * (g * e) * (t * b + t' * a) := by grind
    rw [this, et]
    grind
theorem times_one {t u t' u' d e : Int} (h : IsSh t u) (h' : IsSh t' u') (ed : gcdI t u' = d) (ee : gcdI t' u = e) :
    IsSh ((t / d) * (t' / e)) ((u / e) * (u' / d)) ∧ ((t / d) * (t' / e)) * (u * u') = ((u / e) * (u' / d)) * (t * t') := by
  have hu1 := h.1
  have hu2 := h'.1
  have d0 : 0 < d := by rw [← ed]; exact gcdI_pos (by omega)
  have e0 : 0 < e := by rw [← ee]; exact gcdI_pos (by omega)
  have d1 : d ∣ t := by rw [← ed]; exact gcdI_dvd_l _ _
  have d2 : d ∣ u' := by rw [← ed]; exact gcdI_dvd_r _ _
  have d3 : e ∣ t' := by rw [← ee]; exact gcdI_dvd_l _ _
  have d4 : e ∣ u := by rw [← ee]; exact gcdI_dvd_r _ _
  have c1 : gcdI (t / d) (u' / d) = 1 := by rw [← ed]; exact cop_div (by omega)
  have c2 : gcdI (t' / e) (u / e) = 1 := by rw [← ee]; exact cop_div (by omega)
  have c3 : gcdI (t / d) (u / e) = 1 := cop_dvd_l (cop_dvd_r h.2 (div_dvd d4)) (div_dvd d1)
  have c4 : gcdI (t' / e) (u' / d) = 1 := cop_dvd_l (cop_dvd_r h'.2 (div_dvd d2)) (div_dvd d3)
  refine ⟨⟨?_, cop_mul_l (cop_mul_r c3 c1) (cop_mul_r c2 c4)⟩, ?_⟩
  · have := Int.mul_pos (Int.ediv_pos_of_pos_of_dvd (show 0 < u by omega) (by omega) d4) (Int.ediv_pos_of_pos_of_dvd (show 0 < u' by omega) (by omega) d2)
    omega
  · have m1 := div_mul d1
    have m2 := div_mul d2
    have m3 := div_mul d3
    have m4 := div_mul d4
    generalize t / d = x at *
    generalize u' / d = y at *
    generalize t' / e = v at *
    generalize u / e = z at *
    subst m1 m2 m3 m4
    grind
theorem gcdI_bd2 {n : Nat} {p q : Int} (h : Bd n p) (g : Bd n q) (h0 : ¬ (p = 0 ∧ q = 0)) : Bd n (gcdI p q) := by
  by_cases hq : q = 0
  · have hp : p ≠ 0 := fun z => h0 ⟨z, hq⟩
    refine h.of_le ?_
    unfold gcdI
    exact Nat.le_of_dvd (by omega) (Nat.gcd_dvd_left _ _)
  · exact gcdI_bd g hq
theorem gcdI_comm (p q : Int) : gcdI p q = gcdI q p := by
  unfold gcdI
  rw [Nat.gcd_comm]
theorem gcdI_pos2 {p q : Int} (h0 : ¬ (p = 0 ∧ q = 0)) : 0 < gcdI p q := by
  by_cases hq : q = 0
  · rw [gcdI_comm]
    exact gcdI_pos fun z => h0 ⟨z, hq⟩
  · exact gcdI_pos hq
theorem cop_div2 {p q : Int} (h0 : ¬ (p = 0 ∧ q = 0)) : gcdI (p / gcdI p q) (q / gcdI p q) = 1 := by
  by_cases hq : q = 0
  · have hp : p ≠ 0 := fun z => h0 ⟨z, hq⟩
    rw [gcdI_comm p q]
    exact cop_comm (cop_div hp)
  · exact cop_div hq
/-- a fraction by what it is worth -/
theorem eq_divInt {q : Rat} {a b : Int} (hb : b ≠ 0) (h : q * (b : Rat) = (a : Rat)) : q = Rat.divInt a b := by
  rw [Rat.divInt_eq_div, ← h]
  have : (b : Rat) ≠ 0 := fun z => hb (by exact_mod_cast z)
  grind
theorem num_eq (x : Rat) : (x.num : Rat) = x * ((x.den : Int) : Rat) := by
  have h : (((x.den : Int)) : Rat) ≠ 0 := fun z => by
    have hp := den_pos x
    have : ((x.den : Int)) = 0 := by exact_mod_cast z
    omega
  have e := Rat.num_divInt_den x
  rw [Rat.divInt_eq_div] at e
  have e2 := Rat.div_mul_cancel (a := (x.num : Rat)) h
  rw [e] at e2
  exact e2.symm

end
/-! ### the mirror: things without a heap -/
inductive Ty where
  | non | bl | int | str | tup | lst | dic | verr
def Ty.nm : Ty → String
  | .non => "NoneType" | .bl => "bool" | .int => "int" | .str => "str" | .tup => "tuple" | .lst => "list" | .dic => "dict" | .verr => "ValueError"
inductive D where
  | non | bl (b : Bool) | int (i : Int) | str (x : Str) | ty (t : Ty) | cls (a : Addr) | tup (ds : List D) | lst (ds : List D) | dic (ks : List Key) (ds : List D) | ins (C : Addr) (ns : List Str) (ds : List D) | deck | xcp (a C : Addr) (d : Option Addr) (ns : List Str) (ds : List D)
/-- the world: the law's deck and its cells, lists that are being built -/
structure Wd where
  dk : Option (Addr × Addr)
  own : List (Addr × HO)
def Wd.rs (W : Wd) (a : Addr) : Prop := (∃ d b, W.dk = some (d, b) ∧ (a = d ∨ a = b)) ∨ a ∈ W.own.map (·.1)
def Mt : HO → Prop
  | .lst _ => True
  | .dK _ => True
  | _ => False
structure Wd.ok (K : PySem.W.Frag) (W : Wd) (n : Nat) (H : Hp) : Prop where
  deck : ∀ d b, W.dk = some (d, b) → ∃ c : Int, Deck K H d b c ∧ c + n ≤ 900000
  owns : ∀ p ∈ W.own, H p.1 = some p.2 ∧ Mt p.2
  dis : ∀ d b, W.dk = some (d, b) → ∀ p ∈ W.own, p.1 ≠ d ∧ p.1 ≠ b
def Wd.le (W : Wd) (H H' : Hp) : Prop := ∀ a o, ¬ W.rs a → H a = some o → H' a = some o
theorem Wd.le_refl {W : Wd} {H : Hp} : W.le H H := fun _ _ _ h => h
theorem Wd.le.trans {W : Wd} {H H1 H2 : Hp} (u : W.le H H1) (v : W.le H1 H2) : W.le H H2 := fun a o n h => v a o n (u a o n h)
theorem Wd.le_same {W : Wd} {H H' : Hp} (s : Same H H') : W.le H H' := fun a o _ h => s a o h
theorem Wd.ok.same {K : PySem.W.Frag} {W : Wd} {n : Nat} {H H' : Hp} (o : W.ok K n H) (s : Same H H') : W.ok K n H' :=
  ⟨fun d b e => let ⟨c, h, l⟩ := o.deck d b e; ⟨c, h.keep s, l⟩, fun p hp => ⟨s _ _ (o.owns p hp).1, (o.owns p hp).2⟩, o.dis⟩
theorem Wd.ok.le {K : PySem.W.Frag} {W : Wd} {n m : Nat} {H : Hp} (o : W.ok K n H) (l : m ≤ n) : W.ok K m H :=
  ⟨fun d b e => let ⟨c, h, l'⟩ := o.deck d b e; ⟨c, h, by omega⟩, o.owns, o.dis⟩
theorem Wd.ok.lst {K : PySem.W.Frag} {W : Wd} {n : Nat} {H : Hp} (o : W.ok K n H) {a : Addr} (r : W.rs a) : ∃ ob, H a = some ob ∧ Mt ob := by
  rcases r with ⟨d, b, e, h⟩ | h
  · obtain ⟨c, ⟨⟨s, ns, cs, i, k, h1, h2, _⟩, _⟩, _⟩ := o.deck d b e
    rcases h with rfl | rfl
    · exact ⟨_, h1, trivial⟩
    · exact ⟨_, h2, trivial⟩
  · obtain ⟨p, hp, rfl⟩ := List.mem_map.mp h
    exact ⟨_, o.owns p hp⟩
theorem Wd.ok.fresh {K : PySem.W.Frag} {W : Wd} {n : Nat} {H : Hp} (o : W.ok K n H) {a : Addr} (h : H a = none) : ¬ W.rs a := fun r => by
  obtain ⟨xs, e, _⟩ := o.lst r
  rw [e] at h
  cases h
mutual
inductive At (K : PySem.W.Frag) (W : Wd) (H : Hp) : V → D → Prop
  | non : At K W H .non .non
  | bl (b : Bool) : At K W H (.bl b) (.bl b)
  | int (i : Int) : At K W H (.int i) (.int i)
  | str (x : Str) : At K W H (.str x) (.str x)
  | ty (t : Ty) : At K W H (.ty t.nm) (.ty t)
  | cls (a : Addr) : At K W H (.ref a) (.cls a)
  | tup {a : Addr} {xs : List V} {ds : List D} : SqT K H a xs → AtAll K W H xs ds → At K W H (.ref a) (.tup ds)
  | lst {a : Addr} {xs : List V} {ds : List D} : ¬ W.rs a → H a = some (.lst xs) → AtAll K W H xs ds → At K W H (.ref a) (.lst ds)
  | dic {a : Addr} {ks : List Key} {xs : List V} {ds : List D} : ¬ W.rs a → H a = some (.dK (ks.zip xs)) → ks.length = xs.length → AtAll K W H xs ds → At K W H (.ref a) (.dic ks ds)
  | ins {a C dx : Addr} {ns : List Str} {xs : List V} {ds : List D} : H a = some (.ins C dx (ns.zip xs)) → ns.length = xs.length → AtAll K W H xs ds → At K W H (.ref a) (.ins C ns ds)
  | deck {d b : Addr} : W.dk = some (d, b) → At K W H (.ref d) .deck
  | xcp0 {a C : Addr} : At K W H (.ref a) (.xcp a C none [] [])
  | xcp1 {a C dx : Addr} {ns : List Str} {xs : List V} {ds : List D} : H dx = some (.xd (ns.zip xs)) → ns.length = xs.length → AtAll K W H xs ds → At K W H (.ref a) (.xcp a C (some dx) ns ds)
inductive AtAll (K : PySem.W.Frag) (W : Wd) (H : Hp) : List V → List D → Prop
  | nil : AtAll K W H [] []
  | cons {v : V} {vs : List V} {d : D} {ds : List D} : At K W H v d → AtAll K W H vs ds → AtAll K W H (v :: vs) (d :: ds)
end
section
variable {K : PySem.W.Frag} {W : Wd} {H H' : Hp}
def Wd.lk (W : Wd) (H : Hp) : Prop := ∀ a, W.rs a → ∀ o, H a = some o → Mt o
theorem Wd.ok.lk {n : Nat} (o : W.ok K n H) : W.lk H := fun a r ob e => by
  obtain ⟨xs, e', m⟩ := o.lst r
  rw [e'] at e
  cases e
  exact m
theorem sqt_lk {a : Addr} {xs : List V} (o : W.lk H) (l : W.le H H') (h : SqT K H a xs) : SqT K H' a xs := by
  rcases h with (h | ⟨ob, h⟩) | h
  · exact .inl (.inl (l _ _ (fun r => o _ r _ h) h))
  · exact .inl (.inr ⟨ob, l _ _ (fun r => o _ r _ h) h⟩)
  · exact .inr h
mutual
theorem At.lk (o : W.lk H) (l : W.le H H') : ∀ (d : D) {v : V}, At K W H v d → At K W H' v d
  | .non, _, h => by cases h; exact .non
  | .bl b, _, h => by cases h; exact .bl b
  | .int i, _, h => by cases h; exact .int i
  | .str x, _, h => by cases h; exact .str x
  | .ty t, _, h => by cases h; exact .ty t
  | .cls a, _, h => by cases h; exact .cls a
  | .tup ds, _, h => by
    cases h with
    | tup s a => exact .tup (sqt_lk o l s) (AtAll.lk o l ds a)
  | .lst ds, _, h => by
    cases h with
    | lst r s a => exact .lst r (l _ _ r s) (AtAll.lk o l ds a)
  | .dic ks ds, _, h => by
    cases h with
    | dic r s e a => exact .dic r (l _ _ r s) e (AtAll.lk o l ds a)
  | .ins C ns ds, _, h => by
    cases h with
    | ins s e a => exact .ins (l _ _ (fun r => o _ r _ s) s) e (AtAll.lk o l ds a)
  | .deck, _, h => by
    cases h with
    | deck e => exact .deck e
  | .xcp a C d ns ds, _, h => by
    cases h with
    | xcp0 => exact .xcp0
    | xcp1 s e b => exact .xcp1 (l _ _ (fun r => o _ r _ s) s) e (AtAll.lk o l _ b)
theorem AtAll.lk (o : W.lk H) (l : W.le H H') : ∀ (ds : List D) {vs : List V}, AtAll K W H vs ds → AtAll K W H' vs ds
  | [], _, h => by cases h; exact .nil
  | d :: ds, _, h => by
    cases h with
    | cons a r => exact .cons (At.lk o l d a) (AtAll.lk o l ds r)
end
theorem At.le {n : Nat} (o : W.ok K n H) (l : W.le H H') (d : D) {v : V} (h : At K W H v d) : At K W H' v d := At.lk o.lk l d h
theorem AtAll.le {n : Nat} (o : W.ok K n H) (l : W.le H H') (ds : List D) {vs : List V} (h : AtAll K W H vs ds) : AtAll K W H' vs ds := AtAll.lk o.lk l ds h
/-- one more list is being built -/
def Wd.add (W : Wd) (p : Addr × HO) : Wd := { W with own := p :: W.own }
mutual
/-- a world with more that is reserved, none of it there -/
theorem At.ext {W' : Wd} (hr : ∀ a, W'.rs a → ¬ W.rs a → H a = none) (hd : W'.dk = W.dk) : ∀ (d : D) {v : V}, At K W H v d → At K W' H v d
  | .non, _, h => by cases h; exact .non
  | .bl b, _, h => by cases h; exact .bl b
  | .int i, _, h => by cases h; exact .int i
  | .str x, _, h => by cases h; exact .str x
  | .ty t, _, h => by cases h; exact .ty t
  | .cls a, _, h => by cases h; exact .cls a
  | .tup ds, _, h => by
    cases h with
    | tup s a => exact .tup s (AtAll.ext hr hd ds a)
  | .lst ds, _, h => by
    cases h with
    | lst r s a => exact .lst (fun z => by rw [hr _ z r] at s; cases s) s (AtAll.ext hr hd ds a)
  | .dic ks ds, _, h => by
    cases h with
    | dic r s e a => exact .dic (fun z => by rw [hr _ z r] at s; cases s) s e (AtAll.ext hr hd ds a)
  | .ins C ns ds, _, h => by
    cases h with
    | ins s e a => exact .ins s e (AtAll.ext hr hd ds a)
  | .deck, _, h => by
    cases h with
    | deck e => exact .deck (hd.trans e)
  | .xcp a C d ns ds, _, h => by
    cases h with
    | xcp0 => exact .xcp0
    | xcp1 s e b => exact .xcp1 s e (AtAll.ext hr hd _ b)
theorem AtAll.ext {W' : Wd} (hr : ∀ a, W'.rs a → ¬ W.rs a → H a = none) (hd : W'.dk = W.dk) : ∀ (ds : List D) {vs : List V}, AtAll K W H vs ds → AtAll K W' H vs ds
  | [], _, h => by cases h; exact .nil
  | d :: ds, _, h => by
    cases h with
    | cons a r => exact .cons (At.ext hr hd d a) (AtAll.ext hr hd ds r)
end
mutual
/-- the worlds' reserved places alone count; fewer are less asked -/
theorem At.weak {W' : Wd} (hr : ∀ a, W'.rs a → W.rs a) (hd : W'.dk = W.dk) : ∀ (d : D) {v : V}, At K W H v d → At K W' H v d
  | .non, _, h => by cases h; exact .non
  | .bl b, _, h => by cases h; exact .bl b
  | .int i, _, h => by cases h; exact .int i
  | .str x, _, h => by cases h; exact .str x
  | .ty t, _, h => by cases h; exact .ty t
  | .cls a, _, h => by cases h; exact .cls a
  | .tup ds, _, h => by
    cases h with
    | tup s a => exact .tup s (AtAll.weak hr hd ds a)
  | .lst ds, _, h => by
    cases h with
    | lst r s a => exact .lst (fun z => r (hr _ z)) s (AtAll.weak hr hd ds a)
  | .dic ks ds, _, h => by
    cases h with
    | dic r s e a => exact .dic (fun z => r (hr _ z)) s e (AtAll.weak hr hd ds a)
  | .ins C ns ds, _, h => by
    cases h with
    | ins s e a => exact .ins s e (AtAll.weak hr hd ds a)
  | .deck, _, h => by
    cases h with
    | deck e => exact .deck (hd.trans e)
  | .xcp a C d ns ds, _, h => by
    cases h with
    | xcp0 => exact .xcp0
    | xcp1 s e b => exact .xcp1 s e (AtAll.weak hr hd _ b)
theorem AtAll.weak {W' : Wd} (hr : ∀ a, W'.rs a → W.rs a) (hd : W'.dk = W.dk) : ∀ (ds : List D) {vs : List V}, AtAll K W H vs ds → AtAll K W' H vs ds
  | [], _, h => by cases h; exact .nil
  | d :: ds, _, h => by
    cases h with
    | cons a r => exact .cons (At.weak hr hd d a) (AtAll.weak hr hd ds r)
end
theorem Wd.rs_add {q : Addr × HO} {a : Addr} (h : W.rs a) : (W.add q).rs a := by
  rcases h with h | h
  · exact .inl h
  · exact .inr (List.mem_cons_of_mem _ h)
theorem AtAll.length : ∀ {vs : List V} {ds : List D}, AtAll K W H vs ds → vs.length = ds.length
  | _, [], h => by cases h; rfl
  | _, d :: ds, h => by
    cases h with
    | cons a r => rw [List.length_cons, List.length_cons, AtAll.length r]
theorem AtAll.append : ∀ {vs us : List V} {ds es : List D}, AtAll K W H vs ds → AtAll K W H us es → AtAll K W H (vs ++ us) (ds ++ es)
  | _, _, [], _, h, g => by cases h; exact g
  | _, _, d :: ds, _, h, g => by
    cases h with
    | cons a r => exact .cons a (AtAll.append r g)
theorem AtAll.get : ∀ {vs : List V} {ds : List D} {i : Nat} {d : D}, AtAll K W H vs ds → ds[i]? = some d → ∃ v, vs[i]? = some v ∧ At K W H v d
  | _, [], _, _, h, e => by cases e
  | _, _ :: _, 0, _, h, e => by
    cases h with
    | cons a r => cases e; exact ⟨_, rfl, a⟩
  | _, _ :: ds, i + 1, _, h, e => by
    cases h with
    | cons a r => exact AtAll.get (i := i) r e
theorem AtAll.get' : ∀ {vs : List V} {ds : List D} {i : Nat} {v : V}, AtAll K W H vs ds → vs[i]? = some v → ∃ d, ds[i]? = some d ∧ At K W H v d
  | _, [], _, _, h, e => by cases h; cases e
  | _, _ :: _, 0, _, h, e => by
    cases h with
    | cons a r => cases e; exact ⟨_, rfl, a⟩
  | _, _ :: ds, i + 1, _, h, e => by
    cases h with
    | cons a r => exact AtAll.get' (i := i) r e
end
/-! ### environments and the judgement of expressions -/
abbrev Env' := List (Option D)
def eGet : Env' → Nat → Option D
  | [], _ => none
  | d :: _, 0 => d
  | _ :: r, i + 1 => eGet r i
def eSet : Env' → Nat → Option D → Env'
  | [], _, _ => []
  | _ :: r, 0, d => d :: r
  | x :: r, i + 1, d => x :: eSet r i d
theorem eSet_length : ∀ (ρ : Env') (i : Nat) (d : Option D), (eSet ρ i d).length = ρ.length
  | [], _, _ => rfl
  | _ :: _, 0, _ => rfl
  | x :: r, i + 1, d => by rw [eSet, List.length_cons, List.length_cons, eSet_length]
theorem eGet_set : ∀ {ρ : Env'} {i : Nat} {d : Option D} {e : D}, eGet (eSet ρ i d) i = some e → i < ρ.length ∧ d = some e
  | [], _, _, _, h => by cases h
  | _ :: _, 0, _, _, h => ⟨Nat.succ_pos _, h⟩
  | _ :: r, i + 1, _, _, h => let ⟨h1, h2⟩ := eGet_set (ρ := r) (i := i) h; ⟨Nat.succ_lt_succ h1, h2⟩
theorem eGet_ne : ∀ {ρ : Env'} {i j : Nat} {d : Option D}, i ≠ j → eGet (eSet ρ i d) j = eGet ρ j
  | [], _, _, _, _ => rfl
  | _ :: _, 0, 0, _, h => absurd rfl h
  | _ :: _, 0, _ + 1, _, _ => rfl
  | _ :: _, _ + 1, 0, _, _ => rfl
  | _ :: r, i + 1, j + 1, _, h => eGet_ne (ρ := r) (i := i) (j := j) fun z => h (by rw [z])
def EnvAt (K : PySem.W.Frag) (W : Wd) (H : Hp) (σ : L2.St) (ρ : Env') : Prop := σ.length = ρ.length ∧ ∀ (i : Nat) (d : D), eGet ρ i = some d → ∃ v, σ[i]? = some (some v) ∧ At K W H v d
theorem EnvAt.le {K : PySem.W.Frag} {W : Wd} {H H' : Hp} {n : Nat} {σ : L2.St} {ρ : Env'} (h : EnvAt K W H σ ρ) (o : W.ok K n H) (l : W.le H H') : EnvAt K W H' σ ρ :=
  ⟨h.1, fun i d e => let ⟨v, e', a⟩ := h.2 i d e; ⟨v, e', At.le o l d a⟩⟩
theorem EnvAt.set {K : PySem.W.Frag} {W : Wd} {H : Hp} {σ : L2.St} {ρ : Env'} {i : Nat} {v : V} {d : D} (h : EnvAt K W H σ ρ) (a : At K W H v d) : EnvAt K W H (σ.set i (some v)) (eSet ρ i (some d)) := by
  refine ⟨by rw [List.length_set, eSet_length]; exact h.1, fun j e he => ?_⟩
  by_cases hj : i = j
  · subst hj
    obtain ⟨hl, he⟩ := eGet_set he
    cases he
    exact ⟨v, by rw [List.getElem?_set_self (by rw [h.1]; exact hl)], a⟩
  · rw [eGet_ne hj] at he
    rw [List.getElem?_set_ne hj]
    exact h.2 j e he
/-- what is wanted of a value: any heap that has grown -/
def Wants (K : PySem.W.Frag) (W : Wd) (H : Hp) (Qa : D → Nat → Prop) (Q : VK) : Prop := ∀ d n', Qa d n' → ∀ H' v, W.le H H' → W.ok K n' H' → At K W H' v d → Q v H'
abbrev AE := Env' → Nat → (D → Nat → Prop) → Prop
class DE (K : PySem.W.Frag) (te : TE) (f : outParam AE) : Prop where
  run : ∀ (W : Wd) (σ : L2.St) (ρ : Env') (n : Nat) (H : Hp) (Q : VK) (Qa : D → Nat → Prop), Wants K W H Qa Q → EnvAt K W H σ ρ → W.ok K n H → f ρ n Qa → te σ H Q
abbrev AT := Env' → Nat → (Bool → Nat → Prop) → Prop
class DT (K : PySem.W.Frag) (te : TT) (f : outParam AT) : Prop where
  run : ∀ (W : Wd) (σ : L2.St) (ρ : Env') (n : Nat) (H : Hp) (Q : Bool → Hp → Prop) (Qa : Bool → Nat → Prop), (∀ b n', Qa b n' → ∀ H', W.le H H' → W.ok K n' H' → Q b H') → EnvAt K W H σ ρ → W.ok K n H → f ρ n Qa → te σ H Q
abbrev AA := Env' → Nat → (List D → Nat → Prop) → Prop
class DA (K : PySem.W.Frag) (te : TA) (f : outParam AA) : Prop where
  run : ∀ (W : Wd) (σ : L2.St) (ρ : Env') (n : Nat) (H : Hp) (Q : List V → Hp → Prop) (Qa : List D → Nat → Prop), (∀ ds n', Qa ds n' → ∀ H' vs, W.le H H' → W.ok K n' H' → AtAll K W H' vs ds → Q vs H') → EnvAt K W H σ ρ → W.ok K n H → f ρ n Qa → te σ H Q
/-- a choice whose side is not yet known -/
def aIte (b : Bool) (p q : Prop) : Prop := (b = true → p) ∧ (b = false → q)
theorem aT {p q : Prop} (h : p) : aIte true p q := ⟨fun _ => h, fun z => Bool.noConfusion z⟩
theorem aF {p q : Prop} (h : q) : aIte false p q := ⟨fun z => Bool.noConfusion z, fun _ => h⟩
section
variable {K : PySem.W.Frag}
/-- by values, one -/
class D1 (K : PySem.W.Frag) (r : V → Hp → VK → Prop) (f : outParam (D → Nat → (D → Nat → Prop) → Prop)) : Prop where
  run : ∀ (W : Wd) (n : Nat) (H : Hp) (x : V) (d : D) (Q : VK) (Qa : D → Nat → Prop), Wants K W H Qa Q → W.ok K n H → At K W H x d → f d n Qa → r x H Q
class D2 (K : PySem.W.Frag) (r : R2) (f : outParam (D → D → Nat → (D → Nat → Prop) → Prop)) : Prop where
  run : ∀ (W : Wd) (n : Nat) (H : Hp) (x y : V) (d e : D) (Q : VK) (Qa : D → Nat → Prop), Wants K W H Qa Q → W.ok K n H → At K W H x d → At K W H y e → f d e n Qa → r x y H Q
class DL (K : PySem.W.Frag) (r : List V → Hp → VK → Prop) (f : outParam (List D → Nat → (D → Nat → Prop) → Prop)) : Prop where
  run : ∀ (W : Wd) (n : Nat) (H : Hp) (xs : List V) (ds : List D) (Q : VK) (Qa : D → Nat → Prop), Wants K W H Qa Q → W.ok K n H → AtAll K W H xs ds → f ds n Qa → r xs H Q
theorem Wants.le {W : Wd} {H H1 : Hp} {Qa : D → Nat → Prop} {Q : VK} (h : Wants K W H Qa Q) (l : W.le H H1) : Wants K W H1 Qa Q := fun d n' q H' v l' o a => h d n' q H' v (l.trans l') o a
theorem Wants.now {W : Wd} {H : Hp} {Qa : D → Nat → Prop} {Q : VK} {n : Nat} {d : D} {v : V} (h : Wants K W H Qa Q) (o : W.ok K n H) (q : Qa d n) (a : At K W H v d) : Q v H := h d n q H v Wd.le_refl o a
/-- a new object -/
theorem Wants.new {W : Wd} {H : Hp} {Qa : D → Nat → Prop} {Q : VK} {n : Nat} {d : D} {p : Addr} {ob : HO} (h : Wants K W H Qa Q) (o : W.ok K n H) (q : Qa d n) (hp : H p = none) (a : At K W (upd H p ob) (.ref p) d) : Q (.ref p) (upd H p ob) :=
  h d n q _ _ (Wd.le_same (same_upd hp)) (o.same (same_upd hp)) a
/-! expressions -/
def aVar (i : Nat) : AE := fun ρ n Q => match eGet ρ i with
  | some d => Q d n
  | none => False
instance {i : Nat} : DE K (tVar i) (aVar i) := ⟨fun W σ ρ n H Q Qa hQ hE o h => by
  unfold aVar at h
  split at h
  · rename_i d e
    obtain ⟨v, e', a⟩ := hE.2 i d e
    exact ⟨v, e', hQ.now o h a⟩
  · exact h.elim⟩
def vD : V → Option D
  | .non => some .non | .bl b => some (.bl b) | .int i => some (.int i) | .str x => some (.str x)
  | _ => none
theorem vD_at {W : Wd} {H : Hp} {v : V} {d : D} (h : vD v = some d) : At K W H v d := by
  cases v <;> cases h
  · exact .non
  · exact .bl _
  · exact .int _
  · exact .str _
def aC (v : V) : AE := fun _ n Q => match vD v with
  | some d => Q d n
  | none => False
instance (priority := 100) {v : V} : DE K (tC v) (aC v) := ⟨fun W σ ρ n H Q Qa hQ hE o h => by
  unfold aC at h
  split at h
  · rename_i d e
    exact hQ.now o h (vD_at e)
  · exact h.elim⟩
def a1 (f : D → Nat → (D → Nat → Prop) → Prop) (fa : AE) : AE := fun ρ n Q => fa ρ n fun d n1 => f d n1 Q
def a2 (f : D → D → Nat → (D → Nat → Prop) → Prop) (fa fb : AE) : AE := fun ρ n Q => fa ρ n fun d n1 => fb ρ n1 fun e n2 => f d e n2 Q
instance {r : R2} {f : D → D → Nat → (D → Nat → Prop) → Prop} {ta tb : TE} {fa fb : AE} [D2 K r f] [DE K ta fa] [DE K tb fb] : DE K (tOp r ta tb) (a2 f fa fb) := ⟨fun W σ ρ n H Q Qa hQ hE o h =>
  DE.run (te := ta) (f := fa) W σ ρ n H _ _ (fun d n1 h1 H1 x l1 o1 ax => DE.run (te := tb) (f := fb) W σ ρ n1 H1 _ _ (fun e n2 h2 H2 y l2 o2 ay => D2.run (f := f) W n2 H2 x y d e Q Qa (hQ.le (l1.trans l2)) o2 (At.le o1 l2 d ax) ay h2) (hE.le o l1) o1 h1) hE o h⟩
instance {r : V → Hp → VK → Prop} {f : D → Nat → (D → Nat → Prop) → Prop} {ta : TE} {fa : AE} [D1 K r f] [DE K ta fa] : DE K (tUn r ta) (a1 f fa) := ⟨fun W σ ρ n H Q Qa hQ hE o h =>
  DE.run (te := ta) (f := fa) W σ ρ n H _ _ (fun d n1 h1 H1 x l1 o1 ax => D1.run (f := f) W n1 H1 x d Q Qa (hQ.le l1) o1 ax h1) hE o h⟩
def aInt2 (C : Int → Int → Prop) (g : Int → Int → V) : D → D → Nat → (D → Nat → Prop) → Prop
  | .int i, .int j, n, Q => C i j ∧ (match vD (g i j) with
    | some d => Q d n
    | none => False)
  | _, _, _, _ => False
def aInt0 (g : Int → Int → V) : D → D → Nat → (D → Nat → Prop) → Prop
  | .int i, .int j, n, Q => (match vD (g i j) with
    | some d => Q d n
    | none => False)
  | _, _, _, _ => False
instance {C : Int → Int → Prop} {g : Int → Int → V} : D2 K (rI C g) (aInt2 C g) := ⟨fun W n H x y d e Q Qa hQ o ax ay h => by
  unfold aInt2 at h
  split at h
  · obtain ⟨hc, h⟩ := h
    cases ax
    cases ay
    refine ⟨_, _, rfl, rfl, hc, ?_⟩
    split at h
    · rename_i d e
      exact hQ.now o h (vD_at e)
    · exact h.elim
  · exact h.elim⟩
instance {g : Int → Int → V} : D2 K (rI0 g) (aInt0 g) := ⟨fun W n H x y d e Q Qa hQ o ax ay h => by
  unfold aInt0 at h
  split at h
  · cases ax
    cases ay
    refine ⟨_, _, rfl, rfl, ?_⟩
    split at h
    · rename_i d e
      exact hQ.now o h (vD_at e)
    · exact h.elim
  · exact h.elim⟩
def aIntU (g : Int → V) : D → Nat → (D → Nat → Prop) → Prop
  | .int i, n, Q => (match vD (g i) with
    | some d => Q d n
    | none => False)
  | _, _, _ => False
instance {g : Int → V} : D1 K (rU g) (aIntU g) := ⟨fun W n H x d Q Qa hQ o ax h => by
  unfold aIntU at h
  split at h
  · cases ax
    refine ⟨_, rfl, ?_⟩
    split at h
    · rename_i d e
      exact hQ.now o h (vD_at e)
    · exact h.elim
  · exact h.elim⟩
/-! == of scalars -/
def eqS : D → D → Option Bool
  | .int i, .int j => some (decide (i = j)) | .bl i, .bl j => some (decide (i = j)) | .str i, .str j => some (decide (i = j)) | .non, .non => some true
  | .non, .int _ => some false | .int _, .non => some false | .non, .bl _ => some false | .bl _, .non => some false | .non, .str _ => some false | .str _, .non => some false
  | .int _, .str _ => some false | .str _, .int _ => some false | .bl _, .str _ => some false | .str _, .bl _ => some false
  | _, _ => none
def aEqS (f : Bool → Bool) : D → D → Nat → (D → Nat → Prop) → Prop := fun d e n Q => match eqS d e with
  | some b => Q (.bl (f b)) n
  | none => False
theorem eqS_is {W : Wd} {H : Hp} {x y : V} {d e : D} {b : Bool} (ax : At K W H x d) (ay : At K W H y e) (h : eqS d e = some b) : scal x y = true ∧ decide (x = y) = b := by
  cases ax <;> cases ay <;> first
    | cases h; done
    | (cases h; refine ⟨rfl, ?_⟩; first
        | rfl
        | (refine decide_eq_decide.mpr ⟨fun z => ?_, fun z => by rw [z]⟩; injection z))
instance : D2 K rEq (aEqS id) := ⟨fun W n H x y d e Q Qa hQ o ax ay h => by
  unfold aEqS at h
  split at h
  · rename_i b e
    obtain ⟨h1, h2⟩ := eqS_is ax ay e
    refine ⟨h1, ?_⟩
    rw [h2]
    exact hQ.now o h (.bl _)
  · exact h.elim⟩
instance : D2 K rNe (aEqS not) := ⟨fun W n H x y d e Q Qa hQ o ax ay h => by
  unfold aEqS at h
  split at h
  · rename_i b e
    obtain ⟨h1, h2⟩ := eqS_is ax ay e
    refine ⟨h1, ?_⟩
    rw [h2]
    exact hQ.now o h (.bl _)
  · exact h.elim⟩
/-! tests -/
def aTest (f : AE) : AT := fun ρ n Q => f ρ n fun d n1 => match d with
  | .bl b => Q b n1
  | _ => False
theorem aTest_run {te : TE} {f : AE} [DE K te f] (W : Wd) (σ : L2.St) (ρ : Env') (n : Nat) (H : Hp) (Q : Bool → Hp → Prop) (Qa : Bool → Nat → Prop) (hQ : ∀ b n', Qa b n' → ∀ H', W.le H H' → W.ok K n' H' → Q b H') (hE : EnvAt K W H σ ρ) (o : W.ok K n H) (h : aTest f ρ n Qa) :
    te σ H fun x H' => ∃ k, x = .bl k ∧ Q k H' :=
  DE.run (te := te) (f := f) W σ ρ n H _ _ (fun d n1 h1 H1 x l1 o1 ax => by
    split at h1
    · cases ax
      exact ⟨_, rfl, hQ _ _ h1 H1 l1 o1⟩
    · exact h1.elim) hE o h
instance {te : TE} {f : AE} [DE K te f] : DT K (tTest te) (aTest f) := ⟨aTest_run⟩
instance {te : TE} {f : AE} [DE K te f] : DT K (tB te) (aTest f) := ⟨aTest_run⟩
def aNotT (f : AT) : AT := fun ρ n Q => f ρ n fun b n1 => Q (!b) n1
instance {t : TT} {f : AT} [DT K t f] : DT K (tNot t) (aNotT f) := ⟨fun W σ ρ n H Q Qa hQ hE o h => DT.run (te := t) (f := f) W σ ρ n H _ _ (fun b n1 h1 H1 l1 o1 => hQ _ _ h1 H1 l1 o1) hE o h⟩
def aAndT (f g : AT) : AT := fun ρ n Q => f ρ n fun b n1 => aIte b (g ρ n1 Q) (Q false n1)
def aOrT (f g : AT) : AT := fun ρ n Q => f ρ n fun b n1 => aIte b (Q true n1) (g ρ n1 Q)
instance {t u : TT} {f g : AT} [DT K t f] [DT K u g] : DT K (tAnd t u) (aAndT f g) := ⟨fun W σ ρ n H Q Qa hQ hE o h =>
  DT.run (te := t) (f := f) W σ ρ n H _ _ (fun b n1 h1 H1 l1 o1 => by
    cases b with
    | true => rw [if_pos rfl]; exact DT.run (te := u) (f := g) W σ ρ n1 H1 Q Qa (fun b n2 h2 H2 l2 o2 => hQ _ _ h2 H2 (l1.trans l2) o2) (hE.le o l1) o1 (h1.1 rfl)
    | false => rw [if_neg Bool.false_ne_true]; exact hQ _ _ (h1.2 rfl) H1 l1 o1) hE o h⟩
instance {t u : TT} {f g : AT} [DT K t f] [DT K u g] : DT K (tOr t u) (aOrT f g) := ⟨fun W σ ρ n H Q Qa hQ hE o h =>
  DT.run (te := t) (f := f) W σ ρ n H _ _ (fun b n1 h1 H1 l1 o1 => by
    cases b with
    | false => rw [if_neg Bool.false_ne_true]; exact DT.run (te := u) (f := g) W σ ρ n1 H1 Q Qa (fun b n2 h2 H2 l2 o2 => hQ _ _ h2 H2 (l1.trans l2) o2) (hE.le o l1) o1 (h1.2 rfl)
    | true => rw [if_pos rfl]; exact hQ _ _ (h1.1 rfl) H1 l1 o1) hE o h⟩
def aYes : AT := fun _ n Q => Q true n
instance : DT K tYes aYes := ⟨fun W σ ρ n H Q Qa hQ hE o h => hQ _ _ h H Wd.le_refl o⟩
def aNotV (f : AE) : AE := fun ρ n Q => f ρ n fun d n1 => match d with
  | .bl b => Q (.bl (!b)) n1
  | _ => False
def aBits (f : AE) : AE := fun ρ n Q => f ρ n fun d n1 => match d with
  | .int i => Q (.int (Builtin.Int.intBits i : Nat)) n1
  | _ => False
def aAndV (f g : AE) : AE := fun ρ n Q => f ρ n fun d n1 => match d with
  | .bl b => aIte b (g ρ n1 Q) (Q (.bl false) n1)
  | _ => False
def aOrV (f g : AE) : AE := fun ρ n Q => f ρ n fun d n1 => match d with
  | .bl b => aIte b (Q (.bl true) n1) (g ρ n1 Q)
  | _ => False
instance {te : TE} {f : AE} [DE K te f] : DE K (tNotV te) (aNotV f) := ⟨fun W σ ρ n H Q Qa hQ hE o h =>
  DE.run (te := te) (f := f) W σ ρ n H _ _ (fun d n1 h1 H1 x l1 o1 ax => by
    split at h1
    · cases ax
      exact ⟨_, rfl, (hQ.le l1).now o1 h1 (.bl _)⟩
    · exact h1.elim) hE o h⟩
instance {te : TE} {f : AE} [DE K te f] : DE K (tBits te) (aBits f) := ⟨fun W σ ρ n H Q Qa hQ hE o h =>
  DE.run (te := te) (f := f) W σ ρ n H _ _ (fun d n1 h1 H1 x l1 o1 ax => by
    split at h1
    · cases ax
      exact ⟨_, rfl, (hQ.le l1).now o1 h1 (.int _)⟩
    · exact h1.elim) hE o h⟩
instance {te tu : TE} {f g : AE} [DE K te f] [DE K tu g] : DE K (tAndV te tu) (aAndV f g) := ⟨fun W σ ρ n H Q Qa hQ hE o h =>
  DE.run (te := te) (f := f) W σ ρ n H _ _ (fun d n1 h1 H1 x l1 o1 ax => by
    split at h1
    · rename_i b
      cases ax
      refine ⟨_, rfl, ?_⟩
      cases b with
      | true => rw [if_pos rfl]; exact DE.run (te := tu) (f := g) W σ ρ n1 H1 Q Qa (hQ.le l1) (hE.le o l1) o1 (h1.1 rfl)
      | false => rw [if_neg Bool.false_ne_true]; exact (hQ.le l1).now o1 (h1.2 rfl) (.bl _)
    · exact h1.elim) hE o h⟩
instance {te tu : TE} {f g : AE} [DE K te f] [DE K tu g] : DE K (tOrV te tu) (aOrV f g) := ⟨fun W σ ρ n H Q Qa hQ hE o h =>
  DE.run (te := te) (f := f) W σ ρ n H _ _ (fun d n1 h1 H1 x l1 o1 ax => by
    split at h1
    · rename_i b
      cases ax
      refine ⟨_, rfl, ?_⟩
      cases b with
      | false => rw [if_neg Bool.false_ne_true]; exact DE.run (te := tu) (f := g) W σ ρ n1 H1 Q Qa (hQ.le l1) (hE.le o l1) o1 (h1.2 rfl)
      | true => rw [if_pos rfl]; exact (hQ.le l1).now o1 (h1.1 rfl) (.bl _)
    · exact h1.elim) hE o h⟩
def aIfE (c : AT) (f g : AE) : AE := fun ρ n Q => c ρ n fun b n1 => aIte b (f ρ n1 Q) (g ρ n1 Q)
instance {tc : TT} {te tu : TE} {c : AT} {f g : AE} [DT K tc c] [DE K te f] [DE K tu g] : DE K (tIf tc te tu) (aIfE c f g) := ⟨fun W σ ρ n H Q Qa hQ hE o h =>
  DT.run (te := tc) (f := c) W σ ρ n H _ _ (fun b n1 h1 H1 l1 o1 => by
    cases b with
    | true => rw [if_pos rfl]; exact DE.run (te := te) (f := f) W σ ρ n1 H1 Q Qa (hQ.le l1) (hE.le o l1) o1 (h1.1 rfl)
    | false => rw [if_neg Bool.false_ne_true]; exact DE.run (te := tu) (f := g) W σ ρ n1 H1 Q Qa (hQ.le l1) (hE.le o l1) o1 (h1.2 rfl)) hE o h⟩
def aChain (f g : D → D → Nat → (D → Nat → Prop) → Prop) (fa fb fc : AE) : AE := fun ρ n Q => fa ρ n fun x n1 => fb ρ n1 fun y n2 => f x y n2 fun z n3 => match z with
  | .bl b => aIte b (fc ρ n3 fun w n4 => g y w n4 Q) (Q (.bl false) n3)
  | _ => False
instance {r r' : R2} {f g : D → D → Nat → (D → Nat → Prop) → Prop} {ta tb tc : TE} {fa fb fc : AE} [D2 K r f] [D2 K r' g] [DE K ta fa] [DE K tb fb] [DE K tc fc] : DE K (tChain r r' ta tb tc) (aChain f g fa fb fc) := ⟨fun W σ ρ n H Q Qa hQ hE o h =>
  DE.run (te := ta) (f := fa) W σ ρ n H _ _ (fun d n1 h1 H1 x l1 o1 ax => DE.run (te := tb) (f := fb) W σ ρ n1 H1 _ _ (fun e n2 h2 H2 y l2 o2 ay => D2.run (f := f) W n2 H2 x y d e _ _ (fun z n3 h3 H3 v l3 o3 az => by
    split at h3
    · rename_i b
      cases az
      refine ⟨_, rfl, ?_⟩
      have l13 := l1.trans (l2.trans l3)
      cases b with
      | true =>
        rw [if_pos rfl]
        exact DE.run (te := tc) (f := fc) W σ ρ n3 H3 _ _ (fun w n4 h4 H4 u l4 o4 au => D2.run (f := g) W n4 H4 y u e w Q Qa (hQ.le (l13.trans l4)) o4 (At.le o2 (l3.trans l4) e ay) au h4) (hE.le o l13) o3 (h3.1 rfl)
      | false => rw [if_neg Bool.false_ne_true]; exact (hQ.le l13).now o3 (h3.2 rfl) (.bl _)
    · exact h3.elim) o2 (At.le o1 l2 d ax) ay h2) (hE.le o l1) o1 h1) hE o h⟩
/-! argument lists, displays, calls -/
def aNil : AA := fun _ n Q => Q [] n
def aCons (f : AE) (g : AA) : AA := fun ρ n Q => f ρ n fun d n1 => g ρ n1 fun ds n2 => Q (d :: ds) n2
instance : DA K tNil aNil := ⟨fun W σ ρ n H Q Qa hQ hE o h => hQ _ _ h H _ Wd.le_refl o .nil⟩
instance {te : TE} {ta : TA} {f : AE} {g : AA} [DE K te f] [DA K ta g] : DA K (tCons te ta) (aCons f g) := ⟨fun W σ ρ n H Q Qa hQ hE o h =>
  DE.run (te := te) (f := f) W σ ρ n H _ _ (fun d n1 h1 H1 x l1 o1 ax => DA.run (te := ta) (f := g) W σ ρ n1 H1 _ _ (fun ds n2 h2 H2 xs l2 o2 axs => hQ _ _ h2 H2 _ (l1.trans l2) o2 (.cons (At.le o1 l2 d ax) axs)) (hE.le o l1) o1 h1) hE o h⟩
def aTup (g : AA) : AE := fun ρ n Q => g ρ n fun ds n1 => match Nat.ble ds.length 1000 with
  | true => Q (.tup ds) n1
  | false => False
def aLst (g : AA) : AE := fun ρ n Q => g ρ n fun ds n1 => match Nat.ble ds.length 1000 with
  | true => Q (.lst ds) n1
  | false => False
instance {ta : TA} {g : AA} [DA K ta g] : DE K (tTup ta) (aTup g) := ⟨fun W σ ρ n H Q Qa hQ hE o h =>
  DA.run (te := ta) (f := g) W σ ρ n H _ _ (fun ds n1 h1 H1 xs l1 o1 ax => by
    split at h1
    · rename_i e
      refine ⟨size63 (by rw [ax.length]; exact Nat.le_of_ble_eq_true e), fun p hp => (hQ.le l1).new o1 h1 hp ?_⟩
      exact .tup (.inl (.inl upd_same)) (AtAll.le o1 (Wd.le_same (same_upd hp)) ds ax)
    · exact h1.elim) hE o h⟩
instance {ta : TA} {g : AA} [DA K ta g] : DE K (tLst ta) (aLst g) := ⟨fun W σ ρ n H Q Qa hQ hE o h =>
  DA.run (te := ta) (f := g) W σ ρ n H _ _ (fun ds n1 h1 H1 xs l1 o1 ax => by
    split at h1
    · rename_i e
      refine ⟨size63 (by rw [ax.length]; exact Nat.le_of_ble_eq_true e), fun p hp => (hQ.le l1).new o1 h1 hp ?_⟩
      exact .lst (o1.fresh hp) upd_same (AtAll.le o1 (Wd.le_same (same_upd hp)) ds ax)
    · exact h1.elim) hE o h⟩
abbrev ASp := List D → Nat → (D → Nat → Prop) → Prop
/-- the promise of a def that only makes new things (and draws) -/
def spOf (K : PySem.W.Frag) (k : Nat) (A : ASp) : Sp := fun vs H Q _ => ∃ (W : Wd) (n : Nat) (ds : List D) (Qa : D → Nat → Prop), AtAll K W H vs ds ∧ ds.length = k ∧ W.ok K n H ∧ Wants K W H Qa Q ∧ A ds n Qa
def aCall (k : Nat) (A : ASp) (g : AA) : AE := fun ρ n Q => g ρ n fun ds n1 => match Nat.beq ds.length k with
  | true => A ds n1 Q
  | false => False
instance {k : Nat} {A : ASp} {E : XK} {ta : TA} {g : AA} [DA K ta g] : DE K (tCall (spOf K k A) [] E ta) (aCall k A g) := ⟨fun W σ ρ n H Q Qa hQ hE o h =>
  DA.run (te := ta) (f := g) W σ ρ n H _ _ (fun ds n1 h1 H1 xs l1 o1 ax => by
    rw [List.append_nil]
    split at h1
    · rename_i e
      exact ⟨W, n1, ds, Qa, ax, Nat.eq_of_beq_eq_true e, o1, hQ.le l1, h1⟩
    · exact h1.elim) hE o h⟩
def aCB (f : List D → Nat → (D → Nat → Prop) → Prop) (g : AA) : AE := fun ρ n Q => g ρ n fun ds n1 => f ds n1 Q
instance {r : List V → Hp → VK → Prop} {f : List D → Nat → (D → Nat → Prop) → Prop} {ta : TA} {g : AA} [DL K r f] [DA K ta g] : DE K (tCB r ta) (aCB f g) := ⟨fun W σ ρ n H Q Qa hQ hE o h =>
  DA.run (te := ta) (f := g) W σ ρ n H _ _ (fun ds n1 h1 H1 xs l1 o1 ax => DL.run (f := f) W n1 H1 xs ds Q Qa (hQ.le l1) o1 ax h1) hE o h⟩
end

/-! ### the mirror, second part: rules over the kinds -/
section
variable {K : PySem.W.Frag}
theorem take_at {W : Wd} {H : Hp} : ∀ (k : Nat) {vs : List V} {ds : List D}, AtAll K W H vs ds → AtAll K W H (vs.take k) (ds.take k)
  | 0, _, _, _ => .nil
  | k + 1, _, [], h => by cases h; exact .nil
  | k + 1, _, d :: ds, h => by
    cases h with
    | cons a r => exact .cons a (take_at k r)
theorem drop_at {W : Wd} {H : Hp} : ∀ (k : Nat) {vs : List V} {ds : List D}, AtAll K W H vs ds → AtAll K W H (vs.drop k) (ds.drop k)
  | 0, _, _, h => h
  | k + 1, _, [], h => by cases h; exact .nil
  | k + 1, _, d :: ds, h => by
    cases h with
    | cons a r => exact drop_at k r
theorem rev_at {W : Wd} {H : Hp} : ∀ {vs : List V} {ds : List D}, AtAll K W H vs ds → AtAll K W H vs.reverse ds.reverse
  | _, [], h => by cases h; exact .nil
  | _, d :: ds, h => by
    cases h with
    | cons a r =>
      rw [List.reverse_cons, List.reverse_cons]
      exact (rev_at r).append (.cons a .nil)
theorem atI_at {W : Wd} {H : Hp} {vs : List V} {ds : List D} {i : Int} {d : D} (h : AtAll K W H vs ds) (e : atI ds i = some d) : ∃ v, atI vs i = some v ∧ At K W H v d := by
  unfold atI at e ⊢
  rw [h.length]
  cases e1 : ixN ds.length i with
  | none => rw [e1] at e; cases e
  | some j =>
    rw [e1] at e
    obtain ⟨v, h1, h2⟩ := h.get (i := j) e
    exact ⟨v, h1, h2⟩
theorem lim : (1000000 : Nat) ≤ sizeLine := by rw [sizeLine_eq]; decide
/-! a place in a list, a tuple, a text -/
def aIx : D → D → Nat → (D → Nat → Prop) → Prop
  | .tup ds, .int i, n, Q => (match atI ds i with
    | some d => Q d n
    | none => False)
  | .lst ds, .int i, n, Q => (match atI ds i with
    | some d => Q d n
    | none => False)
  | .str z, .int i, n, Q => z.length ≤ 1000000 ∧ (match atI z.cps.toList i with
    | some c => Q (.str ⟨#[c]⟩) n
    | none => False)
  | _, _, _, _ => False
instance : D2 K (rIx K) aIx := ⟨fun W n H x y d e Q Qa hQ o ax ay h => by
  unfold aIx at h
  split at h
  · cases ay
    cases ax with
    | tup s a =>
      split at h
      · rename_i d' e'
        obtain ⟨v, h1, h2⟩ := atI_at a e'
        exact .inr (.inl ⟨_, _, _, v, rfl, rfl, s, h1, hQ.now o h h2⟩)
      · exact h.elim
  · cases ay
    cases ax with
    | lst r s a =>
      split at h
      · rename_i d' e'
        obtain ⟨v, h1, h2⟩ := atI_at a e'
        exact .inl ⟨_, _, _, v, rfl, rfl, SqL.of s, h1, hQ.now o h h2⟩
      · exact h.elim
  · cases ay
    cases ax
    obtain ⟨hl, h⟩ := h
    split at h
    · rename_i c e'
      exact .inr (.inr ⟨_, _, c, rfl, rfl, Nat.le_trans hl lim, e', hQ.now o h (.str _)⟩)
    · exact h.elim
  · exact h.elim⟩
theorem k_ix {X : Cx} (hK : X.K = K) : IxR X (rIx K) := hK ▸ ix_seq
/-- the same, where the place is not written -/
def rIxY (K : PySem.W.Frag) : R2 := rIx K
@[irreducible] def aIxS : D → D → Nat → (D → Nat → Prop) → Prop := aIx
instance : D2 K (rIxY K) aIxS := ⟨fun W n H x y d e Q Qa hQ o ax ay h => by
  unfold aIxS at h
  exact D2.run (K := K) (r := rIx K) (f := aIx) W n H x y d e Q Qa hQ o ax ay h⟩
theorem k_ixS {X : Cx} (hK : X.K = K) : IxR X (rIxY K) := hK ▸ ix_seq
theorem aIx_lst {ds : List D} {i : Int} {d : D} {n : Nat} {Q : D → Nat → Prop} (e : atI ds i = some d) (q : Q d n) : aIxS (.lst ds) (.int i) n Q := by
  unfold aIxS
  show (match atI ds i with
    | some d => Q d n
    | none => False)
  rw [e]
  exact q
theorem aIx_tup {ds : List D} {i : Int} {d : D} {n : Nat} {Q : D → Nat → Prop} (e : atI ds i = some d) (q : Q d n) : aIxS (.tup ds) (.int i) n Q := by
  unfold aIxS
  show (match atI ds i with
    | some d => Q d n
    | none => False)
  rw [e]
  exact q
/-! + -/
def rAddA (K : PySem.W.Frag) : R2 := fun x y H Q => (rI0 (fun i j => .int (i + j)) x y H Q ∨ rCat x y H Q) ∨ (rCatT K x y H Q ∨ ∃ i j, x = .str i ∧ y = .str j ∧ i.length + j.length ≤ sizeLine ∧ Q (.str (i ++ j)) H)
theorem OpR.or' {X : Cx} {op : Value → Value → Sem Value} {r r' : R2} (h : OpR X op r) (h' : OpR X op r') : OpR X op (fun x y H Q => r x y H Q ∨ r' x y H Q) := by
  intro pins s σ H x y v u Q I rx ry q
  rcases q with q | q
  · exact h pins s σ H x y v u Q I rx ry q
  · exact h' pins s σ H x y v u Q I rx ry q
theorem k_add {X : Cx} (hK : X.K = K) : OpR X (binaryOp .Add) (rAddA K) := hK ▸ OpR.or' (OpR.or' op_add op_cat) (OpR.or' op_catT op_add_str)
def aAdd : D → D → Nat → (D → Nat → Prop) → Prop
  | .int i, .int j, n, Q => Q (.int (i + j)) n
  | .lst ds, .lst es, n, Q => ds.length + es.length ≤ 1000000 ∧ Q (.lst (ds ++ es)) n
  | .tup ds, .tup es, n, Q => ds ≠ [] ∧ ds.length + es.length ≤ 1000000 ∧ Q (.tup (ds ++ es)) n
  | .str a, .str b, n, Q => a.length + b.length ≤ 1000000 ∧ Q (.str (a ++ b)) n
  | _, _, _, _ => False
instance : D2 K (rAddA K) aAdd := ⟨fun W n H x y d e Q Qa hQ o ax ay h => by
  unfold aAdd at h
  split at h
  · cases ax
    cases ay
    exact .inl (.inl ⟨_, _, rfl, rfl, hQ.now o h (.int _)⟩)
  · cases ax with
    | lst r s a =>
      cases ay with
      | lst r' s' a' =>
        refine .inl (.inr ⟨_, _, _, _, rfl, rfl, s, s', ?_, fun p hp => hQ.new o h.2 hp ?_⟩)
        · rw [a.length, a'.length]
          exact Nat.le_trans h.1 lim
        · exact .lst (o.fresh hp) upd_same ((AtAll.le o (Wd.le_same (same_upd hp)) _ a).append (AtAll.le o (Wd.le_same (same_upd hp)) _ a'))
  · cases ax with
    | tup s a =>
      cases ay with
      | tup s' a' =>
        obtain ⟨h0, h1, h2⟩ := h
        refine .inr (.inl ⟨_, _, _, _, rfl, rfl, s, s', ?_, ?_, fun z => ?_, fun z p hp => hQ.new o h2 hp ?_⟩)
        · rintro rfl
          cases a
          exact h0 rfl
        · rw [a.length, a'.length]
          exact Nat.le_trans h1 lim
        · subst z
          cases a'
          rw [List.append_nil] at h2
          exact hQ.now o h2 (.tup s a)
        · exact .tup (.inl (.inl upd_same)) ((AtAll.le o (Wd.le_same (same_upd hp)) _ a).append (AtAll.le o (Wd.le_same (same_upd hp)) _ a'))
  · cases ax
    cases ay
    exact .inr (.inr ⟨_, _, rfl, rfl, Nat.le_trans h.1 lim, hQ.now o h.2 (.str _)⟩)
  · exact h.elim⟩
/-! * and // of numbers of any size -/
def CMulA (i j : Int) : Prop := CMul i j ∨ CMulW i j
def CDivA (i j : Int) : Prop := CDiv i j ∨ CDivW i j
theorem k_mul {X : Cx} : OpR X (binaryOp .Mult) (rI CMulA fun i j => .int (i * j)) := by
  intro pins s σ H x y v u Q I rx ry q
  obtain ⟨i, j, h1, h2, h | h, q⟩ := q
  · exact op_mul pins s σ H x y v u Q I rx ry ⟨i, j, h1, h2, h, q⟩
  · exact op_mulW pins s σ H x y v u Q I rx ry ⟨i, j, h1, h2, h, q⟩
theorem k_fdiv {X : Cx} : OpR X (binaryOp .FloorDiv) (rI CDivA fun i j => .int (i / j)) := by
  intro pins s σ H x y v u Q I rx ry q
  obtain ⟨i, j, h1, h2, h | h, q⟩ := q
  · exact op_fdiv pins s σ H x y v u Q I rx ry ⟨i, j, h1, h2, h, q⟩
  · exact op_fdivW pins s σ H x y v u Q I rx ry ⟨i, j, h1, h2, h, q⟩
/-! == at any depth -/
mutual
def D.pd : D → PyData
  | .bl b => .bool b | .int i => .int i | .str x => .str x | .tup ds => .tuple (pdAll ds) | .lst ds => .list (pdAll ds)
  | _ => .none
def pdAll : List D → List PyData
  | [] => []
  | d :: ds => d.pd :: pdAll ds
end
mutual
def D.isD : D → Bool
  | .non => true | .bl _ => true | .int _ => true | .str _ => true | .tup ds => isDAll ds | .lst ds => isDAll ds
  | _ => false
def isDAll : List D → Bool
  | [] => true
  | d :: ds => d.isD && isDAll ds
end
mutual
theorem At.dp {W : Wd} {H : Hp} : ∀ (d : D) {v : V}, d.isD = true → At K W H v d → Dp K H v d.pd
  | .non, _, _, h => by cases h; exact .non
  | .bl b, _, _, h => by cases h; exact .bl b
  | .int i, _, _, h => by cases h; exact .int i
  | .str x, _, _, h => by cases h; exact .str x
  | .ty t, _, e, _ => Bool.noConfusion e
  | .cls a, _, e, _ => Bool.noConfusion e
  | .tup ds, _, e, h => by
    cases h with
    | tup s a => exact .tup s (AtAll.dp ds e a)
  | .lst ds, _, e, h => by
    cases h with
    | lst r s a => exact .lst (SqL.of s) (AtAll.dp ds e a)
  | .dic ks ds, _, e, _ => Bool.noConfusion e
  | .ins C ns ds, _, e, _ => Bool.noConfusion e
  | .deck, _, e, _ => Bool.noConfusion e
  | .xcp _ _ _ _ _, _, e, _ => Bool.noConfusion e
theorem AtAll.dp {W : Wd} {H : Hp} : ∀ (ds : List D) {vs : List V}, isDAll ds = true → AtAll K W H vs ds → DpAll K H vs (pdAll ds)
  | [], _, _, h => by cases h; exact .nil
  | d :: ds, _, e, h => by
    have e' : (d.isD && isDAll ds) = true := e
    rw [Bool.and_eq_true] at e'
    cases h with
    | cons a r => exact .cons (At.dp d e'.1 a) (AtAll.dp ds e'.2 r)
end
def rEqA (K : PySem.W.Frag) : R2 := fun x y H Q => rEq x y H Q ∨ rEqD K x y H Q
def rNeA (K : PySem.W.Frag) : R2 := fun x y H Q => rNe x y H Q ∨ rNeD K x y H Q
theorem k_eq {X : Cx} (hK : X.K = K) (hu : X.A.units + 64 < cLine) : OpR X (compareOp .Eq) (rEqA K) := hK ▸ OpR.or' op_eq (op_eqD hu)
theorem k_ne {X : Cx} (hK : X.K = K) (hu : X.A.units + 64 < cLine) : OpR X (compareOp .NotEq) (rNeA K) := hK ▸ OpR.or' op_ne (op_neD hu)
def aEq (f : Bool → Bool) : D → D → Nat → (D → Nat → Prop) → Prop := fun d e n Q => match eqS d e with
  | some b => Q (.bl (f b)) n
  | none => (d.isD = true ∧ e.isD = true ∧ SeqAt.shaped d.pd = true ∧ SeqAt.shaped e.pd = true) ∧ Q (.bl (f (PyData.eqv d.pd e.pd))) n
instance : D2 K (rEqA K) (aEq id) := ⟨fun W n H x y d e Q Qa hQ o ax ay h => by
  unfold aEq at h
  split at h
  · rename_i b e
    obtain ⟨h1, h2⟩ := eqS_is ax ay e
    refine .inl ⟨h1, ?_⟩
    rw [h2]
    exact hQ.now o h (.bl _)
  · obtain ⟨⟨h1, h2, h3, h4⟩, h⟩ := h
    exact .inr ⟨_, _, At.dp d h1 ax, At.dp e h2 ay, h3, h4, hQ.now o h (.bl _)⟩⟩
instance : D2 K (rNeA K) (aEq not) := ⟨fun W n H x y d e Q Qa hQ o ax ay h => by
  unfold aEq at h
  split at h
  · rename_i b e
    obtain ⟨h1, h2⟩ := eqS_is ax ay e
    refine .inl ⟨h1, ?_⟩
    rw [h2]
    exact hQ.now o h (.bl _)
  · obtain ⟨⟨h1, h2, h3, h4⟩, h⟩ := h
    exact .inr ⟨_, _, At.dp d h1 ax, At.dp e h2 ay, h3, h4, hQ.now o h (.bl _)⟩⟩
/-! is None -/
def rIsN : R2 := fun x y H Q => y = .non ∧ Q (.bl (decide (x = .non))) H
def rNotN : R2 := fun x y H Q => y = .non ∧ Q (.bl (!decide (x = .non))) H
theorem k_isN {X : Cx} : OpR X (compareOp .Is) rIsN := op_isN
theorem k_notN {X : Cx} : OpR X (compareOp .IsNot) rNotN := op_notN
def D.isN : D → Bool
  | .non => true
  | _ => false
def aIsN (f : Bool → Bool) : D → D → Nat → (D → Nat → Prop) → Prop
  | d, .non, n, Q => Q (.bl (f d.isN)) n
  | _, _, _, _ => False
theorem isN_is {W : Wd} {H : Hp} {x : V} {d : D} (ax : At K W H x d) : decide (x = .non) = d.isN := by
  cases ax <;> rfl
instance : D2 K rIsN (aIsN id) := ⟨fun W n H x y d e Q Qa hQ o ax ay h => by
  unfold aIsN at h
  split at h
  · cases ay
    refine ⟨rfl, ?_⟩
    rw [isN_is ax]
    exact hQ.now o h (.bl _)
  · exact h.elim⟩
instance : D2 K rNotN (aIsN not) := ⟨fun W n H x y d e Q Qa hQ o ax ay h => by
  unfold aIsN at h
  split at h
  · cases ay
    refine ⟨rfl, ?_⟩
    rw [isN_is ax]
    exact hQ.now o h (.bl _)
  · exact h.elim⟩
/-! built-in functions -/
def rLen (K : PySem.W.Frag) : List V → Hp → VK → Prop := fun xs H Q => ∃ x n, xs = [x] ∧ LenV K x H n ∧ Q (.int n) H
theorem k_len {X : Cx} (hK : X.K = K) : CallR X (.builtin "len") (rLen K) := hK ▸ call_len
def aLen : List D → Nat → (D → Nat → Prop) → Prop
  | [.tup ds], n, Q => Q (.int ds.length) n
  | [.lst ds], n, Q => Q (.int ds.length) n
  | [.str z], n, Q => z.length ≤ 1000000 ∧ Q (.int z.length) n
  | _, _, _ => False
instance : DL K (rLen K) aLen := ⟨fun W n H xs ds Q Qa hQ o a h => by
  unfold aLen at h
  split at h
  · cases a with
    | cons a r =>
      cases r
      cases a with
      | tup s a => exact ⟨_, _, rfl, .inr ⟨_, s, rfl⟩, by rw [a.length]; exact hQ.now o h (.int _)⟩
  · cases a with
    | cons a r =>
      cases r
      cases a with
      | lst _ s a => exact ⟨_, _, rfl, .inl ⟨_, SqL.of s, rfl⟩, by rw [a.length]; exact hQ.now o h (.int _)⟩
  · cases a with
    | cons a r =>
      cases r
      cases a
      exact ⟨_, _, rfl, ⟨Nat.le_trans h.1 lim, rfl⟩, hQ.now o h.2 (.int _)⟩
  · exact h.elim⟩
def rAbs : List V → Hp → VK → Prop := fun xs H Q => ∃ i, xs = [.int i] ∧ Q (.int (if i < 0 then -i else i)) H
theorem k_abs {X : Cx} : CallR X (.builtin "abs") rAbs := call_abs
def aAbs : List D → Nat → (D → Nat → Prop) → Prop
  | [.int i], n, Q => Q (.int (if i < 0 then -i else i)) n
  | _, _, _ => False
instance : DL K rAbs aAbs := ⟨fun W n H xs ds Q Qa hQ o a h => by
  unfold aAbs at h
  split at h
  · cases a with
    | cons a r =>
      cases r
      cases a
      exact ⟨_, rfl, hQ.now o h (.int _)⟩
  · exact h.elim⟩
def rMax2 : List V → Hp → VK → Prop := fun xs H Q => ∃ i j, xs = [.int i, .int j] ∧ Q (.int (if j > i then j else i)) H
def rMin2 : List V → Hp → VK → Prop := fun xs H Q => ∃ i j, xs = [.int i, .int j] ∧ Q (.int (if j < i then j else i)) H
theorem k_max2 {X : Cx} (hc : X.calm = true) : CallR X (.builtin "max") rMax2 := call_max2 hc
theorem k_min2 {X : Cx} (hc : X.calm = true) : CallR X (.builtin "min") rMin2 := call_min2 hc
def aMM (g : Int → Int → Int) : List D → Nat → (D → Nat → Prop) → Prop
  | [.int i, .int j], n, Q => Q (.int (g i j)) n
  | _, _, _ => False
instance : DL K rMax2 (aMM fun i j => if j > i then j else i) := ⟨fun W n H xs ds Q Qa hQ o a h => by
  unfold aMM at h
  split at h
  · cases a with
    | cons a r =>
      cases r with
      | cons b r =>
        cases r
        cases a
        cases b
        exact ⟨_, _, rfl, hQ.now o h (.int _)⟩
  · exact h.elim⟩
instance : DL K rMin2 (aMM fun i j => if j < i then j else i) := ⟨fun W n H xs ds Q Qa hQ o a h => by
  unfold aMM at h
  split at h
  · cases a with
    | cons a r =>
      cases r with
      | cons b r =>
        cases r
        cases a
        cases b
        exact ⟨_, _, rfl, hQ.now o h (.int _)⟩
  · exact h.elim⟩
def rListOf (K : PySem.W.Frag) : List V → Hp → VK → Prop := fun xs H Q => ∃ p ys, xs = [.ref p] ∧ (SqL K H p ys ∨ SqT K H p ys) ∧ ∀ l, H l = none → Q (.ref l) (upd H l (.lst ys))
def rTupOf (K : PySem.W.Frag) : List V → Hp → VK → Prop := fun xs H Q => ∃ p ys, xs = [.ref p] ∧ ((SqL K H p ys ∧ ∀ l, H l = none → Q (.ref l) (upd H l (.tup ys))) ∨ (SqT K H p ys ∧ Q (.ref p) H))
theorem k_list {X : Cx} (hK : X.K = K) : CallR X (.type "list") (rListOf K) := hK ▸ call_list_of
theorem k_tuple {X : Cx} (hK : X.K = K) : CallR X (.type "tuple") (rTupOf K) := hK ▸ call_tuple_of
def aListOf : List D → Nat → (D → Nat → Prop) → Prop
  | [.tup ds], n, Q => Q (.lst ds) n
  | [.lst ds], n, Q => Q (.lst ds) n
  | _, _, _ => False
def aTupOf : List D → Nat → (D → Nat → Prop) → Prop
  | [.tup ds], n, Q => Q (.tup ds) n
  | [.lst ds], n, Q => Q (.tup ds) n
  | _, _, _ => False
instance : DL K (rListOf K) aListOf := ⟨fun W n H xs ds Q Qa hQ o a h => by
  unfold aListOf at h
  split at h
  · cases a with
    | cons a r =>
      cases r
      cases a with
      | tup s a => exact ⟨_, _, rfl, .inr s, fun p hp => hQ.new o h hp (.lst (o.fresh hp) upd_same (AtAll.le o (Wd.le_same (same_upd hp)) _ a))⟩
  · cases a with
    | cons a r =>
      cases r
      cases a with
      | lst _ s a => exact ⟨_, _, rfl, .inl (SqL.of s), fun p hp => hQ.new o h hp (.lst (o.fresh hp) upd_same (AtAll.le o (Wd.le_same (same_upd hp)) _ a))⟩
  · exact h.elim⟩
instance : DL K (rTupOf K) aTupOf := ⟨fun W n H xs ds Q Qa hQ o a h => by
  unfold aTupOf at h
  split at h
  · cases a with
    | cons a r =>
      cases r
      cases a with
      | tup s a => exact ⟨_, _, rfl, .inr ⟨s, hQ.now o h (.tup s a)⟩⟩
  · cases a with
    | cons a r =>
      cases r
      cases a with
      | lst _ s a => exact ⟨_, _, rfl, .inl ⟨SqL.of s, fun p hp => hQ.new o h hp (.tup (.inl (.inl upd_same)) (AtAll.le o (Wd.le_same (same_upd hp)) _ a))⟩⟩
  · exact h.elim⟩
/-! isinstance -/
def D.tv : D → Option Ty
  | .non => some .non | .bl _ => some .bl | .int _ => some .int | .str _ => some .str | .tup _ => some .tup | .lst _ => some .lst | .dic _ _ => some .dic
  | _ => none
def isiB : Ty → Ty → Bool
  | .non, .non => true | .bl, .bl => true | .bl, .int => true | .int, .int => true | .str, .str => true | .tup, .tup => true | .lst, .lst => true | .dic, .dic => true
  | _, _ => false
theorem kitB_is (a b : Ty) (h : b ≠ .non) (hb : b ≠ .verr) (ha : a ≠ .verr) : kitB a.nm b.nm = some (isiB a b) := by
  cases a <;> cases b <;> first
    | exact absurd rfl h
    | exact absurd rfl hb
    | exact absurd rfl ha
    | decide +kernel
theorem tv_nv {d : D} (e : d.tv = some .verr) : False := by
  cases d <;> cases e
theorem tv_is {W : Wd} {H : Hp} {x : V} {d : D} {t : Ty} (ax : At K W H x d) (e : d.tv = some t) : TyX K H x (.type t.nm) := by
  cases ax <;> cases e
  · exact .base .non
  · exact .base (.bl _)
  · exact .base (.int _)
  · exact .base (.str _)
  · rename_i a xs ds s _
    rcases s with (h | ⟨o, h⟩) | ⟨o, its, n, h, hc, _⟩
    · exact .base (.tup h)
    · exact .fTuple h
    · exact .kTuple h hc
  · rename_i r s _
    exact .base (.lst s)
  · rename_i r s _ _
    exact .base (.dK s)
theorem k_isi {X : Cx} (hK : X.K = K) : CallR X (.builtin "isinstance") (rIsi K) := hK ▸ call_isi
/-- what isinstance asks of an own class -/
structure InsC (K : PySem.W.Frag) (C : Addr) : Prop where
  cl : Cls K C
  ha : PySem.W.findIn K (.ref C) "__class__" = some (some (.builtin "object.__class__"))
  hn : PySem.W.specialIn K (.builtin "object.__class__") "__get__" = some (some (.builtin "getset_descriptor.__get__"))
  ht : PySem.W.takesIn K (.builtin "object.__class__") = some true
  hm : PySem.W.mroIn K C (.type "object") = some true
def aIsi (K : PySem.W.Frag) : List D → Nat → (D → Nat → Prop) → Prop
  | [.ins C _ _, .ty t], n, Q => InsC K C ∧ ∃ b, PySem.W.kitOne K (.ref C) (.type t.nm) = some b ∧ Q (.bl b) n
  | [.ins C _ _, .cls c], n, Q => InsC K C ∧ ∃ b, PySem.W.kitOne K (.ref C) (.ref c) = some b ∧ Q (.bl b) n
  | [d, .cls c], n, Q => (match d.tv with
    | some t => ∃ b, PySem.W.kitOne K (.type t.nm) (.ref c) = some b ∧ Q (.bl b) n
    | none => False)
  | [d, .ty t], n, Q => (match d.tv, t with
    | some _, .non => False
    | some _, .verr => False
    | some t', t => Q (.bl (isiB t' t)) n
    | none, _ => False)
  | _, _, _ => False
instance : DL K (rIsi K) (aIsi K) := ⟨fun W n H xs ds Q Qa hQ o a h => by
  unfold aIsi at h
  split at h
  · cases a with
    | cons a r =>
      cases r with
      | cons b r =>
        cases r
        cases b
        cases a with
        | ins s e a =>
          obtain ⟨ic, b, hk, h⟩ := h
          exact ⟨_, _, _, _, b, rfl, .ty _, .base (.ins s ic.cl ic.ha ic.hn ic.ht ic.hm), hk, hQ.now o h (.bl _)⟩
  · cases a with
    | cons a r =>
      cases r with
      | cons b r =>
        cases r
        cases b
        cases a with
        | ins s e a =>
          obtain ⟨ic, b, hk, h⟩ := h
          exact ⟨_, _, _, _, b, rfl, .own _, .base (.ins s ic.cl ic.ha ic.hn ic.ht ic.hm), hk, hQ.now o h (.bl _)⟩
  · cases a with
    | cons a r =>
      cases r with
      | cons b r =>
        cases r
        cases b
        split at h
        · rename_i t e
          obtain ⟨b, hk, h⟩ := h
          exact ⟨_, _, _, _, b, rfl, .own _, tv_is a e, hk, hQ.now o h (.bl _)⟩
        · exact h.elim
  · cases a with
    | cons a r =>
      cases r with
      | cons b r =>
        cases r
        cases b
        split at h
        · exact h.elim
        · exact h.elim
        · rename_i t' e hne hne2
          exact ⟨_, _, _, _, _, rfl, .ty _, tv_is a e, kit_ty (kitB_is _ _ (fun z => hne z) (fun z => hne2 z) fun z => tv_nv (z ▸ e)), hQ.now o h (.bl _)⟩
        · exact h.elim
  · exact h.elim⟩
/-! constants of the program's top, classes and types as values -/
def tKon (a : Addr) : TE := tC (.ref a)
def tCls (a : Addr) : TE := tC (.ref a)
def tTy (t : Ty) : TE := tC (.ty t.nm)
class Kon (K : PySem.W.Frag) (a : Addr) (d : outParam D) : Prop where
  at_ : ∀ W H, At K W H (.ref a) d
def aD (d : D) : AE := fun _ n Q => Q d n
instance {a : Addr} {d : D} [k : Kon K a d] : DE K (tKon a) (aD d) := ⟨fun W σ ρ n H Q Qa hQ hE o h => hQ.now o h (k.at_ W H)⟩
instance {a : Addr} : DE K (tCls a) (aD (.cls a)) := ⟨fun W σ ρ n H Q Qa hQ hE o h => hQ.now o h (.cls a)⟩
instance {t : Ty} : DE K (tTy t) (aD (.ty t)) := ⟨fun W σ ρ n H Q Qa hQ hE o h => hQ.now o h (.ty t)⟩
theorem k_kon {X : Cx} {x : Str} {a : Addr} {pos : Pos} (hg : Gl X x) (hm : X.mg x = some (.ref a)) (hd : (x == ("__debug__" : Str)) = false := by decide) : PE X (.Name x pos) (tKon a) := pe_glob (v := .ref a) hg hm rfl hd
theorem k_cls {X : Cx} {x : Str} {a : Addr} {pos : Pos} (hg : Gl X x) (hm : X.mg x = some (.ref a)) (hd : (x == ("__debug__" : Str)) = false := by decide) : PE X (.Name x pos) (tCls a) := pe_glob (v := .ref a) hg hm rfl hd
theorem k_ty {X : Cx} {x : Str} {t : Ty} {pos : Pos} (hg : Gl X x) (hm : X.mg x = none) (hv : bootBuiltins x = some (.type t.nm)) (hn : x ≠ "__name__" := by decide) (hd : (x == ("__debug__" : Str)) = false := by decide) : PE X (.Name x pos) (tTy t) := pe_bltn (v := .ty t.nm) hg hm hv rfl hn hd
/-! fields -/
def tFldK (K : PySem.W.Frag) (ta : TE) (f : Str) : TE := tFld K ta f
theorem k_fld {X : Cx} {e : Expr} {ta : TE} {f : Str} {pos : Pos} (hK : X.K = K) (he : PE X e ta) (hb : attributeBase e f X.env (eval e X.env) = eval e X.env) : PE X (.Attribute e f pos) (tFldK K ta f) := hK ▸ pe_fld he hb
def aFld (K : PySem.W.Frag) (f : Str) (fa : AE) : AE := fun ρ n Q => fa ρ n fun d n1 => match d with
  | .ins C ns ds => (Cls K C ∧ NoAttr K C f) ∧ ∃ d, (ns.zip ds).lookup f = some d ∧ Q d n1
  | _ => False
theorem lookup_at {W : Wd} {H : Hp} {f : Str} : ∀ {ns : List Str} {vs : List V} {ds : List D} {d : D}, AtAll K W H vs ds → (ns.zip ds).lookup f = some d → ∃ v, (ns.zip vs).lookup f = some v ∧ At K W H v d
  | [], _, _, _, _, e => by cases e
  | _ :: _, _, [], _, h, e => by cases h; cases e
  | x :: ns, _, d :: ds, d', h, e => by
    cases h with
    | cons a r =>
      rw [List.zip_cons_cons, List.lookup_cons] at e ⊢
      cases hb : f == x with
      | true =>
        rw [hb] at e
        cases e
        exact ⟨_, rfl, a⟩
      | false =>
        rw [hb] at e
        exact lookup_at r e
instance {f : Str} {ta : TE} {fa : AE} [DE K ta fa] : DE K (tFldK K ta f) (aFld K f fa) := ⟨fun W σ ρ n H Q Qa hQ hE o h =>
  DE.run (te := ta) (f := fa) W σ ρ n H _ _ (fun d n1 h1 H1 x l1 o1 ax => by
    split at h1
    · obtain ⟨⟨hc, hn⟩, d, e, q⟩ := h1
      cases ax with
      | ins s e' a =>
        obtain ⟨v, h1, h2⟩ := lookup_at a e
        exact ⟨_, _, _, _, v, rfl, s, hc, hn, h1, (hQ.le l1).now o1 q h2⟩
    · exact h1.elim) hE o h⟩
/-! slices of lists -/
def cutL (xs : List D) (lo hi : Option Int) : List D := (xs.drop (HT.sIx xs.length 0 lo)).take (HT.sIx xs.length xs.length hi - HT.sIx xs.length 0 lo)
class DO (K : PySem.W.Frag) (te : TO) (f : outParam (Env' → Nat → (Option Int → Nat → Prop) → Prop)) : Prop where
  run : ∀ (W : Wd) (σ : L2.St) (ρ : Env') (n : Nat) (H : Hp) (Q : Option Int → Hp → Prop) (Qa : Option Int → Nat → Prop), (∀ b n', Qa b n' → ∀ H', W.le H H' → W.ok K n' H' → Q b H') → EnvAt K W H σ ρ → W.ok K n H → f ρ n Qa → te σ H Q
def aNoPart : Env' → Nat → (Option Int → Nat → Prop) → Prop := fun _ n Q => Q none n
def aPart (f : AE) : Env' → Nat → (Option Int → Nat → Prop) → Prop := fun ρ n Q => f ρ n fun d n1 => match d with
  | .int i => Q (some i) n1
  | _ => False
instance : DO K tNoPart aNoPart := ⟨fun W σ ρ n H Q Qa hQ hE o h => hQ _ _ h H Wd.le_refl o⟩
instance {te : TE} {f : AE} [DE K te f] : DO K (tPart te) (aPart f) := ⟨fun W σ ρ n H Q Qa hQ hE o h =>
  DE.run (te := te) (f := f) W σ ρ n H _ _ (fun d n1 h1 H1 x l1 o1 ax => by
    split at h1
    · cases ax
      exact ⟨_, rfl, hQ _ _ h1 H1 l1 o1⟩
    · exact h1.elim) hE o h⟩
def rSlA (K : PySem.W.Frag) : V → Option Int → Option Int → Hp → VK → Prop := fun x lo hi H Q => rSlL K x lo hi H Q ∨ (fun x lo hi H Q => rSlT K x lo hi H Q ∨ rSlS x lo hi H Q) x lo hi H Q
def aCut (d : D) (l u : Option Int) (n : Nat) (Q : D → Nat → Prop) : Prop := match d with
  | .lst ds => Q (.lst (cutL ds l u)) n
  | .tup ds => ¬ (HT.sIx ds.length 0 l = 0 ∧ HT.sIx ds.length ds.length u = ds.length) ∧ Q (.tup (cutL ds l u)) n
  | .str z => z.length ≤ 1000000 ∧ Q (.str (cutS z l u)) n
  | _ => False
def aSl (fa : AE) (fl fu : Env' → Nat → (Option Int → Nat → Prop) → Prop) : AE := fun ρ n Q => fa ρ n fun d n1 => fl ρ n1 fun l n2 => fu ρ n2 fun u n3 => aCut d l u n3 Q
instance {te : TE} {tl tu : TO} {fa : AE} {fl fu : Env' → Nat → (Option Int → Nat → Prop) → Prop} [DE K te fa] [DO K tl fl] [DO K tu fu] : DE K (tSl (rSlA K) te tl tu) (aSl fa fl fu) := ⟨fun W σ ρ n H Q Qa hQ hE o h =>
  DE.run (te := te) (f := fa) W σ ρ n H _ _ (fun d n1 h1 H1 x l1 o1 ax => DO.run (te := tl) (f := fl) W σ ρ n1 H1 _ _ (fun l n2 h2 H2 l2 o2 => DO.run (te := tu) (f := fu) W σ ρ n2 H2 _ _ (fun u n3 h3 H3 l3 o3 => by
    have hQ3 := hQ.le (l1.trans (l2.trans l3))
    unfold aCut at h3
    split at h3
    · cases At.le o1 (l2.trans l3) _ ax with
      | lst r s a =>
        refine .inl ⟨_, _, rfl, SqL.of s, fun p hp => hQ3.new o3 h3 hp ?_⟩
        refine .lst (o3.fresh hp) upd_same ?_
        unfold cutV cutL
        rw [a.length]
        exact take_at _ (drop_at _ (AtAll.le o3 (Wd.le_same (same_upd hp)) _ a))
    · cases At.le o1 (l2.trans l3) _ ax with
      | tup s a =>
        refine .inr (.inl ⟨_, _, rfl, s, by rw [a.length]; exact h3.1, fun p hp => hQ3.new o3 h3.2 hp ?_⟩)
        refine .tup (.inl (.inl upd_same)) ?_
        unfold cutV cutL
        rw [a.length]
        exact take_at _ (drop_at _ (AtAll.le o3 (Wd.le_same (same_upd hp)) _ a))
    · cases ax
      exact .inr (.inr ⟨_, rfl, Nat.le_trans h3.1 lim, hQ3.now o3 h3.2 (.str _)⟩)
    · exact h3.elim) (hE.le o (l1.trans l2)) o2 h2) (hE.le o l1) o1 h1) hE o h⟩
theorem k_sl {X : Cx} (hK : X.K = K) : SlR X (rSlA K) := hK ▸ SlR.or sl_list (SlR.or sl_tup sl_str)
/-! texts and truths -/
def rJoin (K : PySem.W.Frag) : V → List V → Hp → VK → Prop := fun x xs H Q => ∃ a p, ∃ ys : List Str, x = .str a ∧ xs = [.ref p] ∧ (SqL K H p (ys.map V.str) ∨ SqT K H p (ys.map V.str)) ∧ (ys.map (·.length)).sum + ys.length * a.length ≤ 16777216 ∧ Q (.str (Txt.join a ys)) H
def tJoinK (K : PySem.W.Frag) (to te : TE) : TE := tM1 (rJoin K) to te
theorem k_join {X : Cx} {o e : Expr} {to te : TE} {apos pos : Pos} (hK : X.K = K) (ho : PE X o to) (he : PE X e te) (hs : starEach [e] X.env = [(false, eval e X.env)] := by rfl) (hbase : attributeBase o "join" X.env (eval o X.env) = eval o X.env := by rfl) (hline : (apos.endLine == pos.line) = true := by rfl) :
    PE X (.Call (.Attribute o "join" apos) [e] [] pos) (tJoinK K to te) := hK ▸ pe_join ho he hs hbase hline
def aJoin (fa fb : AE) : AE := fun ρ n Q => fa ρ n fun x n1 => match x with
  | .str a => fb ρ n1 fun y n2 => (match y with
    | .lst ds => ∃ ys : List Str, ds = ys.map D.str ∧ (ys.map (·.length)).sum + ys.length * a.length ≤ 16777216 ∧ Q (.str (Txt.join a ys)) n2
    | .tup ds => ∃ ys : List Str, ds = ys.map D.str ∧ (ys.map (·.length)).sum + ys.length * a.length ≤ 16777216 ∧ Q (.str (Txt.join a ys)) n2
    | _ => False)
  | _ => False
theorem strs_at {W : Wd} {H : Hp} : ∀ {ys : List Str} {vs : List V}, AtAll K W H vs (ys.map D.str) → vs = ys.map V.str
  | [], _, h => by cases h; rfl
  | y :: ys, _, h => by
    cases h with
    | cons a r => cases a; rw [List.map_cons, strs_at r]
theorem bls_at {W : Wd} {H : Hp} : ∀ {ys : List Bool} {vs : List V}, AtAll K W H vs (ys.map D.bl) → vs = ys.map V.bl
  | [], _, h => by cases h; rfl
  | y :: ys, _, h => by
    cases h with
    | cons a r => cases a; rw [List.map_cons, bls_at r]
theorem ints_at {W : Wd} {H : Hp} : ∀ {ys : List Int} {vs : List V}, AtAll K W H vs (ys.map D.int) → vs = ys.map V.int
  | [], _, h => by cases h; rfl
  | y :: ys, _, h => by
    cases h with
    | cons a r => cases a; rw [List.map_cons, ints_at r]
theorem at_ints {W : Wd} {H : Hp} : ∀ ys : List Int, AtAll K W H (ys.map V.int) (ys.map D.int)
  | [] => .nil
  | y :: ys => .cons (.int y) (at_ints ys)
theorem at_strs {W : Wd} {H : Hp} : ∀ ys : List Str, AtAll K W H (ys.map V.str) (ys.map D.str)
  | [] => .nil
  | y :: ys => .cons (.str y) (at_strs ys)
instance {to te : TE} {fa fb : AE} [DE K to fa] [DE K te fb] : DE K (tJoinK K to te) (aJoin fa fb) := ⟨fun W σ ρ n H Q Qa hQ hE o h =>
  DE.run (te := to) (f := fa) W σ ρ n H _ _ (fun d n1 h1 H1 x l1 o1 ax => by
    cases ax with
    | str a =>
      refine ⟨⟨_, rfl⟩, DE.run (te := te) (f := fb) W σ ρ n1 H1 _ _ (fun e n2 h2 H2 y l2 o2 ay => ?_) (hE.le o l1) o1 h1⟩
      cases ay with
      | lst r s b =>
        obtain ⟨ys, rfl, hl, q⟩ := h2
        rw [strs_at b] at s
        exact ⟨_, _, ys, rfl, rfl, .inl (SqL.of s), hl, (hQ.le (l1.trans l2)).now o2 q (.str _)⟩
      | tup s b =>
        obtain ⟨ys, rfl, hl, q⟩ := h2
        rw [strs_at b] at s
        exact ⟨_, _, ys, rfl, rfl, .inr s, hl, (hQ.le (l1.trans l2)).now o2 q (.str _)⟩
      | _ => exact h2.elim
    | _ => exact h1.elim) hE o h⟩
/-! int(..), str(..) of a number -/
def rInt : List V → Hp → VK → Prop := fun xs H Q => (∃ i, xs = [.int i] ∧ Q (.int i) H) ∨ ∃ k, xs = [.bl k] ∧ Q (.int (if k then 1 else 0)) H
theorem k_int {X : Cx} : CallR X (.type "int") rInt := call_int1
def aInt : List D → Nat → (D → Nat → Prop) → Prop
  | [.int i], n, Q => Q (.int i) n
  | [.bl b], n, Q => Q (.int (if b then 1 else 0)) n
  | _, _, _ => False
instance : DL K rInt aInt := ⟨fun W n H xs ds Q Qa hQ o a h => by
  unfold aInt at h
  split at h
  · cases a with
    | cons a r =>
      cases r
      cases a
      exact .inl ⟨_, rfl, hQ.now o h (.int _)⟩
  · cases a with
    | cons a r =>
      cases r
      cases a
      exact .inr ⟨_, rfl, hQ.now o h (.int _)⟩
  · exact h.elim⟩
def rStr : List V → Hp → VK → Prop := fun xs H Q => ∃ i, xs = [.int i] ∧ i.natAbs.log2 < 1920 ∧ Q (.str (toString i)) H
theorem k_str {X : Cx} : CallR X (.type "str") rStr := call_str_int
def aStr : List D → Nat → (D → Nat → Prop) → Prop
  | [.int i], n, Q => i.natAbs.log2 < 1920 ∧ Q (.str (toString i)) n
  | _, _, _ => False
instance : DL K rStr aStr := ⟨fun W n H xs ds Q Qa hQ o a h => by
  unfold aStr at h
  split at h
  · cases a with
    | cons a r =>
      cases r
      cases a
      exact ⟨_, rfl, h.1, hQ.now o h.2 (.str _)⟩
  · exact h.elim⟩
/-! all, any, sum, max, min of a list -/
theorem k_all {X : Cx} (hK : X.K = K) (hc : X.calm = true) : CallR X (.builtin "all") (rAll K) := hK ▸ cr_all hc
theorem k_any {X : Cx} (hK : X.K = K) (hc : X.calm = true) : CallR X (.builtin "any") (rAny K) := hK ▸ cr_any hc
theorem k_sum {X : Cx} (hK : X.K = K) (hc : X.calm = true) : CallR X (.builtin "sum") (rSum K) := hK ▸ cr_sum hc
theorem k_max1 {X : Cx} (hK : X.K = K) (hc : X.calm = true) : CallR X (.builtin "max") (rMax K) := hK ▸ cr_max hc
theorem k_min1 {X : Cx} (hK : X.K = K) (hc : X.calm = true) : CallR X (.builtin "min") (rMin K) := hK ▸ cr_min hc
def aBools (g : List Bool → Bool) : List D → Nat → (D → Nat → Prop) → Prop := fun ds n Q => ∃ bs : List Bool, ds = [.lst (bs.map D.bl)] ∧ Q (.bl (g bs)) n
instance : DL K (rAll K) (aBools fun bs => bs.all id) := ⟨fun W n H xs ds Q Qa hQ o a h => by
  obtain ⟨bs, rfl, q⟩ := h
  cases a with
  | cons a r =>
    cases r
    cases a with
    | lst _ s b => rw [bls_at b] at s; exact ⟨_, bs, rfl, SqL.of s, hQ.now o q (.bl _)⟩⟩
instance : DL K (rAny K) (aBools fun bs => bs.any id) := ⟨fun W n H xs ds Q Qa hQ o a h => by
  obtain ⟨bs, rfl, q⟩ := h
  cases a with
  | cons a r =>
    cases r
    cases a with
    | lst _ s b => rw [bls_at b] at s; exact ⟨_, bs, rfl, SqL.of s, hQ.now o q (.bl _)⟩⟩
def aSum : List D → Nat → (D → Nat → Prop) → Prop := fun ds n Q => ∃ ns : List Int, ds = [.lst (ns.map D.int)] ∧ Q (.int ns.sum) n
instance : DL K (rSum K) aSum := ⟨fun W n H xs ds Q Qa hQ o a h => by
  obtain ⟨ns, rfl, q⟩ := h
  cases a with
  | cons a r =>
    cases r
    cases a with
    | lst _ s b => rw [ints_at b] at s; exact ⟨_, ns, rfl, SqL.of s, hQ.now o q (.int _)⟩⟩
def aMax1 : List D → Nat → (D → Nat → Prop) → Prop := fun ds n Q => ∃ ns : List Int, ds = [.lst (ns.map D.int)] ∧ 0 < ns.length ∧ ∀ m, m ∈ ns → (∀ y, y ∈ ns → y ≤ m) → Q (.int m) n
def aMin1 : List D → Nat → (D → Nat → Prop) → Prop := fun ds n Q => ∃ ns : List Int, ds = [.lst (ns.map D.int)] ∧ 0 < ns.length ∧ ∀ m, m ∈ ns → (∀ y, y ∈ ns → m ≤ y) → Q (.int m) n
instance : DL K (rMax K) aMax1 := ⟨fun W n H xs ds Q Qa hQ o a h => by
  obtain ⟨ns, rfl, hl, q⟩ := h
  cases a with
  | cons a r =>
    cases r
    cases a with
    | lst _ s b => rw [ints_at b] at s; exact ⟨_, ns, rfl, SqL.of s, hl, fun m h1 h2 => hQ.now o (q m h1 h2) (.int _)⟩⟩
instance : DL K (rMin K) aMin1 := ⟨fun W n H xs ds Q Qa hQ o a h => by
  obtain ⟨ns, rfl, hl, q⟩ := h
  cases a with
  | cons a r =>
    cases r
    cases a with
    | lst _ s b => rw [ints_at b] at s; exact ⟨_, ns, rfl, SqL.of s, hl, fun m h1 h2 => hQ.now o (q m h1 h2) (.int _)⟩⟩
/-! x in xs -/
def flatD : D → Bool
  | .non => true | .bl _ => true | .int _ => true | .str _ => true
  | _ => false
def eqF : D → D → Bool
  | .non, .non => true | .bl a, .bl b => a == b | .bl a, .int b => (if a then 1 else 0) == b | .int a, .bl b => a == (if b then 1 else 0) | .int a, .int b => a == b | .str a, .str b => a == b
  | _, _ => false
theorem flat_at {W : Wd} {H : Hp} {v : V} {d : D} (a : At K W H v d) (h : flatD d = true) : flatV v = true := by
  cases a <;> first | rfl | cases h
theorem eqF_at {W : Wd} {H : Hp} {v u : V} {d e : D} (a : At K W H v d) (b : At K W H u e) (h : flatD d = true) (g : flatD e = true) : eqV v u = eqF d e := by
  cases a <;> first
    | cases h; done
    | (cases b <;> first | rfl | cases g; done)
theorem flats_at {W : Wd} {H : Hp} : ∀ {ds : List D} {vs : List V}, AtAll K W H vs ds → ds.all flatD = true → vs.all flatV = true
  | [], _, h, _ => by cases h; rfl
  | d :: ds, _, h, g => by
    cases h with
    | cons a r =>
      rw [List.all_cons, Bool.and_eq_true] at g ⊢
      exact ⟨flat_at a g.1, flats_at r g.2⟩
theorem in_at {W : Wd} {H : Hp} {u : V} {e : D} (b : At K W H u e) (g : flatD e = true) : ∀ {ds : List D} {vs : List V}, AtAll K W H vs ds → ds.all flatD = true → inV u vs = ds.any fun d => eqF d e
  | [], _, h, _ => by cases h; rfl
  | d :: ds, _, h, g' => by
    cases h with
    | cons a r =>
      rw [List.all_cons, Bool.and_eq_true] at g'
      have ih := in_at b g r g'.2
      unfold inV at ih ⊢
      rw [List.any_cons, List.any_cons, ih, eqF_at a b g'.1 g]
def rInA (K : PySem.W.Frag) (neg : Bool) : R2 := rIn K neg
theorem k_in {X : Cx} (hK : X.K = K) (_ : X.A.units + 64 < cLine) : OpR X (compareOp .In) (rInA K false) := hK ▸ op_in_seq
theorem k_notin {X : Cx} (hK : X.K = K) (_ : X.A.units + 64 < cLine) : OpR X (compareOp .NotIn) (rInA K true) := hK ▸ op_notIn_seq
def aIn (neg : Bool) : D → D → Nat → (D → Nat → Prop) → Prop
  | d, .lst ds, n, Q => flatD d = true ∧ ds.all flatD = true ∧ Q (.bl (if neg then !(ds.any fun x => eqF x d) else ds.any fun x => eqF x d)) n
  | d, .tup ds, n, Q => flatD d = true ∧ ds.all flatD = true ∧ Q (.bl (if neg then !(ds.any fun x => eqF x d) else ds.any fun x => eqF x d)) n
  | _, _, _, _ => False
instance {neg : Bool} : D2 K (rInA K neg) (aIn neg) := ⟨fun W n H x y d e Q Qa hQ o ax ay h => by
  unfold aIn at h
  split at h
  · obtain ⟨h1, h2, q⟩ := h
    cases ay with
    | lst r s a => exact ⟨_, _, rfl, .inl (SqL.of s), flat_at ax h1, flats_at a h2, by rw [in_at ax h1 a h2]; exact hQ.now o q (.bl _)⟩
  · obtain ⟨h1, h2, q⟩ := h
    cases ay with
    | tup s a => exact ⟨_, _, rfl, .inr s, flat_at ax h1, flats_at a h2, by rw [in_at ax h1 a h2]; exact hQ.now o q (.bl _)⟩
  · exact h.elim⟩
end

/-! ### the mirror, third part: targets, what is walked, statements -/
section
variable {K : PySem.W.Frag}
/-! targets -/
abbrev Upd (K : PySem.W.Frag) (W : Wd) (H : Hp) : List (Nat × V) → List (Nat × D) → Prop := Paired fun z u => z.1 = u.1 ∧ At K W H z.2 u.2
def setAll : L2.St → List (Nat × V) → L2.St
  | σ, [] => σ
  | σ, z :: r => setAll (σ.set z.1 (some z.2)) r
def eSetAll : Env' → List (Nat × D) → Env'
  | ρ, [] => ρ
  | ρ, u :: r => eSetAll (eSet ρ u.1 (some u.2)) r
theorem setAll_append : ∀ (σ : L2.St) (a b : List (Nat × V)), setAll σ (a ++ b) = setAll (setAll σ a) b
  | σ, [], b => rfl
  | σ, z :: r, b => setAll_append (σ.set z.1 (some z.2)) r b
theorem paired_append {α β : Type} {F : α → β → Prop} : ∀ {l l' : List α} {m m' : List β}, Paired F l m → Paired F l' m' → Paired F (l ++ l') (m ++ m')
  | _, _, _, _, .nil, h => h
  | _, _, _, _, .cons a r, h => .cons a (paired_append r h)
class DG (K : PySem.W.Frag) (g : TG) (f : outParam (D → Option (List (Nat × D)))) : Prop where
  run : ∀ (W : Wd) (σ : L2.St) (H : Hp) (v : V) (d : D) (us : List (Nat × D)) (Q : L2.St → Hp → Prop), At K W H v d → f d = some us → (∀ zs, Upd K W H zs us → Q (setAll σ zs) H) → g v σ H Q
class DGs (K : PySem.W.Frag) (g : TGs) (f : outParam (List D → Option (List (Nat × D)))) : Prop where
  run : ∀ (W : Wd) (σ : L2.St) (H : Hp) (vs : List V) (ds : List D) (us : List (Nat × D)) (Q : L2.St → Hp → Prop), AtAll K W H vs ds → f ds = some us → (∀ zs, Upd K W H zs us → Q (setAll σ zs) H) → g vs σ H Q
def aName (i : Nat) : D → Option (List (Nat × D)) := fun d => some [(i, d)]
instance {i : Nat} : DG K (gName i) (aName i) := ⟨fun W σ H v d us Q a e h => by
  cases e
  exact h [(i, v)] (.cons ⟨rfl, a⟩ .nil)⟩
def aGNil : List D → Option (List (Nat × D))
  | [] => some []
  | _ => none
def aGCons (f : D → Option (List (Nat × D))) (g : List D → Option (List (Nat × D))) : List D → Option (List (Nat × D))
  | d :: r => (match f d, g r with
    | some a, some b => some (a ++ b)
    | _, _ => none)
  | [] => none
instance : DGs K gNil aGNil := ⟨fun W σ H vs ds us Q a e h => by
  cases a with
  | nil => cases e; exact ⟨rfl, h [] .nil⟩
  | cons _ _ => cases e⟩
instance {t : TG} {u : TGs} {f : D → Option (List (Nat × D))} {g : List D → Option (List (Nat × D))} [DG K t f] [DGs K u g] : DGs K (gCons t u) (aGCons f g) := ⟨fun W σ H vs ds us Q a e h => by
  cases a with
  | nil => cases e
  | @cons v vs d ds a r =>
    unfold aGCons at e
    cases e1 : f d with
    | none => simp only [e1] at e; cases e
    | some x =>
      cases e2 : g ds with
      | none => simp only [e1, e2] at e; cases e
      | some y =>
        simp only [e1, e2] at e
        cases e
        refine ⟨_, _, rfl, DG.run (g := t) (f := f) W σ H _ _ x _ a e1 fun zs hz => ?_⟩
        refine DGs.run (g := u) (f := g) W (setAll σ zs) H _ _ y _ r e2 fun ws hw => ?_
        rw [← setAll_append]
        exact h _ (paired_append hz hw)⟩
def gTupK (K : PySem.W.Frag) (k : Nat) (t : TGs) : TG := fun v σ H Q => gTup K k t v σ H Q ∨ gLst K k t v σ H Q
theorem k_gtup {X : Cx} {es : List Expr} {k : Nat} {t : TGs} {pos : Pos} {m : Nat} (hK : X.K = K) (hc : X.calm = true) (h : PGs X es t)
    (hn : (assignEach es X.env).length = m := by rfl) (hst : (assignEach es X.env).findIdx? (·.1) = none := by rfl) : PG X (.Tuple es k pos) (gTupK K m t) := by
  subst hK
  refine ⟨fun pins s σ H v u Q I r hw => ?_⟩
  rcases hw with hw | hw
  · exact (pg_tup hc h hn hst).run pins s σ H v u Q I r hw
  · exact (pg_lst hc h hn hst).run pins s σ H v u Q I r hw
def aGTup (k : Nat) (g : List D → Option (List (Nat × D))) : D → Option (List (Nat × D))
  | .tup ds => (match Nat.beq ds.length k with
    | true => g ds
    | false => none)
  | .lst ds => (match Nat.beq ds.length k with
    | true => g ds
    | false => none)
  | _ => none
instance {k : Nat} {t : TGs} {g : List D → Option (List (Nat × D))} [DGs K t g] : DG K (gTupK K k t) (aGTup k g) := ⟨fun W σ H v d us Q a e h => by
  unfold aGTup at e
  split at e
  · split at e
    · rename_i hb
      cases a with
      | tup s a => exact .inl ⟨_, _, rfl, s, by rw [a.length]; exact Nat.eq_of_beq_eq_true hb, DGs.run (g := t) (f := g) W σ H _ _ us Q a e h⟩
    · cases e
  · split at e
    · rename_i hb
      cases a with
      | lst r s a => exact .inr ⟨_, _, rfl, SqL.of s, by rw [a.length]; exact Nat.eq_of_beq_eq_true hb, DGs.run (g := t) (f := g) W σ H _ _ us Q a e h⟩
    · cases e
  · cases e⟩
theorem wipe_set {σ : L2.St} {i : Nat} {v : Option V} : ∀ {vs : List Nat}, i ∈ vs → wipe (σ.set i v) vs = wipe σ vs
  | [], h => by cases h
  | w :: vs, h => by
    show (wipe (σ.set i v) vs).set w none = (wipe σ vs).set w none
    by_cases hi : i ∈ vs
    · rw [wipe_set hi]
    · have e : i = w := by
        rcases List.mem_cons.mp h with z | z
        · exact z
        · exact absurd z hi
      subst e
      have : ∀ us : List Nat, i ∉ us → wipe (σ.set i v) us = (wipe σ us).set i v := fun us => by
        induction us with
        | nil => intro _; rfl
        | cons u us ih =>
          intro hn
          show (wipe (σ.set i v) us).set u none = ((wipe σ us).set u none).set i v
          rw [ih (fun z => hn (List.mem_cons_of_mem _ z)), List.set_comm _ _ (fun z => hn (by rw [z]; exact List.mem_cons_self))]
      rw [this vs hi, List.set_set]
theorem wipe_setAll {vs : List Nat} : ∀ {zs : List (Nat × V)} {σ : L2.St}, (∀ z ∈ zs, z.1 ∈ vs) → wipe (setAll σ zs) vs = wipe σ vs
  | [], _, _ => rfl
  | z :: r, σ, h => by
    show wipe (setAll (σ.set z.1 (some z.2)) r) vs = _
    rw [wipe_setAll fun y hy => h y (List.mem_cons_of_mem _ hy), wipe_set (h z List.mem_cons_self)]
theorem upd_slots {W : Wd} {H : Hp} {p : Nat → Prop} : ∀ {zs : List (Nat × V)} {us : List (Nat × D)}, Upd K W H zs us → (∀ u ∈ us, p u.1) → ∀ z ∈ zs, p z.1
  | _, _, .nil, _, z, h => by cases h
  | _, _, .cons ⟨e, _⟩ r, hu, z, h => by
    rcases List.mem_cons.mp h with rfl | h
    · rw [e]
      exact hu _ List.mem_cons_self
    · exact upd_slots r (fun u hu' => hu u (List.mem_cons_of_mem _ hu')) z h
theorem EnvAt.setAll {W : Wd} {H : Hp} : ∀ {zs : List (Nat × V)} {us : List (Nat × D)} {σ : L2.St} {ρ : Env'}, EnvAt K W H σ ρ → Upd K W H zs us → EnvAt K W H (setAll σ zs) (eSetAll ρ us)
  | _, _, _, _, h, .nil => h
  | _, _, _, _, h, .cons (a := (i, v)) (b := (j, d)) ⟨e, a⟩ r => by
    cases (show i = j from e)
    have := EnvAt.setAll (h.set (i := i) a) r
    exact this
/-! what is walked -/
def Walks (K : PySem.W.Frag) (W : Wd) (J : It) (H : Hp) (ds : List D) : Prop := ∀ (W' : Wd), (∀ a, W'.rs a → ¬ W.rs a → H a = none) → W'.dk = W.dk → ∀ (H2 : Hp) (n2 : Nat), W'.le H H2 → W'.ok K n2 H2 → ∀ i : Nat,
  (∀ d, ds[i]? = some d → J.go i H2 ∧ ∀ x H3, J.yld i H2 x H3 → Same H2 H3 ∧ At K W' H3 x d) ∧ (ds.length ≤ i → J.stop i H2)
abbrev AI := Env' → Nat → (List D → Nat → Prop) → Prop
class DI (K : PySem.W.Frag) (wi : TI) (f : outParam AI) : Prop where
  run : ∀ (W : Wd) (σ : L2.St) (ρ : Env') (n : Nat) (H : Hp) (R : It → Hp → Prop) (Qa : List D → Nat → Prop), (∀ ds n', Qa ds n' → ∀ J H', W.le H H' → W.ok K n' H' → Walks K W J H' ds → R J H') → EnvAt K W H σ ρ → W.ok K n H → f ρ n Qa → wi σ H R
theorem Wd.ok.lk' {W W' : Wd} {H : Hp} {n : Nat} (o : W.ok K n H) (hr : ∀ a, W'.rs a → ¬ W.rs a → H a = none) : W'.lk H := fun a r ob e => by
  by_cases hw : W.rs a
  · exact o.lk a hw ob e
  · rw [hr a r hw] at e
    cases e
def iAny (K : PySem.W.Frag) (tl : TE) : TI := fun σ H R => tl σ H fun x H1 => ∃ a, x = .ref a ∧ (((∃ xs, SqL K H1 a xs) ∧ R (Itl K a) H1) ∨ ((∃ xs, SqT K H1 a xs) ∧ R (Itt K a) H1))
theorem k_iter {X : Cx} {tg l : Expr} {tl : TE} (hK : X.K = K) (hl : PE X l tl) : PI X tg l (iAny K tl) := by
  subst hK
  refine ⟨fun pins s σ H R I h => ?_⟩
  refine thn (hl.run pins s σ H _ I h) fun v s1 ⟨x, H1, I1, r1, q1⟩ => ?_
  obtain ⟨a, e, q1⟩ := q1
  subst e
  cases r1
  rcases q1 with ⟨⟨xs, hq⟩, q⟩ | ⟨⟨xs, hq⟩, q⟩
  · obtain ⟨its, rv, p, hz⟩ := I1.list hq
    refine wpAny_pyIter_list p.isList ?_
    refine ⟨s1.heap.objs.size, [s1.heap.objs.size], _, _, H1, rfl, I1.kept (t' := s1.toks) fun b o e => Heap.get?_push_of_some _ e, turn_list a _, ⟨_, Heap.get?_push_size _ rfl, rfl, rfl⟩, fun b hb => ?_, q⟩
    have e : b = s1.heap.objs.size := by simpa using hb
    subst e
    exact I1.fpOk (Nat.le_refl _) (I1.hok.fresh (Nat.le_refl _))
  · obtain ⟨its, rv, p, hz⟩ := I1.tuple hq
    refine wpAny_pyIter_tuple (show s1.heap.IsTuple a its.toArray from p) ?_
    refine ⟨s1.heap.objs.size, [s1.heap.objs.size], _, _, H1, rfl, I1.kept (t' := s1.toks) fun b o e => Heap.get?_push_of_some _ e, turn_tuple a _, ⟨_, Heap.get?_push_size _ rfl, rfl, rfl⟩, fun b hb => ?_, q⟩
    have e : b = s1.heap.objs.size := by simpa using hb
    subst e
    exact I1.fpOk (Nat.le_refl _) (I1.hok.fresh (Nat.le_refl _))
def aIter (f : AE) : AI := fun ρ n Q => f ρ n fun d n1 => match d with
  | .tup ds => Q ds n1
  | .lst ds => Q ds n1
  | _ => False
instance {tl : TE} {f : AE} [DE K tl f] : DI K (iAny K tl) (aIter f) := ⟨fun W σ ρ n H R Qa hQ hE o h =>
  DE.run (te := tl) (f := f) W σ ρ n H _ _ (fun d n1 h1 H1 x l1 o1 ax => by
    split at h1
    · cases ax with
      | tup s a =>
        refine ⟨_, rfl, .inr ⟨⟨_, s⟩, hQ _ _ h1 _ H1 l1 o1 fun W' hr hd H2 n2 l2 o2 i => ?_⟩⟩
        have s2 := sqt_lk (o1.lk' hr) l2 s
        refine ⟨fun d hd' => ?_, fun hi => ⟨_, s2, by rw [a.length]; exact hi⟩⟩
        obtain ⟨v, e1, e2⟩ := a.get hd'
        refine ⟨⟨_, v, s2, e1⟩, fun x H3 ⟨e3, e4⟩ => ?_⟩
        subst e3
        have := e4 _ s2
        rw [e1] at this
        cases this
        exact ⟨Same.refl _, At.lk (o1.lk' hr) l2 _ (At.ext hr hd _ e2)⟩
    · cases ax with
      | lst r s a =>
        refine ⟨_, rfl, .inl ⟨⟨_, SqL.of s⟩, hQ _ _ h1 _ H1 l1 o1 fun W' hr hd H2 n2 l2 o2 i => ?_⟩⟩
        have s2 : SqL K H2 _ _ := SqL.of (l2 _ _ (fun z => by rw [hr _ z r] at s; cases s) s)
        refine ⟨fun d hd' => ?_, fun hi => ⟨_, s2, by rw [a.length]; exact hi⟩⟩
        obtain ⟨v, e1, e2⟩ := a.get hd'
        refine ⟨⟨_, v, s2, e1⟩, fun x H3 ⟨e3, e4⟩ => ?_⟩
        subst e3
        have := e4 _ s2
        rw [e1] at this
        cases this
        exact ⟨Same.refl _, At.lk (o1.lk' hr) l2 _ (At.ext hr hd _ e2)⟩
    · exact h1.elim) hE o h⟩
def rangeD (lo : Int) : Nat → List D
  | 0 => []
  | k + 1 => .int lo :: rangeD (lo + 1) k
theorem rangeD_length (lo : Int) : ∀ k, (rangeD lo k).length = k
  | 0 => rfl
  | k + 1 => by rw [rangeD, List.length_cons, rangeD_length]
theorem rangeD_get : ∀ {lo : Int} {k i : Nat} {d : D}, (rangeD lo k)[i]? = some d → i < k ∧ d = .int (lo + i)
  | lo, 0, i, d, h => by cases h
  | lo, k + 1, 0, d, h => by
    cases h
    exact ⟨Nat.succ_pos _, by rw [Int.natCast_zero, Int.add_zero]⟩
  | lo, k + 1, i + 1, d, h => by
    obtain ⟨h1, h2⟩ := rangeD_get (lo := lo + 1) (k := k) (i := i) h
    refine ⟨Nat.succ_lt_succ h1, ?_⟩
    rw [h2]
    congr 1
    omega
def aRange1 (g : AA) : AI := fun ρ n Q => g ρ n fun ds n1 => match ds with
  | [.int j] => (-(2 ^ 62) ≤ j ∧ j < 2 ^ 62) ∧ Q (rangeD 0 j.toNat) n1
  | _ => False
def aRange2 (g : AA) : AI := fun ρ n Q => g ρ n fun ds n1 => match ds with
  | [.int i, .int j] => (-(2 ^ 62) ≤ i ∧ i < 2 ^ 62 ∧ -(2 ^ 62) ≤ j ∧ j < 2 ^ 62) ∧ Q (rangeD i (j - i).toNat) n1
  | _ => False
theorem range_walks {W : Wd} {lo : Int} {k : Nat} {H : Hp} : Walks K W (Itr lo k) H (rangeD lo k) := fun W' hr hd H2 n2 l2 o2 i => by
  refine ⟨fun d e => ?_, fun hi => by rw [rangeD_length] at hi; exact hi⟩
  obtain ⟨h1, rfl⟩ := rangeD_get e
  refine ⟨h1, fun x H3 ⟨e3, e4⟩ => ?_⟩
  subst e3 e4
  exact ⟨Same.refl _, .int _⟩
instance {ta : TA} {g : AA} [DA K ta g] : DI K (iRng1 ta) (aRange1 g) := ⟨fun W σ ρ n H R Qa hQ hE o h =>
  DA.run (te := ta) (f := g) W σ ρ n H _ _ (fun ds n1 h1 H1 vs l1 o1 ax => by
    split at h1
    · cases ax with
      | cons a r =>
        cases r
        cases a
        exact ⟨_, rfl, h1.1.1, h1.1.2, hQ _ _ h1.2 _ H1 l1 o1 range_walks⟩
    · exact h1.elim) hE o h⟩
instance {ta : TA} {g : AA} [DA K ta g] : DI K (iRng2 ta) (aRange2 g) := ⟨fun W σ ρ n H R Qa hQ hE o h =>
  DA.run (te := ta) (f := g) W σ ρ n H _ _ (fun ds n1 h1 H1 vs l1 o1 ax => by
    split at h1
    · cases ax with
      | cons a r =>
        cases r with
        | cons b r =>
          cases r
          cases a
          cases b
          exact ⟨_, _, rfl, h1.1, hQ _ _ h1.2 _ H1 l1 o1 range_walks⟩
    · exact h1.elim) hE o h⟩
/-! zip, enumerate -/
def zipD : List D → List D → List D
  | a :: as, b :: bs => .tup [a, b] :: zipD as bs
  | _, _ => []
theorem zipD_get : ∀ {as bs : List D} {i : Nat} {d : D}, (zipD as bs)[i]? = some d → ∃ a b, as[i]? = some a ∧ bs[i]? = some b ∧ d = .tup [a, b]
  | [], _, _, _, h => by cases h
  | _ :: _, [], _, _, h => by cases h
  | a :: as, b :: bs, 0, d, h => by cases h; exact ⟨a, b, rfl, rfl, rfl⟩
  | a :: as, b :: bs, i + 1, d, h => zipD_get (as := as) (bs := bs) (i := i) h
theorem zipD_length : ∀ {as bs : List D}, (zipD as bs).length = min as.length bs.length
  | [], bs => by simp [zipD]
  | _ :: _, [] => by simp [zipD]
  | a :: as, b :: bs => by rw [zipD, List.length_cons, List.length_cons, List.length_cons, zipD_length, Nat.succ_min_succ]
def enumD (k : Nat) : List D → List D
  | [] => []
  | a :: as => .tup [.int k, a] :: enumD (k + 1) as
theorem enumD_get : ∀ {as : List D} {k i : Nat} {d : D}, (enumD k as)[i]? = some d → ∃ a, as[i]? = some a ∧ d = .tup [.int ((k + i : Nat) : Int), a]
  | [], _, _, _, h => by cases h
  | a :: as, k, 0, d, h => by cases h; exact ⟨a, rfl, rfl⟩
  | a :: as, k, i + 1, d, h => by
    obtain ⟨b, h1, h2⟩ := enumD_get (as := as) (k := k + 1) (i := i) h
    exact ⟨b, h1, by rw [h2]; congr 3; omega⟩
theorem enumD_length : ∀ {as : List D} {k : Nat}, (enumD k as).length = as.length
  | [], _ => rfl
  | a :: as, k => by rw [enumD, List.length_cons, List.length_cons, enumD_length]
end

/-! ### the mirror, fourth part: zip, enumerate, for, comprehensions, defs -/
section
variable {K : PySem.W.Frag}
theorem sql_lk {W : Wd} {H H' : Hp} {a : Addr} {xs : List V} (l : W.le H H') (r : ¬ W.rs a) (s : H a = some (.lst xs)) : SqL K H' a xs := SqL.of (l _ _ r s)
def iZipK (K : PySem.W.Frag) (ta : TA) : TI := RZ.iZipA K ta
theorem k_zip {X : Cx} {e e2 : Expr} {ta : TA} {p pos tpos : Pos} {elts : List Expr} {kk : Nat} (hK : X.K = K) (hg : Gl X "zip") (hm : X.mg "zip" = none) (ha : PA X [e, e2] ta)
    (hs : starEach [e, e2] X.env = (false, eval e X.env) :: starEach [e2] X.env := by rfl) (hpl : (backTo pos (starEach [e2] X.env)).any (·.1) = false := by rfl) :
    PI X (.Tuple elts kk tpos) (.Call (.Name "zip" p) [e, e2] [] pos) (iZipK K ta) := hK ▸ RZ.pi_zipA hg hm ha hs hpl
def aZip (g : AA) : AI := fun ρ n Q => g ρ n fun ds n1 => match ds with
  | [.lst as, .lst bs] => Q (zipD as bs) n1
  | [.tup as, .tup bs] => Q (zipD as bs) n1
  | _ => False
instance {ta : TA} {g : AA} [DA K ta g] : DI K (iZipK K ta) (aZip g) := ⟨fun W σ ρ n H R Qa hQ hE o h =>
  DA.run (te := ta) (f := g) W σ ρ n H _ _ (fun ds n1 h1 H1 vs l1 o1 ax => by
    split at h1
    · cases ax with
      | cons a r =>
        cases r with
        | cons b r =>
          cases r
          cases a with
          | lst ra sa a =>
            cases b with
            | lst rb sb b =>
              refine ⟨_, _, _, _, rfl, .inl ⟨SqL.of sa, SqL.of sb, hQ _ _ h1 _ H1 l1 o1 fun W' hr hd H2 n2 l2 o2 i => ?_⟩⟩
              have s2 := sql_lk (K := K) l2 (fun z => by rw [hr _ z ra] at sa; cases sa) sa
              have s3 := sql_lk (K := K) l2 (fun z => by rw [hr _ z rb] at sb; cases sb) sb
              refine ⟨fun d e => ?_, fun hi => ⟨_, _, s2, s3, ?_⟩⟩
              · obtain ⟨x, y, e1, e2, rfl⟩ := zipD_get e
                obtain ⟨v, e1', a1⟩ := a.get e1
                obtain ⟨u, e2', a2⟩ := b.get e2
                refine ⟨⟨_, _, v, u, s2, s3, e1', e2'⟩, fun z H3 ⟨T, x', y', ez, hT, eH, e3, e4⟩ => ?_⟩
                have q1 := e3 _ s2
                have q2 := e4 _ s3
                rw [e1'] at q1
                rw [e2'] at q2
                cases q1
                cases q2
                subst ez eH
                have st : Same H2 (upd H2 T (.tup [v, u])) := same_upd hT
                refine ⟨st, .tup (.inl (.inl upd_same)) (.cons ?_ (.cons ?_ .nil))⟩
                · exact At.le o2 (Wd.le_same st) _ (At.lk (o1.lk' hr) l2 _ (At.ext hr hd _ a1))
                · exact At.le o2 (Wd.le_same st) _ (At.lk (o1.lk' hr) l2 _ (At.ext hr hd _ a2))
              · rw [zipD_length] at hi
                rw [a.length, b.length]
                omega
    · cases ax with
      | cons a r =>
        cases r with
        | cons b r =>
          cases r
          cases a with
          | tup sa a =>
            cases b with
            | tup sb b =>
              refine ⟨_, _, _, _, rfl, .inr ⟨sa, sb, hQ _ _ h1 _ H1 l1 o1 fun W' hr hd H2 n2 l2 o2 i => ?_⟩⟩
              have s2 := sqt_lk (o1.lk' hr) l2 sa
              have s3 := sqt_lk (o1.lk' hr) l2 sb
              refine ⟨fun d e => ?_, fun hi => ⟨_, _, s2, s3, ?_⟩⟩
              · obtain ⟨x, y, e1, e2, rfl⟩ := zipD_get e
                obtain ⟨v, e1', a1⟩ := a.get e1
                obtain ⟨u, e2', a2⟩ := b.get e2
                refine ⟨⟨_, _, v, u, s2, s3, e1', e2'⟩, fun z H3 ⟨T, x', y', ez, hT, eH, e3, e4⟩ => ?_⟩
                have q1 := e3 _ s2
                have q2 := e4 _ s3
                rw [e1'] at q1
                rw [e2'] at q2
                cases q1
                cases q2
                subst ez eH
                have st : Same H2 (upd H2 T (.tup [v, u])) := same_upd hT
                refine ⟨st, .tup (.inl (.inl upd_same)) (.cons ?_ (.cons ?_ .nil))⟩
                · exact At.le o2 (Wd.le_same st) _ (At.lk (o1.lk' hr) l2 _ (At.ext hr hd _ a1))
                · exact At.le o2 (Wd.le_same st) _ (At.lk (o1.lk' hr) l2 _ (At.ext hr hd _ a2))
              · rw [zipD_length] at hi
                rw [a.length, b.length]
                omega
    · exact h1.elim) hE o h⟩
def iEnumK (K : PySem.W.Frag) (ta : TA) : TI := iEnum K ta
theorem k_enum {X : Cx} {e : Expr} {ta : TA} {p pos tpos : Pos} {elts : List Expr} {kk : Nat} (hK : X.K = K) (hg : Gl X "enumerate") (hm : X.mg "enumerate" = none) (ha : PA X [e] ta) (hs : starEach [e] X.env = [(false, eval e X.env)] := by rfl) :
    PI X (.Tuple elts kk tpos) (.Call (.Name "enumerate" p) [e] [] pos) (iEnumK K ta) := hK ▸ pi_enum hg hm ha hs
def aEnum (g : AA) : AI := fun ρ n Q => g ρ n fun ds n1 => match ds with
  | [.lst as] => Q (enumD 0 as) n1
  | _ => False
instance {ta : TA} {g : AA} [DA K ta g] : DI K (iEnumK K ta) (aEnum g) := ⟨fun W σ ρ n H R Qa hQ hE o h =>
  DA.run (te := ta) (f := g) W σ ρ n H _ _ (fun ds n1 h1 H1 vs l1 o1 ax => by
    split at h1
    · cases ax with
      | cons a r =>
        cases r
        cases a with
        | lst ra sa a =>
          refine ⟨_, _, rfl, SqL.of sa, hQ _ _ h1 _ H1 l1 o1 fun W' hr hd H2 n2 l2 o2 i => ?_⟩
          have s2 := sql_lk (K := K) l2 (fun z => by rw [hr _ z ra] at sa; cases sa) sa
          refine ⟨fun d e => ?_, fun hi => ⟨_, s2, by rw [a.length]; rw [enumD_length] at hi; exact hi⟩⟩
          obtain ⟨x, e1, rfl⟩ := enumD_get e
          obtain ⟨v, e1', a1⟩ := a.get e1
          refine ⟨⟨_, v, s2, e1'⟩, fun z H3 ⟨T, x', ez, hT, eH, e3⟩ => ?_⟩
          have q1 := e3 _ s2
          rw [e1'] at q1
          cases q1
          subst ez eH
          have st : Same H2 (upd H2 T (.tup [.int i, v])) := same_upd hT
          refine ⟨st, .tup (.inl (.inl upd_same)) (.cons ?_ (.cons ?_ .nil))⟩
          · rw [Nat.zero_add]
            exact .int _
          · exact At.le o2 (Wd.le_same st) _ (At.lk (o1.lk' hr) l2 _ (At.ext hr hd _ a1))
    · exact h1.elim) hE o h⟩
/-! comprehensions -/
def wipeA (ρ : Env') : List Nat → Env'
  | [] => ρ
  | v :: vs => eSet (wipeA ρ vs) v none
theorem EnvAt.wipe {W : Wd} {H : Hp} {σ : L2.St} {ρ : Env'} (h : EnvAt K W H σ ρ) : ∀ vs : List Nat, EnvAt K W H (L2.wipe σ vs) (wipeA ρ vs)
  | [] => h
  | v :: vs => by
    have ih := EnvAt.wipe h vs
    refine ⟨by show ((L2.wipe σ vs).set v none).length = (eSet (wipeA ρ vs) v none).length; rw [List.length_set, eSet_length]; exact ih.1, fun i d e => ?_⟩
    have e' : eGet (eSet (wipeA ρ vs) v none) i = some d := e
    by_cases hv : v = i
    · subst hv
      cases (eGet_set e').2
    · rw [eGet_ne hv] at e'
      obtain ⟨x, h1, h2⟩ := ih.2 i d e'
      exact ⟨x, by show ((L2.wipe σ vs).set v none)[i]? = _; rw [List.getElem?_set_ne hv]; exact h1, h2⟩
theorem wipe_wipe (σ : L2.St) (vs : List Nat) : wipe (wipe σ vs) vs = wipe σ vs := by
  have : ∀ us : List Nat, (∀ i ∈ us, i ∈ vs) → wipe (wipe σ us) vs = wipe σ vs := fun us => by
    induction us with
    | nil => intro _; rfl
    | cons u us ih =>
      intro h
      show wipe ((wipe σ us).set u none) vs = _
      rw [wipe_set (h u List.mem_cons_self), ih fun i hi => h i (List.mem_cons_of_mem _ hi)]
  exact this vs fun i hi => hi
def aPutC (vs : List Nat) (g : D → Option (List (Nat × D))) (d : D) (ρ : Env') (Q : Env' → Prop) : Prop := match g d with
  | some us => (match us.all fun u => vs.contains u.1 with
    | true => Q (eSetAll ρ us)
    | false => False)
  | none => False
def aLcGo (vs : List Nat) (G : D → Option (List (Nat × D))) (c : AT) (e : AE) (ρ : Env') (Q : D → Nat → Prop) : List D → List D → Nat → Prop
  | acc, [], n => Q (.lst acc) n
  | acc, d :: r, n => aPutC vs G d ρ fun ρ1 => c ρ1 n fun b n2 => aIte b (e ρ1 n2 fun y n3 => aLcGo vs G c e ρ Q (acc ++ [y]) r n3) (aLcGo vs G c e ρ Q acc r n2)
def aLc (I : AI) (G : D → Option (List (Nat × D))) (c : AT) (e : AE) (vs : List Nat) : AE := fun ρ n Q => I ρ n fun ds n1 => ds.length ≤ 1000000 ∧ aLcGo vs G c e (wipeA ρ vs) Q [] ds n1
theorem Wd.le_add {W : Wd} {p : Addr} {xs : HO} {H H1 H2 : Hp} (hp : H p = none) (l : W.le H H1) (l2 : (W.add (p, xs)).le H1 H2) : W.le H H2 := fun a o r e => by
  have ne : a ≠ p := ne_of_none e hp
  refine l2 a o ?_ (l a o r e)
  rintro (z | z)
  · exact r (.inl z)
  · rcases List.mem_cons.mp z with z | z
    · exact ne z
    · exact r (.inr z)
theorem Wd.ok_put {W : Wd} {p : Addr} {ys : HO} {n : Nat} {H : Hp} (hm : Mt ys) (hp : ¬ W.rs p) (hl : H p = none ∨ ∃ xs, H p = some (.lst xs)) (o : W.ok K n H) : (W.add (p, ys)).ok K n (upd H p ys) := by
  refine ⟨fun d b e => ?_, fun q hq => ?_, fun d b e q hq => ?_⟩
  · obtain ⟨c, D, l⟩ := o.deck d b e
    have n1 : p ≠ d := fun z => hp (.inl ⟨d, b, e, .inl z⟩)
    have n2 : p ≠ b := fun z => hp (.inl ⟨d, b, e, .inr z⟩)
    refine ⟨c, ?_, l⟩
    obtain ⟨⟨s, ns, cs, i, k, h1, h2, h3, h4⟩, ne⟩ := D
    refine ⟨⟨s, ns, cs, i, k, ?_, ?_, h3.upd hl, h4⟩, ne⟩
    · rw [upd_ne (Ne.symm n1)]; exact h1
    · rw [upd_ne (Ne.symm n2)]; exact h2
  · rcases List.mem_cons.mp hq with rfl | hq
    · exact ⟨upd_same, hm⟩
    · rw [upd_ne fun z => hp (.inr (List.mem_map.mpr ⟨q, hq, z⟩))]
      exact o.owns q hq
  · rcases List.mem_cons.mp hq with rfl | hq
    · exact ⟨fun z => hp (.inl ⟨d, b, e, .inl z⟩), fun z => hp (.inl ⟨d, b, e, .inr z⟩)⟩
    · exact o.dis d b e q hq
theorem Wd.ok.drop {W : Wd} {q : Addr × HO} {n : Nat} {H : Hp} (o : (W.add q).ok K n H) : W.ok K n H := ⟨o.deck, fun p hp => o.owns p (List.mem_cons_of_mem _ hp), fun d b e p hp => o.dis d b e p (List.mem_cons_of_mem _ hp)⟩
theorem Wd.le_more {W : Wd} {q : Addr × HO} {H H' : Hp} (l : W.le H H') : (W.add q).le H H' := fun a o r e => l a o (fun z => r (by
  rcases z with z | z
  · exact .inl z
  · exact .inr (List.mem_cons_of_mem _ z))) e
theorem Wd.le_own {W : Wd} {p : Addr} {xs : HO} {ob : HO} {H : Hp} : (W.add (p, xs)).le H (upd H p ob) := fun a o r e => by
  rw [upd_ne fun z => r (.inr (by rw [z]; exact List.mem_cons_self))]
  exact e
theorem EnvAt.ext {W W' : Wd} {H : Hp} {σ : L2.St} {ρ : Env'} (hr : ∀ a, W'.rs a → ¬ W.rs a → H a = none) (hd : W'.dk = W.dk) (h : EnvAt K W H σ ρ) : EnvAt K W' H σ ρ := ⟨h.1, fun i d e => let ⟨v, e', a⟩ := h.2 i d e; ⟨v, e', At.ext hr hd d a⟩⟩
theorem EnvAt.lk {W : Wd} {H H' : Hp} {σ : L2.St} {ρ : Env'} (h : EnvAt K W H σ ρ) (o : W.lk H) (l : W.le H H') : EnvAt K W H' σ ρ := ⟨h.1, fun i d e => let ⟨v, e', a⟩ := h.2 i d e; ⟨v, e', At.lk o l d a⟩⟩
theorem Wd.rs_new {W : Wd} {p : Addr} {xs : HO} {H : Hp} (hp : H p = none) : ∀ a, (W.add (p, xs)).rs a → ¬ W.rs a → H a = none := fun a z r => by
  rcases z with z | z
  · exact absurd (.inl z) r
  · rcases List.mem_cons.mp z with z | z
    · have z' : a = p := z
      rw [z']
      exact hp
    · exact absurd (.inr z) r
instance {wi : TI} {g : TG} {tt : TT} {te : TE} {vs : List Nat} {I : AI} {G : D → Option (List (Nat × D))} {c : AT} {e : AE} [DI K wi I] [DG K g G] [DT K tt c] [DE K te e] : DE K (tLc wi g tt te vs) (aLc I G c e vs) := ⟨fun W σ ρ n H Q Qa hQ hE o h => by
  refine DI.run (wi := wi) (f := I) W σ ρ n H _ _ (fun ds n1 h1 J H1 l1 o1 hw Dl hDl => ?_) hE o h
  obtain ⟨hlen, h1⟩ := h1
  have nrs : ¬ W.rs Dl := o1.fresh hDl
  refine ⟨fun i m H' => m = ds.length - i ∧ i ≤ ds.length ∧ ∃ n' us acc, aLcGo vs G c e (wipeA ρ vs) Qa acc (ds.drop i) n' ∧ (W.add (Dl, .lst us)).ok K n' H' ∧ AtAll K (W.add (Dl, .lst us)) H' us acc ∧ W.le H1 H' ∧ us.length ≤ i, ⟨_, rfl, Nat.zero_le _, n1, [], [], h1, Wd.ok_put trivial nrs (.inl hDl) o1, .nil, Wd.le_same (same_upd hDl), Nat.le_refl _⟩, ?_⟩
  rintro i m H2 ⟨rfl, hi, n2, us, acc, h2, o2, a2, l2, hul⟩
  have rn := Wd.rs_new (W := W) (xs := .lst us) hDl
  obtain ⟨w1, w2⟩ := hw (W.add (Dl, .lst us)) rn rfl H2 n2 (Wd.le_more l2) o2 i
  by_cases hlt : i < ds.length
  · rw [List.drop_eq_getElem_cons hlt] at h2
    obtain ⟨hgo, hy⟩ := w1 ds[i] (List.getElem?_eq_getElem hlt)
    refine .inr ⟨hgo, fun H' => ∃ m', m' < ds.length - i ∧ m' = ds.length - (i + 1) ∧ i + 1 ≤ ds.length ∧ ∃ n' us acc, aLcGo vs G c e (wipeA ρ vs) Qa acc (ds.drop (i + 1)) n' ∧ (W.add (Dl, .lst us)).ok K n' H' ∧ AtAll K (W.add (Dl, .lst us)) H' us acc ∧ W.le H1 H' ∧ us.length ≤ i + 1, fun H' q => q, fun x H3 hx => ?_⟩
    obtain ⟨s3, a3⟩ := hy x H3 hx
    have l3 : (W.add (Dl, .lst us)).le H2 H3 := Wd.le_same s3
    have o3 := o2.same s3
    have hE3 : EnvAt K (W.add (Dl, .lst us)) H3 (wipe σ vs) (wipeA ρ vs) := (((hE.le o l1).ext rn rfl).lk (o1.lk' rn) ((Wd.le_more l2).trans l3)).wipe vs
    unfold aLcGo aPutC at h2
    split at h2
    · rename_i xs ex
      split at h2
      · rename_i hc
        refine DG.run (g := g) (f := G) _ (wipe σ vs) H3 x _ xs _ a3 ex fun zs hz => ?_
        have hE4 := hE3.setAll hz
        have hv : ∀ z ∈ zs, z.1 ∈ vs := upd_slots hz fun u hu => List.contains_iff_mem.mp (List.all_eq_true.mp hc u hu)
        refine ⟨by rw [wipe_setAll hv, wipe_wipe], DT.run (te := tt) (f := c) _ _ _ n2 H3 _ _ (fun b n5 h5 H5 l5 o5 => ?_) hE4 o3 h2⟩
        have l25 := l3.trans l5
        cases b with
        | true =>
          rw [if_pos rfl]
          refine DE.run (te := te) (f := e) _ _ _ n5 H5 _ _ (fun y n6 h6 H6 v l6 o6 a6 => ?_) (hE4.le o3 l5) o5 (h5.1 rfl)
          have hD6 : H6 Dl = some (.lst us) := (o6.owns (Dl, .lst us) List.mem_cons_self).1
          have l26 := l25.trans l6
          refine ⟨us, hD6, Nat.lt_of_lt_of_le (show us.length < 1000000 by omega) lim, _, by omega, rfl, hlt, n6, us ++ [v], acc ++ [y], h6, Wd.ok_put trivial nrs (.inr ⟨_, hD6⟩) o6.drop, ?_, Wd.le_add hDl l2 (l26.trans (Wd.le_own (ob := .lst (us ++ [v])))), by rw [List.length_append, List.length_singleton]; omega⟩
          have key : AtAll K (W.add (Dl, .lst us)) H6 (us ++ [v]) (acc ++ [y]) := (AtAll.le o2 l26 _ a2).append (.cons a6 .nil)
          exact AtAll.weak (W := W.add (Dl, .lst us)) (W' := W.add (Dl, .lst (us ++ [v]))) (fun a z => z) rfl _ (AtAll.le o6 (Wd.le_own (ob := .lst (us ++ [v]))) _ key)
        | false =>
          rw [if_neg Bool.false_ne_true]
          exact ⟨_, by omega, rfl, hlt, n5, us, acc, h5.2 rfl, o5, AtAll.le o2 l25 _ a2, Wd.le_add hDl l2 l25, by omega⟩
      · exact h2.elim
    · exact h2.elim
  · have ei : i = ds.length := by omega
    subst ei
    rw [List.drop_length] at h2
    have hD2 : H2 Dl = some (.lst us) := (o2.owns (Dl, .lst us) List.mem_cons_self).1
    exact .inl ⟨w2 (Nat.le_refl _), hQ _ _ h2 H2 _ (l1.trans l2) o2.drop (.lst nrs hD2 (AtAll.weak (fun a z => Wd.rs_add z) rfl _ a2))⟩⟩
/-! reversed copies -/
def tRevK (K : PySem.W.Frag) (te : TE) : TE := tRevL K te
theorem k_rev {X : Cx} {e : Expr} {te : TE} {k : Nat} {p1 p2 p3 pos : Pos} (hK : X.K = K) (he : PE X e te) : PE X (.Subscript e (.Slice none none (some (.UnaryOp .USub (.Constant (.int 1) k p1) p2)) p3) pos) (tRevK K te) := hK ▸ pe_revL he
def aRev (f : AE) : AE := fun ρ n Q => f ρ n fun d n1 => match d with
  | .lst ds => Q (.lst ds.reverse) n1
  | _ => False
instance {te : TE} {f : AE} [DE K te f] : DE K (tRevK K te) (aRev f) := ⟨fun W σ ρ n H Q Qa hQ hE o h =>
  DE.run (te := te) (f := f) W σ ρ n H _ _ (fun d n1 h1 H1 x l1 o1 ax => by
    split at h1
    · cases ax with
      | lst r s a => exact ⟨_, _, rfl, SqL.of s, fun p hp => (hQ.le l1).new o1 h1 hp (.lst (o1.fresh hp) upd_same (AtAll.le o1 (Wd.le_same (same_upd hp)) _ (rev_at a)))⟩
    · exact h1.elim) hE o h⟩
end

/-! ### the mirror, fifth part: statements, defs -/
section
variable {K : PySem.W.Frag}
/-! ### statements: lists (and dicts) that a def builds, at the slots ow -/
def Wd.plus (W : Wd) (U : List (Addr × HO)) : Wd := { W with own := U ++ W.own }
inductive OwAt (K : PySem.W.Frag) (W : Wd) (H : Hp) : HO → D → Prop
  | lst {us : List V} {ds : List D} : AtAll K W H us ds → OwAt K W H (.lst us) (.lst ds)
  | dic {ks : List Key} {us : List V} {ds : List D} : ks.length = us.length → AtAll K W H us ds → OwAt K W H (.dK (ks.zip us)) (.dic ks ds)
structure SOk (K : PySem.W.Frag) (W : Wd) (ow : List Nat) (n : Nat) (H : Hp) (σ : L2.St) (ρ : Env') (U : List (Addr × HO)) : Prop where
  nd : (U.map (·.1)).Nodup
  nr : ∀ u ∈ U, ¬ W.rs u.1
  ok : (W.plus U).ok K n H
  len : σ.length = ρ.length
  env : ∀ i d, i ∉ ow → eGet ρ i = some d → ∃ v, σ[i]? = some (some v) ∧ At K (W.plus U) H v d
  own : ∀ i d, i ∈ ow → eGet ρ i = some d → ∃ u ∈ U, σ[i]? = some (some (.ref u.1)) ∧ OwAt K (W.plus U) H u.2 d
  dst : ∀ i j p, i ∈ ow → j ∈ ow → i ≠ j → σ[i]? = some (some (.ref p)) → σ[j]? = some (some (.ref p)) → eGet ρ i = none ∨ eGet ρ j = none
structure Stp (W : Wd) (U : List (Addr × HO)) (H : Hp) (U' : List (Addr × HO)) (H' : Hp) : Prop where
  le : (W.plus U).le H H'
  new : ∀ a, (W.plus U').rs a → ¬ (W.plus U).rs a → H a = none
  old : ∀ a, (W.plus U).rs a → (W.plus U').rs a
theorem Stp.refl {W : Wd} {U : List (Addr × HO)} {H : Hp} : Stp W U H U H := ⟨Wd.le_refl, fun a h g => absurd h g, fun a h => h⟩
theorem Stp.trans {W : Wd} {U U1 U2 : List (Addr × HO)} {H H1 H2 : Hp} (s : Stp W U H U1 H1) (t : Stp W U1 H1 U2 H2) : Stp W U H U2 H2 := by
  have key : ∀ a o, ¬ (W.plus U).rs a → H a = some o → ¬ (W.plus U1).rs a := fun a o r e z => by
    rw [s.new a z r] at e
    cases e
  refine ⟨fun a o r e => t.le a o (key a o r e) (s.le a o r e), fun a z r => ?_, fun a h => t.old a (s.old a h)⟩
  by_cases h1 : (W.plus U1).rs a
  · exact s.new a h1 r
  · have h2 := t.new a z h1
    cases e : H a with
    | none => rfl
    | some o =>
      rw [s.le a o r e] at h2
      cases h2
theorem Wd.rs_plus {W : Wd} {U : List (Addr × HO)} {a : Addr} : (W.plus U).rs a ↔ a ∈ U.map (·.1) ∨ W.rs a := by
  constructor
  · rintro (h | h)
    · exact .inr (.inl h)
    · have h' : a ∈ (U ++ W.own).map (·.1) := h
      rw [List.map_append] at h'
      rcases List.mem_append.mp h' with h | h
      · exact .inl h
      · exact .inr (.inr h)
  · rintro (h | h | h)
    · refine .inr (show a ∈ (U ++ W.own).map (·.1) from ?_)
      rw [List.map_append]
      exact List.mem_append_left _ h
    · exact .inl h
    · refine .inr (show a ∈ (U ++ W.own).map (·.1) from ?_)
      rw [List.map_append]
      exact List.mem_append_right _ h
section
variable {W : Wd} {ow : List Nat} {n : Nat} {H H1 : Hp} {σ : L2.St} {ρ : Env'} {U : List (Addr × HO)}
theorem wipeA_get : ∀ {ow : List Nat} {i : Nat} {d : D}, eGet (wipeA ρ ow) i = some d → i ∉ ow ∧ eGet ρ i = some d
  | [], i, d, h => ⟨fun z => (by cases z), h⟩
  | w :: ow, i, d, h => by
    have h' : eGet (eSet (wipeA ρ ow) w none) i = some d := h
    by_cases e : w = i
    · subst e
      cases (eGet_set h').2
    · rw [eGet_ne e] at h'
      obtain ⟨h1, h2⟩ := wipeA_get h'
      exact ⟨fun z => (List.mem_cons.mp z).elim (fun q => e q.symm) h1, h2⟩
theorem wipeA_length : ∀ ow : List Nat, (wipeA ρ ow).length = ρ.length
  | [] => rfl
  | w :: ow => by
    show (eSet (wipeA ρ ow) w none).length = _
    rw [eSet_length, wipeA_length ow]
/-- the lists that are built hidden -/
theorem SOk.hid (s : SOk K W ow n H σ ρ U) : EnvAt K (W.plus U) H σ (wipeA ρ ow) := ⟨by rw [wipeA_length]; exact s.len, fun i d e => let ⟨h1, h2⟩ := wipeA_get e; s.env i d h1 h2⟩
theorem SOk.base (s : SOk K W ow n H σ ρ U) : W.ok K n H := ⟨s.ok.deck, fun p hp => s.ok.owns p (List.mem_append_right _ hp), fun d b e p hp => s.ok.dis d b e p (List.mem_append_right _ hp)⟩
/-- .. as plain lists -/
theorem SOk.opn (s : SOk K W ow n H σ ρ U) : EnvAt K W H σ ρ := by
  have hw : ∀ a, W.rs a → (W.plus U).rs a := fun a h => Wd.rs_plus.mpr (.inr h)
  refine ⟨s.len, fun i d e => ?_⟩
  by_cases hi : i ∈ ow
  · obtain ⟨⟨q, ob⟩, hu, e1, a⟩ := s.own i d hi e
    refine ⟨_, e1, ?_⟩
    have h1 := (s.ok.owns _ (List.mem_append_left _ hu)).1
    cases a with
    | lst a => exact .lst (s.nr _ hu) h1 (AtAll.weak hw rfl _ a)
    | dic l a => exact .dic (s.nr _ hu) h1 l (AtAll.weak hw rfl _ a)
  · obtain ⟨v, e1, a⟩ := s.env i d hi e
    exact ⟨v, e1, At.weak hw rfl _ a⟩
theorem OwAt.le {ob : HO} {d : D} (o : W.ok K n H) (l : W.le H H1) (h : OwAt K W H ob d) : OwAt K W H1 ob d := by
  cases h with
  | lst a => exact .lst (AtAll.le o l _ a)
  | dic e a => exact .dic e (AtAll.le o l _ a)
/-- behind what was done with the built ones hidden -/
theorem SOk.le {n1 : Nat} (s : SOk K W ow n H σ ρ U) (l : (W.plus U).le H H1) (o : (W.plus U).ok K n1 H1) : SOk K W ow n1 H1 σ ρ U :=
  ⟨s.nd, s.nr, o, s.len, fun i d h e => let ⟨v, e1, a⟩ := s.env i d h e; ⟨v, e1, At.le s.ok l _ a⟩, fun i d h e => let ⟨u, hu, e1, a⟩ := s.own i d h e; ⟨u, hu, e1, a.le s.ok l⟩, s.dst⟩
/-- behind what was done with them as plain lists -/
theorem SOk.lo {n1 : Nat} (s : SOk K W ow n H σ ρ U) (l : W.le H H1) (o : W.ok K n1 H1) : SOk K W ow n1 H1 σ ρ U := by
  have l' : (W.plus U).le H H1 := fun a ob r e => l a ob (fun z => r (Wd.rs_plus.mpr (.inr z))) e
  refine s.le l' ⟨o.deck, fun p hp => ?_, s.ok.dis⟩
  rcases List.mem_append.mp hp with hp' | hp'
  · obtain ⟨h1, h2⟩ := s.ok.owns p hp
    exact ⟨l _ _ (s.nr p hp') h1, h2⟩
  · exact o.owns p hp'
theorem lo_le (l : W.le H H1) : (W.plus U).le H H1 := fun a ob r e => l a ob (fun z => r (Wd.rs_plus.mpr (.inr z))) e
theorem SOk.set {i : Nat} {v : V} {d : D} (s : SOk K W ow n H σ ρ U) (hi : i ∉ ow) (a : At K (W.plus U) H v d) : SOk K W ow n H (σ.set i (some v)) (eSet ρ i (some d)) U := by
  refine ⟨s.nd, s.nr, s.ok, by rw [List.length_set, eSet_length]; exact s.len, fun j e hj he => ?_, fun j e hj he => ?_, fun j k p hj hk ne h1 h2 => ?_⟩
  · by_cases hij : i = j
    · subst hij
      obtain ⟨hl, he⟩ := eGet_set he
      cases he
      exact ⟨v, by rw [List.getElem?_set_self (by rw [s.len]; exact hl)], a⟩
    · rw [eGet_ne hij] at he
      rw [List.getElem?_set_ne hij]
      exact s.env j e hj he
  · have hij : i ≠ j := fun z => hi (z ▸ hj)
    rw [eGet_ne hij] at he
    rw [List.getElem?_set_ne hij]
    exact s.own j e hj he
  · have hij : i ≠ j := fun z => hi (z ▸ hj)
    have hik : i ≠ k := fun z => hi (z ▸ hk)
    rw [List.getElem?_set_ne hij] at h1
    rw [List.getElem?_set_ne hik] at h2
    rw [eGet_ne hij, eGet_ne hik]
    exact s.dst j k p hj hk ne h1 h2
theorem SOk.setAll : ∀ {zs : List (Nat × V)} {us : List (Nat × D)} {σ : L2.St} {ρ : Env'}, SOk K W ow n H σ ρ U → Upd K (W.plus U) H zs us → (∀ u ∈ us, u.1 ∉ ow) → SOk K W ow n H (R.setAll σ zs) (eSetAll ρ us) U
  | _, _, _, _, s, .nil, _ => s
  | _, _, _, _, s, .cons (a := (i, v)) (b := (j, d)) ⟨e, a⟩ r, h => by
    cases (show i = j from e)
    have := SOk.setAll (s.set (h _ List.mem_cons_self) a) r fun u hu => h u (List.mem_cons_of_mem _ hu)
    exact this
end
structure AEn where
  nx : Env' → Nat → Prop
  rt : D → Nat → Prop
  bk : Env' → Nat → Prop := fun _ _ => False
  ct : Env' → Nat → Prop := fun _ _ => False
  ex : Env' → Addr → List Str → List D → Nat → Prop := fun _ _ _ _ _ => False
/-- an error's fields: its dict at d -/
def XdAt (K : PySem.W.Frag) (W : Wd) (H : Hp) (d : Option Addr) (ns : List Str) (ds : List D) : Prop := At K W H (.ref 0) (.xcp 0 0 d ns ds)
theorem XdAt.any {K : PySem.W.Frag} {W : Wd} {H : Hp} {d : Option Addr} {ns : List Str} {ds : List D} (h : XdAt K W H d ns ds) (a C : Addr) : At K W H (.ref a) (.xcp a C d ns ds) := by
  unfold XdAt at h
  cases h with
  | xcp0 => exact .xcp0
  | xcp1 s e b => exact .xcp1 s e b
def W0 : WX := fun _ _ _ _ => False
/-- what is wanted of an error that is raised: as behind a statement, the error's fields at d -/
def WantsX (K : PySem.W.Frag) (W : Wd) (ow : List Nat) (U : List (Addr × HO)) (H : Hp) (Xa : Env' → Addr → List Str → List D → Nat → Prop) (Wx : WX) : Prop :=
  ∀ ρ' C ns ds n', Xa ρ' C ns ds n' → ∀ U' σ' H' d, Stp W U H U' H' → SOk K W ow n' H' σ' ρ' U' → XdAt K (W.plus U') H' d ns ds → Wx (.ref C) d σ' H'
theorem WantsX.le {W : Wd} {ow : List Nat} {U U1 : List (Addr × HO)} {H H1 : Hp} {Xa : Env' → Addr → List Str → List D → Nat → Prop} {Wx : WX} (h : WantsX K W ow U H Xa Wx) (s : Stp W U H U1 H1) : WantsX K W ow U1 H1 Xa Wx := fun ρ' C ns ds n' q U' σ' H' d l' a x => h ρ' C ns ds n' q U' σ' H' d (s.trans l') a x
def WantsE (K : PySem.W.Frag) (W : Wd) (ow : List Nat) (U : List (Addr × HO)) (H : Hp) (Qa : Env' → Nat → Prop) (Q : L2.St → Hp → Prop) : Prop :=
  ∀ ρ' n', Qa ρ' n' → ∀ U' σ' H', Stp W U H U' H' → SOk K W ow n' H' σ' ρ' U' → Q σ' H'
theorem WantsE.le {W : Wd} {ow : List Nat} {U U1 : List (Addr × HO)} {H H1 : Hp} {Qa : Env' → Nat → Prop} {Q : L2.St → Hp → Prop} (h : WantsE K W ow U H Qa Q) (s : Stp W U H U1 H1) : WantsE K W ow U1 H1 Qa Q := fun ρ' n' q U' σ' H' l' a => h ρ' n' q U' σ' H' (s.trans l') a
/-- what is wanted of what is told: the built ones are plain lists then -/
def WantsR (K : PySem.W.Frag) (W : Wd) (U : List (Addr × HO)) (H : Hp) (Qa : D → Nat → Prop) (Q : VK) : Prop := ∀ d n', Qa d n' → ∀ U1 H1 H' v, Stp W U H U1 H1 → W.le H1 H' → W.ok K n' H' → At K W H' v d → Q v H'
theorem WantsR.le {W : Wd} {U U1 : List (Addr × HO)} {H H1 : Hp} {Qa : D → Nat → Prop} {Q : VK} (h : WantsR K W U H Qa Q) (s : Stp W U H U1 H1) : WantsR K W U1 H1 Qa Q := fun d n' q U' H' H2 v l' l2 o a => h d n' q U' H' H2 v (s.trans l') l2 o a
structure EndsOk (K : PySem.W.Frag) (Wx : WX) (W : Wd) (ow : List Nat) (U : List (Addr × HO)) (H : Hp) (Ea : AEn) (E : Ends) : Prop where
  nx : WantsE K W ow U H Ea.nx E.nx
  rt : WantsR K W U H Ea.rt E.rt
  bk : WantsE K W ow U H Ea.bk E.bk
  ct : WantsE K W ow U H Ea.ct E.ct
  ex : WantsX K W ow U H Ea.ex Wx
theorem EndsOk.le {Wx : WX} {W : Wd} {ow : List Nat} {U U1 : List (Addr × HO)} {H H1 : Hp} {Ea : AEn} {E : Ends} (h : EndsOk K Wx W ow U H Ea E) (l : Stp W U H U1 H1) : EndsOk K Wx W ow U1 H1 Ea E := ⟨h.nx.le l, h.rt.le l, h.bk.le l, h.ct.le l, h.ex.le l⟩
abbrev AS := AEn → Env' → Nat → Prop
class DS (K : PySem.W.Frag) (Wx : WX) (ow : List Nat) (t : TS) (f : outParam AS) : Prop where
  run : ∀ (W : Wd) (U : List (Addr × HO)) (σ : L2.St) (ρ : Env') (n : Nat) (H : Hp) (E : Ends) (Ea : AEn), EndsOk K Wx W ow U H Ea E → SOk K W ow n H σ ρ U → f Ea ρ n → t E σ H
variable {ow : List Nat} {Wx : WX}
def aNext : AS := fun E ρ n => E.nx ρ n
def aSeq (f g : AS) : AS := fun E ρ n => f { E with nx := fun ρ' n' => g E ρ' n' } ρ n
instance : DS K Wx ow tNext aNext := ⟨fun W U σ ρ n H E Ea hD s h => hD.nx _ _ h U σ H Stp.refl s⟩
instance {t u : TS} {f g : AS} [DS K Wx ow t f] [DS K Wx ow u g] : DS K Wx ow (tSeq t u) (aSeq f g) := ⟨fun W U σ ρ n H E Ea hD s h =>
  DS.run (ow := ow) (t := t) (f := f) W U σ ρ n H _ { Ea with nx := fun ρ' n' => g Ea ρ' n' } ⟨fun ρ1 n1 h1 U1 σ1 H1 l1 s1 => DS.run (ow := ow) (t := u) (f := g) W U1 σ1 ρ1 n1 H1 E Ea (hD.le l1) s1 h1, hD.rt, hD.bk, hD.ct, hD.ex⟩ s h⟩
instance : DS K Wx ow tNever (fun _ _ _ => False) := ⟨fun W U σ ρ n H E Ea hD s h => h⟩
def aBrk : AS := fun E ρ n => E.bk ρ n
def aCnt : AS := fun E ρ n => E.ct ρ n
instance : DS K Wx ow tBreak aBrk := ⟨fun W U σ ρ n H E Ea hD s h => hD.bk _ _ h U σ H Stp.refl s⟩
instance : DS K Wx ow tCont aCnt := ⟨fun W U σ ρ n H E Ea hD s h => hD.ct _ _ h U σ H Stp.refl s⟩
theorem Stp.hid {W : Wd} {U : List (Addr × HO)} {H H1 : Hp} (l : (W.plus U).le H H1) : Stp W U H U H1 := ⟨l, fun a h g => absurd h g, fun a h => h⟩
def aDrop (ow : List Nat) (f : AE) : AS := fun E ρ n => f (wipeA ρ ow) n fun _ n1 => E.nx ρ n1
instance {te : TE} {f : AE} [DE K te f] : DS K Wx ow (tDrop te) (aDrop ow f) := ⟨fun W U σ ρ n H E Ea hD s h =>
  DE.run (te := te) (f := f) (W.plus U) σ _ n H _ _ (fun d n1 h1 H1 x l1 o1 ax => hD.nx _ _ h1 U σ H1 (.hid l1) (s.le l1 o1)) s.hid s.ok h⟩
def aRet (f : AE) : AS := fun E ρ n => f ρ n E.rt
instance {te : TE} {f : AE} [DE K te f] : DS K Wx ow (tRet te) (aRet f) := ⟨fun W U σ ρ n H E Ea hD s h => DE.run (te := te) (f := f) W σ ρ n H _ _ (fun d n1 h1 H1 x l1 o1 ax => hD.rt d n1 h1 U H H1 x Stp.refl l1 o1 ax) s.opn s.base h⟩
def aRetN : AS := fun E _ n => E.rt .non n
instance : DS K Wx ow tRetN aRetN := ⟨fun W U σ ρ n H E Ea hD s h => hD.rt _ _ h U H H _ Stp.refl Wd.le_refl s.base .non⟩
def aIfS (c : AT) (f g : AS) : AS := fun E ρ n => c ρ n fun b n1 => aIte b (f E ρ n1) (g E ρ n1)
instance {tc : TT} {t u : TS} {c : AT} {f g : AS} [DT K tc c] [DS K Wx ow t f] [DS K Wx ow u g] : DS K Wx ow (tIfS tc t u) (aIfS c f g) := ⟨fun W U σ ρ n H E Ea hD s h =>
  DT.run (te := tc) (f := c) W σ ρ n H _ _ (fun b n1 h1 H1 l1 o1 => by
    have st : Stp W U H U H1 := .hid (lo_le l1)
    cases b with
    | true => rw [if_pos rfl]; exact DS.run (ow := ow) (t := t) (f := f) W U σ ρ n1 H1 E Ea (hD.le st) (s.lo l1 o1) (h1.1 rfl)
    | false => rw [if_neg Bool.false_ne_true]; exact DS.run (ow := ow) (t := u) (f := g) W U σ ρ n1 H1 E Ea (hD.le st) (s.lo l1 o1) (h1.2 rfl)) s.opn s.base h⟩
/-- what a target stores -/
def aPut (ow : List Nat) (g : D → Option (List (Nat × D))) (d : D) (ρ : Env') (Q : Env' → Prop) : Prop := match g d with
  | some us => (match us.all fun u => !ow.contains u.1 with
    | true => Q (eSetAll ρ us)
    | false => False)
  | none => False
def aAsg (ow : List Nat) (f : AE) (g : D → Option (List (Nat × D))) : AS := fun E ρ n => f (wipeA ρ ow) n fun d n1 => aPut ow g d ρ fun ρ' => E.nx ρ' n1
theorem put_run {W : Wd} {U : List (Addr × HO)} {g : TG} {a : D → Option (List (Nat × D))} [DG K g a] {σ : L2.St} {ρ : Env'} {n : Nat} {H : Hp} {v : V} {d : D} {Qa : Env' → Prop} {Q : L2.St → Hp → Prop} (s : SOk K W ow n H σ ρ U) (ax : At K (W.plus U) H v d) (h : aPut ow a d ρ Qa)
    (hQ : ∀ ρ' σ', Qa ρ' → SOk K W ow n H σ' ρ' U → Q σ' H) : g v σ H Q := by
  unfold aPut at h
  split at h
  · rename_i us e
    split at h
    · rename_i hc
      refine DG.run (g := g) (f := a) (W.plus U) σ H v d us Q ax e fun zs hz => hQ _ _ h (s.setAll hz fun u hu hin => ?_)
      have := List.all_eq_true.mp hc u hu
      rw [List.contains_iff_mem.mpr hin] at this
      cases this
    · exact h.elim
  · exact h.elim
instance {te : TE} {g : TG} {f : AE} {a : D → Option (List (Nat × D))} [DE K te f] [DG K g a] : DS K Wx ow (tAsg te g) (aAsg ow f a) := ⟨fun W U σ ρ n H E Ea hD s h =>
  DE.run (te := te) (f := f) (W.plus U) σ _ n H _ _ (fun d n1 h1 H1 x l1 o1 ax => put_run (g := g) (a := a) (s.le l1 o1) ax h1 fun ρ' σ' q s' => hD.nx _ _ q U σ' H1 (.hid l1) s') s.hid s.ok h⟩
/-- a scalar that is reckoned of the built lists too -/
def tOpen (te : TE) : TE := te
mutual
def D.sc : D → Bool
  | .non => true | .bl _ => true | .int _ => true | .str _ => true | .tup ds => scAll ds
  | _ => false
def scAll : List D → Bool
  | [] => true
  | d :: ds => d.sc && scAll ds
end
mutual
theorem sc_at' {W W' : Wd} {H : Hp} : ∀ (d : D) {v : V}, d.sc = true → At K W H v d → At K W' H v d
  | .non, _, _, h => by cases h; exact .non
  | .bl b, _, _, h => by cases h; exact .bl b
  | .int i, _, _, h => by cases h; exact .int i
  | .str x, _, _, h => by cases h; exact .str x
  | .ty t, _, e, _ => Bool.noConfusion e
  | .cls a, _, e, _ => Bool.noConfusion e
  | .tup ds, _, e, h => by
    cases h with
    | tup s a => exact .tup s (scAll_at ds e a)
  | .lst ds, _, e, _ => Bool.noConfusion e
  | .dic ks ds, _, e, _ => Bool.noConfusion e
  | .ins C ns ds, _, e, _ => Bool.noConfusion e
  | .deck, _, e, _ => Bool.noConfusion e
  | .xcp _ _ _ _ _, _, e, _ => Bool.noConfusion e
theorem scAll_at {W W' : Wd} {H : Hp} : ∀ (ds : List D) {vs : List V}, scAll ds = true → AtAll K W H vs ds → AtAll K W' H vs ds
  | [], _, _, h => by cases h; exact .nil
  | d :: ds, _, e, h => by
    have e' : (d.sc && scAll ds) = true := e
    rw [Bool.and_eq_true] at e'
    cases h with
    | cons a r => exact .cons (sc_at' d e'.1 a) (scAll_at ds e'.2 r)
end
theorem sc_at {W W' : Wd} {H : Hp} {v : V} {d : D} (h : d.sc = true) (a : At K W H v d) : At K W' H v d := sc_at' d h a
def aAsgO (ow : List Nat) (f : AE) (g : D → Option (List (Nat × D))) : AS := fun E ρ n => f ρ n fun d n1 => match d.sc with
  | true => aPut ow g d ρ fun ρ' => E.nx ρ' n1
  | false => False
instance (priority := 1100) {te : TE} {g : TG} {f : AE} {a : D → Option (List (Nat × D))} [DE K te f] [DG K g a] : DS K Wx ow (tAsg (tOpen te) g) (aAsgO ow f a) := ⟨fun W U σ ρ n H E Ea hD s h =>
  DE.run (te := te) (f := f) W σ ρ n H _ _ (fun d n1 h1 H1 x l1 o1 ax => by
    split at h1
    · rename_i hs
      exact put_run (g := g) (a := a) (s.lo l1 o1) (sc_at hs ax) h1 fun ρ' σ' q s' => hD.nx _ _ q U σ' H1 (.hid (lo_le l1)) s'
    · exact h1.elim) s.opn s.base h⟩
theorem k_open {X : Cx} {e : Expr} {te : TE} (h : PE X e te) : PE X e (tOpen te) := h
def aPar (ow : List Nat) (i j : Nat) (g : AA) : AS := fun E ρ n => g (wipeA ρ ow) n fun ds n1 => match ds, ow.contains i || ow.contains j with
  | [d, e], false => E.nx (eSet (eSet ρ i (some d)) j (some e)) n1
  | _, _ => False
instance {i j : Nat} {ta : TA} {g : AA} [DA K ta g] : DS K Wx ow (tPar i j ta) (aPar ow i j g) := ⟨fun W U σ ρ n H E Ea hD s h =>
  DA.run (te := ta) (f := g) (W.plus U) σ _ n H _ _ (fun ds n1 h1 H1 vs l1 o1 ax => by
    split at h1
    · rename_i hc
      rw [Bool.or_eq_false_iff] at hc
      cases ax with
      | cons a r =>
        cases r with
        | cons b r =>
          cases r
          refine ⟨_, _, rfl, hD.nx _ _ h1 U _ H1 (.hid l1) (((s.le l1 o1).set (fun z => ?_) a).set (fun z => ?_) b)⟩
          · rw [List.contains_iff_mem.mpr z] at hc
            cases hc.1
          · rw [List.contains_iff_mem.mpr z] at hc
            cases hc.2
    · exact h1.elim) s.hid s.ok h⟩
def aAug (ow : List Nat) (i : Nat) (f : AE) (r : D → D → Nat → (D → Nat → Prop) → Prop) : AS := fun E ρ n => match eGet ρ i, ow.contains i with
  | some d, false => f (wipeA ρ ow) n fun e n1 => r d e n1 fun x n2 => E.nx (eSet ρ i (some x)) n2
  | _, _ => False
instance {i : Nat} {te : TE} {ti : TIp} {f : AE} {r : D → D → Nat → (D → Nat → Prop) → Prop} [DE K te f] [D2 K ti r] : DS K Wx ow (tAug i te ti) (aAug ow i f r) := ⟨fun W U σ ρ n H E Ea hD s h => by
  unfold aAug at h
  split at h
  · rename_i d e hc
    have hi : i ∉ ow := fun z => by rw [List.contains_iff_mem.mpr z] at hc; cases hc
    obtain ⟨v, e', a⟩ := s.env i d hi e
    refine ⟨v, e', DE.run (te := te) (f := f) (W.plus U) σ _ n H _ _ (fun d1 n1 h1 H1 x l1 o1 ax => ?_) s.hid s.ok h⟩
    exact D2.run (r := ti) (f := r) (W.plus U) n1 H1 v x d d1 _ _ (fun d2 n2 h2 H2 y l2 o2 ay => hD.nx _ _ h2 U _ H2 (.hid (l1.trans l2)) ((s.le (l1.trans l2) o2).set hi ay)) o1 (At.le s.ok l1 _ a) ax h1
  · exact h.elim⟩
/-! while -/
def aWhile (c : AT) (f : AS) : AS := fun E ρ n => ∃ Wv : Nat → Env' → Nat → Prop, (∃ m, Wv m ρ n) ∧ ∀ m ρ n, Wv m ρ n →
  c ρ n fun b n1 => aIte b (f { E with nx := fun ρ' n' => ∃ m', m' < m ∧ Wv m' ρ' n', ct := fun ρ' n' => ∃ m', m' < m ∧ Wv m' ρ' n', bk := E.nx } ρ n1) (E.nx ρ n1)
instance {tc : TT} {tb : TS} {c : AT} {f : AS} [DT K tc c] [DS K Wx ow tb f] : DS K Wx ow (tWhile tc tb) (aWhile c f) := ⟨fun W U σ ρ n H E Ea hD s h => by
  obtain ⟨Wv, ⟨m, w0⟩, turn⟩ := h
  refine ⟨fun m σ' H' => ∃ ρ' n' U', Wv m ρ' n' ∧ SOk K W ow n' H' σ' ρ' U' ∧ Stp W U H U' H', ⟨m, ρ, n, U, w0, s, Stp.refl⟩, ?_⟩
  rintro m σ1 H1 ⟨ρ1, n1, U1, w1, s1, l1⟩
  refine DT.run (te := tc) (f := c) W σ1 ρ1 n1 H1 _ _ (fun b n2 h2 H2 l2 o2 => ?_) s1.opn s1.base (turn m ρ1 n1 w1)
  have st := l1.trans (.hid (lo_le l2))
  cases b with
  | true =>
    rw [if_pos rfl]
    refine ⟨fun σ' H' => ∃ m', m' < m ∧ ∃ ρ' n' U', Wv m' ρ' n' ∧ SOk K W ow n' H' σ' ρ' U' ∧ Stp W U H U' H', fun σ' H' q => q, ?_⟩
    have again : WantsE K W ow U1 H2 (fun ρ' n' => ∃ m', m' < m ∧ Wv m' ρ' n') fun σ' H' => ∃ m', m' < m ∧ ∃ ρ' n' U', Wv m' ρ' n' ∧ SOk K W ow n' H' σ' ρ' U' ∧ Stp W U H U' H' := fun ρ' n' ⟨m', lt, wv⟩ U' σ' H' l' s' => ⟨m', lt, ρ', n', U', wv, s', st.trans l'⟩
    exact DS.run (ow := ow) (t := tb) (f := f) W U1 σ1 ρ1 n2 H2 _ { Ea with nx := fun ρ' n' => ∃ m', m' < m ∧ Wv m' ρ' n', ct := fun ρ' n' => ∃ m', m' < m ∧ Wv m' ρ' n', bk := Ea.nx } ⟨again, hD.rt.le st, hD.nx.le st, again, hD.ex.le st⟩ (s1.lo l2 o2) (h2.1 rfl)
  | false =>
    rw [if_neg Bool.false_ne_true]
    exact hD.nx _ _ (h2.2 rfl) U1 σ1 H2 st (s1.lo l2 o2)⟩
/-! for -/
def aForGo (ow : List Nat) (G : D → Option (List (Nat × D))) (f : AS) (E : AEn) : List D → Env' → Nat → Prop
  | [], ρ, n => E.nx ρ n
  | d :: r, ρ, n => aPut ow G d ρ fun ρ1 => f { E with nx := aForGo ow G f E r, ct := aForGo ow G f E r, bk := E.nx } ρ1 n
def aFor (ow : List Nat) (I : AI) (G : D → Option (List (Nat × D))) (f : AS) : AS := fun E ρ n => I (wipeA ρ ow) n fun ds n1 => aForGo ow G f E ds ρ n1
instance {wi : TI} {g : TG} {tb : TS} {I : AI} {G : D → Option (List (Nat × D))} {f : AS} [DI K wi I] [DG K g G] [DS K Wx ow tb f] : DS K Wx ow (tFor wi g tb) (aFor ow I G f) := ⟨fun W U σ ρ n H E Ea hD s h =>
  DI.run (wi := wi) (f := I) (W.plus U) σ _ n H _ _ (fun ds n1 h1 J H1 l1 o1 hw => by
    refine ⟨fun i m σ' H' => m = ds.length - i ∧ i ≤ ds.length ∧ ∃ ρ' n' U', aForGo ow G f Ea (ds.drop i) ρ' n' ∧ SOk K W ow n' H' σ' ρ' U' ∧ Stp W U H1 U' H', ⟨_, rfl, Nat.zero_le _, ρ, n1, U, h1, s.le l1 o1, Stp.refl⟩, ?_⟩
    rintro i m σ2 H2 ⟨rfl, hi, ρ2, n2, U2, h2, s2, l2⟩
    obtain ⟨w1, w2⟩ := hw (W.plus U2) l2.new rfl H2 n2 (fun a o r e => l2.le a o (fun z => r (l2.old a z)) e) s2.ok i
    by_cases hlt : i < ds.length
    · rw [List.drop_eq_getElem_cons hlt] at h2
      obtain ⟨hgo, hy⟩ := w1 ds[i] (List.getElem?_eq_getElem hlt)
      refine .inr ⟨hgo, fun σ' H' => ∃ m', m' < ds.length - i ∧ m' = ds.length - (i + 1) ∧ i + 1 ≤ ds.length ∧ ∃ ρ' n' U', aForGo ow G f Ea (ds.drop (i + 1)) ρ' n' ∧ SOk K W ow n' H' σ' ρ' U' ∧ Stp W U H1 U' H', fun σ' H' q => q, fun x H3 hx => ?_⟩
      obtain ⟨s3, a3⟩ := hy x H3 hx
      have l3 : (W.plus U2).le H2 H3 := Wd.le_same s3
      refine put_run (g := g) (a := G) (s2.le l3 (s2.ok.same s3)) a3 h2 fun ρ4 σ4 h4 s4 => ?_
      have l14 := l2.trans (.hid l3)
      have again : WantsE K W ow U2 H3 (aForGo ow G f Ea (ds.drop (i + 1))) fun σ' H' => ∃ m', m' < ds.length - i ∧ m' = ds.length - (i + 1) ∧ i + 1 ≤ ds.length ∧ ∃ ρ' n' U', aForGo ow G f Ea (ds.drop (i + 1)) ρ' n' ∧ SOk K W ow n' H' σ' ρ' U' ∧ Stp W U H1 U' H' :=
        fun ρ' n' q U' σ' H' l' s' => ⟨_, by omega, rfl, hlt, ρ', n', U', q, s', l14.trans l'⟩
      have lt := (Stp.hid l1).trans l14
      exact DS.run (ow := ow) (t := tb) (f := f) W U2 σ4 ρ4 n2 H3 _ { Ea with nx := aForGo ow G f Ea (ds.drop (i + 1)), ct := aForGo ow G f Ea (ds.drop (i + 1)), bk := Ea.nx } ⟨again, hD.rt.le lt, hD.nx.le lt, again, hD.ex.le lt⟩ s4 h4
    · have e : i = ds.length := by omega
      subst e
      rw [List.drop_length] at h2
      exact .inl ⟨w2 (Nat.le_refl _), hD.nx _ _ h2 U2 σ2 H2 ((Stp.hid l1).trans l2) s2⟩) s.hid s.ok h⟩
/-! a list is begun, a thing is put at its end -/
def tOwnL (i : Nat) (ta : TA) : TS := tAsg (tLst ta) (gName i)
theorem k_own {X : Cx} {st : Stmt} {i : Nat} {ta : TA} (h : PS X st (tAsg (tLst ta) (gName i))) : PS X st (tOwnL i ta) := h
def aOwnL (ow : List Nat) (i : Nat) (g : AA) : AS := fun E ρ n => g (wipeA ρ ow) n fun ds n1 => match Nat.ble ds.length 1000, ow.contains i with
  | true, true => E.nx (eSet ρ i (some (.lst ds))) n1
  | _, _ => False
theorem SOk.new {W : Wd} {n : Nat} {H : Hp} {σ : L2.St} {ρ : Env'} {U : List (Addr × HO)} {i : Nat} {p : Addr} {us : List V} {ds : List D} (s : SOk K W ow n H σ ρ U) (hi : i ∈ ow) (hp : H p = none) (a : AtAll K (W.plus U) H us ds) :
    Stp W U H ((p, .lst us) :: U) (upd H p (.lst us)) ∧ SOk K W ow n (upd H p (.lst us)) (σ.set i (some (.ref p))) (eSet ρ i (some (.lst ds))) ((p, .lst us) :: U) := by
  have nrs : ¬ (W.plus U).rs p := s.ok.fresh hp
  have rn := Wd.rs_new (W := W.plus U) (xs := .lst us) hp
  have sm : Same H (upd H p (.lst us)) := same_upd hp
  have ho : (W.plus ((p, .lst us) :: U)).ok K n (upd H p (.lst us)) := Wd.ok_put (W := W.plus U) trivial nrs (.inl hp) s.ok
  have lk : (W.plus ((p, .lst us) :: U)).lk H := s.ok.lk' rn
  have le2 : (W.plus ((p, .lst us) :: U)).le H (upd H p (.lst us)) := Wd.le_same sm
  refine ⟨⟨Wd.le_same sm, rn, fun b z => Wd.rs_add z⟩, ⟨?_, ?_, ho, by rw [List.length_set, eSet_length]; exact s.len, ?_, ?_, ?_⟩⟩
  · refine List.nodup_cons.mpr ⟨fun z => nrs (Wd.rs_plus.mpr (.inl z)), s.nd⟩
  · intro u hu
    rcases List.mem_cons.mp hu with rfl | hu
    · exact fun z => nrs (Wd.rs_plus.mpr (.inr z))
    · exact s.nr u hu
  · intro j d hj he
    have hij : i ≠ j := fun z => hj (z ▸ hi)
    rw [eGet_ne hij] at he
    rw [List.getElem?_set_ne hij]
    obtain ⟨v, e1, a1⟩ := s.env j d hj he
    exact ⟨v, e1, At.lk lk le2 _ (At.ext rn rfl _ a1)⟩
  · intro j d hj he
    by_cases hij : i = j
    · subst hij
      obtain ⟨hl, he⟩ := eGet_set he
      cases he
      exact ⟨(p, .lst us), List.mem_cons_self, by rw [List.getElem?_set_self (by rw [s.len]; exact hl)], .lst (AtAll.lk lk le2 _ (AtAll.ext rn rfl _ a))⟩
    · rw [eGet_ne hij] at he
      rw [List.getElem?_set_ne hij]
      obtain ⟨⟨q, ob⟩, hu, e1, a1⟩ := s.own j d hj he
      refine ⟨_, List.mem_cons_of_mem _ hu, e1, ?_⟩
      cases a1 with
      | lst a1 => exact .lst (AtAll.lk lk le2 _ (AtAll.ext rn rfl _ a1))
      | dic l a1 => exact .dic l (AtAll.lk lk le2 _ (AtAll.ext rn rfl _ a1))
  · intro j k q hj hk ne h1 h2
    have fr : ∀ m, m ∈ ow → i ≠ m → σ[m]? = some (some (.ref p)) → eGet ρ m = none := fun m hm _ hσ => by
      cases e : eGet ρ m with
      | none => rfl
      | some d =>
        obtain ⟨u, hu, e1, _⟩ := s.own m d hm e
        rw [hσ] at e1
        have : p = u.1 := V.ref.inj (Option.some.inj (Option.some.inj e1))
        exact absurd (Wd.rs_plus.mpr (.inl (List.mem_map.mpr ⟨u, hu, this.symm⟩))) nrs
    by_cases hij : i = j
    · subst hij
      rw [List.getElem?_set_ne ne] at h2
      by_cases hl : i < σ.length
      · rw [List.getElem?_set_self hl] at h1
        cases h1
        rw [eGet_ne ne]
        exact .inr (fr k hk ne h2)
      · rw [List.getElem?_eq_none (by rw [List.length_set]; omega)] at h1
        cases h1
    · rw [List.getElem?_set_ne hij] at h1
      rw [eGet_ne hij]
      by_cases hik : i = k
      · subst hik
        by_cases hl : i < σ.length
        · rw [List.getElem?_set_self hl] at h2
          cases h2
          exact .inl (fr j hj hij h1)
        · rw [List.getElem?_eq_none (by rw [List.length_set]; omega)] at h2
          cases h2
      · rw [List.getElem?_set_ne hik] at h2
        rw [eGet_ne hik]
        exact s.dst j k q hj hk ne h1 h2
instance {i : Nat} {ta : TA} {g : AA} [DA K ta g] : DS K Wx ow (tOwnL i ta) (aOwnL ow i g) := ⟨fun W U σ ρ n H E Ea hD s h =>
  DA.run (te := ta) (f := g) (W.plus U) σ _ n H _ _ (fun ds n1 h1 H1 vs l1 o1 ax => by
    split at h1
    · rename_i hb hc
      refine ⟨size63 (by rw [ax.length]; exact Nat.le_of_ble_eq_true hb), fun p hp => ?_⟩
      obtain ⟨st, s2⟩ := (s.le l1 o1).new (List.contains_iff_mem.mp hc) hp ax
      exact hD.nx _ _ h1 _ _ _ ((Stp.hid l1).trans st) s2
    · exact h1.elim) s.hid s.ok h⟩
/-- the contents of one built thing change -/
def putO (U : List (Addr × HO)) (p : Addr) (ob : HO) : List (Addr × HO) := U.map fun u => if u.1 = p then (p, ob) else u
theorem putO_fst (U : List (Addr × HO)) (p : Addr) (ob : HO) : (putO U p ob).map (·.1) = U.map (·.1) := by
  unfold putO
  rw [List.map_map]
  refine List.map_congr_left fun u _ => ?_
  show (if u.1 = p then (p, ob) else u).1 = u.1
  split
  · rename_i e; exact e.symm
  · rfl
theorem SOk.put {W : Wd} {n : Nat} {H : Hp} {σ : L2.St} {ρ : Env'} {U : List (Addr × HO)} {i : Nat} {p : Addr} {ob ob' : HO} {d' : D} (s : SOk K W ow n H σ ρ U) (hi : i ∈ ow) (hl : eGet ρ i ≠ none) (hσ : σ[i]? = some (some (.ref p))) (hU : (p, ob) ∈ U) (hob : ∃ xs, ob = .lst xs) (hm : Mt ob') (a : OwAt K (W.plus U) H ob' d') :
    Stp W U H (putO U p ob') (upd H p ob') ∧ SOk K W ow n (upd H p ob') σ (eSet ρ i (some d')) (putO U p ob') := by
  have hfst := putO_fst U p ob'
  have hrs : ∀ b, (W.plus (putO U p ob')).rs b ↔ (W.plus U).rs b := fun b => by rw [Wd.rs_plus, Wd.rs_plus, hfst]
  have hpr : (W.plus U).rs p := Wd.rs_plus.mpr (.inl (List.mem_map.mpr ⟨_, hU, rfl⟩))
  have le1 : (W.plus U).le H (upd H p ob') := fun b o r e => by
    rw [upd_ne fun z => r (by rw [z]; exact hpr)]
    exact e
  obtain ⟨hp1, _⟩ := s.ok.owns (p, ob) (List.mem_append_left _ hU)
  have npw : ¬ W.rs p := s.nr _ hU
  have hdk : ∀ d b, W.dk = some (d, b) → p ≠ d ∧ p ≠ b := fun d b e => s.ok.dis d b e _ (List.mem_append_left _ hU)
  have ok' : (W.plus (putO U p ob')).ok K n (upd H p ob') := by
    refine ⟨fun d b e => ?_, fun q hq => ?_, fun d b e q hq => ?_⟩
    · obtain ⟨c, D, l⟩ := s.ok.deck d b e
      refine ⟨c, ?_, l⟩
      obtain ⟨⟨s', ns, cs, i', k, h1, h2, h3, h4⟩, ne⟩ := D
      obtain ⟨n1, n2⟩ := hdk d b e
      obtain ⟨xs, rfl⟩ := hob
      refine ⟨⟨s', ns, cs, i', k, ?_, ?_, h3.upd (.inr ⟨_, hp1⟩), h4⟩, ne⟩
      · rw [upd_ne (Ne.symm n1)]; exact h1
      · rw [upd_ne (Ne.symm n2)]; exact h2
    · rcases List.mem_append.mp hq with hq | hq
      · obtain ⟨u, hu, e⟩ := List.mem_map.mp hq
        split at e
        · subst e
          exact ⟨upd_same, hm⟩
        · rename_i hne
          subst e
          rw [upd_ne hne]
          exact s.ok.owns u (List.mem_append_left _ hu)
      · have hq1 : q.1 ≠ p := fun z => npw (.inr (List.mem_map.mpr ⟨q, hq, z⟩))
        rw [upd_ne hq1]
        exact s.ok.owns q (List.mem_append_right _ hq)
    · rcases List.mem_append.mp hq with hq | hq
      · have : q.1 ∈ U.map (·.1) := by rw [← hfst]; exact List.mem_map.mpr ⟨q, hq, rfl⟩
        obtain ⟨u, hu, e'⟩ := List.mem_map.mp this
        rw [← e']
        exact s.ok.dis d b e u (List.mem_append_left _ hu)
      · exact s.ok.dis d b e q (List.mem_append_right _ hq)
  have wk : ∀ {v : V} {d : D}, At K (W.plus U) H v d → At K (W.plus (putO U p ob')) (upd H p ob') v d := fun h => At.weak (fun b z => (hrs b).mp z) rfl _ (At.le s.ok le1 _ h)
  have wka : ∀ {vs : List V} {ds : List D}, AtAll K (W.plus U) H vs ds → AtAll K (W.plus (putO U p ob')) (upd H p ob') vs ds := fun h => AtAll.weak (fun b z => (hrs b).mp z) rfl _ (AtAll.le s.ok le1 _ h)
  have wko : ∀ {o : HO} {d : D}, OwAt K (W.plus U) H o d → OwAt K (W.plus (putO U p ob')) (upd H p ob') o d := fun h => by
    cases h with
    | lst h => exact .lst (wka h)
    | dic l h => exact .dic l (wka h)
  refine ⟨⟨le1, fun b z r => absurd ((hrs b).mp z) r, fun b z => (hrs b).mpr z⟩, ⟨by rw [hfst]; exact s.nd, ?_, ok', by rw [eSet_length]; exact s.len, ?_, ?_, ?_⟩⟩
  · intro u hu
    have : u.1 ∈ U.map (·.1) := by rw [← hfst]; exact List.mem_map.mpr ⟨u, hu, rfl⟩
    obtain ⟨w, hw, e⟩ := List.mem_map.mp this
    rw [← e]
    exact s.nr w hw
  · intro j d hj he
    have hij : i ≠ j := fun z => hj (z ▸ hi)
    rw [eGet_ne hij] at he
    obtain ⟨v, e1, a1⟩ := s.env j d hj he
    exact ⟨v, e1, wk a1⟩
  · intro j d hj he
    by_cases hij : i = j
    · subst hij
      cases (eGet_set he).2
      exact ⟨(p, ob'), List.mem_map.mpr ⟨_, hU, by rw [if_pos rfl]⟩, hσ, wko a⟩
    · rw [eGet_ne hij] at he
      obtain ⟨u, hu, e1, a1⟩ := s.own j d hj he
      have hup : u.1 ≠ p := fun z => by
        rw [z] at e1
        rcases s.dst i j p hi hj hij hσ e1 with h | h
        · exact hl h
        · rw [h] at he; cases he
      exact ⟨u, List.mem_map.mpr ⟨u, hu, by rw [if_neg hup]⟩, e1, wko a1⟩
  · intro j k q hj hk ne h1 h2
    rcases s.dst j k q hj hk ne h1 h2 with h | h
    · by_cases hij : i = j
      · subst hij
        exact absurd h hl
      · exact .inl (by rw [eGet_ne hij]; exact h)
    · by_cases hik : i = k
      · subst hik
        exact absurd h hl
      · exact .inr (by rw [eGet_ne hik]; exact h)
def tApp (K : PySem.W.Frag) (i : Nat) (te : TE) : TS := tDrop (tBM K "list" rAppend (tVar i) (tCons te tNil))
theorem k_app {X : Cx} {st : Stmt} {i : Nat} {te : TE} (hK : X.K = K) (h : PS X st (tDrop (tBM X.K "list" rAppend (tVar i) (tCons te tNil)))) : PS X st (tApp K i te) := hK ▸ h
def aApp (ow : List Nat) (i : Nat) (f : AE) : AS := fun E ρ n => match eGet ρ i, ow.contains i with
  | some (.lst ds), true => f (wipeA ρ ow) n fun d n1 => ds.length < 1000000 ∧ E.nx (eSet ρ i (some (.lst (ds ++ [d])))) n1
  | _, _ => False
theorem app_run {W : Wd} {U : List (Addr × HO)} {σ : L2.St} {ρ : Env'} {n : Nat} {H : Hp} {i : Nat} {p : Addr} {v : V} {ds : List D} {d : D} {Q : Hp → Prop} (s : SOk K W ow n H σ ρ U) (hi : i ∈ ow) (he : eGet ρ i = some (.lst ds)) (hl : ds.length < 1000000) (hσ : σ[i]? = some (some (.ref p))) (ax : At K (W.plus U) H v d)
    (hQ : ∀ U' H', Stp W U H U' H' → SOk K W ow n H' σ (eSet ρ i (some (.lst (ds ++ [d])))) U' → Q H') : ∃ l xs y, V.ref p = .ref l ∧ [v] = [y] ∧ H l = some (.lst xs) ∧ xs.length < sizeLine ∧ Q (upd H l (.lst (xs ++ [y]))) := by
  obtain ⟨u, hu, e1, a⟩ := s.own i _ hi he
  rw [hσ] at e1
  have ep : p = u.1 := V.ref.inj (Option.some.inj (Option.some.inj e1))
  subst ep
  obtain ⟨p, ob⟩ := u
  cases a with
  | lst a =>
    rename_i us
    have hp1 := (s.ok.owns _ (List.mem_append_left _ hu)).1
    obtain ⟨st, s2⟩ := s.put hi (by rw [he]; exact fun z => nomatch z) hσ hu ⟨_, rfl⟩ (ob' := .lst (us ++ [v])) trivial (.lst (a.append (.cons ax .nil)))
    exact ⟨_, us, v, rfl, rfl, hp1, Nat.lt_of_lt_of_le (by rw [a.length]; exact hl) lim, hQ _ _ st s2⟩
instance {i : Nat} {te : TE} {f : AE} [DE K te f] : DS K Wx ow (tApp K i te) (aApp ow i f) := ⟨fun W U σ ρ n H E Ea hD s h => by
  unfold aApp at h
  split at h
  · rename_i ds he hc
    have hi := List.contains_iff_mem.mp hc
    obtain ⟨u, hu, e1, a⟩ := s.own i _ hi he
    have hp1 := (s.ok.owns _ (List.mem_append_left _ hu)).1
    refine ⟨_, e1, ?_, DE.run (te := te) (f := f) (W.plus U) σ _ n H _ _ (fun d n1 h1 H1 x l1 o1 ax => ?_) s.hid s.ok h⟩
    · obtain ⟨p, ob⟩ := u
      cases a with
      | lst a => exact .inl ⟨rfl, _, SqL.of hp1⟩
    · exact app_run (s.le l1 o1) hi he h1.1 e1 ax fun U' H' st s' => hD.nx _ _ h1.2 U' σ H' ((Stp.hid l1).trans st) s'
  · exact h.elim⟩
/-! a def -/
def startA : Nat → List D → Env'
  | 0, _ => []
  | k + 1, [] => none :: startA k []
  | k + 1, d :: ds => some d :: startA k ds
theorem startA_none : ∀ {k i : Nat} {d : D}, eGet (startA k []) i = some d → False
  | 0, _, _, h => by cases h
  | k + 1, 0, _, h => by cases h
  | k + 1, i + 1, _, h => startA_none (k := k) (i := i) h
theorem startA_at {W : Wd} {H : Hp} : ∀ {k : Nat} {vs : List V} {ds : List D}, AtAll K W H vs ds → ∀ (i : Nat) (d : D), eGet (startA k ds) i = some d → ∃ v, vs[i]? = some v ∧ At K W H v d
  | 0, _, _, _, _, _, e => by cases e
  | k + 1, _, [], h, i, d, e => (startA_none e).elim
  | k + 1, _, _ :: _, h, 0, d, e => by
    cases h with
    | cons a r => cases e; exact ⟨_, rfl, a⟩
  | k + 1, _, _ :: ds, h, i + 1, d, e => by
    cases h with
    | cons a r => exact startA_at (k := k) r i d e
theorem startA_length : ∀ (k : Nat) (ds : List D), (startA k ds).length = k
  | 0, _ => rfl
  | k + 1, [] => by rw [startA, List.length_cons, startA_length]
  | k + 1, _ :: ds => by rw [startA, List.length_cons, startA_length]
theorem start_at {W : Wd} {H : Hp} {N : List Str} {k : Nat} {vs : List V} {ds : List D} (hk : N.length = k) (hl : ds.length ≤ k) (h : AtAll K W H vs ds) : EnvAt K W H (L2.start N vs) (startA k ds) := by
  unfold L2.start
  have hv := h.length
  refine ⟨by rw [startA_length]; simp; omega, fun i d e => ?_⟩
  obtain ⟨v, e1, a⟩ := startA_at h i d e
  refine ⟨v, ?_, a⟩
  have hi : i < vs.length := (List.getElem?_eq_some_iff.mp e1).1
  rw [List.getElem?_append_left (by rw [List.length_map]; exact hi), List.getElem?_map, e1]
  rfl
def aTop (Q : D → Nat → Prop) : AEn := { nx := fun _ n => Q .non n, rt := Q }
theorem le_start {W : Wd} {U : List (Addr × HO)} {H H' : Hp} (s : Stp W [] H U H') : W.le H H' := s.le
theorem startA_big : ∀ {k i : Nat} {ds : List D}, ds.length ≤ i → eGet (startA k ds) i = none
  | 0, _, _, _ => rfl
  | k + 1, 0, [], _ => rfl
  | k + 1, i + 1, [], h => startA_big (k := k) (i := i) (ds := []) (Nat.zero_le _)
  | k + 1, 0, _ :: _, h => absurd h (Nat.not_succ_le_zero _)
  | k + 1, i + 1, _ :: ds, h => startA_big (k := k) (i := i) (ds := ds) (Nat.le_of_succ_le_succ h)
theorem start_ok {W : Wd} {n : Nat} {H : Hp} {N : List Str} {k : Nat} {vs : List V} {ds : List D} (hk : N.length = k) (hl : ds.length ≤ k) (ho : ∀ i ∈ ow, ds.length ≤ i) (h : AtAll K W H vs ds) (o : W.ok K n H) : SOk K W ow n H (L2.start N vs) (startA k ds) [] := by
  have e := start_at hk hl h
  refine ⟨List.nodup_nil, fun u hu => (by cases hu), o, e.1, fun i d _ he => e.2 i d he, fun i d hi he => ?_, fun i j p hi _ _ _ _ => .inl (startA_big (ho i hi))⟩
  rw [startA_big (ho i hi)] at he
  cases he
theorem fn_mir {P : Program} {w : World} {mg : Str → Option Value} {base : Heap} {x qual : Str} {st : Stmt} {f : Addr} {fd : FuncData} {N ps : List Str} {k : Nat} {A : ASp} (ow : List Nat) (kk : Nat) (hk : N.length = kk) (hp : ps.length ≤ kk) (ho : ∀ i ∈ ow, ps.length ≤ i) (F : Fun K x qual st f fd) (S : FnScope N ps (defScope st))
    (hbody : ∀ (cdv : Value) (Ar : Around) (outer : List Env) (s : Shared) (H : Hp) (E : XK), Room k (Ar.deeper (envOfC qual (defScope st) s.heap.objs.size f cdv)) →
      ∃ (t : TS) (fa : AS), PSs (cxOf CX0 P w K mg base N qual (defScope st) f cdv Ar outer s H E).nox (defBody st) t ∧ DS K W0 ow t fa ∧ ∀ ds n Q, ds.length = ps.length → A ds n Q → fa (aTop Q) (startA kk ds) n) : FnOk P w K mg base CX0 (k + 1) f fd ps (spOf K ps.length A) := by
  refine F.ok S (fun vs H Q E h => ?_) (fun cdv Ar outer s H vs Q E hr h => ?_)
  · obtain ⟨W, n, ds, Qa, a, hl, _⟩ := h
    rw [a.length, hl]
  · obtain ⟨W, n, ds, Qa, a, hl, o, hQ, hA⟩ := h
    obtain ⟨t, fa, h1, h2, h3⟩ := hbody cdv Ar outer s H E hr
    refine ⟨t, h1, DS.run (Wx := W0) (ow := ow) (t := t) (f := fa) W [] (L2.start N vs) (startA kk ds) n H _ (aTop Qa) ⟨fun ρ' n' q U' σ' H' l' s' => hQ _ _ q H' _ (le_start l') s'.base .non, fun d n' q U1 H1 H' v l' l2 o' a' => hQ _ _ q H' v ((le_start l').trans l2) o' a', fun _ _ q => q.elim, fun _ _ q => q.elim, fun _ _ _ _ _ q => q.elim⟩ (start_ok hk (by omega) (fun i hi => by rw [hl]; exact ho i hi) a o) (h3 ds n Qa hl hA)⟩
end

/-! ### sorted -/
abbrev Pt := Int × Int
def lexLe (p q : Pt) : Prop := p.1 < q.1 ∨ (p.1 = q.1 ∧ p.2 ≤ q.2)
def pt (p : Pt) : D := .tup [.int p.1, .int p.2]
section
variable {K : PySem.W.Frag}
open Classical in
noncomputable def kz (zs : List (V × Pt)) (x : V) : Pt := if h : ∃ p, (x, p) ∈ zs then Classical.choose h else (0, 0)
theorem kz_is {zs : List (V × Pt)} {x : V} {p : Pt} (hu : ∀ q, (x, q) ∈ zs → q = p) (hm : (x, p) ∈ zs) : kz zs x = p := by
  unfold kz
  have h : ∃ p, (x, p) ∈ zs := ⟨p, hm⟩
  rw [dif_pos h]
  exact hu _ (Classical.choose_spec h)
def rSrtP (K : PySem.W.Frag) : List V → Hp → VK → Prop := fun vs H Q => ∃ (a : Addr) (zs : List (V × Pt)), vs = [V.ref a] ∧ SqL K H a (zs.map Prod.fst) ∧ (∀ z ∈ zs, ∃ t, z.1 = V.ref t ∧ SqT K H t [.int z.2.1, .int z.2.2]) ∧
  ∀ (ws : List (V × Pt)) (p : Addr), ws.Perm zs → (ws.map Prod.snd).Pairwise lexLe → H p = none → Q (.ref p) (upd H p (.lst (ws.map Prod.fst)))
theorem k_sortP {X : Cx} (hK : X.K = K) : CallR X (.builtin "sorted") (rSrtP K) := by
  subst hK
  intro pins s σ H vs us Q I r h
  obtain ⟨a, zs, rfl, hs, hx, q⟩ := h
  obtain ⟨its, rv, hl, hz⟩ := I.list hs
  obtain ⟨u, rfl, ru⟩ := vals1 r
  obtain rfl : u = Value.ref a := ru
  have hk : ∀ z ∈ zs, kz zs z.1 = z.2 := fun z hm => kz_is (fun p' hq => by
    obtain ⟨t, e, ht⟩ := hx z hm
    obtain ⟨t', e', ht'⟩ := hx _ hq
    rw [e] at e'
    cases e'
    have := I.tuple_inj ht ht'
    simp only [List.cons.injEq, V.int.injEq, and_true] at this
    exact Prod.ext this.1.symm this.2.symm) hm
  have hxs : ∀ x ∈ zs.map Prod.fst, ∃ t, x = V.ref t ∧ SqT X.K H t [.int (kz zs x).1, .int (kz zs x).2] := fun x hm => by
    obtain ⟨z, hz', rfl⟩ := List.mem_map.mp hm
    obtain ⟨t, e, ht⟩ := hx z hz'
    exact ⟨t, e, by rw [hk z hz']; exact ht⟩
  obtain ⟨e1, e2⟩ := refs_back rv fun x m => by
    obtain ⟨t, e, _⟩ := hxs x m
    exact ⟨t, e⟩
  refine SrtO.sorted_pairsO (k := fun u => kz zs (backV u)) hl.isList (by rw [← rv.length]; exact hz) (fun v hv => ?_) fun h' d out h1 h2 kp hd hn => ?_
  · obtain ⟨t, rfl⟩ := e2 v hv
    have hm : V.ref t ∈ zs.map Prod.fst := by rw [e1]; exact List.mem_map.mpr ⟨_, hv, rfl⟩
    obtain ⟨t', e, ht⟩ := hxs _ hm
    cases e
    obtain ⟨its2, r2, ⟨o, ho, hc, n, hd⟩, _⟩ := I.tuple ht
    obtain ⟨u1, u2, rfl, ri, rj⟩ := vals2 r2
    obtain ⟨t1, rfl⟩ := ri
    obtain ⟨t2, rfl⟩ := rj
    exact ⟨t, o, t1, t2, n, rfl, ho, hc, hd⟩
  · have h3 : ∀ u ∈ out, ∃ a, u = Value.ref a := fun u hu => e2 u (h2.perm.mem_iff.mp hu)
    obtain ⟨n, hn⟩ := hn
    have hb : SrtO.Stb (ltP (kz zs)) (out.map backV) (zs.map Prod.fst) := by
      rw [e1]
      exact SrtO.Stb.map (ltP_swo (kz zs)) backV h2
    have hw : ((out.map backV).map fun y => (y, kz zs y)).Perm zs := by
      have e3 : (zs.map Prod.fst).map (fun y => (y, kz zs y)) = zs := by
        rw [List.map_map]
        conv => rhs; rw [← List.map_id zs]
        exact List.map_congr_left fun z hz' => by
          show (z.1, kz zs z.1) = z
          rw [hk z hz']
      have := hb.perm.map fun y => (y, kz zs y)
      rw [e3] at this
      exact this
    have hf : ((out.map backV).map fun y => (y, kz zs y)).map Prod.fst = out.map backV := by
      rw [List.map_map]
      exact List.map_id _
    refine ⟨.ref d, upd H d (.lst (out.map backV)), I.laid (t' := s.toks) kp hd ⟨?_, out, n, vals_back h3, hn⟩, rfl, ?_⟩
    · rw [hb.len]
      exact hz
    · have := q _ d hw ?_ (I.hok.fresh hd)
      · rw [hf] at this
        exact this
      · have hs2 := SrtO.srtd_map (lt := ltP (kz zs)) (f := backV) h1
        rw [List.map_map, List.pairwise_map]
        refine List.Pairwise.imp (fun {a b} h => ?_) hs2
        have := SrtO.lexB_no.mp h
        show lexLe (kz zs a) (kz zs b)
        unfold lexLe
        omega
def aSrtP : List D → Nat → (D → Nat → Prop) → Prop := fun ds n Q => ∃ ps : List Pt, ds = [.lst (ps.map pt)] ∧ ∀ rs : List Pt, rs.Perm ps → rs.Pairwise lexLe → Q (.lst (rs.map pt)) n
theorem pts_zip {W : Wd} {H : Hp} : ∀ {ps : List Pt} {us : List V}, AtAll K W H us (ps.map pt) → ∃ zs : List (V × Pt), zs.map Prod.fst = us ∧ zs.map Prod.snd = ps ∧ ∀ z ∈ zs, (∃ t, z.1 = V.ref t ∧ SqT K H t [.int z.2.1, .int z.2.2]) ∧ At K W H z.1 (pt z.2)
  | [], _, h => by cases h; exact ⟨[], rfl, rfl, fun z hz => by cases hz⟩
  | p :: ps, _, h => by
    cases h with
    | @cons v vs _ _ a r =>
      obtain ⟨zs, h1, h2, h3⟩ := pts_zip r
      refine ⟨(v, p) :: zs, by rw [List.map_cons, h1], by rw [List.map_cons, h2], fun z hz => ?_⟩
      rcases List.mem_cons.mp hz with rfl | hz
      · refine ⟨?_, a⟩
        cases a with
        | tup s a =>
          cases a with
          | cons a b =>
            cases b with
            | cons b c =>
              cases a
              cases b
              cases c
              exact ⟨_, rfl, s⟩
      · exact h3 z hz
theorem zip_at {W : Wd} {H : Hp} : ∀ {ws : List (V × Pt)}, (∀ z ∈ ws, At K W H z.1 (pt z.2)) → AtAll K W H (ws.map Prod.fst) ((ws.map Prod.snd).map pt)
  | [], _ => .nil
  | w :: ws, h => .cons (h w List.mem_cons_self) (zip_at fun z hz => h z (List.mem_cons_of_mem _ hz))
instance : DL K (rSrtP K) aSrtP := ⟨fun W n H xs ds Q Qa hQ o a h => by
  obtain ⟨ps, rfl, h⟩ := h
  cases a with
  | cons a r =>
    cases r
    cases a with
    | @lst l us _ nr s a =>
      obtain ⟨zs, h1, h2, h3⟩ := pts_zip a
      subst h1 h2
      refine ⟨l, zs, rfl, SqL.of s, fun z hz => (h3 z hz).1, fun ws p hp hpw hn => hQ.new o (h (ws.map Prod.snd) (hp.map _) hpw) hn ?_⟩
      exact .lst (o.fresh hn) upd_same (AtAll.le o (Wd.le_same (same_upd hn)) _ (zip_at fun z hz => (h3 z (hp.mem_iff.mp hz)).2))⟩
/-! texts -/
def rSrtS (K : PySem.W.Frag) : List V → Hp → VK → Prop := rSortedS K
theorem k_sortS {X : Cx} (hK : X.K = K) : CallR X (.builtin "sorted") (rSrtS K) := hK ▸ cr_sortedS
end

/-! ### loops in the mirror -/
section
theorem aFor_ind {ow : List Nat} {G : D → Option (List (Nat × D))} {f : AS} {E : AEn} (I : List D → Env' → Nat → Prop)
    (hs : ∀ d r ρ n, I (d :: r) ρ n → (∀ ρ' n', I r ρ' n' → aForGo ow G f E r ρ' n') → aPut ow G d ρ fun ρ1 => f { E with nx := aForGo ow G f E r, ct := aForGo ow G f E r, bk := E.nx } ρ1 n)
    (hd : ∀ ρ n, I [] ρ n → E.nx ρ n) : ∀ {ds : List D} {ρ : Env'} {n : Nat}, I ds ρ n → aForGo ow G f E ds ρ n
  | [], ρ, n, h => hd ρ n h
  | d :: r, ρ, n, h => hs d r ρ n h fun ρ' n' h' => aFor_ind I hs hd h'
theorem aLc_ind {vs : List Nat} {G : D → Option (List (Nat × D))} {c : AT} {e : AE} {ρ : Env'} {Q : D → Nat → Prop} (I : List D → List D → Nat → Prop)
    (hs : ∀ acc d r n, I acc (d :: r) n → (∀ acc' n', I acc' r n' → aLcGo vs G c e ρ Q acc' r n') → aPutC vs G d ρ fun ρ1 => c ρ1 n fun b n2 => aIte b (e ρ1 n2 fun y n3 => aLcGo vs G c e ρ Q (acc ++ [y]) r n3) (aLcGo vs G c e ρ Q acc r n2))
    (hd : ∀ acc n, I acc [] n → Q (.lst acc) n) : ∀ {acc ds : List D} {n : Nat}, I acc ds n → aLcGo vs G c e ρ Q acc ds n
  | acc, [], n, h => hd acc n h
  | acc, d :: r, n, h => hs acc d r n h fun acc' n' h' => aLc_ind I hs hd h'
theorem rangeD_map (lo : Int) : ∀ k, rangeD lo k = (List.range' 0 k).map fun i => D.int (lo + (i : Nat)) := by
  have : ∀ k s, rangeD (lo + (s : Nat)) k = (List.range' s k).map fun i => D.int (lo + (i : Nat)) := fun k => by
    induction k with
    | zero => intro s; rfl
    | succ k ih =>
      intro s
      rw [List.range'_succ, List.map_cons, rangeD, ← ih (s + 1)]
      congr 2
      omega
  intro k
  have := this k 0
  rw [Int.natCast_zero, Int.add_zero] at this
  exact this
theorem pick_at {α : Type} {xs : List α} {r : Int} (h0 : 0 ≤ r) (h1 : r < xs.length) : ∃ x, x ∈ xs ∧ atI xs r = some x := by
  obtain ⟨k, rfl⟩ := Int.eq_ofNat_of_zero_le h0
  have hk : k < xs.length := by omega
  exact ⟨xs[k], List.getElem_mem hk, atI_nat (List.getElem?_eq_getElem hk)⟩
end

/-! ### zip of any two things that go item by item -/
namespace RX
open PySem
/-- an iterator it over what stands at l: its states, its items -/
structure Src (prog : Program) (w : World) (it l : Addr) (J : Nat → Heap → Prop) (get : Nat → Option Value) : Prop where
  keep : ∀ {k : Nat} {g g' : Heap} {c : Addr}, it ≠ c → l ≠ c → Heap.ExtBut c g g' → J k g → J k g'
  step : ∀ {A : Around} {E : Value → Shared → Prop} {s : Shared} {Q : Value → Shared → Prop} {k : Nat} {x : Value}, J k s.heap → get k = some x → (∀ g, J (k + 1) g → Heap.SameBut it s.heap g → Q x { s with heap := g }) → wpAny (model prog w) A (Builtin.SmallTypes.nextOf (.ref it)) Q E s
  stop : ∀ {A : Around} {E : Value → Shared → Prop} {s : Shared} {Q : Value → Shared → Prop} {k : Nat}, A.handled = none → J k s.heap → get k = none → (∀ g e, Heap.ExtBut it s.heap g → (∃ o, g.get? e = some o ∧ o.cls = .type "StopIteration") → E (.ref e) { s with heap := g }) → wpAny (model prog w) A (Builtin.SmallTypes.nextOf (.ref it)) Q E s
  here : ∀ {k : Nat} {g : Heap}, J k g → ∃ o, g.get? it = some o ∧ ∀ v, o.data ≠ .cell v
theorem srcT {prog : Program} {w : World} {it l : Addr} (hne : l ≠ it) (xs : Array Value) : Src prog w it l (fun k g => g.IsTupleIter it l k ∧ g.IsTuple l xs) (fun k => xs[k]?) where
  keep := fun h1 h2 e j => ⟨j.1.extBut e h1, j.2.extBut e h2⟩
  step := fun j hx q => RZ.nextOf_tuple_item j.1 j.2 hx fun g h1 h2 => q g ⟨h1, j.2.extBut h2.extBut hne⟩ h2
  stop := fun hh j hx q => RZ.nextOf_tuple_end hh j.1 j.2 hx q
  here := fun j => by obtain ⟨o, ho, _, hd⟩ := j.1; exact ⟨o, ho, fun v e => by rw [hd] at e; cases e⟩
theorem srcL {prog : Program} {w : World} {it l : Addr} (hne : l ≠ it) (xs : Array Value) : Src prog w it l (fun k g => g.IsListIter it l k ∧ g.IsList l xs) (fun k => xs[k]?) where
  keep := fun h1 h2 e j => ⟨j.1.extBut e h1, j.2.extBut e h2⟩
  step := fun j hx q => wpAny_nextOf_list_item j.1 j.2 hx fun g h1 h2 => q g ⟨h1, j.2.extBut h2.extBut hne⟩ h2
  stop := fun hh j hx q => wpAny_nextOf_list_end hh j.1 j.2 hx q
  here := fun j => by obtain ⟨o, ho, _, hd⟩ := j.1; exact ⟨o, ho, fun v e => by rw [hd] at e; cases e⟩
section
variable {prog : Program} {w : World} {A : Around} {E : Value → Shared → Prop} {s : Shared} {z TI TO i1 i2 l1 l2 : Addr} {J1 J2 : Nat → Heap → Prop} {g1 g2 : Nat → Option Value}
/-- one more pair -/
theorem zip_item {k : Nat} {x y a b : Value} {Q : Value → Shared → Prop} (D : ZipApart z TI TO i1 i2 l1 l2) (S1 : Src prog w i1 l1 J1 g1) (S2 : Src prog w i2 l2 J2 g2) (zz : IsZip s.heap z TI TO .none) (zi : IsPair s.heap TI (.ref i1) (.ref i2)) (zo : IsPair s.heap TO a b) (j1 : J1 k s.heap) (j2 : J2 k s.heap) (hx : g1 k = some x) (hy : g2 k = some y)
    (q : ∀ g, IsZip g z TI TO (rawInt s.heap.objs.size) → IsPair g TO x y → J1 (k + 1) g → J2 (k + 1) g → IsPair g s.heap.objs.size x y → g.objs.size = s.heap.objs.size + 1 → (∀ c o, c ≠ z → c ≠ TO → c ≠ i1 → c ≠ i2 → s.heap.get? c = some o → g.get? c = some o) → Q (.ref s.heap.objs.size) { s with heap := g }) :
    wpAny (model prog w) A (Builtin.«zip.__next__» ⟨[.ref z], []⟩) (fun fin s' => ∃ v, fin = .done (.ret v) ∧ Q v s') E s := by
  show wpAny _ _ (field (.ref z) 2 >>= _) _ _ _; refine wpAny_bind (wpAny_field zz rfl (x := .bool false) rfl ?_)
  show wpAny _ _ (field (.ref z) 3 >>= _) _ _ _; refine wpAny_bind (wpAny_field zz rfl (x := .ref TI) rfl (wpAny_bind (wpAny_seqItems zi rfl ?_)))
  show wpAny _ _ (Builtin.SmallTypes.ownedTupleIsFree (.ref z) >>= _) _ _ _; refine wpAny_bind ?_; unfold Builtin.SmallTypes.ownedTupleIsFree
  refine wpAny_bind (wpAny_field zz rfl (x := .none) rfl (wpAny_pure ?_)); simp only [if_true]
  refine wpAny_bind (wpAny_rule (wpAny_bind (wpAny_field zz rfl (x := .ref TO) rfl (wpAny_bind (wpAny_setField_rec zz (by simp) fun ha za sa => ?_)))))
  replace za : IsZip ha z TI TO .ellipsis := za
  refine wpAny_bind ?_; simp only [List.zipIdx_cons, List.zipIdx_nil, List.forIn_cons, List.forIn_nil]
  refine wpAny_bind (wpAny_bind (wpAny_onRaise ?_)); show wpAny _ _ (Builtin.SmallTypes.nextOf (.ref i1) >>= _) _ _ _
  refine wpAny_bind (S1.step (s := { s with heap := ha }) (S1.keep D.i1z D.l1z sa.extBut j1) hx fun hb jb sb => wpAny_pure ?_)
  have ob : IsPair hb TO a b := sb.extBut _ _ D.TOi1 (sa.extBut _ _ D.TOz zo)
  refine wpAny_bind (wpAny_seqItems ob rfl (wpAny_bind (wpAny_updateSeq_pair ob fun hc oc sc => ?_)))
  replace oc : IsPair hc TO x b := oc
  refine wpAny_bind (wpAny_letGo (wpAny_pure (wpAny_bind (wpAny_bind (wpAny_onRaise ?_))))); show wpAny _ _ (Builtin.SmallTypes.nextOf (.ref i2) >>= _) _ _ _
  refine wpAny_bind (S2.step (s := { s with heap := hc }) (S2.keep D.TOi2.symm D.l2TO sc.extBut (S2.keep D.i12.symm D.l2i1 sb.extBut (S2.keep D.i2z D.l2z sa.extBut j2))) hy fun hd jd sd => wpAny_pure ?_)
  have od : IsPair hd TO x b := sd.extBut _ _ D.TOi2 oc
  refine wpAny_bind (wpAny_seqItems od rfl (wpAny_bind (wpAny_updateSeq_pair od fun he oe se => ?_)))
  replace oe : IsPair he TO x y := oe
  refine wpAny_bind (wpAny_letGo (wpAny_pure (wpAny_pure (wpAny_bind (wpAny_seqItems oe rfl (wpAny_bind (wpAny_newTuple ?_)))))))
  have size : he.objs.size = s.heap.objs.size := by rw [se.1, sd.1, sc.1, sb.1, sa.1]
  have ze : IsZip he z TI TO .ellipsis := se.extBut _ _ D.TOz.symm (sd.extBut _ _ D.i2z.symm (sc.extBut _ _ D.TOz.symm (sb.extBut _ _ D.i1z.symm za)))
  have ke : ∀ c o, c ≠ z → c ≠ TO → c ≠ i1 → c ≠ i2 → s.heap.get? c = some o → he.get? c = some o := fun c o c1 c2 c3 c4 e => se.extBut _ _ c2 (sd.extBut _ _ c4 (sc.extBut _ _ c2 (sb.extBut _ _ c3 (sa.extBut _ _ c1 e))))
  have ja : J1 (k + 1) he := S1.keep D.TOi1.symm D.l1TO se.extBut (S1.keep D.i12 D.l1i2 sd.extBut (S1.keep D.TOi1.symm D.l1TO sc.extBut jb))
  have jc : J2 (k + 1) he := S2.keep D.TOi2.symm D.l2TO se.extBut jd
  have below : z < he.objs.size := Heap.lt_size ze
  show wpAny _ _ (Builtin.SmallTypes.ownedTupleHandOut (.ref z) (.ref he.objs.size) >>= _) _ _ _; refine wpAny_bind ?_; unfold Builtin.SmallTypes.ownedTupleHandOut
  have zf : IsZip (he.push { cls := .type "tuple", data := .seq #[x, y] }) z TI TO .ellipsis := Heap.get?_push_of_some _ ze
  refine wpAny_bind (wpAny_setField_rec zf (by simp) fun hg zg sg => ?_)
  replace zg : IsZip hg z TI TO (rawInt he.objs.size) := zg
  refine wpAny_setField_rec zg (by simp) fun hh zh sh => ?_
  replace zh : IsZip hh z TI TO (rawInt he.objs.size) := zh
  have grow : Heap.ExtBut z he hh := fun c o c1 e => sh.extBut _ _ c1 (sg.extBut _ _ c1 (Heap.get?_push_of_some _ e))
  have pair : IsPair hh he.objs.size x y := sh.extBut _ _ (Nat.ne_of_gt below) (sg.extBut _ _ (Nat.ne_of_gt below) (Heap.get?_push_size _ rfl))
  have more : hh.objs.size = he.objs.size + 1 := by rw [sh.1, sg.1, Heap.size_push]
  rw [size] at zh pair more
  refine wpAny_pure ⟨_, rfl, ?_⟩; show Q (.ref he.objs.size) _; rw [size]
  exact q hh zh (grow _ _ D.TOz oe) (S1.keep D.i1z D.l1z grow ja) (S2.keep D.i2z D.l2z grow jc) pair more fun c o c1 c2 c3 c4 e => grow c o c1 (ke c o c1 c2 c3 c4 e)
/-- no more -/
theorem zip_end {k : Nat} {a b : Value} {Q : Fin → Shared → Prop} (hn : A.handled = none) (D : ZipApart z TI TO i1 i2 l1 l2) (S1 : Src prog w i1 l1 J1 g1) (S2 : Src prog w i2 l2 J2 g2) (zz : IsZip s.heap z TI TO .none) (zi : IsPair s.heap TI (.ref i1) (.ref i2)) (zo : IsPair s.heap TO a b) (j1 : J1 k s.heap) (j2 : J2 k s.heap) (last : g1 k = none ∨ g2 k = none)
    (q : ∀ g e, (∀ c o, c ≠ z → c ≠ TO → c ≠ i1 → c ≠ i2 → s.heap.get? c = some o → g.get? c = some o) → (∃ o, g.get? e = some o ∧ o.cls = .type "StopIteration") → E (.ref e) { s with heap := g }) :
    wpAny (model prog w) A (Builtin.«zip.__next__» ⟨[.ref z], []⟩) Q E s := by
  show wpAny _ _ (field (.ref z) 2 >>= _) _ _ _; refine wpAny_bind (wpAny_field zz rfl (x := .bool false) rfl ?_)
  show wpAny _ _ (field (.ref z) 3 >>= _) _ _ _; refine wpAny_bind (wpAny_field zz rfl (x := .ref TI) rfl (wpAny_bind (wpAny_seqItems zi rfl ?_)))
  show wpAny _ _ (Builtin.SmallTypes.ownedTupleIsFree (.ref z) >>= _) _ _ _; refine wpAny_bind ?_; unfold Builtin.SmallTypes.ownedTupleIsFree
  refine wpAny_bind (wpAny_field zz rfl (x := .none) rfl (wpAny_pure ?_)); simp only [if_true]
  refine wpAny_bind (wpAny_rule (wpAny_bind (wpAny_field zz rfl (x := .ref TO) rfl (wpAny_bind (wpAny_setField_rec zz (by simp) fun ha za sa => ?_)))))
  replace za : IsZip ha z TI TO .ellipsis := za
  refine wpAny_bind ?_; simp only [List.zipIdx_cons, List.zipIdx_nil, List.forIn_cons, List.forIn_nil]
  refine wpAny_bind (wpAny_bind (wpAny_onRaise ?_)); show wpAny _ _ (Builtin.SmallTypes.nextOf (.ref i1) >>= _) _ _ _
  cases hx : g1 k with
  | none =>
    refine wpAny_bind (S1.stop (s := { s with heap := ha }) hn (S1.keep D.i1z D.l1z sa.extBut j1) hx fun hb e sb ⟨oe, ho, hce⟩ => ?_)
    have zb : IsZip hb z TI TO .ellipsis := sb _ _ D.i1z.symm za
    have ne : e ≠ z := fun x => by subst x; rw [zb] at ho; cases ho; simp at hce
    exact wpAny_setField_rec zb (by simp) fun hc _ sc => q hc e (fun c o c1 _ c3 _ v => sc.extBut _ _ c1 (sb _ _ c3 (sa.extBut _ _ c1 v))) ⟨oe, sc.extBut _ _ ne ho, hce⟩
  | some x =>
    have hy : g2 k = none := last.resolve_left fun h => by rw [hx] at h; cases h
    refine wpAny_bind (S1.step (s := { s with heap := ha }) (S1.keep D.i1z D.l1z sa.extBut j1) hx fun hb jb sb => wpAny_pure ?_)
    have ob : IsPair hb TO a b := sb.extBut _ _ D.TOi1 (sa.extBut _ _ D.TOz zo)
    refine wpAny_bind (wpAny_seqItems ob rfl (wpAny_bind (wpAny_updateSeq_pair ob fun hc oc sc => ?_)))
    refine wpAny_bind (wpAny_letGo (wpAny_pure (wpAny_bind (wpAny_bind (wpAny_onRaise ?_))))); show wpAny _ _ (Builtin.SmallTypes.nextOf (.ref i2) >>= _) _ _ _
    refine wpAny_bind (S2.stop (s := { s with heap := hc }) hn (S2.keep D.TOi2.symm D.l2TO sc.extBut (S2.keep D.i12.symm D.l2i1 sb.extBut (S2.keep D.i2z D.l2z sa.extBut j2))) hy fun hd e sd ⟨oe, ho, hce⟩ => ?_)
    have zd : IsZip hd z TI TO .ellipsis := sd _ _ D.i2z.symm (sc.extBut _ _ D.TOz.symm (sb.extBut _ _ D.i1z.symm za))
    have ne : e ≠ z := fun x => by subst x; rw [zd] at ho; cases ho; simp at hce
    exact wpAny_setField_rec zd (by simp) fun he _ se => q he e (fun c o c1 c2 c3 c4 v => se.extBut _ _ c1 (sd _ _ c4 (sc.extBut _ _ c2 (sb.extBut _ _ c3 (sa.extBut _ _ c1 v))))) ⟨oe, se.extBut _ _ ne ho, hce⟩
/-- by pyNext -/
theorem next_item {k : Nat} {x y a b : Value} {Q : Option Value → Shared → Prop} (D : ZipApart z TI TO i1 i2 l1 l2) (S1 : Src prog w i1 l1 J1 g1) (S2 : Src prog w i2 l2 J2 g2) (zz : IsZip s.heap z TI TO .none) (zi : IsPair s.heap TI (.ref i1) (.ref i2)) (zo : IsPair s.heap TO a b) (j1 : J1 k s.heap) (j2 : J2 k s.heap) (hx : g1 k = some x) (hy : g2 k = some y)
    (q : ∀ g, IsZip g z TI TO (rawInt s.heap.objs.size) → IsPair g TO x y → J1 (k + 1) g → J2 (k + 1) g → IsPair g s.heap.objs.size x y → g.objs.size = s.heap.objs.size + 1 → (∀ c o, c ≠ z → c ≠ TO → c ≠ i1 → c ≠ i2 → s.heap.get? c = some o → g.get? c = some o) → Q (some (.ref s.heap.objs.size)) { s with heap := g }) :
    wpAny (model prog w) A (pyNext (.ref z)) Q E s := by
  have ty : s.TypeIs (.ref z) "zip" := ⟨_, zz, rfl⟩
  unfold pyNext
  refine wpAny_bind (wpAny_attempt (wpAny_callSpecial?_slot (name := Str.ofString "__next__") ty F.slot_zip_next (wpAny_call_entry F.slot_zip_next ty F.entry_zip_next (zip_item D S1 S2 zz zi zo j1 j2 hx hy fun g b1 b2 b3 b4 b5 b6 b7 => ?_) (F.args_zip_next_1 _))))
  exact wpAny_pure (q g b1 b2 b3 b4 b5 b6 b7)
theorem next_end {k : Nat} {a b : Value} {Q : Option Value → Shared → Prop} (hn : A.handled = none) (D : ZipApart z TI TO i1 i2 l1 l2) (S1 : Src prog w i1 l1 J1 g1) (S2 : Src prog w i2 l2 J2 g2) (zz : IsZip s.heap z TI TO .none) (zi : IsPair s.heap TI (.ref i1) (.ref i2)) (zo : IsPair s.heap TO a b) (j1 : J1 k s.heap) (j2 : J2 k s.heap) (last : g1 k = none ∨ g2 k = none)
    (q : ∀ g, (∀ c o, c ≠ z → c ≠ TO → c ≠ i1 → c ≠ i2 → s.heap.get? c = some o → g.get? c = some o) → Q none { s with heap := g }) : wpAny (model prog w) A (pyNext (.ref z)) Q E s := by
  have ty : s.TypeIs (.ref z) "zip" := ⟨_, zz, rfl⟩
  unfold pyNext
  refine wpAny_bind (wpAny_attempt (wpAny_callSpecial?_slot (name := Str.ofString "__next__") ty F.slot_zip_next (wpAny_call_entry F.slot_zip_next ty F.entry_zip_next (zip_end hn D S1 S2 zz zi zo j1 j2 last fun g e kp ⟨o, ho, hc⟩ => ?_) (F.args_zip_next_1 _))))
  exact wpAny_bind (wpAny_isInstance (T := "StopIteration") (b := true) ⟨o, ho, hc⟩ isSubtype_stop (wpAny_pure (q _ kp)))
end
/-! zip(a tuple, a list) -/
abbrev mH (h : Heap) (l1 l2 : Addr) : Heap := (((h.push { cls := .type "tuple_iterator", data := .fields #[.ref l1, .int 0 0] }).push { cls := .type "list_iterator", data := .fields #[.ref l2, .int 0 0] }).push { cls := .type "tuple", data := .seq #[.ref h.objs.size, .ref (h.objs.size + 1)] }).push { cls := .type "tuple", data := .seq #[.none, .none] }
abbrev mZ (h : Heap) (l1 l2 : Addr) : Heap := (mH h l1 l2).push { cls := .type "zip", data := .fields #[.none, .bool false, .bool false, .ref (h.objs.size + 2), .ref (h.objs.size + 3)] }
theorem new_zipM (l1 l2 : Addr) (xs ys : Array Value) : Meets (Builtin.«zip.__new__» ⟨[.type "zip", .ref l1, .ref l2], []⟩) (fun _ R s => s.heap.IsTuple l1 xs ∧ s.heap.IsList l2 ys ∧ R (.ok (.ret (.ref (s.heap.objs.size + 4)))) { s with heap := mZ s.heap l1 l2 }) :=
  .of_wp fun prog w A R s h => by
    obtain ⟨hp, g, d, tk, os⟩ := s
    obtain ⟨t1, t2, h⟩ := h
    have sub := sub_zip
    have u1 : Heap.IsTuple (Shared.heap ⟨hp, g, d, tk, os⟩) l1 xs := t1
    have u2 : Heap.IsList (Shared.heap ⟨hp.push { cls := .type "tuple_iterator", data := .fields #[.ref l1, .int 0 0] }, g, d, tk, os⟩) l2 ys := Heap.IsList.push t2 _
    wp_walk using wpAny_pyIter_tuple u1, wpAny_pyIter_list u2
    refine ⟨_, rfl, ?_⟩
    simp only [Heap.size_push] at h ⊢
    exact h
theorem call_zipM {prog : Program} {w : World} {A : Around} {E : Value → Shared → Prop} {s : Shared} {l1 l2 : Addr} {xs ys : Array Value} {Q : Value → Shared → Prop} (t1 : s.heap.IsTuple l1 xs) (t2 : s.heap.IsList l2 ys)
    (h : ∀ g, IsZip g (s.heap.objs.size + 4) (s.heap.objs.size + 2) (s.heap.objs.size + 3) .none → IsPair g (s.heap.objs.size + 2) (.ref s.heap.objs.size) (.ref (s.heap.objs.size + 1)) → IsPair g (s.heap.objs.size + 3) .none .none → g.IsTupleIter s.heap.objs.size l1 0 → g.IsListIter (s.heap.objs.size + 1) l2 0 → (∀ c o, s.heap.get? c = some o → g.get? c = some o) → Q (.ref (s.heap.objs.size + 4)) { s with heap := g }) :
    wpAny (model prog w) A (call (.type "zip") [.ref l1, .ref l2]) Q E s := by
  refine callType_new F.called_zip (by decide) (F.typeCall_zip_2 _ _) (F.newCall_zip_2 _ _) (fun obj => F.args_object_init_3 obj _ _) F.entry_zip_new (new_zipM l1 l2 xs ys) ⟨t1, t2, ?_⟩
  have up : ∀ (g : Heap) (o : Obj) (c : Addr) (o' : Obj), g.get? c = some o' → (g.push o).get? c = some o' := fun g o c o' e => Heap.get?_push_of_some _ e
  have at_ : ∀ (g : Heap) (o : Obj) (c : Addr), g.objs.size = c → o.isFreed = false → (g.push o).get? c = some o := fun g o c e f => by
    subst e
    exact Heap.get?_push_size _ f
  have zz : IsZip (mZ s.heap l1 l2) (s.heap.objs.size + 4) (s.heap.objs.size + 2) (s.heap.objs.size + 3) .none := at_ _ _ _ (by simp only [Heap.size_push]) rfl
  have w1 : (mZ s.heap l1 l2).get? s.heap.objs.size = some { cls := .type "tuple_iterator", data := .fields #[.ref l1, .int 0 0] } := up _ _ _ _ (up _ _ _ _ (up _ _ _ _ (up _ _ _ _ (at_ _ _ _ rfl rfl))))
  have w2 : (mZ s.heap l1 l2).get? (s.heap.objs.size + 1) = some { cls := .type "list_iterator", data := .fields #[.ref l2, .int 0 0] } := up _ _ _ _ (up _ _ _ _ (up _ _ _ _ (at_ _ _ _ (by simp only [Heap.size_push]) rfl)))
  refine ⟨⟨_, zz, rfl⟩, h _ zz ?_ ?_ ⟨_, w1, rfl, rfl⟩ ⟨_, w2, rfl, rfl⟩ fun c o e => up _ _ _ _ (up _ _ _ _ (up _ _ _ _ (up _ _ _ _ (up _ _ _ _ e))))⟩
  · exact up _ _ _ _ (up _ _ _ _ (at_ _ _ _ (by simp only [Heap.size_push]) rfl))
  · exact up _ _ _ _ (at_ _ _ _ (by simp only [Heap.size_push]) rfl)
end RX
namespace RX
open PySem PySem.Spec PyProof.Rows L2
/-- a tuple and a list, item by item, in new pairs -/
def ItzM (K : PySem.W.Frag) (a b : Addr) : It :=
  ⟨fun i H => ∃ (xs ys : List V) (x y : V), SqT K H a xs ∧ SqL K H b ys ∧ xs[i]? = some x ∧ ys[i]? = some y,
   fun i H v H' => ∃ T x y, v = .ref T ∧ H T = none ∧ H' = upd H T (.tup [x, y]) ∧ (∀ xs, SqT K H a xs → xs[i]? = some x) ∧ ∀ ys, SqL K H b ys → ys[i]? = some y,
   fun i H => ∃ xs ys : List V, SqT K H a xs ∧ SqL K H b ys ∧ (xs.length ≤ i ∨ ys.length ≤ i)⟩
theorem turnM {P : Program} {w : World} {K : PySem.W.Frag} {elts : List Expr} {kk : Nat} {tpos : Pos} {a b z TI TO i1 i2 : Addr} (D : ZipApart z TI TO i1 i2 a b) :
    Turn P w K (.Tuple elts kk tpos) (ItzM K a b) [z, TI, TO, i1, i2] z (fun i h => IsZip h z TI TO .none ∧ IsPair h TI (.ref i1) (.ref i2) ∧ (∃ x y, IsPair h TO x y) ∧ h.IsTupleIter i1 a i ∧ h.IsListIter i2 b i) where
  mem := List.mem_cons_self
  obj := fun i h ⟨hz, hi, ⟨x, y, ho⟩, ⟨o1, e1, _, d1⟩, ⟨o2, e2, _, d2⟩⟩ c hc => by
    simp only [List.mem_cons, List.not_mem_nil, or_false] at hc
    rcases hc with rfl | rfl | rfl | rfl | rfl
    · exact ⟨_, hz, fun v e => nomatch e⟩
    · exact ⟨_, hi, fun v e => nomatch e⟩
    · exact ⟨_, ho, fun v e => nomatch e⟩
    · exact ⟨o1, e1, fun v e => by rw [d1] at e; cases e⟩
    · exact ⟨o2, e2, fun v e => by rw [d2] at e; cases e⟩
  keep := fun i h h' ⟨hz, hi, ⟨x, y, ho⟩, t1, t2⟩ k =>
    ⟨k z (by simp) _ hz, k TI (by simp) _ hi, ⟨x, y, k TO (by simp) _ ho⟩, t1.at fun o e => k i1 (by simp) o e, t2.at fun o e => k i2 (by simp) o e⟩
  item := by
    intro X hP hw hK hc i pins s σ H E I fp ⟨hz, hi, ⟨x0, y0, ho⟩, t1, t2⟩ ⟨xs, ys, x, y, qx, qy, ex, ey⟩
    subst hP hw hK
    obtain ⟨its, rv, pa, _⟩ := I.tuple qx
    obtain ⟨its2, rv2, pb, _⟩ := I.list qy
    obtain ⟨u, eu, ru⟩ := rv.get ex
    obtain ⟨u2, eu2, ru2⟩ := rv2.get ey
    have low : z < s.heap.objs.size := Heap.lt_size hz
    refine next_item D (srcT D.l1i1 its.toArray) (srcL D.l2i2 its2.toArray) hz hi ho ⟨t1, pa⟩ ⟨t2, pb.isList⟩ (x := u) (y := u2) (by simpa using eu) (by simpa using eu2) fun g zg og j1 j2 pg _ kp => ?_
    refine ⟨_, rfl, wpAny_letOwnedTupleGo_zip (s := { s with heap := g }) zg fun g2 zg2 sb => ?_⟩
    have pg2 : g2.get? s.heap.objs.size = some { cls := .type "tuple", data := .seq #[u, u2] } := (sb.2 _ (Nat.ne_of_gt low)).trans pg
    have made : ObjOk X.prog X.w (upd H s.heap.objs.size (.tup [x, y])) g2 s.heap.objs.size (.tup [x, y]) := ⟨(by decide : 2 ≤ sizeLine), [u, u2], .cons ru (.cons ru2 .nil), ⟨_, pg2, rfl, _, rfl⟩⟩
    have I2 : Inv X pins σ (upd H s.heap.objs.size (.tup [x, y])) { s with heap := g2 } := I.turnedNew (t' := s.toks) (ch := [z, TI, TO, i1, i2]) (fun c o nb e => by
      simp only [List.mem_cons, List.not_mem_nil, or_false, not_or] at nb
      exact (sb.2 c nb.1).trans (kp c o nb.1 nb.2.2.1 nb.2.2.2.1 nb.2.2.2.2 e)) fp (Nat.le_refl _) made
    refine ⟨.ref s.heap.objs.size, _, I2, rfl, ⟨_, x, y, rfl, I.hok.fresh (Nat.le_refl _), rfl, fun l hl => by rw [I.tuple_inj hl qx]; exact ex, fun l hl => by rw [I.list_inj hl qy]; exact ey⟩, ⟨zg2, (sb.2 _ D.TIz).trans (kp _ _ D.TIz D.TITO D.TIi1 D.TIi2 hi), ⟨u, u2, (sb.2 _ D.TOz).trans og⟩, j1.1.at fun o e => (sb.2 _ D.i1z).trans e, j2.1.at fun o e => (sb.2 _ D.i2z).trans e⟩, fun c hcm => ?_⟩
    have lt : c < s.heap.objs.size := by
      have old := hcm
      simp only [List.mem_cons, List.not_mem_nil, or_false] at hcm
      rcases hcm with rfl | rfl | rfl | rfl | rfl
      · exact low
      · exact Heap.lt_size hi
      · exact Heap.lt_size ho
      · exact let ⟨_, e, _⟩ := t1; Heap.lt_size e
      · exact let ⟨_, e, _⟩ := t2; Heap.lt_size e
    rw [upd_ne (Nat.ne_of_lt lt)]
    exact (fp c hcm).1
  done := by
    intro X hP hw hK hc i pins s σ H E I fp ⟨hz, hi, ⟨x0, y0, ho⟩, t1, t2⟩ ⟨xs, ys, qx, qy, last⟩
    subst hP hw hK
    obtain ⟨its, rv, pa, _⟩ := I.tuple qx
    obtain ⟨its2, rv2, pb, _⟩ := I.list qy
    have len1 := rv.length
    have len2 := rv2.length
    refine next_end (I.ok.hd hc) D (srcT D.l1i1 its.toArray) (srcL D.l2i2 its2.toArray) hz hi ho ⟨t1, pa⟩ ⟨t2, pb.isList⟩ (last.imp (fun h => by simp; omega) fun h => by simp; omega) fun g kp => ⟨rfl, I.turnedL (t' := s.toks) (ch := [z, TI, TO, i1, i2]) (fun c o nb e => ?_) fp⟩
    simp only [List.mem_cons, List.not_mem_nil, or_false, not_or] at nb
    exact kp c o nb.1 nb.2.2.1 nb.2.2.2.1 nb.2.2.2.2 e
  self := fun A i s Q E st h => wpAny_pyIter_zip st.1 h
def iZipM (K : PySem.W.Frag) (ta : TA) : TI := fun σ H R => ta σ H fun vs H1 => ∃ a b xs ys, vs = [.ref a, .ref b] ∧ SqT K H1 a xs ∧ SqL K H1 b ys ∧ R (ItzM K a b) H1
theorem pi_zipM {X : Cx} {e e2 : Expr} {ta : TA} {p pos tpos : Pos} {elts : List Expr} {kk : Nat} (hg : Gl X "zip") (hm : X.mg "zip" = none) (ha : PA X [e, e2] ta) (hs : starEach [e, e2] X.env = (false, eval e X.env) :: starEach [e2] X.env := by rfl) (hpl : (backTo pos (starEach [e2] X.env)).any (·.1) = false := by rfl) :
    PI X (.Tuple elts kk tpos) (.Call (.Name "zip" p) [e, e2] [] pos) (iZipM X.K ta) := by
  refine ⟨fun pins s σ H R I h => Call_ (ld_blt I hg hm PyProof.Rows.boot_zip (PyProof.Rows.callWith_type1 (thn (ha.run pos pins s σ H _ I h) fun us s1 ⟨vs, H1, I1, r1, a, b, xs, ys, ev, qx, qy, q⟩ => ?_) hs hpl))⟩
  subst ev
  cases r1 with
  | cons ra rr =>
  cases rr with
  | cons rb rr =>
  cases rr
  cases ra
  cases rb
  obtain ⟨its, rv, pa, _⟩ := I1.tuple qx
  obtain ⟨its2, rv2, pb, _⟩ := I1.list qy
  obtain ⟨oa, ea, _⟩ := id pa
  refine call_zipM (show s1.heap.IsTuple a its.toArray from pa) pb.isList fun g hz hi ho t1 t2 kp => wpAny_pyIter_zip hz ⟨s1.heap.objs.size + 4, [s1.heap.objs.size + 4, s1.heap.objs.size + 2, s1.heap.objs.size + 3, s1.heap.objs.size, s1.heap.objs.size + 1], _, _, H1, rfl, I1.kept (t' := s1.toks) kp, turnM (PySem.W.ktu_apart s1.heap.objs.size a b (Heap.lt_size ea) pb.lt), ⟨hz, hi, ⟨_, _, ho⟩, t1, t2⟩, fun c hcm => ?_, q⟩
  have up : s1.heap.objs.size ≤ c := by
    simp only [List.mem_cons, List.not_mem_nil, or_false] at hcm
    rcases hcm with rfl | rfl | rfl | rfl | rfl <;> first | exact Nat.le_add_right _ _ | exact Nat.le_refl _
  exact I1.fpOk up (I1.hok.fresh up)
end RX

/-! ### enumerate of a tuple -/
namespace RX
open PySem
section
variable {prog : Program} {w : World} {A : Around} {E : Value → Shared → Prop} {s : Shared} {e it l : Addr} {J : Nat → Heap → Prop} {get : Nat → Option Value}
theorem enum_item {k : Nat} {x old : Value} {Q : Value → Shared → Prop} (S : Src prog w it l J get) (ee : IsEnum s.heap e it k old) (j : J k s.heap) (hx : get k = some x) (n1 : e ≠ it) (n2 : l ≠ e)
    (q : ∀ g, IsEnumOut g e it ((k : Int) + 1) x s.heap.objs.size → J (k + 1) g → g.get? s.heap.objs.size = some { cls := .type "tuple", data := .seq #[.int k s.toks, x] } → (∀ b o, b ≠ e → b ≠ it → s.heap.get? b = some o → g.get? b = some o) → Q (.ref s.heap.objs.size) { s with heap := g, toks := s.toks + 1 }) :
    wpAny (model prog w) A (Builtin.«enumerate.__next__» ⟨[.ref e], []⟩) (fun fin s' => ∃ v, fin = .done (.ret v) ∧ Q v s') E s := by
  obtain ⟨hp, gn, dp, tk, os⟩ := s
  show wpAny _ _ (field (.ref e) 2 >>= _) _ _ _; refine wpAny_bind (wpAny_field ee rfl (x := .ref it) rfl (wpAny_bind (S.step (s := ⟨hp, gn, dp, tk, os⟩) j hx fun ha ja sa => ?_)))
  replace sa : Heap.SameBut it hp ha := sa
  have ea : IsEnum ha e it k old := (sa.2 e n1).trans ee
  show wpAny _ _ (field (.ref e) 3 >>= _) _ _ ⟨ha, gn, dp, tk, os⟩; refine wpAny_bind (wpAny_field ea rfl (x := rawInt k) rfl ?_)
  show wpAny _ _ (field (.ref e) 4 >>= _) _ _ ⟨ha, gn, dp, tk, os⟩; refine wpAny_bind (wpAny_field ea rfl (x := .none) rfl ?_)
  show wpAny _ _ (mkInt k >>= _) _ _ ⟨ha, gn, dp, tk, os⟩; refine wpAny_bind (wpAny_mkInt ?_)
  show wpAny _ _ (setField (.ref e) 3 (rawInt ((k : Int) + 1)) >>= _) _ _ ⟨ha, gn, dp, tk + 1, os⟩; refine wpAny_bind (wpAny_setField_rec ea (by simp) fun hb eb sb => ?_)
  replace sb : Heap.SameBut e ha hb := sb
  replace eb : IsEnum hb e it ((k : Int) + 1) old := eb
  show wpAny _ _ (setField (.ref e) 4 .none >>= _) _ _ ⟨hb, gn, dp, tk + 1, os⟩; refine wpAny_bind (wpAny_setField_rec eb (by simp) fun hc ec sc => ?_)
  replace sc : Heap.SameBut e hb hc := sc
  replace ec : IsEnum hc e it ((k : Int) + 1) old := ec
  show wpAny _ _ (newTuple [.int k tk, x] >>= _) _ _ ⟨hc, gn, dp, tk + 1, os⟩; refine wpAny_bind (wpAny_newTuple ?_)
  have size : hc.objs.size = hp.objs.size := by rw [sc.1, sb.1, sa.1]
  have low : e < hp.objs.size := Heap.lt_size ee
  have kc : ∀ b o, b ≠ e → b ≠ it → hp.get? b = some o → hc.get? b = some o := fun b o c1 c2 v => sc.extBut b o c1 (sb.extBut b o c1 (sa.extBut b o c2 v))
  have jc : J (k + 1) hc := S.keep n1.symm n2 sc.extBut (S.keep n1.symm n2 sb.extBut ja)
  obtain ⟨hd, ehd⟩ : ∃ hd, hd = hc.push { cls := .type "tuple", data := .seq #[.int k tk, x] } := ⟨_, rfl⟩
  have gd : Heap.ExtBut e hc hd := fun b o _ v => by rw [ehd]; exact Heap.get?_push_of_some _ v
  have ed : IsEnum hd e it ((k : Int) + 1) old := by rw [ehd]; exact Heap.get?_push_of_some _ ec
  have td : hd.get? hp.objs.size = some { cls := .type "tuple", data := .seq #[.int k tk, x] } := by rw [ehd, ← size]; exact Heap.get?_push_size _ rfl
  have jd : J (k + 1) hd := S.keep n1.symm n2 gd jc
  have kd : ∀ b o, b ≠ e → b ≠ it → hp.get? b = some o → hd.get? b = some o := fun b o c1 c2 v => gd b o c1 (kc b o c1 c2 v)
  rw [← ehd, size]
  show wpAny _ _ (Builtin.SmallTypes.ownedTupleIsFree (.ref e) >>= _) _ _ ⟨hd, gn, dp, tk + 1, os⟩; refine wpAny_bind ?_; unfold Builtin.SmallTypes.ownedTupleIsFree
  refine wpAny_bind (wpAny_field ed rfl (x := .none) rfl (wpAny_pure ?_)); simp only [if_true]
  refine wpAny_bind (wpAny_rule (wpAny_bind (wpAny_field ed rfl (x := old) rfl (wpAny_bind (wpAny_setField_rec ed (by simp) fun hf ef sf => ?_)))))
  replace sf : Heap.SameBut e hd hf := sf
  replace ef : IsEnum hf e it ((k : Int) + 1) x := ef
  show wpAny _ _ (Builtin.SmallTypes.ownedTupleHandOut (.ref e) (.ref hp.objs.size) >>= _) _ _ ⟨hf, gn, dp, tk + 1, os⟩; refine wpAny_bind ?_; unfold Builtin.SmallTypes.ownedTupleHandOut
  refine wpAny_bind (wpAny_setField_rec ef (by simp) fun hg eg sg => ?_)
  replace sg : Heap.SameBut e hf hg := sg
  replace eg : IsEnumOut hg e it ((k : Int) + 1) x hp.objs.size := eg
  refine wpAny_setField_rec eg (by simp) fun hh eh sh => ?_
  replace sh : Heap.SameBut e hg hh := sh
  replace eh : IsEnumOut hh e it ((k : Int) + 1) x hp.objs.size := eh
  have all : Heap.ExtBut e hd hh := fun b o c v => sh.extBut b o c (sg.extBut b o c (sf.extBut b o c v))
  exact wpAny_bind (wpAny_letGo (wpAny_pure ⟨_, rfl, q hh eh (S.keep n1.symm n2 all jd) (all _ _ (Nat.ne_of_gt low) td) fun b o c1 c2 v => all b o c1 (kd b o c1 c2 v)⟩))
theorem enum_next {k : Nat} {x old : Value} {Q : Option Value → Shared → Prop} (S : Src prog w it l J get) (ee : IsEnum s.heap e it k old) (j : J k s.heap) (hx : get k = some x) (n1 : e ≠ it) (n2 : l ≠ e)
    (q : ∀ g, IsEnumOut g e it ((k : Int) + 1) x s.heap.objs.size → J (k + 1) g → g.get? s.heap.objs.size = some { cls := .type "tuple", data := .seq #[.int k s.toks, x] } → (∀ b o, b ≠ e → b ≠ it → s.heap.get? b = some o → g.get? b = some o) → Q (some (.ref s.heap.objs.size)) { s with heap := g, toks := s.toks + 1 }) :
    wpAny (model prog w) A (pyNext (.ref e)) Q E s := by
  have ty : s.TypeIs (.ref e) "enumerate" := ⟨_, ee, rfl⟩
  unfold pyNext
  refine wpAny_bind (wpAny_attempt (wpAny_callSpecial?_slot (name := Str.ofString "__next__") ty F.slot_enumerate_next (wpAny_call_entry F.slot_enumerate_next ty F.entry_enumerate_next (enum_item S ee j hx n1 n2 fun g b1 b2 b3 b4 => ?_) (F.args_enumerate_next_1 _))))
  exact wpAny_pure (q g b1 b2 b3 b4)
theorem enum_end {k : Nat} {old : Value} {Q : Option Value → Shared → Prop} (hn : A.handled = none) (S : Src prog w it l J get) (ee : IsEnum s.heap e it k old) (j : J k s.heap) (hx : get k = none) (q : ∀ g, Heap.ExtBut it s.heap g → Q none { s with heap := g }) : wpAny (model prog w) A (pyNext (.ref e)) Q E s := by
  have ty : s.TypeIs (.ref e) "enumerate" := ⟨_, ee, rfl⟩
  unfold pyNext
  refine wpAny_bind (wpAny_attempt (wpAny_callSpecial?_slot (name := Str.ofString "__next__") ty F.slot_enumerate_next (wpAny_call_entry F.slot_enumerate_next ty F.entry_enumerate_next ?_ (F.args_enumerate_next_1 _))))
  show wpAny _ _ (field (.ref e) 2 >>= _) _ _ _; refine wpAny_bind (wpAny_field ee rfl (x := .ref it) rfl (wpAny_bind (S.stop (A := A.in1) (s := s) hn j hx fun g v ev ⟨o, ho, hc⟩ => ?_)))
  exact wpAny_bind (wpAny_isInstance (T := "StopIteration") (b := true) ⟨o, ho, hc⟩ isSubtype_stop (wpAny_pure (q _ ev)))
end
abbrev eT (h : Heap) (l : Addr) : Heap := (h.push { cls := .type "tuple_iterator", data := .fields #[.ref l, .int 0 0] }).push { cls := .type "enumerate", data := .fields #[.none, .bool false, .ref h.objs.size, rawInt 0, .none, .none] }
theorem new_enumT (l : Addr) (xs : Array Value) : Meets (Builtin.«enumerate.__new__» ⟨[.type "enumerate", .ref l], []⟩) (fun _ R s => s.heap.IsTuple l xs ∧ R (.ok (.ret (.ref (s.heap.objs.size + 1)))) { s with heap := eT s.heap l }) :=
  .of_wp fun prog w A R s h => by
    obtain ⟨hp, g, d, tk, os⟩ := s
    obtain ⟨t1, h⟩ := h
    have sub := sub_enumerate
    have u1 : Heap.IsTuple (Shared.heap ⟨hp, g, d, tk, os⟩) l xs := t1
    wp_walk using wpAny_pyIter_tuple u1
    refine wpAny_stack_any fun st => wpAny_pure ?_
    split
    · rename_i c _ _ _ _ _
      cases (c == Value.type "enumerate") <;> (wp_walk using wpAny_pyIter_tuple u1; refine ⟨_, rfl, ?_⟩; simp only [Heap.size_push] at h ⊢; exact h)
    · wp_walk using wpAny_pyIter_tuple u1
      refine ⟨_, rfl, ?_⟩
      simp only [Heap.size_push] at h ⊢
      exact h
theorem call_enumT {prog : Program} {w : World} {A : Around} {E : Value → Shared → Prop} {s : Shared} {l : Addr} {xs : Array Value} {Q : Value → Shared → Prop} (t1 : s.heap.IsTuple l xs)
    (h : ∀ g, IsEnum g (s.heap.objs.size + 1) s.heap.objs.size 0 .none → g.IsTupleIter s.heap.objs.size l 0 → (∀ b o, s.heap.get? b = some o → g.get? b = some o) → Q (.ref (s.heap.objs.size + 1)) { s with heap := g }) :
    wpAny (model prog w) A (call (.type "enumerate") [.ref l]) Q E s := by
  refine callType_new F.called_enumerate (by decide) (F.typeCall_enumerate_1 _) (F.newCall_enumerate_1 _) (fun obj => F.args_object_init_2 obj _) F.entry_enumerate_new (new_enumT l xs) ⟨t1, ?_⟩
  have up : ∀ (g : Heap) (o : Obj) (c : Addr) (o' : Obj), g.get? c = some o' → (g.push o).get? c = some o' := fun g o c o' e => Heap.get?_push_of_some _ e
  have at_ : ∀ (g : Heap) (o : Obj) (c : Addr), g.objs.size = c → o.isFreed = false → (g.push o).get? c = some o := fun g o c e f => by
    subst e
    exact Heap.get?_push_size _ f
  have ee : IsEnum (eT s.heap l) (s.heap.objs.size + 1) s.heap.objs.size 0 .none := at_ _ _ _ (by simp only [Heap.size_push]) rfl
  have w1 : (eT s.heap l).get? s.heap.objs.size = some { cls := .type "tuple_iterator", data := .fields #[.ref l, .int 0 0] } := up _ _ _ _ (at_ _ _ _ rfl rfl)
  exact ⟨⟨_, ee, rfl⟩, h _ ee ⟨_, w1, rfl, rfl⟩ fun c o e => up _ _ _ _ (up _ _ _ _ e)⟩
end RX
namespace RX
open PySem PySem.Spec PyProof.Rows L2
/-- a tuple's items with their places, in new pairs -/
def IteT (K : PySem.W.Frag) (a : Addr) : It :=
  ⟨fun i H => ∃ (xs : List V) (x : V), SqT K H a xs ∧ xs[i]? = some x,
   fun i H v H' => ∃ T x, v = .ref T ∧ H T = none ∧ H' = upd H T (.tup [.int (i : Nat), x]) ∧ ∀ xs, SqT K H a xs → xs[i]? = some x,
   fun i H => ∃ xs : List V, SqT K H a xs ∧ xs.length ≤ i⟩
theorem turnE {P : Program} {w : World} {K : PySem.W.Frag} {elts : List Expr} {kk : Nat} {tpos : Pos} (a e it : Addr) :
    Turn P w K (.Tuple elts kk tpos) (IteT K a) [e, it] e (fun i h => (∃ old, IsEnum h e it ((i : Nat) : Int) old) ∧ h.IsTupleIter it a i ∧ e ≠ it ∧ a ≠ e ∧ a ≠ it) where
  mem := List.mem_cons_self
  obj := fun i h ⟨⟨old, he⟩, ⟨o, ho, _, hd⟩, _⟩ b hb => by
    simp only [List.mem_cons, List.not_mem_nil, or_false] at hb
    rcases hb with rfl | rfl
    · exact ⟨_, he, fun v z => nomatch z⟩
    · exact ⟨o, ho, fun v z => by rw [hd] at z; cases z⟩
  keep := fun i h h' ⟨⟨old, he⟩, t1, ne⟩ k => ⟨⟨old, k e (by simp) _ he⟩, t1.at fun o z => k it (by simp) o z, ne⟩
  item := by
    intro X hP hw hK hc i pins s σ H E I fp ⟨⟨old, he⟩, t1, n1, n2, n3⟩ ⟨xs, x, qx, ex⟩
    subst hP hw hK
    obtain ⟨its, rv, pa, _⟩ := I.tuple qx
    obtain ⟨u, eu, ru⟩ := rv.get ex
    have low : e < s.heap.objs.size := Heap.lt_size he
    have low2 : it < s.heap.objs.size := let ⟨_, z, _⟩ := t1; Heap.lt_size z
    refine enum_next (srcT n3 its.toArray) he ⟨t1, pa⟩ (x := u) (by simpa using eu) n1 n2 fun g eg jg tg kp => ?_
    refine ⟨_, rfl, wpAny_letOwnedTupleGo_enum (s := { s with heap := g, toks := s.toks + 1 }) eg fun g2 eg2 sb => ?_⟩
    have tg2 : g2.get? s.heap.objs.size = some { cls := .type "tuple", data := .seq #[.int i s.toks, u] } := (sb.2 _ (Nat.ne_of_gt low)).trans tg
    have made : ObjOk X.prog X.w (upd H s.heap.objs.size (.tup [.int (i : Nat), x])) g2 s.heap.objs.size (.tup [.int (i : Nat), x]) := ⟨(by decide : 2 ≤ sizeLine), [.int i s.toks, u], .cons ⟨_, rfl⟩ (.cons ru .nil), ⟨_, tg2, rfl, _, rfl⟩⟩
    have I2 : Inv X pins σ (upd H s.heap.objs.size (.tup [.int (i : Nat), x])) { s with heap := g2, toks := s.toks + 1 } := I.turnedNew (ch := [e, it]) (fun b o nb z => by
      simp only [List.mem_cons, List.not_mem_nil, or_false, not_or] at nb
      exact (sb.2 b nb.1).trans (kp b o nb.1 nb.2 z)) fp (Nat.le_refl _) made
    refine ⟨.ref s.heap.objs.size, _, I2, rfl, ⟨_, x, rfl, I.hok.fresh (Nat.le_refl _), rfl, fun l hl => by rw [I.tuple_inj hl qx]; exact ex⟩, ⟨⟨u, ?_⟩, jg.1.at fun o z => (sb.2 it n1.symm).trans z, n1, n2, n3⟩, fun b hb => ?_⟩
    · rw [show ((i + 1 : Nat) : Int) = (i : Int) + 1 by omega]
      exact eg2
    · have lt : b < s.heap.objs.size := by
        have old := hb
        simp only [List.mem_cons, List.not_mem_nil, or_false] at old
        rcases old with rfl | rfl
        · exact low
        · exact low2
      rw [upd_ne (Nat.ne_of_lt lt)]
      exact (fp b hb).1
  done := by
    intro X hP hw hK hc i pins s σ H E I fp ⟨⟨old, he⟩, t1, n1, n2, n3⟩ ⟨xs, qx, last⟩
    subst hP hw hK
    obtain ⟨its, rv, pa, _⟩ := I.tuple qx
    obtain ⟨f0, f1, f2, f3, f4, f5⟩ := fp it (by simp)
    have len := rv.length
    exact enum_end (I.ok.hd hc) (srcT n3 its.toArray) he ⟨t1, pa⟩ (by simp; omega) fun g ev => ⟨rfl, I.turned (t' := s.toks) (fun b o nb z => ev b o nb z) f0 f1 f3 f4 f5⟩
  self := fun A i s Q E ⟨⟨_, he⟩, _⟩ h => wpAny_pyIter_enum he h
def iEnumT (K : PySem.W.Frag) (ta : TA) : TI := fun σ H R => ta σ H fun vs H1 => ∃ a xs, vs = [.ref a] ∧ SqT K H1 a xs ∧ R (IteT K a) H1
theorem pi_enumT {X : Cx} {e : Expr} {ta : TA} {p pos tpos : Pos} {elts : List Expr} {kk : Nat} (hg : Gl X "enumerate") (hm : X.mg "enumerate" = none) (ha : PA X [e] ta) (hs : starEach [e] X.env = [(false, eval e X.env)] := by rfl) :
    PI X (.Tuple elts kk tpos) (.Call (.Name "enumerate" p) [e] [] pos) (iEnumT X.K ta) := by
  refine ⟨fun pins s σ H R I h => Call_ (ld_blt I hg hm boot_enumerate (PyProof.Rows.callWith_type1 (thn (ha.run pos pins s σ H _ I h) fun us s1 ⟨vs, H1, I1, r1, a, xs, ev, qx, q⟩ => ?_) hs rfl))⟩
  subst ev
  cases r1 with
  | cons ra rr =>
  cases rr
  cases ra
  obtain ⟨its, rv, pa, _⟩ := I1.tuple qx
  obtain ⟨oa, ea, _⟩ := id pa
  have low := Heap.lt_size ea
  refine call_enumT (show s1.heap.IsTuple a its.toArray from pa) fun g he t1 kp => wpAny_pyIter_enum he ⟨s1.heap.objs.size + 1, [s1.heap.objs.size + 1, s1.heap.objs.size], _, _, H1, rfl, I1.kept (t' := s1.toks) kp, turnE a (s1.heap.objs.size + 1) s1.heap.objs.size, ⟨⟨.none, he⟩, t1, Nat.succ_ne_self _, Nat.ne_of_lt (Nat.lt_succ_of_lt low), Nat.ne_of_lt low⟩, fun b hb => ?_, q⟩
  have up : s1.heap.objs.size ≤ b := by
    simp only [List.mem_cons, List.not_mem_nil, or_false] at hb
    rcases hb with rfl | rfl <;> first | exact Nat.le_add_right _ _ | exact Nat.le_refl _
  exact I1.fpOk up (I1.hok.fresh up)
end RX

section
variable {K : PySem.W.Frag}
def iEnumTK (K : PySem.W.Frag) (ta : TA) : TI := RX.iEnumT K ta
theorem k_enumT {X : Cx} {e : Expr} {ta : TA} {p pos tpos : Pos} {elts : List Expr} {kk : Nat} (hK : X.K = K) (hg : Gl X "enumerate") (hm : X.mg "enumerate" = none) (ha : PA X [e] ta) (hs : starEach [e] X.env = [(false, eval e X.env)] := by rfl) :
    PI X (.Tuple elts kk tpos) (.Call (.Name "enumerate" p) [e] [] pos) (iEnumTK K ta) := hK ▸ RX.pi_enumT hg hm ha hs
def aEnumT (g : AA) : AI := fun ρ n Q => g ρ n fun ds n1 => match ds with
  | [.tup as] => Q (enumD 0 as) n1
  | _ => False
instance {ta : TA} {g : AA} [DA K ta g] : DI K (iEnumTK K ta) (aEnumT g) := ⟨fun W σ ρ n H R Qa hQ hE o h =>
  DA.run (te := ta) (f := g) W σ ρ n H _ _ (fun ds n1 h1 H1 vs l1 o1 ax => by
    split at h1
    · cases ax with
      | cons a r =>
        cases r
        cases a with
        | tup sa a =>
          refine ⟨_, _, rfl, sa, hQ _ _ h1 _ H1 l1 o1 fun W' hr hd H2 n2 l2 o2 i => ?_⟩
          have s2 := sqt_lk (o1.lk' hr) l2 sa
          refine ⟨fun d e => ?_, fun hi => ⟨_, s2, by rw [a.length]; rw [enumD_length] at hi; exact hi⟩⟩
          obtain ⟨x, e1, rfl⟩ := enumD_get e
          obtain ⟨v, e1', a1⟩ := a.get e1
          refine ⟨⟨_, v, s2, e1'⟩, fun z H3 ⟨T, x', ez, hT, eH, e3⟩ => ?_⟩
          have q1 := e3 _ s2
          rw [e1'] at q1
          cases q1
          subst ez eH
          have st : Same H2 (upd H2 T (.tup [.int i, v])) := same_upd hT
          refine ⟨st, .tup (.inl (.inl upd_same)) (.cons ?_ (.cons ?_ .nil))⟩
          · rw [Nat.zero_add]
            exact .int _
          · exact At.le o2 (Wd.le_same st) _ (At.lk (o1.lk' hr) l2 _ (At.ext hr hd _ a1))
    · exact h1.elim) hE o h⟩
end

/-! ### defs with a default -/
section
variable {K : PySem.W.Frag}
theorem fn_mirD {P : Program} {w : World} {mg : Str → Option Value} {base : Heap} {x qual : Str} {st : Stmt} {f : Addr} {fd : FuncData} {dvs : List V} {kws : List (Str × V)} {N ps : List Str} {k : Nat} {A : ASp} (ow : List Nat) (kk : Nat) (hk : N.length = kk) (hp : ps.length ≤ kk) (ho : ∀ i ∈ ow, ps.length ≤ i) (F : FunD K x qual (defArgs st) (defBody st) (defScope st) dvs kws f fd) (S : FnScope N ps (defScope st))
    (hbody : ∀ (cdv : Value) (Ar : Around) (outer : List Env) (s : Shared) (H : Hp) (E : XK), Room k (Ar.deeper (envOfC qual (defScope st) s.heap.objs.size f cdv)) →
      ∃ (t : TS) (fa : AS), PSs (cxOf CX0 P w K mg base N qual (defScope st) f cdv Ar outer s H E) (defBody st) t ∧ DS K W0 ow t fa ∧ ∀ ds n Q, ds.length = ps.length → A ds n Q → fa (aTop Q) (startA kk ds) n) : FnOk P w K mg base CX0 (k + 1) f fd ps (spOf K ps.length A) := by
  refine F.ok S (fun vs H Q E h => ?_) (fun cdv Ar outer s H vs Q E hr h => ?_)
  · obtain ⟨W, n, ds, Qa, a, hl, _⟩ := h
    rw [a.length, hl]
  · obtain ⟨W, n, ds, Qa, a, hl, o, hQ, hA⟩ := h
    obtain ⟨t, fa, h1, h2, h3⟩ := hbody cdv Ar outer s H E hr
    refine ⟨t, h1, DS.run (Wx := W0) (ow := ow) (t := t) (f := fa) W [] (L2.start N vs) (startA kk ds) n H _ (aTop Qa) ⟨fun ρ' n' q U' σ' H' l' s' => hQ _ _ q H' _ (le_start l') s'.base .non, fun d n' q U1 H1 H' v l' l2 o' a' => hQ _ _ q H' v ((le_start l').trans l2) o' a', fun _ _ q => q.elim, fun _ _ q => q.elim, fun _ _ _ _ _ q => q.elim⟩ (start_ok hk (by omega) (fun i hi => by rw [hl]; exact ho i hi) a o) (h3 ds n Qa hl hA)⟩
def aCallD (k : Nat) (A : ASp) (d : D) (g : AA) : AE := fun ρ n Q => g ρ n fun ds n1 => match Nat.beq (ds.length + 1) k with
  | true => A (ds ++ [d]) n1 Q
  | false => False
instance {k : Nat} {A : ASp} {E : XK} {ta : TA} {g : AA} {a : Addr} {d : D} [DA K ta g] [Kon K a d] : DE K (tCall (spOf K k A) [V.ref a] E ta) (aCallD k A d g) := ⟨fun W σ ρ n H Q Qa hQ hE o h =>
  DA.run (te := ta) (f := g) W σ ρ n H _ _ (fun ds n1 h1 H1 xs l1 o1 ax => by
    split at h1
    · rename_i e
      exact ⟨W, n1, ds ++ [d], Qa, ax.append (.cons (Kon.at_ W H1) .nil), by rw [List.length_append]; exact Nat.eq_of_beq_eq_true e, o1, hQ.le l1, h1⟩
    · exact h1.elim) hE o h⟩
end

/-! ### list(zip(a, b)) of two tuples -/
section
open PySem
open PySem.Sem (wp)
variable {prog : Program} {w : World} {A : Around} {E : Value → Shared → Prop} {s : Shared}
/-- a zip whose first pair is held -/
abbrev IsZipH (h : Heap) (z TI TO T0 : Addr) (b : Bool) : Prop :=
  h.get? z = some { cls := .type "zip", dict := none, data := .fields #[rawInt T0, .bool b, .bool false, .ref TI, .ref TO], slots := #[] }
theorem wpAny_alive {M : Model} {a : Addr} {Q : Option Obj → Shared → Prop} (h : Q (s.heap.get? a) s) : wpAny M A (loadIfAlive a) Q E s := fun Γ p hΓ => by
  unfold loadIfAlive
  rw [Sem.wp_loadIfAlive]
  exact h
theorem owned_held {z TI TO T0 : Addr} {b : Bool} {oT : Obj} {Q : Bool → Shared → Prop} (hz : IsZipH s.heap z TI TO T0 b) (hT : s.heap.get? T0 = some oT)
    (hQ : ∀ h', IsZipH h' z TI TO T0 true → Heap.SameBut z s.heap h' → Q false { s with heap := h' }) : wpAny (model prog w) A (Builtin.SmallTypes.ownedTupleIsFree (.ref z)) Q E s := by
  unfold Builtin.SmallTypes.ownedTupleIsFree
  refine wpAny_bind (wpAny_field hz rfl (x := rawInt T0) rfl ?_)
  show wpAny _ _ (loadIfAlive (Int.toNat (T0 : Int)) >>= _) _ _ _
  refine wpAny_bind (wpAny_alive ?_)
  rw [Int.toNat_natCast, hT]
  show wpAny _ _ (field (.ref z) 1 >>= _) _ _ _
  refine wpAny_bind (wpAny_field hz rfl (x := .bool b) rfl ?_)
  cases b with
  | true =>
    exact wpAny_pure (hQ s.heap hz (Heap.SameBut.refl ..))
  | false =>
    show wpAny _ _ (setField (.ref z) 1 (.bool true) >>= _) _ _ _
    refine wpAny_bind (wpAny_setField_rec hz (by simp) fun h1 hz1 hs1 => wpAny_pure ?_)
    exact hQ h1 hz1 hs1
theorem zipH_item {z TI TO i1 i2 l1 l2 T0 : Addr} {k1 k2 : Nat} {xs ys : Array Value} {x y : Value} {bb : Bool} {oT : Obj} {Q : Value → Shared → Prop} (D : ZipApart z TI TO i1 i2 l1 l2)
    (hz : IsZipH s.heap z TI TO T0 bb) (hT0 : s.heap.get? T0 = some oT) (hTI : IsPair s.heap TI (.ref i1) (.ref i2))
    (h1 : s.heap.IsTupleIter i1 l1 k1) (h2 : s.heap.IsTupleIter i2 l2 k2) (hl1 : s.heap.IsTuple l1 xs) (hl2 : s.heap.IsTuple l2 ys) (hx : xs[k1]? = some x) (hy : ys[k2]? = some y)
    (hQ : ∀ h', IsZipH h' z TI TO T0 true → h'.IsTupleIter i1 l1 (k1 + 1) → h'.IsTupleIter i2 l2 (k2 + 1) → IsPair h' s.heap.objs.size x y →
      (∀ c o, c ≠ z → c ≠ i1 → c ≠ i2 → s.heap.get? c = some o → h'.get? c = some o) → Q (.ref s.heap.objs.size) { s with heap := h' }) :
    wpAny (model prog w) A (Builtin.«zip.__next__» ⟨[.ref z], []⟩) (fun fin s' => ∃ v, fin = .done (.ret v) ∧ Q v s') E s := by
  show wpAny _ _ (field (.ref z) 2 >>= _) _ _ _
  refine wpAny_bind (wpAny_field hz rfl (x := .bool false) rfl ?_)
  show wpAny _ _ (field (.ref z) 3 >>= _) _ _ _
  refine wpAny_bind (wpAny_field hz rfl (x := .ref TI) rfl ?_)
  refine wpAny_bind (wpAny_seqItems hTI rfl ?_)
  show wpAny _ _ (Builtin.SmallTypes.ownedTupleIsFree (.ref z) >>= _) _ _ _
  refine wpAny_bind (owned_held hz hT0 fun h₁ hz₁ hs₁ => ?_)
  simp only [Bool.false_eq_true, if_false]
  refine wpAny_bind ?_
  rw [show (#[Value.ref i1, Value.ref i2] : Array Value) = [Value.ref i1, Value.ref i2].toArray from rfl, List.forIn_toArray]
  simp only [List.forIn_cons, List.forIn_nil]
  refine wpAny_bind (wpAny_bind (wpAny_holding ?_))
  show wpAny _ _ (Builtin.SmallTypes.nextOf (.ref i1) >>= _) _ _ _
  refine wpAny_bind (RZ.nextOf_tuple_item (h1.extBut hs₁.extBut D.i1z) (hl1.extBut hs₁.extBut D.l1z) hx fun h₂ h1₂ hs₂ => wpAny_pure (wpAny_pure ?_))
  show wpAny _ _ (_ >>= _) _ _ _
  refine wpAny_bind (wpAny_bind (wpAny_holding ?_))
  show wpAny _ _ (Builtin.SmallTypes.nextOf (.ref i2) >>= _) _ _ _
  refine wpAny_bind (RZ.nextOf_tuple_item ((h2.extBut hs₁.extBut D.i2z).extBut hs₂.extBut D.i12.symm) ((hl2.extBut hs₁.extBut D.l2z).extBut hs₂.extBut D.l2i1) hy fun h₃ h2₃ hs₃ => wpAny_pure (wpAny_pure (wpAny_pure ?_)))
  show wpAny _ _ (newTuple [x, y] >>= _) _ _ _
  refine wpAny_bind (wpAny_newTuple (wpAny_pure ⟨_, rfl, ?_⟩))
  have hsz : h₃.objs.size = s.heap.objs.size := by rw [hs₃.1, hs₂.1, hs₁.1]
  have hz₃ : IsZipH h₃ z TI TO T0 true := hs₃.extBut _ _ D.i2z.symm (hs₂.extBut _ _ D.i1z.symm hz₁)
  have up : ∀ c o, h₃.get? c = some o → (h₃.push { cls := .type "tuple", data := .seq #[x, y] }).get? c = some o := fun c o e => Heap.get?_push_of_some _ e
  show Q (.ref h₃.objs.size) _
  rw [hsz]
  refine hQ _ (up _ _ hz₃) ((h1₂.extBut hs₃.extBut D.i12).at fun o e => up _ o e) (h2₃.at fun o e => up _ o e) ?_ fun c o c1 c2 c3 e => up _ _ (hs₃.extBut _ _ c3 (hs₂.extBut _ _ c2 (hs₁.extBut _ _ c1 e)))
  rw [← hsz]
  exact Heap.get?_push_size _ rfl
theorem zipH_end {z TI TO i1 i2 l1 l2 T0 : Addr} {k1 : Nat} {xs : Array Value} {bb : Bool} {oT : Obj} {Q : Fin → Shared → Prop} (hh : A.handled = none) (D : ZipApart z TI TO i1 i2 l1 l2)
    (hz : IsZipH s.heap z TI TO T0 bb) (hT0 : s.heap.get? T0 = some oT) (hTI : IsPair s.heap TI (.ref i1) (.ref i2))
    (h1 : s.heap.IsTupleIter i1 l1 k1) (hl1 : s.heap.IsTuple l1 xs) (hend : xs[k1]? = none)
    (hE : ∀ h' e, (∀ c o, c ≠ z → c ≠ i1 → s.heap.get? c = some o → h'.get? c = some o) → (∃ o, h'.get? e = some o ∧ o.cls = .type "StopIteration") → E (.ref e) { s with heap := h' }) :
    wpAny (model prog w) A (Builtin.«zip.__next__» ⟨[.ref z], []⟩) Q E s := by
  show wpAny _ _ (field (.ref z) 2 >>= _) _ _ _
  refine wpAny_bind (wpAny_field hz rfl (x := .bool false) rfl ?_)
  show wpAny _ _ (field (.ref z) 3 >>= _) _ _ _
  refine wpAny_bind (wpAny_field hz rfl (x := .ref TI) rfl ?_)
  refine wpAny_bind (wpAny_seqItems hTI rfl ?_)
  show wpAny _ _ (Builtin.SmallTypes.ownedTupleIsFree (.ref z) >>= _) _ _ _
  refine wpAny_bind (owned_held hz hT0 fun h₁ hz₁ hs₁ => ?_)
  simp only [Bool.false_eq_true, if_false]
  refine wpAny_bind ?_
  rw [show (#[Value.ref i1, Value.ref i2] : Array Value) = [Value.ref i1, Value.ref i2].toArray from rfl, List.forIn_toArray]
  simp only [List.forIn_cons, List.forIn_nil]
  refine wpAny_bind (wpAny_bind (wpAny_holding ?_))
  show wpAny _ _ (Builtin.SmallTypes.nextOf (.ref i1) >>= _) _ _ _
  refine wpAny_bind (RZ.nextOf_tuple_end hh (h1.extBut hs₁.extBut D.i1z) (hl1.extBut hs₁.extBut D.l1z) hend fun h₂ e hs₂ he => ?_)
  exact hE h₂ e (fun c o c1 c3 x => hs₂ _ _ c3 (hs₁.extBut _ _ c1 x)) he
theorem next_zipH_item {z TI TO i1 i2 l1 l2 T0 : Addr} {k1 k2 : Nat} {xs ys : Array Value} {x y : Value} {bb : Bool} {oT : Obj} {Q : Option Value → Shared → Prop} (D : ZipApart z TI TO i1 i2 l1 l2)
    (hz : IsZipH s.heap z TI TO T0 bb) (hT0 : s.heap.get? T0 = some oT) (hTI : IsPair s.heap TI (.ref i1) (.ref i2))
    (h1 : s.heap.IsTupleIter i1 l1 k1) (h2 : s.heap.IsTupleIter i2 l2 k2) (hl1 : s.heap.IsTuple l1 xs) (hl2 : s.heap.IsTuple l2 ys) (hx : xs[k1]? = some x) (hy : ys[k2]? = some y)
    (hQ : ∀ h', IsZipH h' z TI TO T0 true → h'.IsTupleIter i1 l1 (k1 + 1) → h'.IsTupleIter i2 l2 (k2 + 1) → IsPair h' s.heap.objs.size x y →
      (∀ c o, c ≠ z → c ≠ i1 → c ≠ i2 → s.heap.get? c = some o → h'.get? c = some o) → Q (some (.ref s.heap.objs.size)) { s with heap := h' }) :
    wpAny (model prog w) A (pyNext (.ref z)) Q E s := by
  have hT : s.TypeIs (.ref z) "zip" := ⟨_, hz, rfl⟩
  unfold pyNext
  exact wpAny_bind (wpAny_attempt (wpAny_callSpecial?_slot (name := Str.ofString "__next__") hT F.slot_zip_next
    (wpAny_call_entry F.slot_zip_next hT F.entry_zip_next
      (zipH_item D hz hT0 hTI h1 h2 hl1 hl2 hx hy fun h' a1 a2 a3 a4 a5 => wpAny_pure (hQ h' a1 a2 a3 a4 a5)) (F.args_zip_next_1 _))))
theorem next_zipH_end {z TI TO i1 i2 l1 l2 T0 : Addr} {k1 : Nat} {xs : Array Value} {bb : Bool} {oT : Obj} {Q : Option Value → Shared → Prop} (hh : A.handled = none) (D : ZipApart z TI TO i1 i2 l1 l2)
    (hz : IsZipH s.heap z TI TO T0 bb) (hT0 : s.heap.get? T0 = some oT) (hTI : IsPair s.heap TI (.ref i1) (.ref i2))
    (h1 : s.heap.IsTupleIter i1 l1 k1) (hl1 : s.heap.IsTuple l1 xs) (hend : xs[k1]? = none)
    (hQ : ∀ h', (∀ c o, c ≠ z → c ≠ i1 → s.heap.get? c = some o → h'.get? c = some o) → Q none { s with heap := h' }) : wpAny (model prog w) A (pyNext (.ref z)) Q E s := by
  have hT : s.TypeIs (.ref z) "zip" := ⟨_, hz, rfl⟩
  unfold pyNext
  refine wpAny_bind (wpAny_attempt (wpAny_callSpecial?_slot (name := Str.ofString "__next__") hT F.slot_zip_next
    (wpAny_call_entry F.slot_zip_next hT F.entry_zip_next (zipH_end hh D hz hT0 hTI h1 hl1 hend fun h' e hk he => ?_) (F.args_zip_next_1 _))))
  obtain ⟨o, ho, hc⟩ := he
  refine wpAny_bind (wpAny_isInstance (T := "StopIteration") (b := true) ⟨o, ho, hc⟩ isSubtype_stop ?_)
  exact wpAny_pure (hQ _ hk)
theorem zip_no_len : typeLookup (.type "zip") "__len__" = pure none := by rw [typeLookup_type, builtinLookup_eq_fast]; kernel_rfl
theorem zip_no_hint : typeLookup (.type "zip") "__length_hint__" = pure none := by rw [typeLookup_type, builtinLookup_eq_fast]; kernel_rfl
end

/-- pairs, laid -/
def PairsAt (H : Hp) (xs ys : List V) (ts : List Addr) : Prop := ∀ (i : Nat) (t : Addr), ts[i]? = some t → ∃ x y, xs[i]? = some x ∧ ys[i]? = some y ∧ H t = some (.tup [x, y])
section
open PySem
variable {X : Cx} {pins : List (Addr × Obj)} {σ : L2.St}
def ZSt (h : Heap) (z TI TO : Addr) (ts : List Addr) : Prop := (ts = [] ∧ IsZip h z TI TO .none ∧ ∃ x y, IsPair h TO x y) ∨ ∃ T0 r b, ts = T0 :: r ∧ IsZipH h z TI TO T0 b
theorem zip_loop {A : Around} {a b z TI TO i1 i2 S : Addr} {xs ys : List V} {res : Value} {Rr : Result → Shared → Prop} {H0 : Hp} (hh : A.handled = none) (D : ZipApart z TI TO i1 i2 a b) (hS0 : H0 S = none)
    (hlen : xs.length = ys.length) (hsz : xs.length ≤ 1000000) :
    ∀ (k : Nat) (s : Shared) (H : Hp) (ts : List Addr), xs.length - ts.length = k → ts.length ≤ xs.length → Inv X pins σ H s → ZSt s.heap z TI TO ts → IsPair s.heap TI (.ref i1) (.ref i2) →
      s.heap.IsTupleIter i1 a ts.length → s.heap.IsTupleIter i2 b ts.length → SqT X.K H a xs → SqT X.K H b ys → H S = some (.lst (ts.map V.ref)) → PairsAt H xs ys ts → (∀ c o, H0 c = some o → H c = some o) →
      (∀ c ∈ [z, TI, TO, i1, i2], FpOk X pins H c) → (∀ c ∈ [z, TI, TO, i1, i2], c < s.heap.objs.size) →
      (∀ s' H' ts', Inv X pins σ H' s' → (∀ c o, H0 c = some o → H' c = some o) → H' S = some (.lst (ts'.map V.ref)) → ts'.length = xs.length → PairsAt H' xs ys ts' → Rr (.ok (.ret res)) s') →
      codeAny (model X.prog X.w) A (.builtin "list.extend.loop" ⟨[.ref S, .ref z, res], []⟩) Rr s := by
  intro k
  induction k with
  | zero =>
    intro s H ts hk hi I hz hTI h1 h2 qa qb hS hP hold hf hbd hR
    have hin : ts.length = xs.length := by omega
    obtain ⟨its, rv, p, _⟩ := I.tuple qa
    obtain ⟨its2, rv2, p2, _⟩ := I.tuple qb
    have hend : its.toArray[ts.length]? = none := by
      have := rv.length
      simp
      omega
    refine codeAny_builtin F.entry_extend_loop ?_
    rw [Around.under_plainId F.plain_extend_loop _]
    show wpAny _ A.in1 (pyNext (.ref z) >>= _) _ _ s
    refine wpAny_bind ?_
    have fin : ∀ h' : Heap, (∀ c o, c ≠ z → c ≠ TO → c ≠ i1 → c ≠ i2 → s.heap.get? c = some o → h'.get? c = some o) → Rr (.ok (.ret res)) { s with heap := h' } := fun h' hk' =>
      hR _ H ts (I.turnedL (t' := s.toks) (ch := [z, TI, TO, i1, i2]) (fun c o hb q => hk' c o (fun e => hb (by simp [e])) (fun e => hb (by simp [e])) (fun e => hb (by simp [e])) (fun e => hb (by simp [e])) q) hf) hold hS hin hP
    rcases hz with ⟨_, hz, x0, y0, hTO⟩ | ⟨T0, r, bb, rfl, hz⟩
    · exact RZ.pyNext_zipT_end (show A.in1.handled = none from hh) D hz hTI hTO h1 h2 p p2 (.inl hend) fun h' hk' => wpAny_pure (fin h' hk')
    · obtain ⟨x, y, _, _, hT0⟩ := hP 0 T0 rfl
      obtain ⟨_, its0, _, ⟨oT, hoT, _⟩⟩ : ObjOk X.prog X.w H s.heap T0 (.tup [x, y]) := I.hok T0 _ hT0
      exact next_zipH_end (show A.in1.handled = none from hh) D hz hoT hTI h1 p hend fun h' hk' => wpAny_pure (fin h' fun c o c1 _ c3 _ e => hk' c o c1 c3 e)
  | succ k ih =>
    intro s H ts hk hi I hz hTI h1 h2 qa qb hS hP hold hf hbd hR
    have hlt : ts.length < xs.length := by omega
    obtain ⟨its, rv, p, _⟩ := I.tuple qa
    obtain ⟨its2, rv2, p2, _⟩ := I.tuple qb
    have hx : xs[ts.length]? = some xs[ts.length] := List.getElem?_eq_getElem hlt
    have hlt2 : ts.length < ys.length := by omega
    have hy : ys[ts.length]? = some ys[ts.length] := List.getElem?_eq_getElem hlt2
    generalize xs[ts.length] = x at hx
    generalize ys[ts.length] = y at hy
    obtain ⟨u, hu, ru⟩ := rv.get hx
    obtain ⟨u2, hu2, ru2⟩ := rv2.get hy
    refine codeAny_builtin F.entry_extend_loop ?_
    rw [Around.under_plainId F.plain_extend_loop _]
    show wpAny _ A.in1 (pyNext (.ref z) >>= _) _ _ s
    refine wpAny_bind ?_
    have fin : ∀ h' : Heap, ZSt h' z TI TO (ts ++ [s.heap.objs.size]) → h'.IsTupleIter i1 a (ts.length + 1) → h'.IsTupleIter i2 b (ts.length + 1) → IsPair h' s.heap.objs.size u u2 →
        (∀ c o, c ≠ z → c ≠ TO → c ≠ i1 → c ≠ i2 → s.heap.get? c = some o → h'.get? c = some o) →
        wpAny (model X.prog X.w) A.in1 (updateSeq S (·.push (.ref s.heap.objs.size)) >>= fun _ => again (.builtin "list.extend.loop" ⟨[.ref S, .ref z, res], []⟩))
          (fun fin s' => match fin with | .done f => Rr (.ok f) s' | .again c' => c'.quiet = true ∧ codeAny (model X.prog X.w) A c' Rr s') (fun e s' => Rr (.error e) s') { s with heap := h' } := fun h' hz' h1' h2' hT hk' => by
      have hTI' : IsPair h' TI (.ref i1) (.ref i2) := hk' TI _ D.TIz D.TITO D.TIi1 D.TIi2 hTI
      have new : ObjOk X.prog X.w (upd H s.heap.objs.size (.tup [x, y])) h' s.heap.objs.size (.tup [x, y]) :=
        ⟨by show 2 ≤ sizeLine; decide, [u, u2], .cons ru (.cons ru2 .nil), ⟨_, hT, rfl, _, rfl⟩⟩
      have I1 : Inv X pins σ (upd H s.heap.objs.size (.tup [x, y])) { s with heap := h' } :=
        I.turnedNew (t' := s.toks) (ch := [z, TI, TO, i1, i2]) (fun c o hb q => hk' c o (fun e => hb (by simp [e])) (fun e => hb (by simp [e])) (fun e => hb (by simp [e])) (fun e => hb (by simp [e])) q) hf (Nat.le_refl _) new
      have fr : H s.heap.objs.size = none := I.hok.fresh (Nat.le_refl _)
      have sm : ∀ c o, H c = some o → upd H s.heap.objs.size (.tup [x, y]) c = some o := fun c o e => by
        rw [upd_ne (ne_of_none e fr)]
        exact e
      have hS1 := sm S _ hS
      obtain ⟨hz1, itsS, nS, rvS, eS⟩ : ObjOk X.prog X.w _ h' S (.lst (ts.map V.ref)) := I1.hok S _ hS1
      have lS : itsS.length = ts.length := by
        have := rvS.length
        simp at this
        omega
      have line := sizeLine_eq
      refine wpAny_bind (wpAny_updateSeq (s := { s with heap := h' }) eS rfl (wpAny_pure ⟨plainId_quiet F.plain_extend_loop _, ?_⟩) (by simp; omega) (by simp; omega))
      have eS2 := Heap.get?_update_self (Obj.mapSeq (·.push (Value.ref s.heap.objs.size))) eS rfl
      have I2 : Inv X pins σ (upd (upd H s.heap.objs.size (.tup [x, y])) S (.lst ((ts ++ [s.heap.objs.size]).map V.ref))) { s with heap := h'.update S (Obj.mapSeq (·.push (Value.ref s.heap.objs.size))) } :=
        I1.write (x := S) (e := S) (t' := s.toks) (by rw [hS1]; trivial) (.inl rfl) (fun c o hc e => (Heap.get?_update_other _ _ (Ne.symm hc)).trans e) ⟨_, eS2⟩ ⟨by rw [List.length_map, List.length_append]; simp; omega, itsS ++ [.ref s.heap.objs.size], _, by
            rw [List.map_append]
            exact rvS.append (.cons rfl .nil), by
            rw [eS2]
            simp [Obj.mapSeq]
            rfl⟩
      have nS' : ∀ c, H c = none → c ≠ S := fun c e e' => by
        rw [e', hS] at e
        cases e
      have oth : ∀ c o, c ≠ S → h'.get? c = some o → (h'.update S (Obj.mapSeq (·.push (Value.ref s.heap.objs.size)))).get? c = some o := fun c o hc e => (Heap.get?_update_other _ _ (Ne.symm hc)).trans e
      have up : ∀ c o, c ≠ S → H c = some o → upd (upd H s.heap.objs.size (.tup [x, y])) S (.lst ((ts ++ [s.heap.objs.size]).map V.ref)) c = some o := fun c o hc e => by
        rw [upd_ne hc]
        exact sm c o e
      have nz := fun c hc => nS' c (hf c hc).1
      have TS : s.heap.objs.size ≠ S := nS' _ fr
      refine ih _ _ (ts ++ [s.heap.objs.size]) (by rw [List.length_append]; simp; omega) (by rw [List.length_append]; simp; omega) I2 ?_ (oth _ _ (nz TI (by simp)) hTI') ?_ ?_ ?_ ?_ (by rw [upd_same]) ?_ ?_ ?_ ?_ hR
      · rcases hz' with ⟨e, _⟩ | ⟨T0, r, bb, e, hz'⟩
        · simp at e
        · exact .inr ⟨T0, r, bb, e, oth _ _ (nz z (by simp)) hz'⟩
      · rw [List.length_append]
        exact h1'.at fun o e => oth _ o (nz i1 (by simp)) e
      · rw [List.length_append]
        exact h2'.at fun o e => oth _ o (nz i2 (by simp)) e
      · rcases qa with (g | ⟨ob, g⟩) | g
        · exact .inl (.inl (up _ _ (fun e => by rw [e, hS] at g; cases g) g))
        · exact .inl (.inr ⟨ob, up _ _ (fun e => by rw [e, hS] at g; cases g) g⟩)
        · exact .inr g
      · rcases qb with (g | ⟨ob, g⟩) | g
        · exact .inl (.inl (up _ _ (fun e => by rw [e, hS] at g; cases g) g))
        · exact .inl (.inr ⟨ob, up _ _ (fun e => by rw [e, hS] at g; cases g) g⟩)
        · exact .inr g
      · intro i t e
        by_cases hi' : i < ts.length
        · rw [List.getElem?_append_left hi'] at e
          obtain ⟨x', y', e1, e2, e3⟩ := hP i t e
          exact ⟨x', y', e1, e2, up _ _ (fun e' => by rw [e', hS] at e3; cases e3) e3⟩
        · have hi2 : i = ts.length := by
            have := (List.getElem?_eq_some_iff.mp e).1
            simp at this
            omega
          subst hi2
          have : t = s.heap.objs.size := by
            rw [List.getElem?_append_right (Nat.le_refl _)] at e
            simpa using e.symm
          subst this
          exact ⟨x, y, hx, hy, by rw [upd_ne TS, upd_same]⟩
      · intro c o e
        refine up c o (fun e' => ?_) (hold c o e)
        rw [e', hS0] at e
        cases e
      · intro c hc
        obtain ⟨g1, g2⟩ := hf c hc
        refine ⟨?_, g2⟩
        rw [upd_ne (nz c hc), upd_ne (Nat.ne_of_lt (hbd c hc))]
        exact g1
      · intro c hc
        exact Nat.lt_trans (hbd c hc) (Heap.lt_size (oth _ _ TS hT))
    rcases hz with ⟨rfl, hz, x0, y0, hTO⟩ | ⟨T0, r, bb, rfl, hz⟩
    · exact RZ.pyNext_zipT_item D hz hTI hTO h1 h2 p p2 (x := u) (y := u2) (by simpa using hu) (by simpa using hu2) fun h' z' TO' h1' h2' hT hsz' hk' => fin h' (.inr ⟨_, [], false, rfl, z'⟩) h1' h2' hT hk'
    · obtain ⟨x', y', _, _, hT0⟩ := hP 0 T0 rfl
      obtain ⟨_, its0, _, ⟨oT, hoT, _⟩⟩ : ObjOk X.prog X.w H s.heap T0 (.tup [x', y']) := I.hok T0 _ hT0
      exact next_zipH_item D hz hoT hTI h1 h2 p p2 (x := u) (y := u2) (by simpa using hu) (by simpa using hu2) fun h' z' h1' h2' hT hk' => fin h' (.inr ⟨T0, r ++ [s.heap.objs.size], true, rfl, z'⟩) h1' h2' hT fun c o c1 _ c3 c4 e => hk' c o c1 c3 c4 e
/-- the call list(z) of a zip at its start -/
theorem call_list_zip {A : Around} {a b z TI TO i1 i2 : Addr} {xs ys : List V} {Q : Value → Shared → Prop} {E : Value → Shared → Prop} {s : Shared} {H : Hp} (hh : A.handled = none) (D : ZipApart z TI TO i1 i2 a b)
    (hlen : xs.length = ys.length) (hsz : xs.length ≤ 1000000) (I : Inv X pins σ H s) (hz : IsZip s.heap z TI TO .none) (hTI : IsPair s.heap TI (.ref i1) (.ref i2)) (hTO : ∃ x y, IsPair s.heap TO x y)
    (h1 : s.heap.IsTupleIter i1 a 0) (h2 : s.heap.IsTupleIter i2 b 0) (qa : SqT X.K H a xs) (qb : SqT X.K H b ys) (hf : ∀ c ∈ [z, TI, TO, i1, i2], FpOk X pins H c) (hbd : ∀ c ∈ [z, TI, TO, i1, i2], c < s.heap.objs.size)
    (hQ : ∀ s' H' ts S, Inv X pins σ H' s' → H S = none → (∀ c o, H c = some o → H' c = some o) → H' S = some (.lst (ts.map V.ref)) → ts.length = xs.length → PairsAt H' xs ys ts → Q (.ref S) s') :
    wpAny (model X.prog X.w) A (call (.type "list") [.ref z]) Q E s := by
  refine callType_codes (Q₁ := fun obj s₁ => obj = .ref s.heap.objs.size ∧ s₁ = { s with heap := s.heap.push { cls := .type "list", data := .seq #[] } }) F.called_list (F.typeCall_list_1 _) F.entry_list_init
    (code_list_new _ ⟨rfl, rfl⟩) fun obj s₁ h₁ => ?_
  obtain ⟨rfl, rfl⟩ := h₁
  have hS : (s.heap.push { cls := .type "list", data := .seq #[] }).get? s.heap.objs.size = some { cls := .type "list", data := .seq #[] } := Heap.get?_push_size _ rfl
  refine ⟨⟨_, hS, rfl⟩, F.args_list_init_2 _ _, ?_⟩
  obtain ⟨S, hSd⟩ : ∃ S, S = s.heap.objs.size := ⟨_, rfl⟩
  rw [← hSd] at hS ⊢
  have fr : H S = none := I.hok.fresh (Nat.le_of_eq hSd.symm)
  have k0 : ∀ c o, s.heap.get? c = some o → (s.heap.push { cls := .type "list", data := .seq #[] }).get? c = some o := fun c o e => Heap.get?_push_of_some _ e
  have nS : ∀ c o, s.heap.get? c = some o → c ≠ S := fun c o e => Nat.ne_of_lt (Nat.lt_of_lt_of_eq (Heap.lt_size e) hSd.symm)
  have hSz : S ≠ z := Nat.ne_of_gt (Nat.lt_of_lt_of_eq (hbd z (by simp)) hSd.symm)
  generalize s.heap.push { cls := .type "list", data := .seq #[] } = g0 at hS k0 ⊢
  show wpAny _ A.in1.in1 (do let old ← Builtin.List.listItems (.ref S); Builtin.List.listUpdate (.ref S) (fun _ => #[]); letGo old.toList.reverse; Builtin.List.listExtendWith (.ref S) (.ref z) .none) _ _ _
  refine wpAny_bind ?_
  unfold Builtin.List.listItems
  refine wpAny_bind (wpAny_seqItems (s := { s with heap := g0 }) hS rfl (wpAny_pure ?_))
  show wpAny _ A.in1.in1 (updateSeq S (fun _ => #[]) >>= fun _ => letGo (#[] : Array Value).toList.reverse >>= fun _ => Builtin.List.listExtendWith (.ref S) (.ref z) .none) _ _ _
  refine wpAny_bind (wpAny_updateSeq (s := { s with heap := g0 }) hS rfl ?_)
  have hS₂ := Heap.get?_update_self (Obj.mapSeq (fun _ => (#[] : Array Value))) hS rfl
  have oth : ∀ c o, s.heap.get? c = some o → (g0.update S (Obj.mapSeq (fun _ => (#[] : Array Value)))).get? c = some o := fun c o e => (Heap.get?_update_other _ _ (Ne.symm (nS c o e))).trans (k0 c o e)
  generalize g0.update S (Obj.mapSeq (fun _ => (#[] : Array Value))) = g1 at hS₂ oth ⊢
  refine wpAny_bind (wpAny_letGo ?_)
  have hT : ({ s with heap := g1 } : Shared).TypeIs (.ref z) "zip" := ⟨_, oth _ _ hz, rfl⟩
  unfold Builtin.List.listExtendWith
  refine wpAny_bind (wpAny_typeOf hT ?_)
  have e1 : Builtin.List.listSameRef (.ref S) (.ref z) = false := by simp [Builtin.List.listSameRef, hSz]
  have e2 : (Value.type "zip" == Value.type "list") = false := by decide
  have e3 : (Value.type "zip" == Value.type "tuple") = false := by decide
  simp only [e1, e2, e3, Bool.or_false, Bool.false_eq_true, if_false]
  refine wpAny_bind (wpAny_pyIter_zip (s := { s with heap := g1 }) (oth _ _ hz) ?_)
  refine wpAny_bind (wpAny_holding ?_)
  unfold Builtin.List.listLengthHint
  refine wpAny_bind (wpAny_specialOf hT zip_no_len ?_)
  show wpAny _ A.in1.in1 (specialOf (Value.ref z) (Str.ofString "__length_hint__") >>= _) _ _ _
  refine wpAny_bind (wpAny_specialOf hT zip_no_hint ?_)
  refine wpAny_pure ?_
  show wpAny _ A.in1.in1 (rule "list.extend.makes-room" >>= fun _ => Builtin.List.listTouch (.ref S) >>= fun _ =>
    again (.builtin "list.extend.loop" ⟨[.ref S, .ref z, .none], []⟩)) _ _ _
  refine wpAny_bind (wpAny_rule ?_)
  refine wpAny_bind ?_
  show wpAny _ A.in1.in1 (updateSeq S (·.push .none) >>= fun _ => updateSeq S (·.pop)) _ _ _
  refine wpAny_bind (wpAny_updateSeq (s := { s with heap := g1 }) hS₂ rfl ?_)
  have hS₃ := Heap.get?_update_self (Obj.mapSeq (·.push Value.none)) hS₂ rfl
  refine wpAny_updateSeq (hz := by seq_fits) (s := { s with heap := g1.update S (Obj.mapSeq (·.push Value.none)) }) hS₃ rfl ?_
  have hS₄ := Heap.get?_update_self (Obj.mapSeq (·.pop)) hS₃ rfl
  have oth2 : ∀ c o, s.heap.get? c = some o → ((g1.update S (Obj.mapSeq (·.push Value.none))).update S (Obj.mapSeq (·.pop))).get? c = some o :=
    fun c o e => (Heap.get?_update_other _ _ (Ne.symm (nS c o e))).trans ((Heap.get?_update_other _ _ (Ne.symm (nS c o e))).trans (oth c o e))
  generalize (g1.update S (Obj.mapSeq (·.push Value.none))).update S (Obj.mapSeq (·.pop)) = g2 at hS₄ oth2 ⊢
  have I2 : Inv X pins σ (upd H S (.lst [])) { s with heap := g2 } := I.laid (t' := s.toks) oth2 (Nat.le_of_eq hSd.symm) (show ObjOk X.prog X.w _ g2 _ (.lst []) from ⟨Nat.zero_le _, [], _, .nil, hS₄⟩)
  have sm : ∀ c o, H c = some o → upd H S (.lst []) c = some o := fun c o e => by
    rw [upd_ne (ne_of_none e fr)]
    exact e
  refine wpAny_pure ⟨plainId_quiet F.plain_extend_loop _, zip_loop (A := A.in1) (H0 := H) (X := X) (pins := pins) (σ := σ) hh D fr hlen hsz _ _ (upd H S (.lst [])) [] rfl (Nat.zero_le _) I2 (.inl ⟨rfl, oth2 _ _ hz, let ⟨x, y, e⟩ := hTO; ⟨x, y, oth2 _ _ e⟩⟩) (oth2 _ _ hTI) (h1.at fun o e => oth2 _ o e) (h2.at fun o e => oth2 _ o e) ?_ ?_ (by rw [upd_same]; rfl) (fun i t e => by cases e) sm ?_ ?_ fun s' H' ts' I' k' q' l' p' => ⟨rfl, hQ s' H' ts' S I' fr k' q' l' p'⟩⟩
  · rcases qa with (g | ⟨ob, g⟩) | g
    · exact .inl (.inl (sm _ _ g))
    · exact .inl (.inr ⟨ob, sm _ _ g⟩)
    · exact .inr g
  · rcases qb with (g | ⟨ob, g⟩) | g
    · exact .inl (.inl (sm _ _ g))
    · exact .inl (.inr ⟨ob, sm _ _ g⟩)
    · exact .inr g
  · intro c hc
    obtain ⟨q1, q2⟩ := hf c hc
    refine ⟨?_, q2⟩
    rw [upd_ne (Nat.ne_of_lt (Nat.lt_of_lt_of_eq (hbd c hc) hSd.symm))]
    exact q1
  · intro c hc
    exact Nat.lt_trans (Nat.lt_of_lt_of_eq (hbd c hc) hSd.symm) (Heap.lt_size hS₄)
/-- list(zip(a, b)) of two tuples of one length -/
def tLZip (K : PySem.W.Frag) (ta : TA) : TE := fun σ H Q => ta σ H fun vs H1 => ∃ a b xs ys, vs = [.ref a, .ref b] ∧ SqT K H1 a xs ∧ SqT K H1 b ys ∧ xs.length = ys.length ∧ xs.length ≤ 1000000 ∧
  ∀ H' ts S, H1 S = none → (∀ c o, H1 c = some o → H' c = some o) → H' S = some (.lst (ts.map V.ref)) → ts.length = xs.length → PairsAt H' xs ys ts → Q (.ref S) H'
theorem k_lzip {K : PySem.W.Frag} {e e2 : Expr} {ta : TA} {p p0 pos pos0 : Pos} (hK : X.K = K) (hc : X.calm = true) (hg0 : Gl X "list") (hm0 : X.mg "list" = none) (hg : Gl X "zip") (hm : X.mg "zip" = none) (ha : PA X [e, e2] ta)
    (hs : starEach [e, e2] X.env = (false, eval e X.env) :: starEach [e2] X.env := by rfl) (hpl : (backTo pos (starEach [e2] X.env)).any (·.1) = false := by rfl)
    (hs0 : starEach [Expr.Call (.Name "zip" p) [e, e2] [] pos] X.env = (false, eval (Expr.Call (.Name "zip" p) [e, e2] [] pos) X.env) :: starEach [] X.env := by rfl) :
    PE X (.Call (.Name "list" p0) [.Call (.Name "zip" p) [e, e2] [] pos] [] pos0) (tLZip K ta) := by
  subst hK
  refine ⟨fun pins s σ H Q I h => ?_⟩
  refine Call_ (ld_blt I hg0 hm0 PyProof.Rows.boot_list (PyProof.Rows.callWith_type1 ?_ hs0 rfl))
  rw [hs0]
  show wpAny _ _ (spliced ((false, _) :: backTo pos0 (starEach [] X.env))) _ _ s
  refine Calls.spliced_cons ?_
  refine Call_ (ld_blt I hg hm PyProof.Rows.boot_zip (PyProof.Rows.callWith_type1 (thn (ha.run pos pins s σ H _ I h) fun us s1 ⟨vs, H1, I1, r1, q1⟩ => ?_) hs hpl))
  obtain ⟨a, b, xs, ys, ex, qa, qb, hlen, hsz, q⟩ := q1
  subst ex
  cases r1 with
  | cons r rr =>
    cases rr with
    | cons r' rr =>
      cases rr
      cases r
      cases r'
      obtain ⟨its, rv, p1, _⟩ := I1.tuple qa
      obtain ⟨its2, rv2, p2, _⟩ := I1.tuple qb
      obtain ⟨o1, ho1, _⟩ := id p1
      obtain ⟨o2, ho2, _⟩ := id p2
      refine RZ.call_zipT (show s1.heap.IsTuple a its.toArray from p1) (show s1.heap.IsTuple b its2.toArray from p2) fun h' hz hTI hTO h1 h2 hsz' hk => ?_
      have I2 : Inv X pins σ H1 { s1 with heap := h' } := I1.kept (t' := s1.toks) hk
      have five : ∀ c, c ∈ [s1.heap.objs.size + 4, s1.heap.objs.size + 2, s1.heap.objs.size + 3, s1.heap.objs.size, s1.heap.objs.size + 1] → s1.heap.objs.size ≤ c ∧ c < s1.heap.objs.size + 5 := fun c hcm => by
        have e' : c = s1.heap.objs.size + 4 ∨ c = s1.heap.objs.size + 2 ∨ c = s1.heap.objs.size + 3 ∨ c = s1.heap.objs.size ∨ c = s1.heap.objs.size + 1 := by simpa using hcm
        omega
      refine Calls.spliced_nil ?_
      refine call_list_zip (X := X) (pins := pins) (σ := σ) (I2.ok.hd hc) (PySem.W.ktu_apart s1.heap.objs.size a b (Heap.lt_size ho1) (Heap.lt_size ho2)) hlen hsz I2 hz hTI ⟨_, _, hTO⟩ h1 h2 qa qb (fun c hcm => I1.fpOk (five c hcm).1 (I1.hok.fresh (five c hcm).1)) (fun c hcm => by
        show c < h'.objs.size
        rw [hsz']
        exact (five c hcm).2) fun s' H' ts S I' hS k' q' l' p' => ⟨.ref S, H', I', rfl, q H' ts S hS k' q' l' p'⟩
end
section
variable {K : PySem.W.Frag}
theorem pairs_at {W : Wd} {H : Hp} : ∀ (ts : List Addr) (xs ys : List V) (as bs : List D), AtAll K W H xs as → AtAll K W H ys bs → xs.length = ys.length → ts.length = xs.length → PairsAt H xs ys ts → AtAll K W H (ts.map V.ref) (zipD as bs)
  | [], xs, ys, as, bs, ha, hb, hl, ht, hp => by
    cases xs with
    | nil =>
      cases ha
      exact .nil
    | cons x xs => cases ht
  | t :: ts, xs, ys, as, bs, ha, hb, hl, ht, hp => by
    cases xs with
    | nil => cases ht
    | cons x xs =>
      cases ys with
      | nil => cases hl
      | cons y ys =>
        cases ha with
        | cons a1 a2 =>
          cases hb with
          | cons b1 b2 =>
            obtain ⟨x', y', e1, e2, e3⟩ := hp 0 t rfl
            cases e1
            cases e2
            exact .cons (.tup (SqT.of e3) (.cons a1 (.cons b1 .nil))) (pairs_at ts xs ys _ _ a2 b2 (Nat.succ.inj hl) (Nat.succ.inj ht) fun i t' e => hp (i + 1) t' e)
def aLZip (g : AA) : AE := fun ρ n Q => g ρ n fun ds n1 => match ds with
  | [.tup as, .tup bs] => as.length = bs.length ∧ as.length ≤ 1000000 ∧ Q (.lst (zipD as bs)) n1
  | _ => False
instance {ta : TA} {g : AA} [DA K ta g] : DE K (tLZip K ta) (aLZip g) := ⟨fun W σ ρ n H Q Qa hQ hE o h =>
  DA.run (te := ta) (f := g) W σ ρ n H _ _ (fun ds n1 h1 H1 vs l1 o1 ax => by
    split at h1
    · obtain ⟨e1, e2, h1⟩ := h1
      cases ax with
      | cons a r =>
        cases r with
        | cons b r =>
          cases r
          cases a with
          | tup sa aa =>
            cases b with
            | tup sb ab =>
              have la := aa.length
              have lb := ab.length
              refine ⟨_, _, _, _, rfl, sa, sb, by omega, by omega, fun H' ts S hS k' q' l' p' => ?_⟩
              have sm : Same H1 H' := k'
              exact hQ _ _ h1 H' _ (l1.trans (Wd.le_same sm)) (o1.same sm) (.lst (o1.fresh hS) q' (pairs_at ts _ _ _ _ (AtAll.le o1 (Wd.le_same sm) _ aa) (AtAll.le o1 (Wd.le_same sm) _ ab) (by omega) l' p'))
    · exact h1.elim) hE o h⟩
end

/-! ### in, not in, index: things at any depth -/
section
variable {K : PySem.W.Frag}
def rInDp (K : PySem.W.Frag) : R2 := rInD K
def rNotInDp (K : PySem.W.Frag) : R2 := rNotInD K
theorem k_inD {X : Cx} (hK : X.K = K) (hu : X.A.units + 65 < cLine) : OpR X (compareOp .In) (rInDp K) := hK ▸ op_inD hu
theorem k_notInD {X : Cx} (hK : X.K = K) (hu : X.A.units + 65 < cLine) : OpR X (compareOp .NotIn) (rNotInDp K) := hK ▸ op_notInD hu
def anyD (ds : List D) (d : D) : Bool := (pdAll ds).any fun z => PyData.eqv z d.pd
structure PlD (ds : List D) (d : D) : Prop where
  d1 : d.isD = true
  d2 : isDAll ds = true
  s1 : SeqAt.shaped d.pd = true
  s2 : SeqAt.shaped (.list (pdAll ds)) = true
def aInDp (f : Bool → Bool) : D → D → Nat → (D → Nat → Prop) → Prop := fun d e n Q => ∃ ds, e = .lst ds ∧ PlD ds d ∧ Q (.bl (f (anyD ds d))) n
instance : D2 K (rInDp K) (aInDp id) := ⟨fun W n H x y d e Q Qa hQ o ax ay h => by
  obtain ⟨ds, rfl, p, q⟩ := h
  exact ⟨d.pd, pdAll ds, At.dp d p.d1 ax, At.dp (.lst ds) p.d2 ay, p.s1, p.s2, hQ.now o q (.bl _)⟩⟩
instance : D2 K (rNotInDp K) (aInDp not) := ⟨fun W n H x y d e Q Qa hQ o ax ay h => by
  obtain ⟨ds, rfl, p, q⟩ := h
  exact ⟨d.pd, pdAll ds, At.dp d p.d1 ax, At.dp (.lst ds) p.d2 ay, p.s1, p.s2, hQ.now o q (.bl _)⟩⟩
def tIdxD (K : PySem.W.Frag) (to te : TE) : TE := tBM K "list" (rIndexD K) to (tCons te tNil)
theorem k_idxD {X : Cx} {e : Expr} {to te : TE} (hK : X.K = K) (h : PE X e (tBM X.K "list" (rIndexD X.K) to (tCons te tNil))) : PE X e (tIdxD K to te) := hK ▸ h
def aIdxD (fa fb : AE) : AE := fun ρ n Q => fa ρ n fun d n1 => ∃ ds, d = .lst ds ∧ fb ρ n1 fun e n2 => ∃ j z, PlD ds e ∧ ds[j]? = some z ∧ PyData.eqv z.pd e.pd = true ∧ (∀ (m : Nat) (z' : D), m < j → ds[m]? = some z' → PyData.eqv z'.pd e.pd = false) ∧ Q (.int (j : Nat)) n2
theorem pdAll_get : ∀ {ds : List D} {j : Nat}, (pdAll ds)[j]? = (ds[j]?).map D.pd
  | [], j => by simp [pdAll]
  | d :: ds, 0 => rfl
  | d :: ds, j + 1 => pdAll_get (ds := ds) (j := j)
instance {to te : TE} {fa fb : AE} [DE K to fa] [DE K te fb] : DE K (tIdxD K to te) (aIdxD fa fb) := ⟨fun W σ ρ n H Q Qa hQ hE o h =>
  DE.run (te := to) (f := fa) W σ ρ n H _ _ (fun d n1 h1 H1 x l1 o1 ax => by
    obtain ⟨ds, rfl, h1⟩ := h1
    have hx : ∃ p, x = .ref p ∧ ∃ xs, SqL K H1 p xs := by
      cases ax with
      | lst r s a => exact ⟨_, rfl, _, SqL.of s⟩
    obtain ⟨p, rfl, hs⟩ := hx
    refine ⟨.inl ⟨rfl, hs⟩, ?_⟩
    refine DE.run (te := te) (f := fb) W σ ρ n1 H1 _ _ (fun e n2 h2 H2 y l2 o2 ay => ?_) (hE.le o l1) o1 h1
    obtain ⟨j, z, pl, e1, e2, e3, q⟩ := h2
    refine ⟨p, y, e.pd, pdAll ds, j, z.pd, rfl, rfl, At.dp (.lst ds) pl.d2 (At.le o1 l2 _ ax), At.dp e pl.d1 ay, pl.s2, pl.s1, by rw [pdAll_get, e1]; rfl, e2, fun m z' hm hz' => ?_, ((hQ.le l1).le l2).now o2 q (.int _)⟩
    rw [pdAll_get] at hz'
    obtain ⟨z'', h3, rfl⟩ := Option.map_eq_some_iff.mp hz'
    exact e3 m z'' hm h3) hE o h⟩
theorem anyD_idx {d : D} : ∀ {ds : List D}, anyD ds d = true → ∃ j z, ds[j]? = some z ∧ PyData.eqv z.pd d.pd = true ∧ ∀ (m : Nat) (z' : D), m < j → ds[m]? = some z' → PyData.eqv z'.pd d.pd = false
  | [], h => by cases h
  | x :: ds, h => by
    have h' : (PyData.eqv x.pd d.pd || anyD ds d) = true := h
    cases e : PyData.eqv x.pd d.pd with
    | true => exact ⟨0, x, rfl, e, fun m z' hm => absurd hm (Nat.not_lt_zero _)⟩
    | false =>
      rw [e, Bool.false_or] at h'
      obtain ⟨j, z, h1, h2, h3⟩ := anyD_idx (ds := ds) h'
      refine ⟨j + 1, z, h1, h2, fun m z' hm hz' => ?_⟩
      cases m with
      | zero => cases hz'; exact e
      | succ m => exact h3 m z' (by omega) hz'
theorem anyD_mem {d : D} {ds : List D} (h : anyD ds d = true) : ∃ z ∈ ds, PyData.eqv z.pd d.pd = true := by
  obtain ⟨j, z, h1, h2, _⟩ := anyD_idx h
  exact ⟨z, List.mem_of_getElem? h1, h2⟩
theorem mem_anyD {d z : D} : ∀ {ds : List D}, z ∈ ds → PyData.eqv z.pd d.pd = true → anyD ds d = true
  | x :: ds, hz, e => by
    show (PyData.eqv x.pd d.pd || anyD ds d) = true
    rcases List.mem_cons.mp hz with rfl | hz
    · rw [e]; rfl
    · rw [mem_anyD hz e, Bool.or_true]
end

/-! ### defs that know that no repr is under way -/
section
variable {K : PySem.W.Frag} {ow : List Nat} {Wx : WX}
structure FnG (P : Program) (w : World) (K : PySem.W.Frag) (mg : Str → Option Value) (base : Heap) (k : Nat) (f : Addr) (fd : FuncData) (ps : List Str) (sp : Sp) : Prop where
  lenG : ∀ vs H Q E, sp vs H Q E → vs.length = ps.length
  runG : ∀ (B : Around) (out : List Env) (z : Shared) (H : Hp) (args : Args) (us : List Value) (vs : List V) (Q : VK) (E : XK), Room k B → B.guards = some [] → Env0 P w K mg base B out z H → BindsTo z fd args (ps.zip us) → Vals vs us → sp vs H Q E →
    codeAny (model P w) B (.call (.ref f) args) (CR CX0 out P w H z Q E) z
theorem FnG.mono {P : Program} {w : World} {K : PySem.W.Frag} {mg : Str → Option Value} {base : Heap} {j k : Nat} {f : Addr} {fd : FuncData} {ps : List Str} {sp : Sp} (F : FnG P w K mg base j f fd ps sp) (h : j ≤ k) : FnG P w K mg base k f fd ps sp :=
  ⟨F.lenG, fun B out z H args us vs Q E hr => F.runG B out z H args us vs Q E (hr.mono h)⟩
theorem fn_ofG {P : Program} {w : World} {K : PySem.W.Frag} {mg : Str → Option Value} {base : Heap} {k : Nat} {f : Addr} {nm qn : Str} {pa : Arguments} {bd : List Stmt} {sc : Scope} {dV kV doc pm cdv ct oc : Value} {an od : Option Addr}
    {osl : Array (Option Value)} {N ps : List Str} {sp : Sp} (lk : K.lookup f = some ⟨oc, od, .func (PySem.W.fnOf nm qn pa bd sc dV kV doc pm an cdv ct), osl⟩) (hcd : PySem.W.codeIn K cdv qn = true) (S : FnScope N ps sc)
    (len : ∀ vs H Q E, sp vs H Q E → vs.length = ps.length)
    (hbody : ∀ (B : Around) (out : List Env) (z : Shared) (H : Hp) (vs : List V) (Q : VK) (E : XK), Room k (B.deeper (envOfC qn sc z.heap.objs.size f cdv)) → (B.deeper (envOfC qn sc z.heap.objs.size f cdv)).guards = some [] → sp vs H Q E →
      ∃ t, PSs (cxOf CX0 P w K mg base N qn sc f cdv B out z H E) bd t ∧ t { nx := fun _ H' => Q .non H', rt := Q } (L2.start N vs) H) :
    FnG P w K mg base (k + 1) f (PySem.W.fnOf nm qn pa bd sc dV kV doc pm an cdv ct) ps sp := by
  refine ⟨len, fun B out z H args us vs Q E room hgd e0 bnd rel hsp => ?_⟩
  have kz : K.In z.heap := e0.mod.kin.keeps fun b o e => (e0.bs b o e).1
  have nolim : z.heap.NoLimit := e0.mod.nolimit.keeps fun b o e => (e0.bs b o e).1
  have kinds : ∀ y ∈ ps.zip us, sc.names.lookup y.1 = some .local ∨ (sc.names.lookup y.1 = some .cell ∧ ((cellsFrom (z.heap.objs.size + 1) sc.names []).lookup y.1).isSome = true) := fun y hy => by
    have hm := (List.of_mem_zip (show (y.1, y.2) ∈ ps.zip us from hy)).1
    exact (S.par y.1 hm).imp id fun q => ⟨q, PySem.W.cellsFrom_some _ _ _ (.inl q)⟩
  refine codeAny_call_function room.depth (kz _ _ lk) rfl S.co S.gen rfl (PySem.W.codeRec_of kz hcd) (bnd _ _ _ _ (wpAny_newFunctionEnv_cells S.kind kinds fun ev hev z1 ic => ?_))
  subst hev
  have hg2 : (B.deeper (envOfC qn sc z.heap.objs.size f cdv)).guards = some [] := by
    show B.guards = some []
    exact hgd
  obtain ⟨t, ht, hq⟩ := hbody B out z H vs Q E (room.deeper _) hg2 hsp
  have J0 : Inv (cxOf CX0 P w K mg base N qn sc f cdv B out z H E) [] (L2.start N vs) H z1 := inv_start S room.hd e0 (len _ _ _ _ hsp) rel ic
  refine ⟨nolim.keeps ic.toInCall.keep, codeAny_func (wpAny_mono (ht.run [] z1 (L2.start N vs) H _ J0 hq) (fun fl z' hz => ?_) fun _ _ hz => hz)⟩
  match fl, hz with
  | .ret _, ⟨v, _, H', J, rv, q⟩ => exact ⟨v, H', J.os, J.bare, J.base, J.hok, rv, q⟩
  | .next, ⟨_, H', J, q⟩ => exact ⟨V.non, H', J.os, J.bare, J.base, J.hok, rfl, q⟩
  | .brk, ⟨_, _, _, q⟩ => exact q.elim
  | .cont, ⟨_, _, _, q⟩ => exact q.elim
theorem fn_mirG {P : Program} {w : World} {mg : Str → Option Value} {base : Heap} {x qual : Str} {st : Stmt} {f : Addr} {fd : FuncData} {N ps : List Str} {k : Nat} {A : ASp} (ow : List Nat) (kk : Nat) (hk : N.length = kk) (hp : ps.length ≤ kk) (ho : ∀ i ∈ ow, ps.length ≤ i) (F : Fun K x qual st f fd) (S : FnScope N ps (defScope st))
    (hbody : ∀ (cdv : Value) (Ar : Around) (outer : List Env) (s : Shared) (H : Hp) (E : XK), Room k (Ar.deeper (envOfC qual (defScope st) s.heap.objs.size f cdv)) → (Ar.deeper (envOfC qual (defScope st) s.heap.objs.size f cdv)).guards = some [] →
      ∃ (t : TS) (fa : AS), PSs (cxOf CX0 P w K mg base N qual (defScope st) f cdv Ar outer s H E).nox (defBody st) t ∧ DS K W0 ow t fa ∧ ∀ ds n Q, ds.length = ps.length → A ds n Q → fa (aTop Q) (startA kk ds) n) : FnG P w K mg base (k + 1) f fd ps (spOf K ps.length A) := by
  obtain ⟨oc, od, kV, doc, pm, an, cdv, ct, osl, rfl, lk, hcd⟩ := F.ex
  refine fn_ofG lk hcd S (fun vs H Q E h => ?_) fun Ar outer s H vs Q E hr hgd h => ?_
  · obtain ⟨W, n, ds, Qa, a, hl, _⟩ := h
    rw [a.length, hl]
  · obtain ⟨W, n, ds, Qa, a, hl, o, hQ, hA⟩ := h
    obtain ⟨t, fa, h1, h2, h3⟩ := hbody cdv Ar outer s H E hr hgd
    exact ⟨t, h1.nox, DS.run (Wx := W0) (ow := ow) (t := t) (f := fa) W [] (L2.start N vs) (startA kk ds) n H _ (aTop Qa) ⟨fun ρ' n' q U' σ' H' l' s' => hQ _ _ q H' _ (le_start l') s'.base .non, fun d n' q U1 H1 H' v l' l2 o' a' => hQ _ _ q H' v ((le_start l').trans l2) o' a', fun _ _ q => q.elim, fun _ _ q => q.elim, fun _ _ _ _ _ q => q.elim⟩ (start_ok hk (by omega) (fun i hi => by rw [hl]; exact ho i hi) a o) (h3 ds n Qa hl hA)⟩
/-! such a call -/
theorem k_callG {X : Cx} {k j : Nat} {f : Addr} {fd : FuncData} {ps : List Str} {A : ASp} {x : Str} {e : Expr} {es : List Expr} {ta : TA} {q pos : Pos} (hK : X.K = K)
    (F : FnG X.prog X.w K X.mg X.base j f fd ps (spOf K k A)) (hr : Room j X.A) (hgd : X.A.guards = some []) (hg : Gl X x) (hm : X.mg x = some (.ref f)) (hk : PySem.W.keepIn K (.ref f) = true) (hb : Binds K fd ps [])
    (ha : PA X (e :: es) ta) (hdb : (x == ("__debug__" : Str)) = false := by decide) (he : starEach (e :: es) X.env = (false, eval e X.env) :: starEach es X.env := by rfl) (hpl : (backTo pos (starEach es X.env)).any (·.1) = false := by rfl) :
    PE X (.Call (.Name x q) (e :: es) [] pos) (tCall (spOf K k A) [] E0 ta) := by
  subst hK
  refine ⟨fun pins s σ H Q I h => ?_⟩
  refine wpAny_Call_Name_kw (ld_glob I hg hm (PySem.W.callWith_K (h₀ := X.base) I.ok.mod.kin hk (thn (ha.run pos pins s σ H _ I h) fun us s1 ⟨vs, H1, I1, rv, hsp⟩ => ⟨I1.kIn, ?_⟩) he hpl) hdb)
  have hsp' : spOf X.K k A (vs ++ []) H1 Q E0 := hsp
  rw [List.append_nil] at hsp'
  have hl : us.length = ps.length := by rw [← rv.length]; exact F.lenG _ _ _ _ hsp'
  have bnd := hb s1 us I1.kIn (by rw [List.append_nil]; exact hl)
  rw [List.append_nil] at bnd
  refine wpAny_call (codeAny_mono (F.runG X.A X.stack s1 H1 ⟨us, []⟩ us vs Q E0 hr hgd I1.env0 bnd rv hsp') fun r z' hq => ?_)
  match r, hq with
  | .error er, hq => exact hq.elim
  | .ok (.ret _), hq => exact I1.after hq
  | .ok .next, hq => exact hq.elim
  | .ok .brk, hq => exact hq.elim
  | .ok .cont, hq => exact hq.elim
/-! repr of plain things -/
def rRep (K : PySem.W.Frag) : List V → Hp → VK → Prop := fun xs H Q => ∃ a d, xs = [.ref a] ∧ Dp K H (.ref a) d ∧ d.showable = true ∧ d.hasDict = false ∧ d.depth ≤ 60 ∧ d.shown.length ≤ sizeLine ∧ Q (.str d.shown) H
theorem call_rep {X : Cx} (hK : X.K = K) (hgd : X.A.guards = some []) (hu : X.A.units + 65 < cLine) : CallR X (.builtin "repr") (rRep K) := by
  subst hK
  intro pins s σ H xs us Q I r h
  obtain ⟨a, d, rfl, hd, hs, hn, hdp, hl, q⟩ := h
  cases r with
  | cons rx rr =>
    cases rr
    cases rx
    obtain ⟨as, hr⟩ := Dp.reads I d _ _ hd rfl
    exact PySem.repr_of_reads' (h₀ := s.heap) hr hs (fun z => by rw [hn] at z; cases z) hgd (by omega) (fun b o e => e) (fun h' u tk hk => ⟨.str d.shown, H, I.kept (t' := tk) hk, ⟨_, rfl⟩, q⟩) hl
def aRep : List D → Nat → (D → Nat → Prop) → Prop := fun ds n Q => ∃ es : List D, ds = [.tup es] ∧ isDAll es = true ∧ (D.tup es).pd.showable = true ∧ (D.tup es).pd.hasDict = false ∧ (D.tup es).pd.depth ≤ 60 ∧ (D.tup es).pd.shown.length ≤ 1000000 ∧ Q (.str (D.tup es).pd.shown) n
instance : DL K (rRep K) aRep := ⟨fun W n H xs ds Q Qa hQ o av h => by
  obtain ⟨es, rfl, h1, h2, h3, h4, h5, q⟩ := h
  cases av with
  | cons a r =>
    cases r
    have dp := At.dp (.tup es) h1 a
    cases a with
    | tup s b => exact ⟨_, _, rfl, dp, h2, h3, h4, Nat.le_trans h5 lim, hQ.now o q (.str _)⟩⟩
end

/-! ### repr of things of any kind (of dicts: the empty one, alone or ahead of two pairs of whole numbers) -/
section
variable {K : PySem.W.Frag}
def shw (d : PyData) : Prop := d.showable = true ∧ d.hasDict = false ∧ d.depth ≤ 60 ∧ d.shown.length ≤ sizeLine
def prd (i j : Int) : PyData := .tuple [.int i, .int j]
def rRepT (K : PySem.W.Frag) : List V → Hp → VK → Prop := fun xs H Q => ∃ v d, xs = [v] ∧ Q (.str (PyData.shown d)) H ∧
  ((Dp K H v d ∧ shw d) ∨ (∃ a, v = .ref a ∧ H a = some (.dK []) ∧ d = .dict []) ∨
   (∃ a b v1 v2 i j k l, v = .ref a ∧ SqT K H a [.ref b, v1, v2] ∧ H b = some (.dK []) ∧ Dp K H v1 (prd i j) ∧ Dp K H v2 (prd k l) ∧ d = .tuple [.dict [], prd i j, prd k l] ∧ (PyData.tuple [prd i j, prd k l]).showable = true ∧ d.shown.length ≤ sizeLine))
theorem dict_reads {X : Cx} {pins : List (Addr × Obj)} {σ : L2.St} {H : Hp} {s : Shared} (I : Inv X pins σ H s) {a : Addr} (e : H a = some (.dK [])) : Reads s.heap (.ref a) (.dict []) (a :: [] ++ []) ∧ (a == PySem.sysModules) = false := by
  obtain ⟨_, hs, va, ra, o, es, ep, ho, ⟨hc, hd, hsl⟩, hdt, _, hp, _⟩ := (show ObjOk X.prog X.w H s.heap a (.dK []) from I.hok a _ e)
  refine ⟨?_, hs⟩
  cases ra
  have he : es.toList = [] := by
    have := hp.length
    exact List.eq_nil_of_length_eq_zero (by simpa using this)
  refine Reads.dict (kvs := []) ho hc hdt ?_ ?_
  · rw [he]
    exact ReadsAll.nil
  · rw [he]
    exact ReadsAll.nil
theorem pair_reads {X : Cx} {pins : List (Addr × Obj)} {σ : L2.St} {H : Hp} {s : Shared} (I : Inv X pins σ H s) {v : V} {u : Value} {i j : Int} (h : Dp X.K H v (prd i j)) (r : RelV v u) : Reads s.heap u (prd i j) [] := by
  cases h with
  | tup hs ha =>
    cases r
    obtain ⟨its, rv, ⟨o, ho, hc, n, hd⟩, _⟩ := I.tuple hs
    cases ha with
    | cons a1 ha =>
      cases ha with
      | cons a2 ha =>
        cases ha
        cases a1
        cases a2
        cases rv with
        | cons r1 rv =>
          cases rv with
          | cons r2 rv =>
            cases rv
            obtain ⟨t1, rfl⟩ := r1
            obtain ⟨t2, rfl⟩ := r2
            exact Reads.tuple ho hc hd (ReadsAll.cons (Reads.int i t1) (ReadsAll.cons (Reads.int j t2) ReadsAll.nil))
theorem call_repT {X : Cx} (hK : X.K = K) (hgd : X.A.guards = some []) (hu : X.A.units + 65 < cLine) : CallR X (.builtin "repr") (rRepT K) := by
  subst hK
  intro pins s σ H xs us Q I r h
  obtain ⟨v, d, rfl, q, h⟩ := h
  obtain ⟨u, rfl, r1⟩ := vals1 r
  rcases h with ⟨hd, hs, hn, hdp, hl⟩ | ⟨a, rfl, e, rfl⟩ | ⟨a, b, v1, v2, i, j, k, l, rfl, st, e, h1, h2, rfl, hsh, hl⟩
  · cases d with
    | none =>
      cases hd
      cases r1
      exact PySem.P.repr_of_none ⟨.str _, H, I.tok _, ⟨_, rfl⟩, q⟩
    | bool b =>
      cases hd
      cases r1
      exact PySem.P.repr_of_bool ⟨.str _, H, I.tok _, ⟨_, rfl⟩, q⟩
    | int i =>
      cases hd
      obtain ⟨t, rfl⟩ := r1
      exact PySem.P.repr_of_int (of_decide_eq_true hs) ⟨.str _, H, I.tok _, ⟨_, rfl⟩, q⟩
    | str x =>
      cases hd
      obtain ⟨t, rfl⟩ := r1
      exact PySem.P.repr_of_str ⟨.str _, H, I.tok _, ⟨_, rfl⟩, q⟩ hl
    | list ds =>
      obtain ⟨as, hr⟩ := Dp.reads I _ _ _ hd r1
      cases hd with
      | lst hs' ha =>
        cases r1
        exact PySem.repr_of_reads' (h₀ := s.heap) hr hs (fun z => by rw [hn] at z; cases z) hgd (by omega) (fun b o e => e) (fun h' u tk hk => ⟨.str _, H, I.kept (t' := tk) hk, ⟨_, rfl⟩, q⟩) hl
    | tuple ds =>
      obtain ⟨as, hr⟩ := Dp.reads I _ _ _ hd r1
      cases hd with
      | tup hs' ha =>
        cases r1
        exact PySem.repr_of_reads' (h₀ := s.heap) hr hs (fun z => by rw [hn] at z; cases z) hgd (by omega) (fun b o e => e) (fun h' u tk hk => ⟨.str _, H, I.kept (t' := tk) hk, ⟨_, rfl⟩, q⟩) hl
    | dict kvs => cases hd
  · cases r1
    obtain ⟨hr, hsys⟩ := dict_reads I e
    have hne : PySem.sysModules ∉ (a :: [] ++ [] : List Addr) := fun z => by
      have : PySem.sysModules = a := by simpa using z
      rw [this] at hsys
      simp at hsys
    exact PySem.repr_of_reads' (h₀ := s.heap) hr rfl (fun _ => hne) hgd (by show X.A.units + (1 + 1) < cLine; omega) (fun b o e => e) (fun h' u tk hk => ⟨.str _, H, I.kept (t' := tk) hk, ⟨_, rfl⟩, q⟩) (by rw [sizeLine_eq]; decide +kernel)
  · cases r1
    obtain ⟨its, rv, ⟨o, ho, hc, n, hd⟩, _⟩ := I.tuple st
    obtain ⟨hr, hsys⟩ := dict_reads I e
    have hne : PySem.sysModules ∉ ((b :: [] ++ []) ++ ([] ++ ([] ++ [])) : List Addr) := fun z => by
      have : PySem.sysModules = b := by simpa using z
      rw [this] at hsys
      simp at hsys
    cases rv with
    | cons r2 rv =>
      cases rv with
      | cons r3 rv =>
        cases rv with
        | cons r4 rv =>
          cases rv
          cases r2
          have hall := ReadsAll.cons hr (ReadsAll.cons (pair_reads I h1 r3) (ReadsAll.cons (pair_reads I h2 r4) ReadsAll.nil))
          have hR := Reads.tuple ho hc hd hall
          exact PySem.repr_of_reads' (h₀ := s.heap) hR hsh (fun _ => hne) hgd (by show X.A.units + (_ + 1) < cLine; simp only [PyData.depth, PyData.depthAll, PyData.depthKv, prd]; omega) (fun b o e => e) (fun h' u tk hk => ⟨.str _, H, I.kept (t' := tk) hk, ⟨_, rfl⟩, q⟩) hl
/-- what repr can be asked of, and its text -/
def RepZ (d : D) (z : Str) : Prop := (d.isD = true ∧ shw d.pd ∧ z = d.pd.shown) ∨ (d = .dic [] [] ∧ z = (PyData.dict []).shown) ∨ ∃ i j k l : Int, d = .tup [.dic [] [], .tup [.int i, .int j], .tup [.int k, .int l]] ∧ z = (PyData.tuple [.dict [], prd i j, prd k l]).shown ∧ (PyData.tuple [prd i j, prd k l]).showable = true ∧ z.length ≤ sizeLine
def aRepT : List D → Nat → (D → Nat → Prop) → Prop := fun ds n Q => ∃ d z, ds = [d] ∧ RepZ d z ∧ Q (.str z) n
instance : DL K (rRepT K) aRepT := ⟨fun W n H xs ds Q Qa hQ o av h => by
  obtain ⟨d, z, rfl, hz, q⟩ := h
  cases av with
  | cons a r =>
    cases r
    rcases hz with ⟨h1, h2, rfl⟩ | ⟨rfl, rfl⟩ | ⟨i, j, k, l, rfl, rfl, h1, h2⟩
    · exact ⟨_, d.pd, rfl, hQ.now o q (.str _), .inl ⟨At.dp d h1 a, h2⟩⟩
    · cases a with
      | dic nr e hl aa =>
        exact ⟨_, _, rfl, hQ.now o q (.str _), .inr (.inl ⟨_, rfl, e, rfl⟩)⟩
    · cases a with
      | tup s b =>
        cases b with
        | cons b1 b =>
          cases b with
          | cons b2 b =>
            cases b with
            | cons b3 b =>
              cases b
              have d2 := At.dp (.tup [.int i, .int j]) rfl b2
              have d3 := At.dp (.tup [.int k, .int l]) rfl b3
              cases b1 with
              | dic nr e hl aa =>
                exact ⟨_, _, rfl, hQ.now o q (.str _), .inr (.inr ⟨_, _, _, _, i, j, k, l, rfl, s, e, d2, d3, rfl, h1, h2⟩)⟩⟩
end

section
variable {P : Program} {w : World} {K : PySem.W.Frag} {mg : Str → Option Value} {base : Heap} {A : Ad}
/-! CUT -/
/-! ### the deck in the mirror -/
def a_l_take : ASp := fun ds n Q => ∃ m : Int, ds = [.deck, .int m] ∧ 0 < m ∧ m.natAbs.log2 < 9000 ∧ 1 ≤ n ∧ ∀ r, 0 ≤ r → r < m → Q (.int r) (n - 1)
theorem ok_l_take (T : Tx K mg A) : FnOk P w K mg base CX0 2 A.f_l_take A.fd_l_take ["_law_deck_here", "_law_many"] (spOf K 2 a_l_take) := (ok0_l_take T).imp fun vs H Q E h => by
  obtain ⟨W, n, ds, Qa, a, hl, o, hQ, m, rfl, hm, hlog, hn, q⟩ := h
  cases a with
  | cons a r =>
    cases r with
    | cons b r =>
      cases r
      cases b
      cases a with
      | @deck d b e =>
        obtain ⟨c, D, lc⟩ := o.deck d b e
        refine ⟨d, b, c, m, rfl, D, by omega, hm, hlog, fun H' r D' kp h0 h1 => hQ _ _ (q r h0 h1) H' _ (fun x ob nr hx => kp x ob (fun z => nr (.inl ⟨d, b, e, .inl z⟩)) (fun z => nr (.inl ⟨d, b, e, .inr z⟩)) hx) ⟨fun d' b' e' => ?_, fun p hp => ?_, o.dis⟩ (.int r)⟩
        · rw [e] at e'
          cases e'
          exact ⟨c + 1, D', by omega⟩
        · obtain ⟨h1, h2⟩ := o.owns p hp
          obtain ⟨n1, n2⟩ := o.dis d b e p hp
          exact ⟨kp _ _ n1 n2 h1, h2⟩
/-! ### the law's own def -/
def sp_law (K : PySem.W.Frag) : Sp := fun vs H Q _ => ∃ (a : Addr) (ns : List Int), vs = [.ref a] ∧ Only H ∧ SqL K H a (ns.map V.int) ∧ ns.length ≤ 63 ∧ ∀ H', Q (.bl true) H'
theorem law_start {W : Wd} {ow : List Nat} {n : Nat} {H : Hp} {N : List Str} {k i : Nat} {a d b : Addr} (hk : N.length = k) (h0 : 0 < k) (hi : i ∉ ow) (hd : W.dk = some (d, b)) (o : W.ok K n H) : SOk K W ow n H ((L2.start N [.ref a]).set i (some (.ref d))) (eSet (startA k []) i (some .deck)) [] := by
  have hg : ∀ j e, eGet (eSet (startA k []) i (some .deck)) j = some e → i = j ∧ e = .deck ∧ i < k := fun j e he => by
    by_cases hij : i = j
    · subst hij
      obtain ⟨h1, h2⟩ := eGet_set he
      rw [startA_length] at h1
      exact ⟨rfl, (Option.some.inj h2).symm, h1⟩
    · rw [eGet_ne hij] at he
      exact (startA_none he).elim
  have hlen : (L2.start N [V.ref a]).length = k := by
    unfold L2.start
    rw [List.length_append, List.length_map, List.length_replicate]
    show 1 + (N.length - 1) = k
    omega
  refine ⟨List.nodup_nil, fun u hu => (by cases hu), o, by rw [List.length_set, eSet_length, startA_length, hlen], fun j e _ he => ?_, fun j e hj he => ?_, fun j m p hj hm _ _ _ => .inl ?_⟩
  · obtain ⟨rfl, rfl, hlt⟩ := hg j e he
    exact ⟨_, List.getElem?_set_self (by rw [hlen]; exact hlt), .deck hd⟩
  · obtain ⟨rfl, _⟩ := hg j e he
    exact absurd hj hi
  · cases e : eGet (eSet (startA k []) i (some .deck)) j with
    | none => rfl
    | some e' =>
      obtain ⟨rfl, _⟩ := hg j e' e
      exact absurd hj hi
theorem law_mir {P : Program} {w : World} {mg : Str → Option Value} {base : Heap} {x qual : Str} {st : Stmt} {f : Addr} {fd : FuncData} {N : List Str} {k : Nat} (ow : List Nat) (kk i : Nat) (hk : N.length = kk) (h0 : 0 < kk) (hi : i ∉ ow) (F : Fun K x qual st f fd) (S : FnScope N ["_law_script"] (defScope st))
    (hbody : ∀ (cdv : Value) (Ar : Around) (outer : List Env) (s : Shared) (H : Hp) (E : XK), Room k (Ar.deeper (envOfC qual (defScope st) s.heap.objs.size f cdv)) →
      ∃ (t : TS) (fa : AS), PSs (cxOf CX0 P w K mg base N qual (defScope st) f cdv Ar outer s H E).nox (defBody st) (tSeq (tAsg (tCall (sp_l_deck K) [] E0 (tCons (tVar 0) tNil)) (gName i)) t) ∧ DS K W0 ow t fa ∧ fa (aTop fun d _ => d = .bl true) (eSet (startA kk []) i (some .deck)) 900000) : FnOk P w K mg base CX0 (k + 1) f fd ["_law_script"] (sp_law K) := by
  refine F.ok S (fun vs H Q E h => ?_) (fun cdv Ar outer s H vs Q E hr h => ?_)
  · obtain ⟨a, ns, rfl, _⟩ := h
    rfl
  · obtain ⟨a, ns, rfl, hO, hS, hn, q⟩ := h
    obtain ⟨t, fa, h1, h2, h3⟩ := hbody cdv Ar outer s H E hr
    refine ⟨_, h1, ?_⟩
    refine ⟨.ref a, rfl, a, ns, rfl, Sc.mk hO hS, hn, fun H' d b hd hb D sm => ?_⟩
    refine DS.run (K := K) (Wx := W0) (ow := ow) (t := t) (f := fa) ⟨some (d, b), []⟩ [] _ _ 900000 H' _ (aTop fun d _ => d = .bl true) ⟨fun ρ' n' z => (by cases z), fun d' n' z U1 H1 H2 v _ _ _ a' => ?_, fun _ _ q => q.elim, fun _ _ q => q.elim, fun _ _ _ _ _ q => q.elim⟩ (law_start hk h0 hi rfl ⟨fun d' b' e' => ?_, fun p hp => (by cases hp), fun _ _ _ p hp => (by cases hp)⟩) h3
    · subst z
      cases a'
      exact q _
    · cases e'
      exact ⟨0, D, by omega⟩

end
/-! ### the law's own promise, and what the head asks of it -/
section
variable {K : PySem.W.Frag}
theorem law_mirG {P : Program} {w : World} {mg : Str → Option Value} {base : Heap} {x qual : Str} {st : Stmt} {f : Addr} {fd : FuncData} {N : List Str} {k : Nat} (ow : List Nat) (kk i : Nat) (hk : N.length = kk) (h0 : 0 < kk) (hi : i ∉ ow) (F : Fun K x qual st f fd) (S : FnScope N ["_law_script"] (defScope st))
    (hbody : ∀ (cdv : Value) (Ar : Around) (outer : List Env) (s : Shared) (H : Hp) (E : XK), Room k (Ar.deeper (envOfC qual (defScope st) s.heap.objs.size f cdv)) → (Ar.deeper (envOfC qual (defScope st) s.heap.objs.size f cdv)).guards = some [] →
      ∃ (t : TS) (fa : AS), PSs (cxOf CX0 P w K mg base N qual (defScope st) f cdv Ar outer s H E).nox (defBody st) (tSeq (tAsg (tCall (sp_l_deck K) [] E0 (tCons (tVar 0) tNil)) (gName i)) t) ∧ DS K W0 ow t fa ∧ fa (aTop fun d _ => d = .bl true) (eSet (startA kk []) i (some .deck)) 900000) : FnG P w K mg base (k + 1) f fd ["_law_script"] (sp_law K) := by
  obtain ⟨oc, od, kV, doc, pm, an, cdv, ct, osl, rfl, lk, hcd⟩ := F.ex
  refine fn_ofG lk hcd S (fun vs H Q E h => ?_) fun Ar outer s H vs Q E hr hgd h => ?_
  · obtain ⟨a, ns, rfl, _⟩ := h
    rfl
  · obtain ⟨a, ns, rfl, hO, hS, hn, q⟩ := h
    obtain ⟨t, fa, h1, h2, h3⟩ := hbody cdv Ar outer s H E hr hgd
    refine ⟨_, h1.nox, ?_⟩
    refine ⟨.ref a, rfl, a, ns, rfl, Sc.mk hO hS, hn, fun H' d b hd hb D sm => ?_⟩
    refine DS.run (K := K) (Wx := W0) (ow := ow) (t := t) (f := fa) ⟨some (d, b), []⟩ [] _ _ 900000 H' _ (aTop fun d _ => d = .bl true) ⟨fun ρ' n' z => (by cases z), fun d' n' z U1 H1 H2 v _ _ _ a' => ?_, fun _ _ q => q.elim, fun _ _ q => q.elim, fun _ _ _ _ _ q => q.elim⟩ (law_start hk h0 hi rfl ⟨fun d' b' e' => ?_, fun p hp => (by cases hp), fun _ _ _ p hp => (by cases hp)⟩) h3
    · subst z
      cases a'
      exact q _
    · cases e'
      exact ⟨0, D, by omega⟩
/-- what is told of the heap behind the top: the script, frozen, unless it is one of the module's own -/
def scH (K : PySem.W.Frag) (a : Addr) (vs : List Value) (ns : List Int) : Hp := fun c => match K.lookup a with
  | some _ => none
  | none => if c = a then some (.frz { cls := .type "list", data := .seq vs.toArray } (.lst (ns.map V.int))) else none
theorem scH_cases {K : PySem.W.Frag} {a : Addr} {vs : List Value} {ns : List Int} (c : Addr) : scH K a vs ns c = none ∨ (c = a ∧ K.lookup a = none ∧ scH K a vs ns c = some (.frz { cls := .type "list", data := .seq vs.toArray } (.lst (ns.map V.int)))) := by
  unfold scH
  cases e : K.lookup a with
  | some o => exact .inl rfl
  | none =>
    by_cases hc : c = a
    · exact .inr ⟨hc, rfl, if_pos hc⟩
    · exact .inl (if_neg hc)
theorem scH_at {K : PySem.W.Frag} {a : Addr} {vs : List Value} {ns : List Int} (e : K.lookup a = none) : scH K a vs ns a = some (.frz { cls := .type "list", data := .seq vs.toArray } (.lst (ns.map V.int))) := by
  unfold scH
  rw [e]
  exact if_pos rfl
theorem runG {P : Program} {w : World} {mg mb : Str → Option Value} {k : Nat} {fa a : Addr} {fd : FuncData} {x : Str} {sp : Sp} {z : Shared} {vs : List Value} {ns : List Int}
    (kin : K.In z.heap) (gns : z.heap.Ns mainGlobals mg) (bns : z.heap.Ns builtinsNs mb) (boot : ∀ x : Str, x ≠ "__name__" → mb x = bootBuiltins x) (nol : z.heap.NoLimit) (nog : z.gens = #[])
    (lst : z.heap.get? a = some { cls := .type "list", data := .seq vs.toArray }) (hints : IntsAre vs ns) (len : ns.length ≤ sizeLine) (room : Room k callerA)
    (F : ∀ base : Heap, K.In base → base.Ns mainGlobals mg → FnG P w K mg base k fa fd [x] sp) (bind : ∀ (s : Shared) (u : Value), BindsTo s fd ⟨[u], []⟩ [(x, u)])
    (pr : ∀ H : Hp, Only H → SqL K H a (ns.map V.int) → sp [.ref a] H (fun v _ => v = .bl true) fun _ _ _ => False) :
    codeAny (model P w) callerA (.call (.ref fa) ⟨[.ref a], []⟩) (fun r s' => r = .ok (.ret (.bool true)) ∧ OldK z.heap s'.heap ∧ s'.os = z.os ∧ AllBare s'.gens) z := by
  obtain ⟨H, eH⟩ : ∃ H, scH K a vs ns = H := ⟨_, rfl⟩
  have two := fun c => scH_cases (K := K) (a := a) (vs := vs) (ns := ns) c
  rw [eH] at two
  have rel := vals_ints hints
  have same := hints.length
  have hseq : SqL K H a (ns.map V.int) := by
    cases e : K.lookup a with
    | some o =>
      have e' := kin a o e
      rw [lst] at e'
      obtain rfl := Option.some.inj e'
      exact .inr ⟨_, vs.toArray, _, e, rfl, rfl, rfl, by rw [List.size_toArray, same]; exact len, rel⟩
    | none => exact .inl (.inr ⟨_, by rw [← eH]; exact scH_at e⟩)
  have honly : Only H := fun c => (two c).imp id fun t => ⟨_, _, t.2.2⟩
  have hold : HOk P w H z.heap := fun c o e => by
    rcases two c with t | ⟨rfl, _, t⟩
    · rw [t] at e; cases e
    · rw [t] at e
      obtain rfl := Option.some.inj e
      exact ⟨lst, by rw [List.length_map]; exact len, vs, _, rel, lst⟩
  -- what is no part of the script stays in sight
  have sees : ∀ {c : Addr} {o : Obj}, z.heap.get? c = some o → (c = a → K.lookup a ≠ none) → (hidT z.heap H).get? c = some o := fun {c o} e n => by
    rcases two c with t | ⟨hc, hn, _⟩
    · exact hidT_get e t
    · exact absurd hn (n hc)
  have names : ∀ {c : Addr} {m : Str → Option Value}, z.heap.Ns c m → (hidT z.heap H).Ns c m := fun {c m} ⟨o, es, ep, e, d, r⟩ => by
    refine ⟨o, es, ep, ?_, d, r⟩
    rcases two c with t | ⟨rfl, _, _⟩
    · exact hidT_get e t
    · rw [lst] at e
      obtain rfl := Option.some.inj e
      cases d
  have kin2 : K.In (hidT z.heap H) := fun c o e => sees (kin c o e) fun hc hn => by
    rw [hc, hn] at e
    cases e
  have env : Env0 P w K mg (hidT z.heap H) callerA [] z H := ⟨rfl, ⟨kin2, names gns, ⟨mb, names bns, boot⟩, (by
    obtain ⟨mc, n1, n2⟩ := nol
    exact ⟨mc, names n1, n2⟩)⟩, (fun c o e => of_hidT e), Nat.le_of_eq (hidT_size _ _), trivial, (fun c hc => by cases hc), hold, .of_eq nog⟩
  refine codeAny_mono ((F _ kin2 (names gns)).runG callerA [] z H ⟨[.ref a], []⟩ [.ref a] [.ref a] _ _ room rfl env (bind z (.ref a)) (.cons rfl .nil) (pr H honly hseq)) fun r s' t => ?_
  match r, t with
  | .error _, t => exact t.elim
  | .ok .next, t => exact t.elim
  | .ok .brk, t => exact t.elim
  | .ok .cont, t => exact t.elim
  | .ok (.ret u), ⟨v, H', os, bare, un, hok2, rv, q⟩ =>
    have q2 : v = .bl true := q
    subst q2
    obtain rfl : u = Value.bool true := rv
    refine ⟨rfl, OldK.of_keep fun c o e => ?_, os, bare⟩
    rcases two c with t | ⟨rfl, _, t⟩
    · exact un.keep c o e t (fun y => by cases y) (fun y => by cases y)
    · obtain ⟨e2, _⟩ := hok2 c _ (un.frzs c _ _ t)
      rw [lst] at e
      obtain rfl := Option.some.inj e
      exact e2
end
theorem walkG {l : PySem.W.OpenLaw} {n k : Nat} {q : Program} {loose : List Str} {XP : (Str → Option Value) → Heap → Prop} {YP : World → Heap → Prop} {d : DefRec} {K : Params → PySem.W.Frag} {sp : World → Sp} {x : Str}
    (hn : l.most = some n) (small : n ≤ sizeLine) (plain : d.params.defaults = []) (room : Room k callerA) (kin : ∀ (w : World) (h : Heap), YP w h → (K w.params).In h)
    (F : ∀ (w : World) (mg : Str → Option Value) (fa : Addr) (h : Heap), (K w.params).In h → h.Ns mainGlobals mg → mg d.name = some (.ref fa) →
      ∃ fd : FuncData, (∀ (s : Shared) (u : Value), BindsTo s fd ⟨[u], []⟩ [(x, u)]) ∧ ∀ base : Heap, (K w.params).In base → base.Ns mainGlobals mg → FnG l.prog w (K w.params) mg base k fa fd [x] (sp w))
    (pr : ∀ (w : World) (H : Hp) (a : Addr) (ns : List Int), ns.length ≤ n → Only H → SqL (K w.params) H a (ns.map V.int) → sp w [.ref a] H (fun v _ => v = .bl true) fun _ _ _ => False) :
    PySem.W.WalkO q loose XP YP l.row.toRowW d [] (fun f vs => PySem.call f vs) := by
  refine Att.attach_call hn plain fun w z0 z mg mb fa o pm cd doc a vs ns G Y _ _ _ hmg hobj hints hlen hgen => ?_
  have k1 := kin w _ Y
  obtain ⟨fd, b, f⟩ := F w mg fa _ k1 G.T.g hmg
  exact runG k1 G.T.g G.T.b G.T.builtins G.T.nolimit hgen hobj hints (Nat.le_trans hlen small) room f b fun H h1 h2 => pr w H a ns hlen h1 h2

/-! ### zip of a tuple and a list, slices of any tuple -/
section
variable {K : PySem.W.Frag}
def iZipMK (K : PySem.W.Frag) (ta : TA) : TI := RX.iZipM K ta
theorem k_zipM {X : Cx} {e e2 : Expr} {ta : TA} {p pos tpos : Pos} {elts : List Expr} {kk : Nat} (hK : X.K = K) (hg : Gl X "zip") (hm : X.mg "zip" = none) (ha : PA X [e, e2] ta) (hs : starEach [e, e2] X.env = (false, eval e X.env) :: starEach [e2] X.env := by rfl) (hpl : (backTo pos (starEach [e2] X.env)).any (·.1) = false := by rfl) :
    PI X (.Tuple elts kk tpos) (.Call (.Name "zip" p) [e, e2] [] pos) (iZipMK K ta) := hK ▸ RX.pi_zipM hg hm ha hs hpl
def aZipM (g : AA) : AI := fun ρ n Q => g ρ n fun ds n1 => match ds with
  | [.tup as, .lst bs] => Q (zipD as bs) n1
  | _ => False
instance {ta : TA} {g : AA} [DA K ta g] : DI K (iZipMK K ta) (aZipM g) := ⟨fun W σ ρ n H R Qa hQ hE o h =>
  DA.run (te := ta) (f := g) W σ ρ n H _ _ (fun ds n1 h1 H1 vs l1 o1 ax => by
    split at h1
    · cases ax with
      | cons a r =>
        cases r with
        | cons b r =>
          cases r
          cases a with
          | tup sa a =>
            cases b with
            | lst rb sb b =>
              refine ⟨_, _, _, _, rfl, sa, SqL.of sb, hQ _ _ h1 _ H1 l1 o1 fun W' hr hd H2 n2 l2 o2 i => ?_⟩
              have s2 := sqt_lk (o1.lk' hr) l2 sa
              have s3 := sql_lk (K := K) l2 (fun z => by rw [hr _ z rb] at sb; cases sb) sb
              refine ⟨fun d e => ?_, fun hi => ⟨_, _, s2, s3, ?_⟩⟩
              · obtain ⟨x, y, e1, e2, rfl⟩ := zipD_get e
                obtain ⟨v, e1', a1⟩ := a.get e1
                obtain ⟨u, e2', a2⟩ := b.get e2
                refine ⟨⟨_, _, v, u, s2, s3, e1', e2'⟩, fun z H3 ⟨T, x', y', ez, hT, eH, e3, e4⟩ => ?_⟩
                have q1 := e3 _ s2
                have q2 := e4 _ s3
                rw [e1'] at q1
                rw [e2'] at q2
                cases q1
                cases q2
                subst ez eH
                have st : Same H2 (upd H2 T (.tup [v, u])) := same_upd hT
                refine ⟨st, .tup (.inl (.inl upd_same)) (.cons ?_ (.cons ?_ .nil))⟩
                · exact At.le o2 (Wd.le_same st) _ (At.lk (o1.lk' hr) l2 _ (At.ext hr hd _ a1))
                · exact At.le o2 (Wd.le_same st) _ (At.lk (o1.lk' hr) l2 _ (At.ext hr hd _ a2))
              · rw [zipD_length] at hi
                rw [a.length, b.length]
                omega
    · exact h1.elim) hE o h⟩
def rSlW (K : PySem.W.Frag) : V → Option Int → Option Int → Hp → VK → Prop := L2.rSlA K
theorem k_slW {X : Cx} (hK : X.K = K) : SlR X (rSlW K) := hK ▸ sl_tupA
def aCutW (d : D) (l u : Option Int) (n : Nat) (Q : D → Nat → Prop) : Prop := match d with
  | .tup ds => Q (.tup (cutL ds l u)) n
  | _ => False
def aSlW (fa : AE) (fl fu : Env' → Nat → (Option Int → Nat → Prop) → Prop) : AE := fun ρ n Q => fa ρ n fun d n1 => fl ρ n1 fun l n2 => fu ρ n2 fun u n3 => aCutW d l u n3 Q
theorem cutL_whole {ds : List D} {l u : Option Int} (h : HT.sIx ds.length 0 l = 0 ∧ HT.sIx ds.length ds.length u = ds.length) : cutL ds l u = ds := by
  unfold cutL
  rw [h.1, h.2]
  simp
instance {te : TE} {tl tu : TO} {fa : AE} {fl fu : Env' → Nat → (Option Int → Nat → Prop) → Prop} [DE K te fa] [DO K tl fl] [DO K tu fu] : DE K (tSl (rSlW K) te tl tu) (aSlW fa fl fu) := ⟨fun W σ ρ n H Q Qa hQ hE o h =>
  DE.run (te := te) (f := fa) W σ ρ n H _ _ (fun d n1 h1 H1 x l1 o1 ax => DO.run (te := tl) (f := fl) W σ ρ n1 H1 _ _ (fun l n2 h2 H2 l2 o2 => DO.run (te := tu) (f := fu) W σ ρ n2 H2 _ _ (fun u n3 h3 H3 l3 o3 => by
    have hQ3 := hQ.le (l1.trans (l2.trans l3))
    unfold aCutW at h3
    split at h3
    · cases At.le o1 (l2.trans l3) _ ax with
      | tup s a =>
        refine ⟨_, _, rfl, s, fun hw => ?_, fun _ p hp => hQ3.new o3 h3 hp ?_⟩
        · rw [a.length] at hw
          rw [cutL_whole hw] at h3
          exact hQ3.now o3 h3 (.tup s a)
        · refine .tup (.inl (.inl upd_same)) ?_
          unfold cutV cutL
          rw [a.length]
          exact take_at _ (drop_at _ (AtAll.le o3 (Wd.le_same (same_upd hp)) _ a))
    · exact h3.elim) (hE.le o (l1.trans l2)) o2 h2) (hE.le o l1) o1 h1) hE o h⟩
end

/-! ### a text is no dict -/
namespace RD
open PySem PySem.Spec PyProof.Rows SeqAt
theorem dict_eq_declines_str (l : Addr) (es : Array DictEntry) (ep : Nat) (dd : Option Addr) (sl : Array (Option Value)) (b : Str) (u : Tok) :
    Meets (Builtin.«dict.__eq__» ⟨[.ref l, .str b u], []⟩) (fun _ R s => s.heap.get? l = some { cls := .type "dict", dict := dd, data := .dict es ep, slots := sl } ∧ R (.ok (.ret .notImplemented)) s) :=
  .of_wp fun prog w A R s h => by obtain ⟨hp, g, d, tk, os⟩ := s; obtain ⟨hl, h⟩ := h; have f1 := F.sub_str_dict; wp_walk using wpAny_loadPart' hl; exact ⟨_, rfl, h⟩
theorem str_eq_declines_dict (b : Str) (u : Tok) (l : Addr) (es : Array DictEntry) (ep : Nat) (dd : Option Addr) (sl : Array (Option Value)) :
    Meets (Builtin.«str.__eq__» ⟨[.str b u, .ref l], []⟩) (fun _ R s => s.heap.get? l = some { cls := .type "dict", dict := dd, data := .dict es ep, slots := sl } ∧ R (.ok (.ret .notImplemented)) s) :=
  .of_wp fun prog w A R s h => by obtain ⟨hp, g, d, tk, os⟩ := s; obtain ⟨hl, h⟩ := h; wp_walk using wpAny_loadPart' hl, wpAny_load hl; exact ⟨_, rfl, h⟩
end RD
open L2 PySem in
def rEqSD : L2.R2 := fun x y H Q => ∃ (z : Str) (a : Addr) (kvs : List (L2.Key × L2.V)), x = .str z ∧ y = .ref a ∧ H a = some (.dK kvs) ∧ Q (.bl false) H
open L2 PySem PySem.Spec PyProof.Rows in
theorem op_eqSD {X : L2.Cx} (hu : X.A.units + 64 < cLine) : OpR X (compareOp .Eq) rEqSD := by
  intro pins s σ H x y v u Q I rx ry h
  obtain ⟨z, a, kvs, rfl, rfl, ea, q⟩ := h
  obtain ⟨t, rfl⟩ := rx
  obtain rfl : u = Value.ref a := ry
  obtain ⟨_, _, va, ra, ⟨cls, dd, data, sl⟩, es, ep, ho, ⟨hc, hd, hs⟩, hdt, _⟩ := (show ObjOk X.prog X.w H s.heap a (.dK kvs) from I.hok a _ ea)
  simp only at hc hd hs hdt
  subst hc hd hs hdt
  show wpAny _ _ (richCompare .Eq _ _) _ _ _
  exact SeqAt.rc_eq_decline_or (k := false) (typeIs_str s z t) ⟨_, ho, rfl⟩ (by decide) F.sub_dict_str F.slot_str_eq F.slot_dict_eq_refl
    (fun _ hq => call_meets F.slot_str_eq (typeIs_str s z t) F.entry_str_eq (F.args_str_eq_2 _ _) (RD.str_eq_declines_dict z t a es ep _ _) ⟨ho, hq⟩)
    (fun _ hq => call_meets F.slot_dict_eq_refl ⟨_, ho, rfl⟩ F.entry_dict_eq (F.args_dict_eq_2 _ _) (RD.dict_eq_declines_str a es ep _ _ z t) ⟨ho, hq⟩)
    (fun _ hq => wpAny_of_eq (rfl : isSame (.str z t) (.ref a) = pure false) hq) (.inr (by omega)) (fin_bl I q rfl)
def rEqSQ (K : PySem.W.Frag) : R2 := fun x y H Q => ∃ (z : Str) (a : Addr) (xs : List V), x = .str z ∧ y = .ref a ∧ (SqT K H a xs ∨ H a = some (.lst xs)) ∧ Q (.bl false) H
theorem op_eqSQ {X : Cx} (hu : X.A.units + 64 < cLine) : OpR X (compareOp .Eq) (rEqSQ X.K) := by
  intro pins s σ H x y v u Q I rx ry h
  obtain ⟨z, a, xs, rfl, rfl, hs, q⟩ := h
  obtain ⟨t, rfl⟩ := rx
  obtain rfl : u = Value.ref a := ry
  show wpAny _ _ (richCompare .Eq _ _) _ _ _
  rcases hs with hs | hs
  · obtain ⟨its, _, ⟨o, ho, hc, n, hd⟩, _⟩ := I.tuple hs
    exact SeqAt.RcAt.str_tuple (items := its.toArray) z t ⟨o, ho, hc, n, hd⟩ (by omega) _ _ _ _ (fin_bl I q rfl)
  · obtain ⟨_, its, n, _, ho⟩ := (show ObjOk X.prog X.w H s.heap a (.lst xs) from I.hok a _ hs)
    exact SeqAt.RcAt.str_list (items := its.toArray) z t ⟨_, ho, rfl, n, rfl⟩ (by omega) _ _ _ _ (fin_bl I q rfl)
def rEqT (K : PySem.W.Frag) : R2 := fun x y H Q => rEqA K x y H Q ∨ (fun x y H Q => rEqSD x y H Q ∨ rEqSQ K x y H Q) x y H Q
theorem k_eqT {X : Cx} {K : PySem.W.Frag} (hK : X.K = K) (hu : X.A.units + 64 < cLine) : OpR X (compareOp .Eq) (rEqT K) := OpR.or' (k_eq hK hu) (OpR.or' (op_eqSD hu) (hK ▸ op_eqSQ hu))

/-! ### things of any kind against texts: a dict is no text -/
open L2 PySem in
def rEqDS : L2.R2 := fun x y H Q => ∃ (z : Str) (a : Addr) (kvs : List (L2.Key × L2.V)), y = .str z ∧ x = .ref a ∧ H a = some (.dK kvs) ∧ Q (.bl false) H
open L2 PySem in
def rNeDS : L2.R2 := fun x y H Q => ∃ (z : Str) (a : Addr) (kvs : List (L2.Key × L2.V)), y = .str z ∧ x = .ref a ∧ H a = some (.dK kvs) ∧ Q (.bl true) H
namespace RD
open PySem PySem.Spec PyProof.Rows SeqAt
theorem dict_ne_declines_str (l : Addr) (es : Array DictEntry) (ep : Nat) (dd : Option Addr) (sl : Array (Option Value)) (b : Str) (u : Tok) :
    Meets (Builtin.«dict.__ne__» ⟨[.ref l, .str b u], []⟩) (fun _ R s => s.heap.get? l = some { cls := .type "dict", dict := dd, data := .dict es ep, slots := sl } ∧ R (.ok (.ret .notImplemented)) s) :=
  .of_wp fun prog w A R s h => by obtain ⟨hp, g, d, tk, os⟩ := s; obtain ⟨hl, h⟩ := h; have f1 := F.sub_str_dict; wp_walk using wpAny_loadPart' hl; exact ⟨_, rfl, h⟩
theorem str_ne_declines_dict (b : Str) (u : Tok) (l : Addr) (es : Array DictEntry) (ep : Nat) (dd : Option Addr) (sl : Array (Option Value)) :
    Meets (Builtin.«str.__ne__» ⟨[.str b u, .ref l], []⟩) (fun _ R s => s.heap.get? l = some { cls := .type "dict", dict := dd, data := .dict es ep, slots := sl } ∧ R (.ok (.ret .notImplemented)) s) :=
  .of_wp fun prog w A R s h => by obtain ⟨hp, g, d, tk, os⟩ := s; obtain ⟨hl, h⟩ := h; wp_walk using wpAny_loadPart' hl, wpAny_load hl; exact ⟨_, rfl, h⟩
end RD
open L2 PySem PySem.Spec PyProof.Rows in
theorem op_eqDS {X : L2.Cx} (hu : X.A.units + 64 < cLine) : OpR X (compareOp .Eq) rEqDS := by
  intro pins s σ H x y v u Q I rx ry h
  obtain ⟨z, a, kvs, rfl, rfl, ea, q⟩ := h
  obtain ⟨t, rfl⟩ := ry
  obtain rfl : v = Value.ref a := rx
  obtain ⟨_, _, va, ra, ⟨cls, dd, data, sl⟩, es, ep, ho, ⟨hc, hd, hs⟩, hdt, _⟩ := (show ObjOk X.prog X.w H s.heap a (.dK kvs) from I.hok a _ ea)
  simp only at hc hd hs hdt
  subst hc hd hs hdt
  show wpAny _ _ (richCompare .Eq _ _) _ _ _
  exact SeqAt.rc_eq_decline_or (k := false) ⟨_, ho, rfl⟩ (typeIs_str s z t) (by decide) F.sub_str_dict F.slot_dict_eq F.slot_str_eq_refl
    (fun _ hq => call_meets F.slot_dict_eq ⟨_, ho, rfl⟩ F.entry_dict_eq (F.args_dict_eq_2 _ _) (RD.dict_eq_declines_str a es ep _ _ z t) ⟨ho, hq⟩)
    (fun _ hq => call_meets F.slot_str_eq_refl (typeIs_str s z t) F.entry_str_eq (F.args_str_eq_2 _ _) (RD.str_eq_declines_dict z t a es ep _ _) ⟨ho, hq⟩)
    (fun _ hq => wpAny_of_eq (rfl : isSame (.ref a) (.str z t) = pure false) hq) (.inr (by omega)) (fin_bl I q rfl)
open L2 PySem PySem.Spec PyProof.Rows in
theorem op_neDS {X : L2.Cx} (hu : X.A.units + 64 < cLine) : OpR X (compareOp .NotEq) rNeDS := by
  intro pins s σ H x y v u Q I rx ry h
  obtain ⟨z, a, kvs, rfl, rfl, ea, q⟩ := h
  obtain ⟨t, rfl⟩ := ry
  obtain rfl : v = Value.ref a := rx
  obtain ⟨_, _, va, ra, ⟨cls, dd, data, sl⟩, es, ep, ho, ⟨hc, hd, hs⟩, hdt, _⟩ := (show ObjOk X.prog X.w H s.heap a (.dK kvs) from I.hok a _ ea)
  simp only at hc hd hs hdt
  subst hc hd hs hdt
  show wpAny _ _ (richCompare .NotEq _ _) _ _ _
  exact SeqAt.rc_ne_decline_or (k := false) ⟨_, ho, rfl⟩ (typeIs_str s z t) (by decide) F.sub_str_dict F.slot_dict_ne F.slot_str_ne_refl
    (fun _ hq => call_meets F.slot_dict_ne ⟨_, ho, rfl⟩ F.entry_dict_ne (F.args_dict_ne_2 _ _) (RD.dict_ne_declines_str a es ep _ _ z t) ⟨ho, hq⟩)
    (fun _ hq => call_meets F.slot_str_ne_refl (typeIs_str s z t) F.entry_str_ne (F.args_str_ne_2 _ _) (RD.str_ne_declines_dict z t a es ep _ _) ⟨ho, hq⟩)
    (fun _ hq => wpAny_of_eq (rfl : isSame (.ref a) (.str z t) = pure false) hq) (.inr (by omega)) (fin_bl I q rfl)
section
variable {K : PySem.W.Frag}
def rEqTh (K : PySem.W.Frag) : R2 := fun x y H Q => rEqA K x y H Q ∨ rEqDS x y H Q
def rNeTh (K : PySem.W.Frag) : R2 := fun x y H Q => rNeA K x y H Q ∨ rNeDS x y H Q
theorem k_eqTh {X : Cx} (hK : X.K = K) (hu : X.A.units + 64 < cLine) : OpR X (compareOp .Eq) (rEqTh K) := OpR.or' (k_eq hK hu) (op_eqDS hu)
theorem k_neTh {X : Cx} (hK : X.K = K) (hu : X.A.units + 64 < cLine) : OpR X (compareOp .NotEq) (rNeTh K) := OpR.or' (k_ne hK hu) (op_neDS hu)
/-- what may stand beside a text -/
def Cmp (d : D) : Prop := (∃ ks ds, d = .dic ks ds) ∨ (d.isD = true ∧ SeqAt.shaped d.pd = true)
def isNm (z : Str) : D → Bool
  | .str y => decide (y = z)
  | _ => false
@[irreducible] def aEqTh (f : Bool → Bool) : D → D → Nat → (D → Nat → Prop) → Prop := fun d e n Q => ∃ z, e = .str z ∧ Cmp d ∧ PyData.canLay0 (.str z) = true ∧ Q (.bl (f (isNm z d))) n
theorem cmp_eq {z : Str} {d : D} (h : d.isD = true ∧ SeqAt.shaped d.pd = true) (hz : PyData.canLay0 (.str z) = true) {f : Bool → Bool} {n : Nat} {Q : D → Nat → Prop} (q : Q (.bl (f (isNm z d))) n) : aEq f d (.str z) n Q := by
  have sz : SeqAt.shaped (PyData.str z) = true := by
    unfold SeqAt.shaped
    exact Bool.and_eq_true_iff.mpr ⟨hz, decide_eq_true (Nat.zero_le _)⟩
  cases d with
  | str y => exact q
  | non => exact q
  | bl b => exact q
  | int i => exact q
  | tup ds => exact ⟨⟨h.1, rfl, h.2, sz⟩, q⟩
  | lst ds => exact ⟨⟨h.1, rfl, h.2, sz⟩, q⟩
  | _ => cases h.1
instance : D2 K (rEqTh K) (aEqTh id) := ⟨fun W n H x y d e Q Qa hQ o ax ay h => by
  unfold aEqTh at h
  obtain ⟨z, rfl, hc, hz, q⟩ := h
  rcases hc with ⟨ks, ds, rfl⟩ | hc
  · cases ay
    cases ax with
    | dic r s e a => exact .inr ⟨z, _, _, rfl, rfl, s, hQ.now o q (.bl _)⟩
  · exact .inl (D2.run (r := rEqA K) (f := aEq id) W n H x y d (.str z) Q Qa hQ o ax ay (cmp_eq hc hz q))⟩
instance : D2 K (rNeTh K) (aEqTh not) := ⟨fun W n H x y d e Q Qa hQ o ax ay h => by
  unfold aEqTh at h
  obtain ⟨z, rfl, hc, hz, q⟩ := h
  rcases hc with ⟨ks, ds, rfl⟩ | hc
  · cases ay
    cases ax with
    | dic r s e a => exact .inr ⟨z, _, _, rfl, rfl, s, hQ.now o q (.bl _)⟩
  · exact .inl (D2.run (r := rNeA K) (f := aEq not) W n H x y d (.str z) Q Qa hQ o ax ay (cmp_eq hc hz q))⟩
end

/-! ### sorted texts, a new dict -/
section
variable {K : PySem.W.Frag}
def aSrtS : List D → Nat → (D → Nat → Prop) → Prop := fun ds n Q => ∃ zs : List Str, ds = [.lst (zs.map D.str)] ∧ zs.length < 64 ∧ ∀ ys : List Str, ys.Perm zs → sortedS ys = true → Q (.lst (ys.map D.str)) n
theorem txs_at {W : Wd} {H : Hp} : ∀ {zs : List Str} {us : List V}, AtAll K W H us (zs.map D.str) → us = zs.map V.str
  | [], _, h => by cases h; rfl
  | z :: zs, _, h => by
    cases h with
    | cons a r =>
      cases a
      rw [List.map_cons, ← txs_at r]
theorem at_txs {W : Wd} {H : Hp} : ∀ (zs : List Str), AtAll K W H (zs.map V.str) (zs.map D.str)
  | [] => .nil
  | z :: zs => .cons (.str z) (at_txs zs)
instance : DL K (rSrtS K) aSrtS := ⟨fun W n H xs ds Q Qa hQ o a h => by
  obtain ⟨zs, rfl, hl, h⟩ := h
  cases a with
  | cons a r =>
    cases r
    cases a with
    | @lst l us _ nr s a =>
      obtain rfl := txs_at a
      exact ⟨l, zs, rfl, SqL.of s, hl, fun ys p hp hs hn => hQ.new o (h ys hp hs) hn (.lst (o.fresh hn) upd_same (at_txs ys))⟩⟩
def aDNew : AE := fun _ n Q => Q (.dic [] []) n
instance : DE K tDNewK aDNew := ⟨fun W σ ρ n H Q Qa hQ hE o h p hp => hQ.new o h hp (.dic (ks := []) (xs := []) (o.fresh hp) upd_same rfl .nil)⟩
end

section
variable {P : Program} {w : World} {K : PySem.W.Frag} {mg : Str → Option Value} {base : Heap} {A : Ad}
/-! CUT -/
/-! ### shares in the mirror -/
def sh (q : Rat) : D := .tup [.int q.num, .int (q.den : Int)]
theorem sh_of {t u a b : Int} (h : IsSh t u) (hb : b ≠ 0) (c : t * b = u * a) : D.tup [.int t, .int u] = sh (Rat.divInt a b) := by
  obtain ⟨h1, h2⟩ := rep_divInt h hb c
  rw [h1, h2]
  rfl
theorem mulA {n m : Nat} {x y : Int} (h : Bd n x) (g : Bd m y) (hn : n ≤ 400000) (hm : m ≤ 400000) : CMulA x y := .inr (h.mulW g hn hm)
theorem divA {n : Nat} {x y : Int} (h : Bd n y) (h0 : 0 < y) (hn : n < 9000) : CDivA x y := .inr (h.divW h0 hn)
theorem dIte {p : Prop} [Decidable p] {a b : Prop} (h : p → a) (g : ¬ p → b) : aIte (decide p) a b := ⟨fun e => h (of_decide_eq_true e), fun e => g (of_decide_eq_false e)⟩
/-! ### bounds of a fraction's two numbers, each by itself -/
def Bq (n d : Nat) (q : Rat) : Prop := Bd n q.num ∧ Bd d (q.den : Int)
theorem BdQ.q {n : Nat} {q : Rat} (h : BdQ n q) : Bq n n q := h
theorem Bq.b {n d : Nat} {q : Rat} (h : Bq n d q) (l : d ≤ n) : BdQ n q := ⟨h.1, h.2.le l⟩
theorem Bq.le {n d m e : Nat} {q : Rat} (h : Bq n d q) (l : n ≤ m) (k : d ≤ e) : Bq m e q := ⟨h.1.le l, h.2.le k⟩
theorem divInt_bq {a b : Int} {n d : Nat} (hb : 0 < b) (ha : Bd n a) (hn : Bd d b) : Bq n d (Rat.divInt a b) := by
  have h := low_bd (isSh_q (Rat.divInt a b)) hb (by rw [← divInt_cross (by omega), Int.mul_comm])
  exact ⟨ha.of_le h.1, hn.of_le h.2⟩
theorem Bq.add {n d m e s : Nat} {p q : Rat} (h : Bq n d p) (g : Bq m e q) (h1 : n + e ≤ s) (h2 : m + d ≤ s) : Bq (s + 1) (d + e) (p + q) := by
  rw [add_divInt]
  exact divInt_bq (Int.mul_pos (den_pos p) (den_pos q)) (((h.1.mul g.2).le h1).add ((g.1.mul h.2).le h2)) (h.2.mul g.2)
theorem Bq.mul {n d m e : Nat} {p q : Rat} (h : Bq n d p) (g : Bq m e q) : Bq (n + m) (d + e) (p * q) := by
  rw [mul_divInt]
  exact divInt_bq (Int.mul_pos (den_pos p) (den_pos q)) (h.1.mul g.1) (h.2.mul g.2)
theorem Bq.neg {n d : Nat} {q : Rat} (h : Bq n d q) : Bq n d (-q) := by
  refine ⟨?_, h.2⟩
  rw [Rat.neg_num]
  exact h.1.neg
theorem Bq.sub {n d m e s : Nat} {p q : Rat} (h : Bq n d p) (g : Bq m e q) (h1 : n + e ≤ s) (h2 : m + d ≤ s) : Bq (s + 1) (d + e) (p - q) := by
  rw [Rat.sub_eq_add_neg]
  exact h.add g.neg h1 h2
theorem bq_int {n : Nat} {p : Int} (h : Bd n p) : Bq n 1 (p : Rat) := ⟨h, by show Bd 1 1; unfold Bd; decide⟩

def a_gcd : ASp := fun ds n Q => ∃ a b : Int, ds = [.int a, .int b] ∧ Q (.int (gcdI a b)) n
/-! ### common divisors of numbers of any length -/
def rSrtI (K : PySem.W.Frag) : List V → Hp → VK → Prop := rSorted K
theorem k_sortI {X : Cx} (hK : X.K = K) : CallR X (.builtin "sorted") (rSrtI K) := hK ▸ cr_sorted
def aSrtI : List D → Nat → (D → Nat → Prop) → Prop := fun ds n Q => ∃ ns : List Int, ds = [.lst (ns.map D.int)] ∧ ns.length < 64 ∧ ∀ ys : List Int, ys.Perm ns → ys.Pairwise (· ≤ ·) → Q (.lst (ys.map D.int)) n
instance : DL K (rSrtI K) aSrtI := ⟨fun W n H xs ds Q Qa hQ o a h => by
  obtain ⟨zs, rfl, hl, h⟩ := h
  cases a with
  | cons a r =>
    cases r
    cases a with
    | @lst l us _ nr s a =>
      obtain rfl := ints_at a
      exact ⟨l, zs, rfl, SqL.of s, hl, fun ys p hp hs hn => hQ.new o (h ys hp hs) hn (.lst (o.fresh hn) upd_same (at_ints ys))⟩⟩
/-! ### long numbers: what a run of divided keeps -/
structure LI (x0 y0 x y a b c d e p q r t : Int) : Prop where
  ee : e = 1 ∨ e = -1
  ha : a = e * p
  hb : b = -(e * q)
  hc : c = -(e * r)
  hd : d = e * t
  p0 : 0 ≤ p
  q0 : 0 ≤ q
  r0 : 0 ≤ r
  t1 : 1 ≤ t
  hx : x0 = t * x + q * y
  hy : y0 = r * x + p * y
  det : p * t - q * r = e
  y0' : 0 ≤ y
  yx : y ≤ x
  fst : (p = 1 ∧ q = 0 ∧ r = 0 ∧ t = 1) ∨ (1 ≤ q ∧ q ≤ t ∧ 1 ≤ r ∧ r ≤ t ∧ p ≤ q ∧ y < x ∧ 1152921504606846976 ≤ x ∧ (1 ≤ p ∨ (r = 1 ∧ e = -1)))
theorem LI.start {x0 y0 : Int} (h : 0 ≤ y0) (h2 : y0 ≤ x0) : LI x0 y0 x0 y0 1 0 0 1 1 1 0 0 1 :=
  ⟨.inl rfl, rfl, rfl, rfl, rfl, by decide, by decide, by decide, by decide, by omega, by omega, rfl, h, h2, .inl ⟨rfl, rfl, rfl, rfl⟩⟩
theorem LI.step {x0 y0 x y a b c d e p q r t : Int} (h : LI x0 y0 x y a b c d e p q r t) (hy : 1152921504606846976 ≤ y) :
    LI x0 y0 y (x - x / y * y) c d (a - x / y * c) (b - x / y * d) (-e) r t (p + x / y * r) (q + x / y * t) ∧ x - x / y * y < y := by
  obtain ⟨ee, ha, hb, hc, hd, p0, q0, r0, t1, hx, hY, det, y0', yx, fst⟩ := h
  have hm : 1 ≤ x / y := Int.le_ediv_of_mul_le (by omega) (by omega)
  have hr0 : 0 ≤ x - x / y * y := by
    have := Int.mul_ediv_self_le (x := x) (k := y) (by omega)
    rw [Int.mul_comm] at this
    omega
  have hr1 : x - x / y * y < y := by
    have h1 := Int.lt_mul_ediv_self_add (x := x) (k := y) (by omega)
    rw [Int.mul_comm] at h1
    omega
  obtain ⟨m, hme⟩ : ∃ m, x / y = m := ⟨_, rfl⟩
  rw [hme] at hm hr0 hr1 ⊢
  have mt : t ≤ m * t := by
    have := Int.mul_le_mul_of_nonneg_right hm (show 0 ≤ t by omega)
    omega
  have mr : r ≤ m * r := by
    have := Int.mul_le_mul_of_nonneg_right hm r0
    omega
  refine ⟨⟨by omega, by grind, by grind, by grind, by grind, r0, by omega, by omega, by omega, by grind, by grind, by grind, hr0, by omega, .inr ?_⟩, hr1⟩
  rcases fst with ⟨rfl, rfl, rfl, rfl⟩ | ⟨f1, f2, f3, f4, f5, f6, f7, f8⟩
  · exact ⟨t1, by omega, by omega, by omega, by omega, hr1, hy, .inr ⟨by omega, by omega⟩⟩
  · have h3 : m * r ≤ m * t := Int.mul_le_mul_of_nonneg_left f4 (by omega)
    exact ⟨t1, by omega, by omega, by omega, f4, hr1, hy, .inl f3⟩
/-- what the two new numbers are worth -/
theorem LI.worth {x0 y0 x y a b c d e p q r t S u v e1 e2 : Int} (h : LI x0 y0 x y a b c d e p q r t) (hu : u = S * x0 + e1) (hv : v = S * y0 + e2) :
    a * u + b * v = S * x + e * (p * e1 - q * e2) ∧ c * u + d * v = S * y + e * (t * e2 - r * e1) := by
  obtain ⟨ee, ha, hb, hc, hd, p0, q0, r0, t1, hx, hY, det, y0', yx, fst⟩ := h
  clear fst yx y0' t1 r0 q0 p0
  subst hu hv ha hb hc hd hx hY
  have d1 : p * t = e + q * r := by omega
  have hee : e * e = 1 := by rcases ee with rfl | rfl <;> rfl
  constructor
  · have : e * p * (S * (t * x + q * y) + e1) + -(e * q) * (S * (r * x + p * y) + e2) = e * (S * x) * (p * t - q * r) + e * (p * e1 - q * e2) := by grind
    rw [this, det]
    have : e * (S * x) * e = (e * e) * (S * x) := by grind
    rw [this, hee, Int.one_mul]
  · have : -(e * r) * (S * (t * x + q * y) + e1) + e * t * (S * (r * x + p * y) + e2) = e * (S * y) * (p * t - q * r) + e * (t * e2 - r * e1) := by grind
    rw [this, det]
    have : e * (S * y) * e = (e * e) * (S * y) := by grind
    rw [this, hee, Int.one_mul]
/-- the numbers become less -/
theorem LI.less {x0 y0 x y a b c d e p q r t S u v e1 e2 : Int} (h : LI x0 y0 x y a b c d e p q r t) (hu : u = S * x0 + e1) (hv : v = S * y0 + e2)
    (S0 : 0 < S) (l1 : 0 ≤ e1) (u1 : e1 < S) (l2 : 0 ≤ e2) (u2 : e2 < S) (hb : b ≠ 0) (hx0 : x0 < 1329227995784915872903807060280344576) (hy : y < 1152921504606846976) :
    (c * u + d * v).natAbs < v.natAbs ∧ (a * u + b * v).natAbs ≤ 2 * v.natAbs := by
  obtain ⟨w1, w2⟩ := h.worth hu hv
  obtain ⟨ee, ha, hb', hc, hd, p0, q0, r0, t1, hx, hY, det, y0', yx, fst⟩ := h
  rcases fst with ⟨rfl, rfl, rfl, rfl⟩ | ⟨f1, f2, f3, f4, f5, f6, f7, f8⟩
  · exact absurd (by rw [hb']; simp) hb
  · have qy : 0 ≤ q * y := Int.mul_nonneg q0 y0'
    have py : 0 ≤ p * y := Int.mul_nonneg p0 y0'
    have tx : t < 1152921504606846976 := by
      rcases Int.lt_or_le t 1152921504606846976 with z | z
      · exact z
      · have := Int.mul_le_mul z f7 (by decide) (by omega)
        omega
    have rx : x ≤ r * x := by
      have := Int.mul_le_mul_of_nonneg_right f3 (show 0 ≤ x by omega)
      omega
    have y0x : x ≤ y0 := by omega
    have Sx : S * x ≤ S * y0 := Int.mul_le_mul_of_nonneg_left y0x (by omega)
    have Sx0 : 0 ≤ S * x := Int.mul_nonneg (by omega) (by omega)
    have Sy0 : 0 ≤ S * y := Int.mul_nonneg (by omega) (by omega)
    have te : t * e2 ≤ t * (S - 1) := Int.mul_le_mul_of_nonneg_left (by omega) (by omega)
    have re : r * e1 ≤ r * (S - 1) := Int.mul_le_mul_of_nonneg_left (by omega) (by omega)
    have pe : p * e1 ≤ p * (S - 1) := Int.mul_le_mul_of_nonneg_left (by omega) (by omega)
    have qe : q * e2 ≤ q * (S - 1) := Int.mul_le_mul_of_nonneg_left (by omega) (by omega)
    have te0 : 0 ≤ t * e2 := Int.mul_nonneg (by omega) l2
    have re0 : 0 ≤ r * e1 := Int.mul_nonneg (by omega) l1
    have pe0 : 0 ≤ p * e1 := Int.mul_nonneg (by omega) l1
    have qe0 : 0 ≤ q * e2 := Int.mul_nonneg (by omega) l2
    have tS : t * S ≤ S * (x - 1) := by
      rw [Int.mul_comm]
      exact Int.mul_le_mul_of_nonneg_left (by omega) (by omega)
    have rS : r * S ≤ t * S := Int.mul_le_mul_of_nonneg_right f4 (by omega)
    have qS : q * S ≤ t * S := Int.mul_le_mul_of_nonneg_right f2 (by omega)
    have pS : p * S ≤ q * S := Int.mul_le_mul_of_nonneg_right f5 (by omega)
    have eS1 : t * (S - 1) = t * S - t := by grind
    have eS2 : r * (S - 1) = r * S - r := by grind
    have eS3 : p * (S - 1) = p * S - p := by grind
    have eS4 : q * (S - 1) = q * S - q := by grind
    have eS5 : S * (x - 1) = S * x - S := by grind
    rw [w1, w2]
    have eq1 : S * y0 = S * (r * x) + S * (p * y) := by rw [hY]; grind
    have Srx : S * x ≤ S * (r * x) := Int.mul_le_mul_of_nonneg_left rx (by omega)
    have Spy0 : 0 ≤ S * (p * y) := Int.mul_nonneg (by omega) py
    refine ⟨?_, ?_⟩
    · rcases f8 with f8 | ⟨f8, f9⟩
      · have : y ≤ p * y := by
          have := Int.mul_le_mul_of_nonneg_right f8 y0'
          omega
        have Spy : S * y ≤ S * (p * y) := Int.mul_le_mul_of_nonneg_left this (by omega)
        rcases ee with rfl | rfl <;> omega
      · subst f8 f9
        have : S * y ≤ S * (x - 1) := Int.mul_le_mul_of_nonneg_left (by omega) (by omega)
        omega
    · rcases ee with rfl | rfl <;> omega
/-- the divisor stays -/
theorem gcdI_uni {a b c d u v e : Int} (h : a * d - b * c = e) (he : e = 1 ∨ e = -1) : gcdI (a * u + b * v) (c * u + d * v) = gcdI u v := by
  unfold gcdI
  congr 1
  apply Nat.dvd_antisymm
  · have h1 : ((Nat.gcd (a * u + b * v).natAbs (c * u + d * v).natAbs : Nat) : Int) ∣ a * u + b * v := Int.ofNat_dvd_left.mpr (Nat.gcd_dvd_left _ _)
    have h2 : ((Nat.gcd (a * u + b * v).natAbs (c * u + d * v).natAbs : Nat) : Int) ∣ c * u + d * v := Int.ofNat_dvd_left.mpr (Nat.gcd_dvd_right _ _)
    generalize ((Nat.gcd (a * u + b * v).natAbs (c * u + d * v).natAbs : Nat)) = g at *
    have k1 : (g : Int) ∣ u := by
      have h3 : e * u = d * (a * u + b * v) - b * (c * u + d * v) := by grind
      have h4 : (g : Int) ∣ e * u := h3 ▸ Int.dvd_sub (Int.dvd_mul_of_dvd_right h1) (Int.dvd_mul_of_dvd_right h2)
      rcases he with rfl | rfl
      · simpa using h4
      · simpa using h4
    have k2 : (g : Int) ∣ v := by
      have h3 : e * v = a * (c * u + d * v) - c * (a * u + b * v) := by grind
      have h4 : (g : Int) ∣ e * v := h3 ▸ Int.dvd_sub (Int.dvd_mul_of_dvd_right h2) (Int.dvd_mul_of_dvd_right h1)
      rcases he with rfl | rfl
      · simpa using h4
      · simpa using h4
    exact Nat.dvd_gcd (Int.ofNat_dvd_left.mp k1) (Int.ofNat_dvd_left.mp k2)
  · have h1 : ((Nat.gcd u.natAbs v.natAbs : Nat) : Int) ∣ u := Int.ofNat_dvd_left.mpr (Nat.gcd_dvd_left _ _)
    have h2 : ((Nat.gcd u.natAbs v.natAbs : Nat) : Int) ∣ v := Int.ofNat_dvd_left.mpr (Nat.gcd_dvd_right _ _)
    generalize (Nat.gcd u.natAbs v.natAbs : Nat) = g at *
    exact Nat.dvd_gcd (Int.ofNat_dvd_left.mp (Int.dvd_add (Int.dvd_mul_of_dvd_right h1) (Int.dvd_mul_of_dvd_right h2))) (Int.ofNat_dvd_left.mp (Int.dvd_add (Int.dvd_mul_of_dvd_right h1) (Int.dvd_mul_of_dvd_right h2)))

def shiftOf (u : Int) : Nat := Builtin.Int.intBits u - 120
theorem bits_lt (u : Int) : u.natAbs < 2 ^ Builtin.Int.intBits u := by
  unfold Builtin.Int.intBits
  split
  · rename_i h
    have : u = 0 := by simpa using h
    subst this
    decide
  · exact Nat.lt_log2_self
theorem top_lt {u : Int} (h0 : 0 ≤ u) (hl : 120 ≤ Builtin.Int.intBits u) : u / 2 ^ shiftOf u < 1329227995784915872903807060280344576 := by
  have h1 := bits_lt u
  have e : Builtin.Int.intBits u = 120 + shiftOf u := by unfold shiftOf; omega
  rw [e, Nat.pow_add] at h1
  refine Int.ediv_lt_of_lt_mul (Int.pow_pos (by decide)) ?_
  have h2 : ((u.natAbs : Nat) : Int) < ((2 ^ 120 * 2 ^ shiftOf u : Nat) : Int) := Int.ofNat_lt.mpr h1
  rw [Int.natCast_mul, Int.natCast_pow, Int.natCast_pow] at h2
  have h3 : ((u.natAbs : Nat) : Int) = u := by omega
  rw [h3] at h2
  exact h2
theorem bd120 {k : Int} (h0 : 0 ≤ k) (h : k < 1329227995784915872903807060280344576) : Bd 121 k := by
  unfold Bd
  have : (2 : Nat) ^ 121 = 2658455991569831745807614120560689152 := by decide
  omega
theorem LI.small {x0 y0 x y a b c d e p q r t : Int} (h : LI x0 y0 x y a b c d e p q r t) (hx0 : x0 < 1329227995784915872903807060280344576) (h1 : 1 ≤ x) : x < 1329227995784915872903807060280344576 ∧ Bd 121 c ∧ Bd 121 d ∧ Bd 121 a ∧ Bd 121 b := by
  obtain ⟨ee, ha, hb, hc, hd, p0, q0, r0, t1, hx, hY, det, y0', yx, fst⟩ := h
  have qy : 0 ≤ q * y := Int.mul_nonneg q0 y0'
  have tx : x ≤ t * x := by
    have := Int.mul_le_mul_of_nonneg_right t1 (show 0 ≤ x by omega)
    omega
  have tx2 : t ≤ t * x := by
    have := Int.mul_le_mul_of_nonneg_left h1 (show 0 ≤ t by omega)
    omega
  have rt : r ≤ t := by
    rcases fst with ⟨rfl, rfl, rfl, rfl⟩ | ⟨f1, f2, f3, f4, _⟩ <;> omega
  have br : Bd 121 r := bd120 r0 (by omega)
  have bt : Bd 121 t := bd120 (by omega) (by omega)
  have qt : q ≤ t ∧ p ≤ t := by
    rcases fst with ⟨rfl, rfl, rfl, rfl⟩ | ⟨f1, f2, f3, f4, f5, _⟩ <;> omega
  have bq : Bd 121 q := bd120 q0 (by omega)
  have bp : Bd 121 p := bd120 p0 (by omega)
  have sgn : ∀ z : Int, Bd 121 z → Bd 121 (e * z) := fun z hz => by
    rcases ee with rfl | rfl
    · rw [Int.one_mul]
      exact hz
    · rw [Int.neg_mul, Int.one_mul]
      exact hz.neg
  refine ⟨by omega, ?_, ?_, ?_, ?_⟩
  · rw [hc]
    exact (sgn r br).neg
  · rw [hd]
    exact sgn t bt
  · rw [ha]
    exact sgn p bp
  · rw [hb]
    exact (sgn q bq).neg
theorem log2_mono {a b : Nat} (h : a ≤ b) : a.log2 ≤ b.log2 := by
  by_cases h0 : a = 0
  · subst h0
    exact Nat.zero_le _
  · rw [Nat.le_log2 (by omega)]
    exact Nat.le_trans (Nat.log2_self_le h0) h
def a_p_divided : ASp := fun ds n Q => ∃ u v : Int, ds = [.int u, .int v] ∧ 0 ≤ v ∧ v ≤ u ∧ 120 ≤ Builtin.Int.intBits u ∧ ∀ x y a b c d e p q r t, LI (u / 2 ^ shiftOf u) (v / 2 ^ shiftOf u) x y a b c d e p q r t → y < 1152921504606846976 → Q (.tup [.int a, .int b, .int c, .int d]) n
theorem ok_p_divided (T : Tx K mg A) : FnOk P w K mg base CX0 1 A.f_p_divided A.fd_p_divided ["one", "other"] (spOf K 2 a_p_divided) := by
  refine fn_mir [] 10 rfl (by decide) (by decide) T.F_p_divided sc_p_divided fun cdv Ar outer s H E hr => ?_
  refine ⟨_, _, (pss_cons (ps_set (i := 2) sc_p_divided.nd rfl (.inl rfl) (pe_op op_sub (pe_bits (pv 0)) (pe_glob (v := .int 120) (by rfl) T.g_LEADING ⟨_, rfl⟩)))
    (pss_cons (ps_set (i := 3) sc_p_divided.nd rfl (.inl rfl) (pe_op op_shr (pv 0) (pv 2)))
    (pss_cons (ps_set (i := 4) sc_p_divided.nd rfl (.inl rfl) (pe_op op_shr (pv 1) (pv 2)))
    (pss_cons (ps_asg (pe_tup (pa_cons pe_int (pa_cons pe_int (pa_cons pe_int (pa_cons pe_int pa_nil))))) (k_gtup (K := K) (m := 4) rfl rfl (pgs_cons (pg_name (i := 5) sc_p_divided.nd rfl (.inl rfl)) (pgs_cons (pg_name (i := 6) sc_p_divided.nd rfl (.inl rfl)) (pgs_cons (pg_name (i := 7) sc_p_divided.nd rfl (.inl rfl)) (pgs_cons (pg_name (i := 8) sc_p_divided.nd rfl (.inl rfl)) pgs_nil))))))
    (pss_cons (ps_while PassesOwn.never (pt_cmpR (k_ne (K := K) rfl hr.units) (pe_op op_shr (pv 4) (pe_op k_fdiv (pe_glob (v := .int 120) (by rfl) T.g_LEADING ⟨_, rfl⟩) pe_int)) pe_int (nomark _))
      (pss_cons (ps_set (i := 9) sc_p_divided.nd rfl (.inl rfl) (pe_op k_fdiv (pv 3) (pv 4)))
    (pss_cons (ps_par (i := 3) (j := 4) (by rfl) sc_p_divided.nd rfl rfl (by decide) rfl rfl (pa_cons (pv 4) (pa_cons (pe_op op_sub (pv 3) (pe_op k_mul (pv 9) (pv 4))) pa_nil)) (by rfl))
    (pss_cons (ps_par (i := 5) (j := 7) (by rfl) sc_p_divided.nd rfl rfl (by decide) rfl rfl (pa_cons (pv 7) (pa_cons (pe_op op_sub (pv 5) (pe_op k_mul (pv 9) (pv 7))) pa_nil)) (by rfl))
    (pss_one (ps_par (i := 6) (j := 8) (by rfl) sc_p_divided.nd rfl rfl (by decide) rfl rfl (pa_cons (pv 8) (pa_cons (pe_op op_sub (pv 6) (pe_op k_mul (pv 9) (pv 8))) pa_nil)) (by rfl)))))))
    (pss_one (ps_ret (pe_tup (pa_cons (pv 5) (pa_cons (pv 6) (pa_cons (pv 7) (pa_cons (pv 8) pa_nil)))))))))))), by infer_instance, fun ds n Q hl hA => ?_⟩
  obtain ⟨u, v, rfl, v0, vu, hl, Qk⟩ := hA
  have e1 : ((Builtin.Int.intBits u : Nat) : Int) - 120 = ((shiftOf u : Nat) : Int) := by unfold shiftOf; omega
  have e2 : (((Builtin.Int.intBits u : Nat) : Int) - 120).toNat = shiftOf u := by rw [e1]; rfl
  have hs : (0 : Int) ≤ ((Builtin.Int.intBits u : Nat) : Int) - 120 := by omega
  have hS : (0 : Int) < 2 ^ shiftOf u := Int.pow_pos (by decide)
  have hx0 := top_lt (Int.le_trans v0 vu) hl
  refine ⟨hs, hs, ?_⟩
  refine ⟨fun m ρ n' => ∃ x y a b c d e p q r t y9, ρ = [some (.int u), some (.int v), some (.int (((Builtin.Int.intBits u : Nat) : Int) - 120)), some (.int x), some (.int y), some (.int a), some (.int b), some (.int c), some (.int d), y9] ∧ m = y.toNat ∧ n' = n ∧ LI (u / 2 ^ shiftOf u) (v / 2 ^ shiftOf u) x y a b c d e p q r t, ?_, ?_⟩
  · refine ⟨_, u / 2 ^ shiftOf u, v / 2 ^ shiftOf u, 1, 0, 0, 1, 1, 1, 0, 0, 1, none, ?_, rfl, rfl, LI.start (Int.ediv_nonneg v0 (by omega)) (Int.ediv_le_ediv hS vu)⟩
    rw [← e2]
    rfl
  · rintro m _ _ ⟨x, y, a, b, c, d, e, p, q, r, t, y9, rfl, rfl, rfl, hI⟩
    have e60 : (2 : Int) ^ ((120 : Int) / 2).toNat = 1152921504606846976 := by decide
    refine ⟨.inl ⟨by decide, by decide⟩, (show (0 : Int) ≤ 120 / 2 by decide), ?_⟩
    refine ⟨fun h => ?_, fun h => ?_⟩
    · have h2 : decide (y / 2 ^ ((120 : Int) / 2).toNat = 0) = false := by simpa using h
      rw [e60] at h2
      have h3 := of_decide_eq_false h2
      have hy : 1152921504606846976 ≤ y := by
        have := hI.y0'
        rcases Int.lt_or_le y 1152921504606846976 with z | z
        · exact absurd (Int.ediv_eq_zero_of_lt this z) h3
        · exact z
      obtain ⟨s1, s2⟩ := hI.step hy
      have yx := hI.yx
      obtain ⟨f1, f2, f3, _, _⟩ := hI.small hx0 (by omega)
      refine ⟨divA (n := 121) (bd120 (by omega) (by omega)) (by omega) (by decide), ?_⟩
      have bm : Bd 121 (x / y) := bd120 (Int.ediv_nonneg (by omega) (by omega)) (Int.lt_of_le_of_lt (Int.ediv_le_self _ (by omega)) f1)
      refine ⟨mulA bm (bd120 (k := y) (by omega) (by omega)) (by decide) (by decide), mulA bm f2 (by decide) (by decide), mulA bm f3 (by decide) (by decide), ?_⟩
      exact ⟨(x - x / y * y).toNat, by have := s1.y0'; omega, _, _, _, _, _, _, _, _, _, _, _, _, rfl, rfl, rfl, s1⟩
    · have h2 : decide (y / 2 ^ ((120 : Int) / 2).toNat = 0) = true := by simpa using h
      rw [e60] at h2
      have h3 := of_decide_eq_true h2
      have hy : y < 1152921504606846976 := by omega
      exact Qk _ _ _ _ _ _ _ _ _ _ _ hI hy

theorem abs_is (b : Int) : (if b < 0 then -b else b) = ((b.natAbs : Nat) : Int) := by split <;> omega
theorem gcdI_abs (a b : Int) : gcdI ((a.natAbs : Nat) : Int) ((b.natAbs : Nat) : Int) = gcdI a b := by
  unfold gcdI
  rw [Int.natAbs_natCast, Int.natAbs_natCast]
theorem gcdI_mod {a b : Int} (ha : 0 ≤ a) (hb : 0 ≤ b) : gcdI b (a % b) = gcdI a b := by
  obtain ⟨x, rfl⟩ := Int.eq_ofNat_of_zero_le ha
  obtain ⟨y, rfl⟩ := Int.eq_ofNat_of_zero_le hb
  unfold gcdI
  rw [← Int.natCast_emod, Int.natAbs_natCast, Int.natAbs_natCast, Int.natAbs_natCast, Nat.gcd_comm x y, Nat.gcd_rec y x, Nat.gcd_comm]
theorem LI.uni {x0 y0 x y a b c d e p q r t : Int} (h : LI x0 y0 x y a b c d e p q r t) : a * d - b * c = e := by
  obtain ⟨ee, ha, hb, hc, hd, p0, q0, r0, t1, hx, hY, det, y0', yx, fst⟩ := h
  rcases ee with rfl | rfl <;> subst ha hb hc hd <;> grind
def a_p_shortened : ASp := fun ds n Q => ∃ u v : Int, ds = [.int u, .int v] ∧ 0 ≤ v ∧ v ≤ u ∧ Bd 60000 u ∧ ∀ u' v' : Int, 0 ≤ v' → 0 ≤ u' → gcdI u' v' = gcdI u v → Q (.tup [.int u', .int v']) n
theorem ok_p_shortened (T : Tx K mg A) : FnOk P w K mg base CX0 2 A.f_p_shortened A.fd_p_shortened ["one", "other"] (spOf K 2 a_p_shortened) := by
  refine fn_mir [] 8 rfl (by decide) (by decide) T.F_p_shortened sc_p_shortened fun cdv Ar outer s H E hr => ?_
  refine ⟨_, _, (pss_cons (ps_while PassesOwn.never (pt_cmpR op_gt (pe_bits (pv 1)) (pe_glob (v := .int 4000) (by rfl) T.g_LENGTHY ⟨_, rfl⟩) (nomark _))
      (pss_cons (ps_asg (pe_call (ok_p_divided (P := P) (K := K) T) (hr.mono (by decide)) (by rfl) T.g_p_divided T.F_p_divided.kp T.b_p_divided .nil pass0 (pa_cons (pv 0) (pa_cons (pv 1) pa_nil))) (k_gtup (K := K) (m := 4) rfl rfl (pgs_cons (pg_name (i := 2) sc_p_shortened.nd rfl (.inl rfl)) (pgs_cons (pg_name (i := 3) sc_p_shortened.nd rfl (.inl rfl)) (pgs_cons (pg_name (i := 4) sc_p_shortened.nd rfl (.inl rfl)) (pgs_cons (pg_name (i := 5) sc_p_shortened.nd rfl (.inl rfl)) pgs_nil))))))
    (pss_one (ps_if (pt_cmpR (k_eq (K := K) rfl hr.units) (pv 3) pe_int (nomark _))
      (pss_one (ps_par (i := 0) (j := 1) (by rfl) sc_p_shortened.nd rfl rfl (by decide) rfl rfl (pa_cons (pv 1) (pa_cons (pe_op op_mod (pv 0) (pv 1)) pa_nil)) (by rfl)))
      (pss_cons (ps_asg (pe_callB (k_sortI (K := K) rfl) (by rfl) T.m_sorted (by decide +kernel) (pa_cons (pe_lst (pa_cons (pe_callB k_abs (by rfl) T.m_abs (by decide +kernel) (pa_cons (pe_op (k_add (K := K) rfl) (pe_op k_mul (pv 2) (pv 0)) (pe_op k_mul (pv 3) (pv 1))) pa_nil)) (pa_cons (pe_callB k_abs (by rfl) T.m_abs (by decide +kernel) (pa_cons (pe_op (k_add (K := K) rfl) (pe_op k_mul (pv 4) (pv 0)) (pe_op k_mul (pv 5) (pv 1))) pa_nil)) pa_nil))) pa_nil)) (k_gtup (K := K) (m := 2) rfl rfl (pgs_cons (pg_name (i := 6) sc_p_shortened.nd rfl (.inl rfl)) (pgs_cons (pg_name (i := 7) sc_p_shortened.nd rfl (.inl rfl)) pgs_nil))))
    (pss_one (ps_par (i := 0) (j := 1) (by rfl) sc_p_shortened.nd rfl rfl (by decide) rfl rfl (pa_cons (pv 7) (pa_cons (pv 6) pa_nil)) (by rfl))))))))
    (pss_one (ps_ret (pe_tup (pa_cons (pv 0) (pa_cons (pv 1) pa_nil)))))), by infer_instance, fun ds n Q hl hA => ?_⟩
  obtain ⟨u0, v0, rfl, hv0, hvu, bu, Qk⟩ := hA
  refine ⟨fun m ρ n' => ∃ u v y2 y3 y4 y5 y6 y7, ρ = [some (.int u), some (.int v), y2, y3, y4, y5, y6, y7] ∧ m = v.toNat ∧ n' = n ∧ 0 ≤ v ∧ v ≤ u ∧ Bd 60001 u ∧ Bd 60000 v ∧ gcdI u v = gcdI u0 v0, ⟨_, u0, v0, none, none, none, none, none, none, rfl, rfl, rfl, hv0, hvu, bu.le (by decide), bu.of_le (by omega), rfl⟩, ?_⟩
  rintro m _ _ ⟨u, v, y2, y3, y4, y5, y6, y7, rfl, rfl, rfl, hv, huv, bu, bv, hg⟩
  refine ⟨fun h => ?_, fun h => ?_⟩
  · have h4 : (4000 : Int) < ((Builtin.Int.intBits v : Nat) : Int) := of_decide_eq_true h
    have hbig : 120 ≤ Builtin.Int.intBits u := by
      have h5 : v.natAbs.log2 ≤ u.natAbs.log2 := log2_mono (by omega)
      unfold Builtin.Int.intBits at h4 ⊢
      split at h4
      · omega
      · rename_i z1
        have : ¬ ((u == 0) = true) := fun z2 => z1 (by
          have e1 : u = 0 := by simpa using z2
          have e2 : v = 0 := by omega
          simpa using e2)
        rw [if_neg this]
        omega
    have v1 : 0 < v := by
      rcases Int.lt_or_le 0 v with z | z
      · exact z
      · have e2 : v = 0 := by omega
        subst e2
        exact absurd h4 (by decide)
    refine ⟨u, v, rfl, hv, huv, hbig, fun x y a b c d e p q r t hI hy => ?_⟩
    have hS : (0 : Int) < 2 ^ shiftOf u := Int.pow_pos (by decide)
    have hx0 := top_lt (Int.le_trans hv huv) hbig
    refine dIte (fun hb => ?_) fun hb => ?_
    · exact ⟨v1, (u % v).toNat, by have := Int.emod_lt_of_pos u v1; have := Int.emod_nonneg u (show v ≠ 0 by omega); omega, v, u % v, _, _, _, _, _, _, rfl, rfl, rfl, Int.emod_nonneg _ (by omega), by have := Int.emod_lt_of_pos u v1; omega, bv.le (by decide), bv.of_le (by have := Int.emod_lt_of_pos u v1; have := Int.emod_nonneg u (show v ≠ 0 by omega); omega), (gcdI_mod (by omega) hv).trans hg⟩
    · have hx1 : 1 ≤ x := by
        rcases hI.fst with ⟨_, q0, _⟩ | ⟨_, _, _, _, _, _, f, _⟩
        · exact absurd (by rw [hI.hb, q0]; simp) hb
        · omega
      obtain ⟨f1, bc, bd, ba, bb⟩ := hI.small hx0 hx1
      obtain ⟨k1, k2⟩ := hI.less (u := u) (v := v) (S := 2 ^ shiftOf u) (e1 := u % 2 ^ shiftOf u) (e2 := v % 2 ^ shiftOf u) (Int.mul_ediv_add_emod u _).symm (Int.mul_ediv_add_emod v _).symm hS (Int.emod_nonneg _ (by omega)) (Int.emod_lt_of_pos _ hS) (Int.emod_nonneg _ (by omega)) (Int.emod_lt_of_pos _ hS) hb hx0 hy
      refine ⟨mulA ba bu (by decide) (by decide), mulA bb bv (by decide) (by decide), mulA bc bu (by decide) (by decide), mulA bd bv (by decide) (by decide), ?_⟩
      have gU := gcdI_uni (u := u) (v := v) hI.uni hI.ee
      refine ⟨[((a * u + b * v).natAbs : Int), ((c * u + d * v).natAbs : Int)], by rw [← abs_is, ← abs_is]; rfl, (show 2 < 64 by decide), fun ys hp ho => ?_⟩
      obtain ⟨lo, hi, rfl, hlh, hc⟩ : ∃ lo hi : Int, ys = [lo, hi] ∧ lo ≤ hi ∧ ((lo = ((a * u + b * v).natAbs : Int) ∧ hi = ((c * u + d * v).natAbs : Int)) ∨ (hi = ((a * u + b * v).natAbs : Int) ∧ lo = ((c * u + d * v).natAbs : Int))) := by
        match ys, hp, ho with
        | [], hp, _ => cases hp.length_eq
        | [_], hp, _ => cases hp.length_eq
        | [lo, hi], hp, ho =>
          refine ⟨lo, hi, rfl, by simpa using ho, ?_⟩
          have h1 : lo ∈ [((a * u + b * v).natAbs : Int), ((c * u + d * v).natAbs : Int)] := hp.mem_iff.mp (by simp)
          have h2 : hi ∈ [((a * u + b * v).natAbs : Int), ((c * u + d * v).natAbs : Int)] := hp.mem_iff.mp (by simp)
          have h3 : ((a * u + b * v).natAbs : Int) ∈ [lo, hi] := hp.mem_iff.mpr (by simp)
          have h4 : ((c * u + d * v).natAbs : Int) ∈ [lo, hi] := hp.mem_iff.mpr (by simp)
          simp only [List.mem_cons, List.not_mem_nil, or_false] at h1 h2 h3 h4
          omega
        | _ :: _ :: _ :: _, hp, _ => cases hp.length_eq
      have bv2 : Bd 60001 (2 * v) := by
        have h9 := bv.add bv
        have e9 : v + v = 2 * v := by omega
        rw [e9] at h9
        exact h9
      refine ⟨lo.toNat, ?_, hi, lo, _, _, _, _, _, _, rfl, rfl, rfl, ?_, hlh, bv2.of_le ?_, bv.of_le ?_, ?_⟩
      · omega
      · omega
      · omega
      · omega
      · rw [← hg, ← gU]
        rcases hc with ⟨rfl, rfl⟩ | ⟨rfl, rfl⟩
        · rw [gcdI_comm, gcdI_abs]
        · rw [gcdI_abs]
  · exact Qk u v hv (by omega) hg

def a_p_common_divisor : ASp := fun ds n Q => ∃ a b : Int, ds = [.int a, .int b] ∧ Bd 60000 a ∧ Bd 60000 b ∧ Q (.int (gcdI a b)) n
theorem ok_p_common_divisor (T : Tx K mg A) : FnOk P w K mg base CX0 3 A.f_p_common_divisor A.fd_p_common_divisor ["one", "other"] (spOf K 2 a_p_common_divisor) := by
  refine fn_mir [] 2 rfl (by decide) (by decide) T.F_p_common_divisor sc_p_common_divisor fun cdv Ar outer s H E hr => ?_
  refine ⟨_, _, (pss_cons (ps_set (i := 0) sc_p_common_divisor.nd rfl (.inl rfl) (pe_callB k_abs (by rfl) T.m_abs (by decide +kernel) (pa_cons (pv 0) pa_nil)))
    (pss_cons (ps_set (i := 1) sc_p_common_divisor.nd rfl (.inl rfl) (pe_callB k_abs (by rfl) T.m_abs (by decide +kernel) (pa_cons (pv 1) pa_nil)))
    (pss_cons (ps_if (PW.pt (pw_and (pt_cmpR op_gt (pe_bits (pv 0)) (pe_glob (v := .int 4000) (by rfl) T.g_LENGTHY ⟨_, rfl⟩) (nomark _)) (pw_and1 (pt_cmpR op_gt (pe_bits (pv 1)) (pe_glob (v := .int 4000) (by rfl) T.g_LENGTHY ⟨_, rfl⟩) (nomark _)))))
      (pss_one (ps_asg (pe_call (ok_p_shortened (P := P) (K := K) T) (hr.mono (by decide)) (by rfl) T.g_p_shortened T.F_p_shortened.kp T.b_p_shortened .nil pass0 (pa_cons (pe_callB (k_max2 rfl) (by rfl) T.m_max (by decide +kernel) (pa_cons (pv 0) (pa_cons (pv 1) pa_nil))) (pa_cons (pe_callB (k_min2 rfl) (by rfl) T.m_min (by decide +kernel) (pa_cons (pv 0) (pa_cons (pv 1) pa_nil))) pa_nil))) (k_gtup (K := K) (m := 2) rfl rfl (pgs_cons (pg_name (i := 0) sc_p_common_divisor.nd rfl (.inl rfl)) (pgs_cons (pg_name (i := 1) sc_p_common_divisor.nd rfl (.inl rfl)) pgs_nil)))))
      pss_nil)
    (pss_cons (ps_while PassesOwn.never (pt_cmpR (k_ne (K := K) rfl hr.units) (pv 1) pe_int (nomark _))
      (pss_one (ps_par (i := 0) (j := 1) (by rfl) sc_p_common_divisor.nd rfl rfl (by decide) rfl rfl (pa_cons (pv 1) (pa_cons (pe_op op_mod (pv 0) (pv 1)) pa_nil)) (by rfl))))
    (pss_one (ps_ret (pv 0))))))), by infer_instance, fun ds n Q hl hA => ?_⟩
  obtain ⟨a, b, rfl, ba, bb, q⟩ := hA
  have fin : ∀ u v : Int, 0 ≤ u → 0 ≤ v → gcdI u v = gcdI a b → aWhile (aTest (a2 (aEq not) (aVar 1) (aC (.int 0)))) (aPar [] 0 1 (aCons (aVar 1) (aCons (a2 (aInt2 (fun _ j => 0 < j) fun i j => .int (i % j)) (aVar 0) (aVar 1)) aNil))) { nx := fun ρ n => aRet (aVar 0) (aTop Q) ρ n, rt := Q } [some (.int u), some (.int v)] n := by
    intro u v hu hv hg
    obtain ⟨x0, rfl⟩ := Int.eq_ofNat_of_zero_le hu
    obtain ⟨y0, rfl⟩ := Int.eq_ofNat_of_zero_le hv
    have hg2 : Nat.gcd x0 y0 = Nat.gcd a.natAbs b.natAbs := by
      unfold gcdI at hg
      rw [Int.natAbs_natCast, Int.natAbs_natCast] at hg
      omega
    refine ⟨fun m ρ n' => ∃ x y : Nat, ρ = [some (.int (x : Int)), some (.int (y : Int))] ∧ m = y ∧ n' = n ∧ Nat.gcd x y = Nat.gcd a.natAbs b.natAbs, ⟨_, x0, y0, rfl, rfl, rfl, hg2⟩, ?_⟩
    rintro m _ _ ⟨x, y, rfl, rfl, rfl, g⟩
    refine ⟨fun h => ?_, fun h => ?_⟩
    · have hm : m ≠ 0 := fun z => by subst z; cases h
      refine ⟨(show (0 : Int) < m by omega), x % m, Nat.mod_lt _ (by omega), m, x % m, rfl, rfl, rfl, ?_⟩
      rw [← g, Nat.gcd_comm x m, Nat.gcd_rec m x, Nat.gcd_comm]
    · have hm : m = 0 := by
        have h2 : decide ((m : Int) = 0) = true := by
          have : (!decide ((m : Int) = 0)) = false := h
          simpa using this
        have := of_decide_eq_true h2
        omega
      subst hm
      have e : (x : Int) = gcdI a b := by
        unfold gcdI
        rw [← g, Nat.gcd_zero_right]
      show Q (.int (x : Int)) _
      rw [e]
      exact q
  have na : ∀ z : Int, Bd 60000 z → Bd 60000 (if z < 0 then -z else z) := fun z hz => by
    split
    · exact hz.neg
    · exact hz
  have nn : ∀ z : Int, 0 ≤ (if z < 0 then -z else z) := fun z => by split <;> omega
  have gab : gcdI (if a < 0 then -a else a) (if b < 0 then -b else b) = gcdI a b := by rw [abs_is, abs_is, gcdI_abs]
  refine dIte (fun _ => dIte (fun e => ?_) (fun _ => ?_)) (fun _ => aF ?_)
  · obtain ⟨x, hx⟩ : ∃ x, (if a < 0 then -a else a) = x := ⟨_, rfl⟩
    obtain ⟨y, hy⟩ : ∃ y, (if b < 0 then -b else b) = y := ⟨_, rfl⟩
    have bx := na a ba
    have bY := na b bb
    have nx := nn a
    have ny := nn b
    rw [hx] at bx nx gab ⊢
    rw [hy] at bY ny gab ⊢
    have hM : 0 ≤ (if y < x then y else x) ∧ (if y < x then y else x) ≤ (if y > x then y else x) ∧ Bd 60000 (if y > x then y else x) ∧ gcdI (if y > x then y else x) (if y < x then y else x) = gcdI a b := by
      by_cases h1 : y < x
      · rw [if_pos h1, if_neg (by omega)]
        exact ⟨ny, by omega, bx, gab⟩
      · rw [if_neg h1]
        by_cases h2 : y > x
        · rw [if_pos h2]
          exact ⟨nx, by omega, bY, by rw [gcdI_comm, gab]⟩
        · rw [if_neg h2]
          have : x = y := by omega
          subst this
          exact ⟨nx, by omega, bx, gab⟩
    exact ⟨_, _, rfl, hM.1, hM.2.1, hM.2.2.1, fun u' v' h1 h2 h3 => fin u' v' h2 h1 (h3.trans hM.2.2.2)⟩
  · exact fin _ _ (nn a) (nn b) gab
  · exact fin _ _ (nn a) (nn b) gab


def a_p_plus : ASp := fun ds n Q => ∃ (x y : Rat) (k d m e : Nat), ds = [sh x, sh y] ∧ Bq k d x ∧ Bq m e y ∧ k ≤ 25000 ∧ m ≤ 25000 ∧ d ≤ 25000 ∧ e ≤ 25000 ∧ (d ≤ 8900 ∨ e ≤ 8900) ∧ Q (sh (x + y)) n
theorem ok_p_plus (T : Tx K mg A) : FnOk P w K mg base CX0 4 A.f_p_plus A.fd_p_plus ["one", "other"] (spOf K 2 a_p_plus) := by
  refine fn_mir [] 9 rfl (by decide) (by decide) T.F_p_plus sc_p_plus fun cdv Ar outer s H E hr => ?_
  refine ⟨_, _, (pss_cons (ps_asg (pv 0) (k_gtup (K := K) (m := 2) rfl rfl (pgs_cons (pg_name (i := 2) sc_p_plus.nd rfl (.inl rfl)) (pgs_cons (pg_name (i := 3) sc_p_plus.nd rfl (.inl rfl)) pgs_nil))))
    (pss_cons (ps_asg (pv 1) (k_gtup (K := K) (m := 2) rfl rfl (pgs_cons (pg_name (i := 4) sc_p_plus.nd rfl (.inl rfl)) (pgs_cons (pg_name (i := 5) sc_p_plus.nd rfl (.inl rfl)) pgs_nil))))
    (pss_cons (ps_set (i := 6) sc_p_plus.nd rfl (.inl rfl) (pe_call (ok_p_common_divisor (P := P) (K := K) T) (hr.mono (by decide)) (by rfl) T.g_p_common_divisor T.F_p_common_divisor.kp T.b_p_common_divisor .nil pass0 (pa_cons (pv 3) (pa_cons (pv 5) pa_nil))))
    (pss_cons (ps_if (pt_cmpR (k_eq (K := K) rfl hr.units) (pv 6) pe_int (nomark _))
      (pss_one (ps_ret (pe_tup (pa_cons (pe_op (k_add (K := K) rfl) (pe_op k_mul (pv 2) (pv 5)) (pe_op k_mul (pv 4) (pv 3))) (pa_cons (pe_op k_mul (pv 3) (pv 5)) pa_nil)))))
      pss_nil)
    (pss_cons (ps_set (i := 7) sc_p_plus.nd rfl (.inl rfl) (pe_op (k_add (K := K) rfl) (pe_op k_mul (pv 2) (pe_op k_fdiv (pv 5) (pv 6))) (pe_op k_mul (pv 4) (pe_op k_fdiv (pv 3) (pv 6)))))
    (pss_cons (ps_set (i := 8) sc_p_plus.nd rfl (.inl rfl) (pe_call (ok_p_common_divisor (P := P) (K := K) T) (hr.mono (by decide)) (by rfl) T.g_p_common_divisor T.F_p_common_divisor.kp T.b_p_common_divisor .nil pass0 (pa_cons (pv 7) (pa_cons (pv 6) pa_nil))))
    (pss_one (ps_ret (pe_tup (pa_cons (pe_op k_fdiv (pv 7) (pv 8)) (pa_cons (pe_op k_mul (pe_op k_fdiv (pv 3) (pv 6)) (pe_op k_fdiv (pv 5) (pv 8))) pa_nil))))))))))), by infer_instance, fun ds n Q hl hA => ?_⟩
  obtain ⟨x, y, k, j, m, i, rfl, bx, bY, hk, hm, hj, hi, hji, q⟩ := hA
  have hx := isSh_q x
  have hy := isSh_q y
  have dx := den_pos x
  have dy := den_pos y
  refine ⟨(x.den : Int), (y.den : Int), rfl, bx.2.le (by omega), bY.2.le (by omega), ?_⟩
  refine dIte (fun e => ?_) (fun e => ?_)
  · refine ⟨mulA bx.1 bY.2 (by omega) (by omega), mulA bY.1 bx.2 (by omega) (by omega), mulA bx.2 bY.2 (by omega) (by omega), ?_⟩
    show Q (.tup [.int (x.num * y.den + y.num * x.den), .int ((x.den : Int) * y.den)]) n
    rw [sh_of (plus_one hx hy e) (by have := Int.mul_pos dx dy; omega) (Int.mul_comm _ _), ← add_divInt]
    exact q
  · obtain ⟨d, hd⟩ : ∃ d, gcdI x.den y.den = d := ⟨_, rfl⟩
    rw [hd]
    have hdb : Bd 8900 d := by
      rcases hji with z | z
      · rw [← hd, gcdI_comm]
        exact (gcdI_bd bx.2 (by omega)).le z
      · rw [← hd]
        exact (gcdI_bd bY.2 (by omega)).le z
    have hd0 : 0 < d := hd ▸ gcdI_pos (by omega)
    have db1 : Bd i (y.den / d) := bY.2.of_le (div_natAbs_le hd0 (hd ▸ gcdI_dvd_r _ _))
    have db2 : Bd j (x.den / d) := bx.2.of_le (div_natAbs_le hd0 (hd ▸ gcdI_dvd_l _ _))
    refine ⟨divA hdb hd0 (by decide), mulA bx.1 db1 (by omega) (by omega), divA hdb hd0 (by decide), mulA bY.1 db2 (by omega) (by omega), _, d, rfl, (((bx.1.mul db1).le (show k + i ≤ 50000 by omega)).add ((bY.1.mul db2).le (by omega))).le (by omega), hdb.le (by decide), ?_⟩
    obtain ⟨g, hg⟩ : ∃ g, gcdI (x.num * (y.den / d) + y.num * (x.den / d)) d = g := ⟨_, rfl⟩
    rw [hg]
    have hg0 : 0 < g := hg ▸ gcdI_pos (by omega)
    have hgb : Bd 8900 g := hg ▸ gcdI_bd hdb (by omega)
    have db3 : Bd i (y.den / g) := bY.2.of_le (div_natAbs_le hg0 (Int.dvd_trans (hg ▸ gcdI_dvd_r _ _) (hd ▸ gcdI_dvd_r _ _)))
    refine ⟨divA hgb hg0 (by decide), divA hdb hd0 (by decide), divA hgb hg0 (by decide), mulA db2 db3 (by omega) (by omega), ?_⟩
    obtain ⟨h1, h2⟩ := plus_two hx hy hd rfl hg
    show Q (.tup [.int _, .int _]) n
    rw [sh_of h1 (by have := Int.mul_pos dx dy; omega) h2, ← add_divInt]
    exact q
def a_p_times : ASp := fun ds n Q => ∃ (x y : Rat) (k d m e : Nat), ds = [sh x, sh y] ∧ Bq k d x ∧ Bq m e y ∧ k ≤ 25000 ∧ m ≤ 25000 ∧ d ≤ 8900 ∧ e ≤ 8900 ∧ Q (sh (x * y)) n
theorem ok_p_times (T : Tx K mg A) : FnOk P w K mg base CX0 4 A.f_p_times A.fd_p_times ["one", "other"] (spOf K 2 a_p_times) := by
  refine fn_mir [] 8 rfl (by decide) (by decide) T.F_p_times sc_p_times fun cdv Ar outer s H E hr => ?_
  refine ⟨_, _, (pss_cons (ps_asg (pv 0) (k_gtup (K := K) (m := 2) rfl rfl (pgs_cons (pg_name (i := 2) sc_p_times.nd rfl (.inl rfl)) (pgs_cons (pg_name (i := 3) sc_p_times.nd rfl (.inl rfl)) pgs_nil))))
    (pss_cons (ps_asg (pv 1) (k_gtup (K := K) (m := 2) rfl rfl (pgs_cons (pg_name (i := 4) sc_p_times.nd rfl (.inl rfl)) (pgs_cons (pg_name (i := 5) sc_p_times.nd rfl (.inl rfl)) pgs_nil))))
    (pss_cons (ps_set (i := 6) sc_p_times.nd rfl (.inl rfl) (pe_call (ok_p_common_divisor (P := P) (K := K) T) (hr.mono (by decide)) (by rfl) T.g_p_common_divisor T.F_p_common_divisor.kp T.b_p_common_divisor .nil pass0 (pa_cons (pv 2) (pa_cons (pv 5) pa_nil))))
    (pss_cons (ps_set (i := 7) sc_p_times.nd rfl (.inl rfl) (pe_call (ok_p_common_divisor (P := P) (K := K) T) (hr.mono (by decide)) (by rfl) T.g_p_common_divisor T.F_p_common_divisor.kp T.b_p_common_divisor .nil pass0 (pa_cons (pv 4) (pa_cons (pv 3) pa_nil))))
    (pss_one (ps_ret (pe_tup (pa_cons (pe_op k_mul (pe_op k_fdiv (pv 2) (pv 6)) (pe_op k_fdiv (pv 4) (pv 7))) (pa_cons (pe_op k_mul (pe_op k_fdiv (pv 3) (pv 7)) (pe_op k_fdiv (pv 5) (pv 6))) pa_nil))))))))), by infer_instance, fun ds n Q hl hA => ?_⟩
  obtain ⟨x, y, k, j, m, i, rfl, bx, bY, hk, hm, hj, hi, q⟩ := hA
  have hx := isSh_q x
  have hy := isSh_q y
  have dx := den_pos x
  have dy := den_pos y
  obtain ⟨d, hd⟩ : ∃ d, gcdI x.num y.den = d := ⟨_, rfl⟩
  obtain ⟨e, he⟩ : ∃ e, gcdI y.num x.den = e := ⟨_, rfl⟩
  refine ⟨x.num, (y.den : Int), rfl, bx.1.le (by omega), bY.2.le (by omega), ?_⟩
  rw [hd]
  refine ⟨y.num, (x.den : Int), rfl, bY.1.le (by omega), bx.2.le (by omega), ?_⟩
  rw [he]
  have hd0 : 0 < d := hd ▸ gcdI_pos (by omega)
  have he0 : 0 < e := he ▸ gcdI_pos (by omega)
  have hdb : Bd i d := hd ▸ gcdI_bd bY.2 (by omega)
  have heb : Bd j e := he ▸ gcdI_bd bx.2 (by omega)
  have b1 : Bd k (x.num / d) := bx.1.of_le (div_natAbs_le hd0 (hd ▸ gcdI_dvd_l _ _))
  have b2 : Bd m (y.num / e) := bY.1.of_le (div_natAbs_le he0 (he ▸ gcdI_dvd_l _ _))
  have b3 : Bd j (x.den / e) := bx.2.of_le (div_natAbs_le he0 (he ▸ gcdI_dvd_r _ _))
  have b4 : Bd i (y.den / d) := bY.2.of_le (div_natAbs_le hd0 (hd ▸ gcdI_dvd_r _ _))
  refine ⟨divA hdb hd0 (by omega), divA heb he0 (by omega), mulA b1 b2 (by omega) (by omega), divA heb he0 (by omega), divA hdb hd0 (by omega), mulA b3 b4 (by omega) (by omega), ?_⟩
  obtain ⟨h1, h2⟩ := times_one hx hy hd he
  show Q (.tup [.int _, .int _]) n
  rw [sh_of h1 (by have := Int.mul_pos dx dy; omega) h2, ← mul_divInt]
  exact q
def a_p_minus : ASp := fun ds n Q => ∃ (x y : Rat) (k d m e : Nat), ds = [sh x, sh y] ∧ Bq k d x ∧ Bq m e y ∧ k ≤ 25000 ∧ m ≤ 25000 ∧ d ≤ 25000 ∧ e ≤ 25000 ∧ (d ≤ 8900 ∨ e ≤ 8900) ∧ Q (sh (x - y)) n
theorem ok_p_minus (T : Tx K mg A) : FnOk P w K mg base CX0 5 A.f_p_minus A.fd_p_minus ["one", "other"] (spOf K 2 a_p_minus) := by
  refine fn_mir [] 4 rfl (by decide) (by decide) T.F_p_minus sc_p_minus fun cdv Ar outer s H E hr => ?_
  refine ⟨_, _, (pss_cons (ps_asg (pv 1) (k_gtup (K := K) (m := 2) rfl rfl (pgs_cons (pg_name (i := 2) sc_p_minus.nd rfl (.inl rfl)) (pgs_cons (pg_name (i := 3) sc_p_minus.nd rfl (.inl rfl)) pgs_nil))))
    (pss_one (ps_ret (pe_call (ok_p_plus (P := P) (K := K) T) (hr.mono (by decide)) (by rfl) T.g_p_plus T.F_p_plus.kp T.b_p_plus .nil pass0 (pa_cons (pv 0) (pa_cons (pe_tup (pa_cons (pe_un un_neg (pv 2)) (pa_cons (pv 3) pa_nil))) pa_nil)))))), by infer_instance, fun ds n Q hl hA => ?_⟩
  obtain ⟨x, y, k, j, m, i, rfl, bx, bY, hk, hm, hj, hi, hji, q⟩ := hA
  refine ⟨x, -y, k, j, m, i, rfl, bx, bY.neg, hk, hm, hj, hi, hji, ?_⟩
  rw [← Rat.sub_eq_add_neg]
  exact q
def ordI (x y : Rat) : Int := if x < y then -1 else if y < x then 1 else 0
theorem cross_lt (x y : Rat) : x.num * y.den < y.num * x.den ↔ x < y := (Rat.lt_iff x y).symm
def a_p_order : ASp := fun ds n Q => ∃ (x y : Rat) (k m : Nat), ds = [sh x, sh y] ∧ BdQ k x ∧ BdQ m y ∧ k ≤ 60000 ∧ m ≤ 60000 ∧ Q (.int (ordI x y)) n
theorem ok_p_order (T : Tx K mg A) : FnOk P w K mg base CX0 1 A.f_p_order A.fd_p_order ["one", "other"] (spOf K 2 a_p_order) := by
  refine fn_mir [] 4 rfl (by decide) (by decide) T.F_p_order sc_p_order fun cdv Ar outer s H E hr => ?_
  refine ⟨_, _, (pss_cons (ps_set (i := 2) sc_p_order.nd rfl (.inl rfl) (pe_op k_mul (pe_ix (k_ix (K := K) rfl) (pv 0) pe_int (fun _ _ => rfl)) (pe_ix (k_ix (K := K) rfl) (pv 1) pe_int (fun _ _ => rfl))))
    (pss_cons (ps_set (i := 3) sc_p_order.nd rfl (.inl rfl) (pe_op k_mul (pe_ix (k_ix (K := K) rfl) (pv 1) pe_int (fun _ _ => rfl)) (pe_ix (k_ix (K := K) rfl) (pv 0) pe_int (fun _ _ => rfl))))
    (pss_cons (ps_if (pt_cmpR op_lt (pv 2) (pv 3) (nomark _))
      (pss_one (ps_ret (pe_un un_neg pe_int)))
      pss_nil)
    (pss_cons (ps_if (pt_cmpR op_gt (pv 2) (pv 3) (nomark _))
      (pss_one (ps_ret pe_int))
      pss_nil)
    (pss_one (ps_ret pe_int)))))), by infer_instance, fun ds n Q hl hA => ?_⟩
  obtain ⟨x, y, k, m, rfl, bx, bY, hk, hm, q⟩ := hA
  refine ⟨mulA bx.1 bY.2 (by omega) (by omega), mulA bY.1 bx.2 (by omega) (by omega), ?_⟩
  unfold ordI at q
  refine dIte (fun e => ?_) fun e => dIte (fun e2 => ?_) fun e2 => ?_
  · rw [if_pos ((cross_lt x y).mp e)] at q
    exact q
  · rw [if_neg (fun z => e ((cross_lt x y).mpr z)), if_pos ((cross_lt y x).mp e2)] at q
    exact q
  · rw [if_neg (fun z => e ((cross_lt x y).mpr z)), if_neg (fun z => e2 ((cross_lt y x).mpr z))] at q
    exact q
def a_p_share : ASp := fun ds n Q => ∃ (a b : Int) (k m : Nat), ds = [.int a, .int b] ∧ Bd k a ∧ Bd m b ∧ k ≤ 60000 ∧ m ≤ 8900 ∧ b ≠ 0 ∧ Q (sh (Rat.divInt a b)) n
theorem ok_p_share (T : Tx K mg A) : FnOk P w K mg base CX0 4 A.f_p_share A.fd_p_share ["top", "bottom"] (spOf K 2 a_p_share) := by
  refine fn_mirD [] 3 rfl (by decide) (by decide) T.F_p_share sc_p_share fun cdv Ar outer s H E hr => ?_
  refine ⟨_, _, (pss_cons (ps_if (pt_cmpR (k_eq (K := K) rfl hr.units) (pv 1) pe_int (nomark _))
      (pss_one ps_never)
      pss_nil)
    (pss_cons (ps_if (pt_cmpR op_lt (pv 1) pe_int (nomark _))
      (pss_cons (ps_set (i := 0) sc_p_share.nd rfl (.inl rfl) (pe_un un_neg (pv 0)))
    (pss_one (ps_set (i := 1) sc_p_share.nd rfl (.inl rfl) (pe_un un_neg (pv 1)))))
      pss_nil)
    (pss_cons (ps_set (i := 2) sc_p_share.nd rfl (.inl rfl) (pe_call (ok_p_common_divisor (P := P) (K := K) T) (hr.mono (by decide)) (by rfl) T.g_p_common_divisor T.F_p_common_divisor.kp T.b_p_common_divisor .nil pass0 (pa_cons (pv 0) (pa_cons (pv 1) pa_nil))))
    (pss_one (ps_ret (pe_tup (pa_cons (pe_op k_fdiv (pv 0) (pv 2)) (pa_cons (pe_op k_fdiv (pv 1) (pv 2)) pa_nil)))))))), by infer_instance, fun ds n Q hl hA => ?_⟩
  obtain ⟨a, b, k, m, rfl, ba, bb, hk, hm, h0, q⟩ := hA
  refine dIte (fun e => absurd e h0) fun _ => dIte (fun e => ?_) fun e => ?_
  · refine ⟨-a, -b, rfl, ba.neg.le hk, bb.neg.le (by omega), divA (gcdI_bd bb.neg (by omega)) (gcdI_pos (by omega)) (by omega), divA (gcdI_bd bb.neg (by omega)) (gcdI_pos (by omega)) (by omega), ?_⟩
    obtain ⟨h1, h2, _, _⟩ := low_is (a := -a) (b := -b) (by omega)
    show Q (.tup [.int _, .int _]) n
    rw [sh_of h1 (by omega) h2, (Rat.divInt_eq_divInt_iff (show -b ≠ 0 by omega) h0).mpr (show -a * b = a * -b by grind)]
    exact q
  · refine ⟨a, b, rfl, ba.le hk, bb.le (by omega), divA (gcdI_bd bb (by omega)) (gcdI_pos (by omega)) (by omega), divA (gcdI_bd bb (by omega)) (gcdI_pos (by omega)) (by omega), ?_⟩
    obtain ⟨h1, h2, _, _⟩ := low_is (a := a) (b := b) (by omega)
    show Q (.tup [.int _, .int _]) n
    rw [sh_of h1 (by omega) h2]
    exact q
theorem kon_NOUGHT' {K : PySem.W.Frag} {a : Addr} (h : ∀ H, SqT K H a [.int 0, .int 1]) : Kon K a (sh 0) := ⟨fun W H => .tup (h H) (.cons (.int _) (.cons (.int _) .nil))⟩

/-! ### spots in the mirror -/
def spt (x y : Rat) : D := .tup [sh x, sh y]
theorem bdq_int {n : Nat} {p : Int} (h : Bd n p) (hn : 0 < n) : BdQ n (p : Rat) := ⟨h, Nat.one_lt_two_pow (by omega)⟩
def a_along (f : Int → Int → Rat → Rat → Rat) : ASp := fun ds n Q => ∃ (p q : Int) (x y : Rat) (k d m : Nat), ds = [.tup [.int p, .int q], spt x y] ∧ Bd m p ∧ Bd m q ∧ Bq k d x ∧ Bq k d y ∧ k + m ≤ 20000 ∧ d ≤ 8800 ∧ Q (sh (f p q x y)) n
def a_p_along : ASp := a_along fun p q x y => p * x + q * y
theorem ok_p_along (T : Tx K mg A) : FnOk P w K mg base CX0 5 A.f_p_along A.fd_p_along ["way", "spot"] (spOf K 2 a_p_along) := by
  refine fn_mir [] 6 rfl (by decide) (by decide) T.F_p_along sc_p_along fun cdv Ar outer s H E hr => ?_
  refine ⟨_, _, (pss_cons (ps_asg (pv 0) (k_gtup (K := K) (m := 2) rfl rfl (pgs_cons (pg_name (i := 2) sc_p_along.nd rfl (.inl rfl)) (pgs_cons (pg_name (i := 3) sc_p_along.nd rfl (.inl rfl)) pgs_nil))))
    (pss_cons (ps_asg (pv 1) (k_gtup (K := K) (m := 2) rfl rfl (pgs_cons (pg_name (i := 4) sc_p_along.nd rfl (.inl rfl)) (pgs_cons (pg_name (i := 5) sc_p_along.nd rfl (.inl rfl)) pgs_nil))))
    (pss_one (ps_ret (pe_call (ok_p_plus (P := P) (K := K) T) (hr.mono (by decide)) (by rfl) T.g_p_plus T.F_p_plus.kp T.b_p_plus .nil pass0 (pa_cons (pe_call (ok_p_times (P := P) (K := K) T) (hr.mono (by decide)) (by rfl) T.g_p_times T.F_p_times.kp T.b_p_times .nil pass0 (pa_cons (pe_tup (pa_cons (pv 2) (pa_cons pe_int pa_nil))) (pa_cons (pv 4) pa_nil))) (pa_cons (pe_call (ok_p_times (P := P) (K := K) T) (hr.mono (by decide)) (by rfl) T.g_p_times T.F_p_times.kp T.b_p_times .nil pass0 (pa_cons (pe_tup (pa_cons (pv 3) (pa_cons pe_int pa_nil))) (pa_cons (pv 5) pa_nil))) pa_nil))))))), by infer_instance, fun ds n Q hl hA => ?_⟩
  obtain ⟨p, q, x, y, k, d, m, rfl, bp, bq, bx, bY, hk, hd, Qk⟩ := hA
  refine ⟨(p : Rat), x, m, 1, k, d, rfl, bq_int bp, bx, by omega, by omega, by decide, by omega, ?_⟩
  refine ⟨(q : Rat), y, m, 1, k, d, rfl, bq_int bq, bY, by omega, by omega, by decide, by omega, ?_⟩
  exact ⟨_, _, m + k, 1 + d, m + k, 1 + d, rfl, (bq_int bp).mul bx, (bq_int bq).mul bY, by omega, by omega, by omega, by omega, .inl (by omega), Qk⟩
def a_spot2 (f : Rat → Rat → Rat) : ASp := fun ds n Q => ∃ (x y x' y' : Rat) (k d m e : Nat), ds = [spt x y, spt x' y'] ∧ Bq k d x ∧ Bq k d y ∧ Bq m e x' ∧ Bq m e y' ∧ k ≤ 25000 ∧ m ≤ 25000 ∧ d ≤ 8900 ∧ e ≤ 8900 ∧ Q (spt (f x x') (f y y')) n
def a_p_spot_plus : ASp := a_spot2 (· + ·)
theorem ok_p_spot_plus (T : Tx K mg A) : FnOk P w K mg base CX0 5 A.f_p_spot_plus A.fd_p_spot_plus ["one", "other"] (spOf K 2 a_p_spot_plus) := by
  refine fn_mir [] 2 rfl (by decide) (by decide) T.F_p_spot_plus sc_p_spot_plus fun cdv Ar outer s H E hr => ?_
  refine ⟨_, _, (pss_one (ps_ret (pe_tup (pa_cons (pe_call (ok_p_plus (P := P) (K := K) T) (hr.mono (by decide)) (by rfl) T.g_p_plus T.F_p_plus.kp T.b_p_plus .nil pass0 (pa_cons (pe_ix (k_ix (K := K) rfl) (pv 0) pe_int (fun _ _ => rfl)) (pa_cons (pe_ix (k_ix (K := K) rfl) (pv 1) pe_int (fun _ _ => rfl)) pa_nil))) (pa_cons (pe_call (ok_p_plus (P := P) (K := K) T) (hr.mono (by decide)) (by rfl) T.g_p_plus T.F_p_plus.kp T.b_p_plus .nil pass0 (pa_cons (pe_ix (k_ix (K := K) rfl) (pv 0) pe_int (fun _ _ => rfl)) (pa_cons (pe_ix (k_ix (K := K) rfl) (pv 1) pe_int (fun _ _ => rfl)) pa_nil))) pa_nil))))), by infer_instance, fun ds n Q hl hA => ?_⟩
  obtain ⟨x, y, x', y', k, d, m, e, rfl, b1, b2, b3, b4, hk, hm, hd, he, q⟩ := hA
  exact ⟨x, x', k, d, m, e, rfl, b1, b3, hk, hm, by omega, by omega, .inl hd, y, y', k, d, m, e, rfl, b2, b4, hk, hm, by omega, by omega, .inl hd, q⟩
def a_p_spot_minus : ASp := a_spot2 (· - ·)
theorem ok_p_spot_minus (T : Tx K mg A) : FnOk P w K mg base CX0 6 A.f_p_spot_minus A.fd_p_spot_minus ["one", "other"] (spOf K 2 a_p_spot_minus) := by
  refine fn_mir [] 2 rfl (by decide) (by decide) T.F_p_spot_minus sc_p_spot_minus fun cdv Ar outer s H E hr => ?_
  refine ⟨_, _, (pss_one (ps_ret (pe_tup (pa_cons (pe_call (ok_p_minus (P := P) (K := K) T) (hr.mono (by decide)) (by rfl) T.g_p_minus T.F_p_minus.kp T.b_p_minus .nil pass0 (pa_cons (pe_ix (k_ix (K := K) rfl) (pv 0) pe_int (fun _ _ => rfl)) (pa_cons (pe_ix (k_ix (K := K) rfl) (pv 1) pe_int (fun _ _ => rfl)) pa_nil))) (pa_cons (pe_call (ok_p_minus (P := P) (K := K) T) (hr.mono (by decide)) (by rfl) T.g_p_minus T.F_p_minus.kp T.b_p_minus .nil pass0 (pa_cons (pe_ix (k_ix (K := K) rfl) (pv 0) pe_int (fun _ _ => rfl)) (pa_cons (pe_ix (k_ix (K := K) rfl) (pv 1) pe_int (fun _ _ => rfl)) pa_nil))) pa_nil))))), by infer_instance, fun ds n Q hl hA => ?_⟩
  obtain ⟨x, y, x', y', k, d, m, e, rfl, b1, b2, b3, b4, hk, hm, hd, he, q⟩ := hA
  exact ⟨x, x', k, d, m, e, rfl, b1, b3, hk, hm, by omega, by omega, .inl hd, y, y', k, d, m, e, rfl, b2, b4, hk, hm, by omega, by omega, .inl hd, q⟩
def a_p_spot_times : ASp := fun ds n Q => ∃ (x y z : Rat) (k d m e : Nat), ds = [spt x y, sh z] ∧ Bq k d x ∧ Bq k d y ∧ Bq m e z ∧ k ≤ 25000 ∧ m ≤ 25000 ∧ d ≤ 8900 ∧ e ≤ 8900 ∧ Q (spt (x * z) (y * z)) n
theorem ok_p_spot_times (T : Tx K mg A) : FnOk P w K mg base CX0 5 A.f_p_spot_times A.fd_p_spot_times ["spot", "share"] (spOf K 2 a_p_spot_times) := by
  refine fn_mir [] 2 rfl (by decide) (by decide) T.F_p_spot_times sc_p_spot_times fun cdv Ar outer s H E hr => ?_
  refine ⟨_, _, (pss_one (ps_ret (pe_tup (pa_cons (pe_call (ok_p_times (P := P) (K := K) T) (hr.mono (by decide)) (by rfl) T.g_p_times T.F_p_times.kp T.b_p_times .nil pass0 (pa_cons (pe_ix (k_ix (K := K) rfl) (pv 0) pe_int (fun _ _ => rfl)) (pa_cons (pv 1) pa_nil))) (pa_cons (pe_call (ok_p_times (P := P) (K := K) T) (hr.mono (by decide)) (by rfl) T.g_p_times T.F_p_times.kp T.b_p_times .nil pass0 (pa_cons (pe_ix (k_ix (K := K) rfl) (pv 0) pe_int (fun _ _ => rfl)) (pa_cons (pv 1) pa_nil))) pa_nil))))), by infer_instance, fun ds n Q hl hA => ?_⟩
  obtain ⟨x, y, z, k, d, m, e, rfl, b1, b2, b3, hk, hm, hd, he, q⟩ := hA
  exact ⟨x, z, k, d, m, e, rfl, b1, b3, hk, hm, hd, he, y, z, k, d, m, e, rfl, b2, b3, hk, hm, hd, he, q⟩

theorem kon_NOUGHT (T : Tx K mg A) : Kon K A.n_NOUGHT (sh 0) := kon_NOUGHT' T.t_NOUGHT
/-! ### the hull -/
def leftI (a b c : Pt) : Int := (b.1 - a.1) * (c.2 - a.2) - (b.2 - a.2) * (c.1 - a.1)
def PtB (p : Pt) : Prop := -10000000 ≤ p.1 ∧ p.1 ≤ 10000000 ∧ -10000000 ≤ p.2 ∧ p.2 ≤ 10000000
def a_l_left : ASp := fun ds n Q => ∃ a b c : Pt, ds = [pt a, pt b, pt c] ∧ PtB a ∧ PtB b ∧ PtB c ∧ Q (.int (leftI a b c)) n
theorem ok_l_left (T : Tx K mg A) : FnOk P w K mg base CX0 1 A.f_l_left A.fd_l_left ["_law_a", "_law_b", "_law_c"] (spOf K 3 a_l_left) := by
  refine fn_mir [] 3 rfl (by decide) (by decide) T.F_l_left sc_l_left fun cdv Ar outer s H E hr => ?_
  refine ⟨_, _, (pss_one (ps_ret (pe_op op_sub (pe_op k_mul (pe_op op_sub (pe_ix (k_ix (K := K) rfl) (pv 1) pe_int (fun _ _ => rfl)) (pe_ix (k_ix (K := K) rfl) (pv 0) pe_int (fun _ _ => rfl))) (pe_op op_sub (pe_ix (k_ix (K := K) rfl) (pv 2) pe_int (fun _ _ => rfl)) (pe_ix (k_ix (K := K) rfl) (pv 0) pe_int (fun _ _ => rfl)))) (pe_op k_mul (pe_op op_sub (pe_ix (k_ix (K := K) rfl) (pv 1) pe_int (fun _ _ => rfl)) (pe_ix (k_ix (K := K) rfl) (pv 0) pe_int (fun _ _ => rfl))) (pe_op op_sub (pe_ix (k_ix (K := K) rfl) (pv 2) pe_int (fun _ _ => rfl)) (pe_ix (k_ix (K := K) rfl) (pv 0) pe_int (fun _ _ => rfl))))))), by infer_instance, fun ds n Q hl hA => ?_⟩
  obtain ⟨a, b, c, rfl, ba, bb, bc, q⟩ := hA
  unfold PtB at ba bb bc
  exact ⟨.inl (.inl ⟨by omega, by omega⟩), .inl (.inl ⟨by omega, by omega⟩), q⟩
/-- the half hull, its last point first -/
def popR (p : Pt) : List Pt → List Pt
  | b :: a :: r => if leftI a b p ≤ 0 then popR p (a :: r) else b :: a :: r
  | s => s
def halfS (st : List Pt) (ps : List Pt) : List Pt := ps.foldl (fun st p => p :: popR p st) st
def halfR (ps : List Pt) : List Pt := halfS [] ps
theorem popR_sub (p : Pt) : ∀ st : List Pt, ∀ x ∈ popR p st, x ∈ st
  | [], x, h => h
  | [b], x, h => h
  | b :: a :: r, x, h => by
    unfold popR at h
    split at h
    · exact List.mem_cons_of_mem _ (popR_sub p (a :: r) x h)
    · exact h
theorem popR_len (p : Pt) : ∀ st : List Pt, (popR p st).length ≤ st.length
  | [] => Nat.le_refl _
  | [b] => Nat.le_refl _
  | b :: a :: r => by
    unfold popR
    split
    · exact Nat.le_succ_of_le (popR_len p (a :: r))
    · exact Nat.le_refl _
theorem halfS_sub : ∀ (ps st : List Pt), ∀ x ∈ halfS st ps, x ∈ st ∨ x ∈ ps
  | [], st, x, h => .inl h
  | p :: ps, st, x, h => by
    rcases halfS_sub ps (p :: popR p st) x h with h | h
    · rcases List.mem_cons.mp h with rfl | h
      · exact .inr List.mem_cons_self
      · exact .inl (popR_sub p st x h)
    · exact .inr (List.mem_cons_of_mem _ h)
theorem halfS_len : ∀ (ps st : List Pt), (halfS st ps).length ≤ st.length + ps.length
  | [], st => Nat.le_refl _
  | p :: ps, st => by
    have h1 := halfS_len ps (p :: popR p st)
    have h2 := popR_len p st
    rw [List.length_cons] at h1 ⊢
    show (halfS (p :: popR p st) ps).length ≤ _
    omega
theorem atI_m1 {xs : List D} {a b : D} : atI (xs ++ [a, b]) (-1) = some b := by
  have := atI_last (xs ++ [a]) b
  rw [List.append_assoc] at this
  exact this
theorem atI_m2 {xs : List D} {a b : D} : atI (xs ++ [a, b]) (-2) = some a := by
  have hl : (xs ++ [a, b]).length = xs.length + 2 := by simp
  unfold atI ixN
  rw [if_neg (by omega), if_pos (by omega), hl]
  show (xs ++ [a, b])[(-2 + ((xs.length + 2 : Nat) : Int)).toNat]? = some a
  have e : (-2 + ((xs.length + 2 : Nat) : Int)).toNat = xs.length := by omega
  rw [e, List.getElem?_append_right (Nat.le_refl _), Nat.sub_self]
  rfl
theorem cutL_last (xs : List D) (a : D) : cutL (xs ++ [a]) none (some (-1)) = xs := by
  unfold cutL
  have hl : (xs ++ [a]).length = xs.length + 1 := by simp
  rw [HT.sIx_none]
  have e : HT.sIx (xs ++ [a]).length (xs ++ [a]).length (some (-1)) = xs.length := by
    rw [hl]
    unfold HT.sIx
    simp
    omega
  rw [e, List.drop_zero, Nat.sub_zero, List.take_left]
/-- a stack of points, the last first -/
def stk (st : List Pt) : List D := st.reverse.map pt
theorem stk_two (a b : Pt) (r : List Pt) : stk (b :: a :: r) = stk r ++ [pt a, pt b] := by
  unfold stk
  simp
theorem stk_one (a : Pt) (r : List Pt) : stk (a :: r) = stk r ++ [pt a] := by
  unfold stk
  simp
theorem stk_len (st : List Pt) : (stk st).length = st.length := by
  unfold stk
  rw [List.length_map, List.length_reverse]
theorem cut_nil : cutL [] none (some (-1)) = [] := by
  unfold cutL
  simp
def a_l_half : ASp := fun ds n Q => ∃ ps : List Pt, ds = [.lst (ps.map pt)] ∧ (∀ p ∈ ps, PtB p) ∧ ps.length ≤ 100 ∧ Q (.lst (stk (halfR ps).tail)) n
theorem ok_l_half (T : Tx K mg A) : FnOk P w K mg base CX0 2 A.f_l_half A.fd_l_half ["_law_points"] (spOf K 1 a_l_half) := by
  refine fn_mir [] 3 rfl (by decide) (by decide) T.F_l_half sc_l_half fun cdv Ar outer s H E hr => ?_
  refine ⟨_, _, (pss_cons (ps_set (i := 1) sc_l_half.nd rfl (.inl rfl) (pe_lst pa_nil))
    (pss_cons (ps_for PassesOwn.never rfl (k_iter (K := K) rfl (pv 0)) (pg_name (i := 2) sc_l_half.nd rfl (.inl rfl))
      (pss_cons (ps_while PassesOwn.never (PW.pt (pw_and (pt_cmpR op_gt (pe_callB (k_len (K := K) rfl) (by rfl) T.m_len (by decide +kernel) (pa_cons (pv 1) pa_nil)) pe_int (nomark _)) (pw_and1 (pt_cmpR op_le (pe_call (ok_l_left (P := P) (K := K) T) (hr.mono (by decide)) (by rfl) T.g_l_left T.F_l_left.kp T.b_l_left .nil pass0 (pa_cons (pe_ix (k_ixS (K := K) rfl) (pv 1) (pe_un un_neg pe_int) (fun _ _ => rfl)) (pa_cons (pe_ix (k_ixS (K := K) rfl) (pv 1) (pe_un un_neg pe_int) (fun _ _ => rfl)) (pa_cons (pv 2) pa_nil)))) pe_int (nomark _)))))
      (pss_one (ps_set (i := 1) sc_l_half.nd rfl (.inl rfl) (pe_slice (k_sl (K := K) rfl) (pv 1) po_none (po_some (pe_un un_neg pe_int))))))
    (pss_one (ps_set (i := 1) sc_l_half.nd rfl (.inl rfl) (pe_op (k_add (K := K) rfl) (pv 1) (pe_lst (pa_cons (pv 2) pa_nil)))))))
    (pss_one (ps_ret (pe_slice (k_sl (K := K) rfl) (pv 1) po_none (po_some (pe_un un_neg pe_int))))))), by infer_instance, fun ds n Q hl hA => ?_⟩
  obtain ⟨ps, rfl, hB, hlen, q⟩ := hA
  refine aFor_ind (fun ds ρ n' => n' = n ∧ ∃ (qs st : List Pt) (y : Option D), ds = qs.map pt ∧ ρ = [some (.lst (ps.map pt)), some (.lst (stk st)), y] ∧ halfS st qs = halfR ps ∧ (∀ p ∈ st, PtB p) ∧ (∀ p ∈ qs, PtB p) ∧ st.length + qs.length ≤ 100) ?_ ?_ ⟨rfl, ps, [], none, rfl, rfl, rfl, (fun p h => by cases h), hB, by simpa using hlen⟩
  · rintro d r _ n' ⟨rfl, qs, st, y, hq, rfl, he, hs, hqs, hl⟩ ih
    obtain ⟨p, qs, rfl, rfl, rfl⟩ : ∃ p qs', qs = p :: qs' ∧ d = pt p ∧ r = qs'.map pt := by
      cases qs with
      | nil => cases hq
      | cons p qs => cases hq; exact ⟨p, qs, rfl, rfl, rfl⟩
    have bp := hqs p List.mem_cons_self
    rw [List.length_cons] at hl
    refine ⟨fun m ρ m' => m' = n' ∧ ∃ st', ρ = [some (.lst (ps.map pt)), some (.lst (stk st')), some (pt p)] ∧ m = st'.length ∧ popR p st' = popR p st ∧ (∀ p ∈ st', PtB p) ∧ st'.length ≤ st.length, ⟨_, rfl, st, rfl, rfl, rfl, hs, Nat.le_refl _⟩, ?_⟩
    rintro m ρ k ⟨hk, st', rfl, rfl, hp, hs', hl'⟩
    subst hk
    have done : popR p st' = st' → k = k ∧ ∃ (qs' st : List Pt) (y : Option D), qs.map pt = qs'.map pt ∧ [some (D.lst (ps.map pt)), some (.lst (stk st' ++ [pt p])), some (pt p)] = [some (.lst (ps.map pt)), some (.lst (stk st)), y] ∧ halfS st qs' = halfR ps ∧ (∀ p ∈ st, PtB p) ∧ (∀ p ∈ qs', PtB p) ∧ st.length + qs'.length ≤ 100 := fun hfix => by
      refine ⟨rfl, qs, p :: st', _, rfl, by rw [stk_one], ?_, ?_, fun x hx => hqs x (List.mem_cons_of_mem _ hx), ?_⟩
      · rw [← he]
        show halfS (p :: st') qs = halfS (p :: popR p st) qs
        rw [← hp, hfix]
      · intro x hx
        rcases List.mem_cons.mp hx with rfl | hx
        · exact bp
        · exact hs' x hx
      · rw [List.length_cons]
        omega
    have hsz : (stk st').length + 1 ≤ 1000000 := by rw [stk_len]; omega
    match st', hp, hs', hl', done, hsz with
    | [], _, _, _, done, hsz => exact dIte (fun e => absurd e (by decide)) fun _ => aF ⟨hsz, ih _ _ (done rfl)⟩
    | [x], _, _, _, done, hsz => exact dIte (fun e => absurd e (show ¬ (1 : Int) < ((1 : Nat) : Int) by decide)) fun _ => aF ⟨hsz, ih _ _ (done rfl)⟩
    | b :: a :: r, hp, hs', hl', done, hsz =>
      rw [stk_two] at done hsz ⊢
      have hlen2 : (1 : Int) < ((stk r ++ [pt a, pt b]).length : Int) := by
        rw [List.length_append]
        show (1 : Int) < (((stk r).length + 2 : Nat) : Int)
        omega
      refine dIte (fun _ => ?_) fun e => absurd hlen2 e
      refine aIx_lst atI_m2 ?_
      refine aIx_lst atI_m1 ?_
      refine ⟨a, b, p, rfl, hs' a (List.mem_cons_of_mem _ List.mem_cons_self), hs' b List.mem_cons_self, bp, ?_⟩
      refine dIte (fun e => ?_) fun e => ?_
      · refine ⟨(a :: r).length, Nat.lt_succ_self _, rfl, a :: r, ?_, rfl, ?_, fun x hx => hs' x (List.mem_cons_of_mem _ hx), Nat.le_of_succ_le hl'⟩
        · have e2 : stk r ++ [pt a, pt b] = stk (a :: r) ++ [pt b] := by rw [stk_one, List.append_assoc]; rfl
          show [some (D.lst (ps.map pt)), some (.lst (cutL (stk r ++ [pt a, pt b]) none (some (-1)))), some (pt p)] = _
          rw [e2, cutL_last]
        · rw [← hp]
          conv => rhs; unfold popR
          rw [if_pos e]
      · refine ⟨hsz, ih _ _ (done ?_)⟩
        unfold popR
        rw [if_neg e]
  · rintro _ n' ⟨rfl, qs, st, y, hq, rfl, he, hs, hqs, hl⟩
    cases qs with
    | cons p qs => cases hq
    | nil =>
      have e : st = halfR ps := he
      subst e
      show Q (.lst (cutL (stk (halfR ps)) none (some (-1)))) _
      cases h : halfR ps with
      | nil => rw [h] at q; exact q
      | cons a r =>
        rw [h] at q
        rw [stk_one, cutL_last]
        exact q
def hullOf (rs : List Pt) : List Pt :=
  if ((halfR rs).tail.reverse ++ (halfR rs.reverse).tail.reverse).length < 3 then [(0, 0), (2, 0), (0, 2)] else (halfR rs).tail.reverse ++ (halfR rs.reverse).tail.reverse

/-! ### the hull is convex -/
def lexLt (p q : Pt) : Prop := p.1 < q.1 ∨ (p.1 = q.1 ∧ p.2 < q.2)
theorem cross_id (ux uy wx wy zx zy : Int) : ux * (wx * zy - wy * zx) = wx * (ux * zy - uy * zx) - zx * (ux * wy - uy * wx) := by grind
theorem mul_nn {a b : Int} (h : 0 ≤ a) (g : 0 ≤ b) : 0 ≤ a * b := Int.mul_nonneg h g
theorem pos_of {a b : Int} (h : 0 < a) (g : 0 ≤ a * b) : 0 ≤ b := by
  rcases Int.lt_or_le b 0 with z | z
  · have := Int.mul_neg_of_pos_of_neg h z
    omega
  · exact z
theorem pos_of' {a b : Int} (h : 0 < a) (g : 0 < a * b) : 0 < b := by
  rcases Int.lt_or_le 0 b with z | z
  · exact z
  · have := Int.mul_nonpos_of_nonneg_of_nonpos (Int.le_of_lt h) z
    omega
theorem lemB {ux uy wx wy zx zy : Int} (hu : 0 < ux ∨ (ux = 0 ∧ 0 < uy)) (hw : 0 < wx ∨ (wx = 0 ∧ 0 ≤ wy)) (hz : 0 < zx ∨ (zx = 0 ∧ 0 ≤ zy)) (h1 : ux * wy - uy * wx ≤ 0) (h2 : 0 ≤ ux * zy - uy * zx) : 0 ≤ wx * zy - wy * zx := by
  have w0 : 0 ≤ wx := by omega
  have z0 : 0 ≤ zx := by omega
  rcases hu with hu | ⟨rfl, hu⟩
  · refine pos_of hu ?_
    rw [cross_id ux uy wx wy zx zy]
    have a := mul_nn w0 h2
    have b := mul_nn z0 (show 0 ≤ -(ux * wy - uy * wx) by omega)
    rw [Int.mul_neg] at b
    omega
  · have e : uy * zx ≤ 0 := by
      rw [Int.zero_mul] at h2
      omega
    have zx0 : zx = 0 := by
      rcases Int.lt_or_eq_of_le z0 with z | z
      · have := Int.mul_pos hu z
        omega
      · exact z.symm
    subst zx0
    have zy0 : 0 ≤ zy := by omega
    have := mul_nn w0 zy0
    rw [Int.mul_zero]
    omega
theorem lemA {ux uy vx vy wx wy : Int} (hu : 0 < ux ∨ (ux = 0 ∧ 0 < uy)) (hv : 0 < vx ∨ (vx = 0 ∧ 0 < vy)) (hw : 0 < wx ∨ (wx = 0 ∧ 0 ≤ wy)) (h1 : 0 < ux * vy - uy * vx) (h2 : 0 < vx * wy - vy * wx) : 0 < ux * wy - uy * wx := by
  have u0 : 0 ≤ ux := by omega
  have w0 : 0 ≤ wx := by omega
  rcases hv with hv | ⟨rfl, hv⟩
  · refine pos_of' hv ?_
    have id : vx * (ux * wy - uy * wx) = ux * (vx * wy - vy * wx) + wx * (ux * vy - uy * vx) := by grind
    rw [id]
    have a := mul_nn u0 (Int.le_of_lt h2)
    have b := mul_nn w0 (Int.le_of_lt h1)
    rcases hu with hu | ⟨rfl, hu⟩
    · have := Int.mul_pos hu h2
      omega
    · rcases hw with hw | ⟨rfl, hw⟩
      · have := Int.mul_pos hw h1
        omega
      · exfalso
        rw [Int.zero_mul] at h1
        have := Int.mul_pos hu hv
        omega
  · exfalso
    rw [Int.zero_mul] at h2
    have := mul_nn (Int.le_of_lt hv) w0
    omega
theorem left_vec (a b c : Pt) : leftI a b c = (b.1 - a.1) * (c.2 - b.2) - (b.2 - a.2) * (c.1 - b.1) := by
  unfold leftI
  grind
theorem left_self (a b : Pt) : leftI a b a = 0 ∧ leftI a b b = 0 := by
  unfold leftI
  constructor <;> grind
/-- a chain, its last point first: it goes on in order, turns left, and all of P lie not to its right -/
def Chain (P : List Pt) : List Pt → Prop
  | [] => False
  | [_] => True
  | b :: a :: r => lexLt a b ∧ (∀ c ∈ P, 0 ≤ leftI a b c) ∧ (∀ z r', r = z :: r' → 0 < leftI z a b) ∧ Chain P (a :: r)
theorem Chain.more {P : List Pt} {p : Pt} : ∀ {r : List Pt} {b a : Pt}, Chain P (b :: a :: r) → lexLe b p → 0 < leftI a b p → Chain (p :: P) (b :: a :: r)
  | [], b, a, h, hp, hl => ⟨h.1, fun c hc => by
      rcases List.mem_cons.mp hc with rfl | hc
      · exact Int.le_of_lt hl
      · exact h.2.1 c hc, fun z r' e => (by cases e), trivial⟩
  | z :: r, b, a, h, hp, hl => by
    have hzab := h.2.2.1 z r rfl
    have hza : lexLt z a := h.2.2.2.1
    have hab := h.1
    refine ⟨h.1, fun c hc => ?_, h.2.2.1, Chain.more h.2.2.2 ?_ ?_⟩
    · rcases List.mem_cons.mp hc with rfl | hc
      · exact Int.le_of_lt hl
      · exact h.2.1 c hc
    · unfold lexLe lexLt at *
      omega
    · -- z, a, b, p turn left
      rw [left_vec] at hzab hl
      have key := lemA (ux := a.1 - z.1) (uy := a.2 - z.2) (vx := b.1 - a.1) (vy := b.2 - a.2) (wx := p.1 - b.1) (wy := p.2 - b.2) (by unfold lexLt at hza; omega) (by unfold lexLt at hab; omega) (by unfold lexLe at hp; omega) hzab hl
      have e : leftI z a p = ((a.1 - z.1) * (b.2 - a.2) - (a.2 - z.2) * (b.1 - a.1)) + ((a.1 - z.1) * (p.2 - b.2) - (a.2 - z.2) * (p.1 - b.1)) := by
        unfold leftI
        grind
      omega
theorem leftB {t b p c : Pt} (hu : lexLt t b) (hw : lexLe t p) (hz : lexLe t c) (h1 : leftI t b p ≤ 0) (h2 : 0 ≤ leftI t b c) : 0 ≤ leftI t p c := by
  unfold leftI at *
  unfold lexLt lexLe at *
  exact lemB (ux := b.1 - t.1) (uy := b.2 - t.2) (by omega) (by omega) (by omega) h1 h2
theorem leftC {a t p c : Pt} (hu : lexLt a t) (hw : lexLe t p) (hz : lexLe c t) (h1 : 0 ≤ leftI a t p) (h2 : 0 ≤ leftI a t c) : 0 ≤ leftI t p c := by
  have k := lemB (ux := t.1 - a.1) (uy := t.2 - a.2) (wx := t.1 - c.1) (wy := t.2 - c.2) (zx := p.1 - t.1) (zy := p.2 - t.2) (by unfold lexLt at hu; omega) (by unfold lexLe at hz; omega) (by unfold lexLe at hw; omega)
    (by
      have e : (t.1 - a.1) * (t.2 - c.2) - (t.2 - a.2) * (t.1 - c.1) = - leftI a t c := by
        unfold leftI
        grind
      omega)
    (by
      have e : (t.1 - a.1) * (p.2 - t.2) - (t.2 - a.2) * (p.1 - t.1) = leftI a t p := by
        unfold leftI
        grind
      omega)
  have e : (t.1 - c.1) * (p.2 - t.2) - (t.2 - c.2) * (p.1 - t.1) = leftI t p c := by
    unfold leftI
    grind
  omega
theorem lex_total (c t : Pt) : lexLe c t ∨ lexLe t c := by
  unfold lexLe
  omega
theorem lex_lt {c t : Pt} (h : lexLe c t) (n : c ≠ t) : lexLt c t := by
  have : ¬ (c.1 = t.1 ∧ c.2 = t.2) := fun e => n (Prod.ext e.1 e.2)
  unfold lexLe at h
  unfold lexLt
  omega
theorem lex_anti {c t : Pt} (h : lexLe c t) (g : lexLe t c) : c = t := by
  unfold lexLe at h g
  exact Prod.ext (by omega) (by omega)
theorem lex_trans {a b c : Pt} (h : lexLe a b) (g : lexLe b c) : lexLe a c := by
  unfold lexLe at *
  omega
/-- the top of the stack, before a push of p -/
def TopOk (P : List Pt) (p t : Pt) : Prop := (∀ c ∈ P, lexLe c t) ∨ ∃ b, lexLt t b ∧ (∀ c ∈ P, 0 ≤ leftI t b c) ∧ leftI t b p ≤ 0
theorem TopOk.left {P : List Pt} {p t : Pt} (h : TopOk P p t) (hp : lexLe t p) {c : Pt} (hc : c ∈ P) (g : lexLe t c) : 0 ≤ leftI t p c := by
  rcases h with h | ⟨b, h1, h2, h3⟩
  · rw [lex_anti (h c hc) g]
    exact Int.le_of_eq (left_self t p).1.symm
  · exact leftB h1 hp g h3 (h2 c hc)
theorem pop_chain {P : List Pt} {p m : Pt} (hm : ∀ c ∈ P, lexLe m c) (hmp : lexLt m p) : ∀ (r : List Pt) (t : Pt), Chain P (t :: r) → (∀ x ∈ t :: r, lexLe x p) → (t :: r).getLast? = some m → TopOk P p t →
    Chain (p :: P) (p :: popR p (t :: r)) ∧ (popR p (t :: r)).getLast? = some m
  | [], t, hc, hx, hl, ht => by
    have e : t = m := by simpa using hl
    subst e
    refine ⟨⟨hmp, fun c hc => ?_, fun z r' e => (by cases e), trivial⟩, rfl⟩
    rcases List.mem_cons.mp hc with rfl | hc
    · exact Int.le_of_eq (left_self t c).2.symm
    · exact ht.left (hx t (List.mem_cons_self ..)) hc (hm c hc)
  | a :: r, t, hc, hx, hl, ht => by
    have hat := hc.1
    by_cases g : leftI a t p ≤ 0
    · have e : popR p (t :: a :: r) = popR p (a :: r) := by
        conv => lhs; unfold popR
        rw [if_pos g]
      rw [e]
      exact pop_chain hm hmp r a hc.2.2.2 (fun x h => hx x (List.mem_cons_of_mem _ h)) (by simpa using hl) (.inr ⟨t, hat, hc.2.1, g⟩)
    · have e : popR p (t :: a :: r) = t :: a :: r := by
        unfold popR
        rw [if_neg g]
      rw [e]
      have htp : lexLe t p := hx t (List.mem_cons_self ..)
      have gp : 0 < leftI a t p := by omega
      refine ⟨⟨lex_lt htp fun e => ?_, fun c hc' => ?_, fun z r' e => ?_, hc.more htp gp⟩, hl⟩
      · subst e
        have := (left_self a t).2
        omega
      · rcases List.mem_cons.mp hc' with rfl | hc'
        · exact Int.le_of_eq (left_self t c).2.symm
        · rcases lex_total c t with g2 | g2
          · exact leftC hat htp g2 (Int.le_of_lt gp) (hc.2.1 c hc')
          · exact ht.left htp hc' g2
      · obtain ⟨rfl, rfl⟩ := List.cons.inj e
        exact gp
/-- the stack, when the points P are done -/
def StOk (P : List Pt) (m : Pt) (st : List Pt) : Prop :=
  (∀ c ∈ P, lexLe m c) ∧ m ∈ P ∧ (∀ x ∈ st, x ∈ P) ∧
  (((st = [m] ∨ st = [m, m]) ∧ ∀ c ∈ P, c = m) ∨ (∃ t a r, st = t :: a :: r ∧ Chain P st ∧ st.getLast? = some m ∧ ∀ c ∈ P, lexLe c t))
theorem StOk.push {P : List Pt} {m p : Pt} {st : List Pt} (h : StOk P m st) (hp : ∀ c ∈ P, lexLe c p) : StOk (p :: P) m (p :: popR p st) := by
  obtain ⟨h1, h2, h3, h4⟩ := h
  have h1' : ∀ c ∈ p :: P, lexLe m c := fun c hc => by
    rcases List.mem_cons.mp hc with rfl | hc
    · exact hp m h2
    · exact h1 c hc
  refine ⟨h1', List.mem_cons_of_mem _ h2, fun x hx => ?_, ?_⟩
  · rcases List.mem_cons.mp hx with rfl | hx
    · exact List.mem_cons_self ..
    · exact List.mem_cons_of_mem _ (h3 x (popR_sub p st x hx))
  rcases h4 with ⟨h4, h5⟩ | ⟨t, a, r, rfl, h5, h6, h7⟩
  · have e : popR p st = [m] := by
      rcases h4 with rfl | rfl
      · rfl
      · have : leftI m m p = 0 := by
          unfold leftI
          grind
        unfold popR
        rw [if_pos (by omega)]
        rfl
    rw [e]
    by_cases g : p = m
    · subst g
      exact .inl ⟨.inr rfl, fun c hc => by
        rcases List.mem_cons.mp hc with rfl | hc
        · rfl
        · exact h5 c hc⟩
    · refine .inr ⟨p, m, [], rfl, ⟨lex_lt (hp m h2) (fun e => g e.symm), fun c hc => ?_, fun z r' e => (by cases e), trivial⟩, rfl, fun c hc => ?_⟩
      · rcases List.mem_cons.mp hc with rfl | hc
        · exact Int.le_of_eq (left_self m c).2.symm
        · rw [h5 c hc]
          exact Int.le_of_eq (left_self m p).1.symm
      · rcases List.mem_cons.mp hc with rfl | hc
        · unfold lexLe
          omega
        · exact hp c hc
  · have hmt : lexLt m t := by
      refine lex_lt (h7 m h2) fun e => ?_
      subst e
      have h8 := h5.1
      have h9 := h1 a (h3 a (by simp))
      unfold lexLt at h8
      unfold lexLe at h9
      omega
    have hmp : lexLt m p := by
      have := hp t (h3 t (by simp))
      unfold lexLt lexLe at *
      omega
    obtain ⟨k1, k2⟩ := pop_chain h1 hmp (a :: r) t h5 (fun x hx => hp x (h3 x hx)) h6 (.inl h7)
    have hpp : ∀ c ∈ p :: P, lexLe c p := fun c hc => by
      rcases List.mem_cons.mp hc with rfl | hc
      · unfold lexLe
        omega
      · exact hp c hc
    cases hq : popR p (t :: a :: r) with
    | nil =>
      rw [hq] at k2
      cases k2
    | cons y ys =>
      rw [hq] at k1 k2
      exact .inr ⟨p, y, ys, rfl, k1, (by simpa using k2), hpp⟩
theorem StOk.all : ∀ (qs P : List Pt) (m : Pt) (st : List Pt), StOk P m st → qs.Pairwise lexLe → (∀ c ∈ P, ∀ q ∈ qs, lexLe c q) → ∃ P' : List Pt, (∀ c ∈ P, c ∈ P') ∧ (∀ c ∈ qs, c ∈ P') ∧ (∀ c ∈ P', c ∈ P ∨ c ∈ qs) ∧ StOk P' m (halfS st qs)
  | [], P, m, st, h, _, _ => ⟨P, fun c h => h, (fun c h => by cases h), (fun c h => .inl h), h⟩
  | p :: qs, P, m, st, h, hs, hP => by
    obtain ⟨s1, s2⟩ := List.pairwise_cons.mp hs
    obtain ⟨P', k1, k2, k4, k3⟩ := StOk.all qs (p :: P) m (p :: popR p st) (h.push fun c hc => hP c hc p (List.mem_cons_self ..)) s2 (fun c hc q hq => by
      rcases List.mem_cons.mp hc with rfl | hc
      · exact s1 q hq
      · exact hP c hc q (List.mem_cons_of_mem _ hq))
    exact ⟨P', fun c hc => k1 c (List.mem_cons_of_mem _ hc), fun c hc => by
      rcases List.mem_cons.mp hc with rfl | hc
      · exact k1 c (List.mem_cons_self ..)
      · exact k2 c hc, fun c hc => by
      rcases k4 c hc with h | h
      · rcases List.mem_cons.mp h with rfl | h
        · exact .inr (List.mem_cons_self ..)
        · exact .inl h
      · exact .inr (List.mem_cons_of_mem _ h), k3⟩
theorem half_ok (m : Pt) (qs : List Pt) (hs : (m :: qs).Pairwise lexLe) : ∃ P : List Pt, (∀ c ∈ m :: qs, c ∈ P) ∧ (∀ c ∈ P, c ∈ m :: qs) ∧ StOk P m (halfR (m :: qs)) := by
  obtain ⟨s1, s2⟩ := List.pairwise_cons.mp hs
  have h0 : StOk [m] m [m] := ⟨fun c hc => by
    have : c = m := by simpa using hc
    subst this
    unfold lexLe
    omega, by simp, fun x h => h, .inl ⟨.inl rfl, fun c hc => by simpa using hc⟩⟩
  obtain ⟨P, k1, k2, k4, k3⟩ := StOk.all qs [m] m [m] h0 s2 (fun c hc q hq => by
    have : c = m := by simpa using hc
    subst this
    exact s1 q hq)
  exact ⟨P, fun c hc => by
    rcases List.mem_cons.mp hc with rfl | hc
    · exact k1 c (by simp)
    · exact k2 c hc, fun c hc => by
    rcases k4 c hc with h | h
    · have : c = m := by simpa using h
      subst this
      exact List.mem_cons_self ..
    · exact List.mem_cons_of_mem _ h, k3⟩
/-! the other half: turned by half a turn -/
def neg (p : Pt) : Pt := (-p.1, -p.2)
theorem left_neg (a b c : Pt) : leftI (neg a) (neg b) (neg c) = leftI a b c := by
  unfold leftI neg
  grind
theorem pop_neg (p : Pt) : ∀ st : List Pt, popR (neg p) (st.map neg) = (popR p st).map neg
  | [] => rfl
  | [a] => rfl
  | b :: a :: r => by
    show popR (neg p) (neg b :: neg a :: r.map neg) = _
    unfold popR
    rw [left_neg]
    by_cases g : leftI a b p ≤ 0
    · rw [if_pos g, if_pos g]
      exact pop_neg p (a :: r)
    · rw [if_neg g, if_neg g]
      rfl
theorem half_neg : ∀ (ps st : List Pt), halfS (st.map neg) (ps.map neg) = (halfS st ps).map neg
  | [], st => rfl
  | p :: ps, st => by
    show halfS (neg p :: popR (neg p) (st.map neg)) (ps.map neg) = (halfS (p :: popR p st) ps).map neg
    rw [pop_neg]
    exact half_neg ps (p :: popR p st)
theorem neg_neg' (p : Pt) : neg (neg p) = p := by
  unfold neg
  exact Prod.ext (by simp) (by simp)
def Steps (E : Pt → Pt → Prop) : List Pt → Prop
  | a :: b :: r => E a b ∧ Steps E (b :: r)
  | _ => True
theorem Steps.snoc {E : Pt → Pt → Prop} {a b : Pt} (h : E a b) : ∀ l : List Pt, Steps E (l ++ [a]) → Steps E (l ++ [a, b])
  | [], _ => ⟨h, trivial⟩
  | [c], g => ⟨g.1, h, trivial⟩
  | c :: d :: l, g => ⟨g.1, Steps.snoc h (d :: l) g.2⟩
theorem Steps.join {E : Pt → Pt → Prop} {a : Pt} {r : List Pt} (h : Steps E (a :: r)) : ∀ l : List Pt, Steps E (l ++ [a]) → Steps E (l ++ a :: r)
  | [], _ => h
  | [c], g => ⟨g.1, h⟩
  | c :: d :: l, g => ⟨g.1, Steps.join h (d :: l) g.2⟩
theorem Steps.rev {E : Pt → Pt → Prop} : ∀ l : List Pt, Steps (fun b a => E a b) l → Steps E l.reverse
  | [], _ => trivial
  | [c], _ => trivial
  | b :: a :: r, h => by
    have := Steps.rev (a :: r) h.2
    rw [List.reverse_cons] at this
    rw [List.reverse_cons, List.reverse_cons, List.append_assoc]
    exact this.snoc h.1
theorem Steps.zip {E : Pt → Pt → Prop} (x : Pt) : ∀ h : List Pt, Steps E (h ++ [x]) → ∀ e ∈ h.zip (h.drop 1 ++ [x]), E e.1 e.2
  | [], _, e, he => by cases he
  | [a], g, e, he => by
    have : e = (a, x) := by simpa using he
    subst this
    exact g.1
  | a :: b :: r, g, e, he => by
    have : e = (a, b) ∨ e ∈ (b :: r).zip (r ++ [x]) := by simpa using he
    rcases this with rfl | he
    · exact g.1
    · exact Steps.zip x (b :: r) g.2 e he
def SideOk (P : List Pt) (a b : Pt) : Prop := a ≠ b ∧ ∀ c ∈ P, 0 ≤ leftI a b c
theorem lexLt.ne {a b : Pt} (h : lexLt a b) : a ≠ b := fun e => by
  subst e
  unfold lexLt at h
  omega
theorem Chain.steps {P : List Pt} : ∀ st : List Pt, Chain P st → Steps (fun b a => SideOk P a b) st
  | [], _ => trivial
  | [_], _ => trivial
  | b :: a :: r, h => ⟨⟨h.1.ne, h.2.1⟩, Chain.steps (a :: r) h.2.2.2⟩
theorem SideOk.neg {P : List Pt} {a b : Pt} (h : SideOk (P.map R.neg) (R.neg a) (R.neg b)) : SideOk P a b :=
  ⟨fun e => h.1 (by rw [e]), fun c hc => by
    have := h.2 (R.neg c) (List.mem_map.mpr ⟨c, hc, rfl⟩)
    rwa [left_neg] at this⟩
theorem SideOk.sub {P P' : List Pt} (h : ∀ c ∈ P, c ∈ P') {a b : Pt} (g : SideOk P' a b) : SideOk P a b := ⟨g.1, fun c hc => g.2 c (h c hc)⟩
theorem Steps.mono {E F : Pt → Pt → Prop} (h : ∀ a b, E a b → F a b) : ∀ l : List Pt, Steps E l → Steps F l
  | [], _ => trivial
  | [_], _ => trivial
  | _ :: b :: r, g => ⟨h _ _ g.1, Steps.mono h (b :: r) g.2⟩
theorem Steps.map {E : Pt → Pt → Prop} (f : Pt → Pt) : ∀ l : List Pt, Steps E (l.map f) → Steps (fun a b => E (f a) (f b)) l
  | [], _ => trivial
  | [_], _ => trivial
  | _ :: b :: r, g => ⟨g.1, Steps.map f (b :: r) g.2⟩
/-- a shape that is right: no corner lies right of a side, and no side is nought -/
def Convex (cs : List Pt) : Prop := ∀ e ∈ cs.zip (cs.drop 1 ++ cs.take 1), SideOk cs e.1 e.2
theorem half_side {m : Pt} {qs : List Pt} (hs : (m :: qs).Pairwise lexLe) : (∃ M r, halfR (m :: qs) = M :: r ∧ r.getLast? = some m ∧ Steps (SideOk (m :: qs)) (r.reverse ++ [M]) ∧ (∀ c ∈ m :: qs, lexLe c M) ∧ M ∈ m :: qs ∧ (∀ c ∈ r, c ∈ m :: qs) ∧ m ≠ M) ∨ ((halfR (m :: qs)).tail.length ≤ 1 ∧ ∀ c ∈ m :: qs, c = m) := by
  obtain ⟨P, k1, k0, k2, k3, k4, k5⟩ := half_ok m qs hs
  rcases k5 with ⟨k5, k6⟩ | ⟨t, a, r, e, k5, k6, k7⟩
  · refine .inr ⟨?_, fun c hc => k6 c (k1 c hc)⟩
    rcases k5 with e | e <;> rw [e] <;> simp
  · rw [e] at k4 k5 k6
    refine .inl ⟨t, a :: r, e, ?_, ?_, fun c hc => k7 c (k1 c hc), k0 t (k4 t (by simp)), fun c hc => k0 c (k4 c (List.mem_cons_of_mem _ hc)), fun e => ?_⟩
    · simpa using k6
    · have := Steps.rev _ (Chain.steps _ k5)
      rw [List.reverse_cons] at this
      exact Steps.mono (fun a b g => g.sub k1) _ this
    · subst e
      have h8 := k5.1
      have h9 := k2 a (k4 a (by simp))
      unfold lexLt at h8
      unfold lexLe at h9
      omega
theorem last_rev {r : List Pt} {m : Pt} (h : r.getLast? = some m) : ∃ r', r.reverse = m :: r' := by
  rw [List.getLast?_eq_head?_reverse] at h
  cases e : r.reverse with
  | nil => rw [e] at h; cases h
  | cons x xs =>
    rw [e] at h
    have : x = m := by simpa using h
    exact ⟨xs, by rw [this]⟩
theorem lex_neg {a b : Pt} (h : lexLe a b) : lexLe (neg b) (neg a) := by
  unfold lexLe neg at *
  simp only
  omega
theorem hull_convex {rs : List Pt} (hs : rs.Pairwise lexLe) : Convex (hullOf rs) ∧ 3 ≤ (hullOf rs).length := by
  unfold hullOf
  split
  · refine ⟨fun e he => ?_, by decide⟩
    have he' : e = ((0, 0), (2, 0)) ∨ e = ((2, 0), (0, 2)) ∨ e = ((0, 2), (0, 0)) := by simpa using he
    rcases he' with rfl | rfl | rfl <;> refine ⟨by decide, fun c hc => ?_⟩ <;> (have hc' : c = (0, 0) ∨ c = (2, 0) ∨ c = (0, 2) := by simpa using hc) <;> rcases hc' with rfl | rfl | rfl <;> decide
  rename_i hlen
  refine ⟨?_, by omega⟩
  cases rs with
  | nil => exact absurd (by decide) hlen
  | cons m qs =>
  obtain ⟨x, ys, hx⟩ : ∃ x ys, (m :: qs).reverse = x :: ys := by
    cases e : (m :: qs).reverse with
    | nil => simp at e
    | cons x ys => exact ⟨x, ys, rfl⟩
  have mem : ∀ c, c ∈ m :: qs ↔ c ∈ x :: ys := fun c => by rw [← hx, List.mem_reverse]
  have hd : (x :: ys).Pairwise (fun a b => lexLe b a) := by
    rw [← hx]
    exact List.pairwise_reverse.mpr hs
  have hn : (neg x :: ys.map neg).Pairwise lexLe := by
    have : ((x :: ys).map neg).Pairwise lexLe := List.pairwise_map.mpr (hd.imp fun h => lex_neg h)
    exact this
  have en : halfR (neg x :: ys.map neg) = (halfR (x :: ys)).map neg := half_neg (x :: ys) []
  have hmin : ∀ c ∈ m :: qs, lexLe m c := fun c hc => by
    rcases List.mem_cons.mp hc with rfl | hc
    · unfold lexLe
      omega
    · exact (List.pairwise_cons.mp hs).1 c hc
  have hmax : ∀ c ∈ m :: qs, lexLe c x := fun c hc => by
    rcases List.mem_cons.mp ((mem c).mp hc) with rfl | hc
    · unfold lexLe
      omega
    · exact (List.pairwise_cons.mp hd).1 c hc
  rw [hx] at hlen ⊢
  rcases half_side hs with ⟨M, r, e, h1, h2, h3, h4, h5, h6⟩ | ⟨h1, h2⟩
  · have hM : M = x := lex_anti (hmax M h4) (h3 x ((mem x).mpr (List.mem_cons_self ..)))
    subst hM
    rcases half_side hn with ⟨N, s, e', g1, g2, g3, g4, g5, g6⟩ | ⟨g1, g2⟩
    · rw [en] at e'
      cases hU : halfR (M :: ys) with
      | nil => rw [hU] at e'; cases e'
      | cons u us =>
      rw [hU] at e'
      obtain ⟨eN, es⟩ := List.cons.inj e'
      have inv : ∀ c, c ∈ neg M :: ys.map neg → neg c ∈ m :: qs := fun c hc => by
        obtain ⟨d, hd, rfl⟩ := List.mem_map.mp (show c ∈ (M :: ys).map neg from hc)
        rw [neg_neg']
        exact (mem d).mpr hd
      have hu : u = m := by
        refine lex_anti ?_ ?_
        · have := lex_neg (g3 (neg m) ((List.mem_map (l := M :: ys)).mpr ⟨m, (mem m).mp (List.mem_cons_self ..), rfl⟩))
          rw [← eN, neg_neg', neg_neg'] at this
          exact this
        · have := inv N g4
          rw [← eN, neg_neg'] at this
          exact hmin u this
      subst hu
      have hus : us.getLast? = some M := by
        rw [← es] at g1
        rw [List.getLast?_map] at g1
        cases hq : us.getLast? with
        | none => rw [hq] at g1; cases g1
        | some y =>
          rw [hq] at g1
          have : neg y = neg M := by simpa using g1
          have := congrArg neg this
          rw [neg_neg', neg_neg'] at this
          rw [this]
      have st2 : Steps (SideOk (u :: qs)) (us.reverse ++ [u]) := by
        have k : Steps (SideOk ((M :: ys).map neg)) ((us.reverse ++ [u]).map neg) := by
          rw [← es, ← eN] at g2
          simpa using g2
        exact Steps.mono (fun a b g => (SideOk.neg g).sub fun c hc => (mem c).mp hc) _ (Steps.map neg _ k)
      obtain ⟨r', hr⟩ := last_rev h1
      obtain ⟨us', hus'⟩ := last_rev hus
      rw [e]
      show Convex (r.reverse ++ us.reverse)
      have all : Steps (SideOk (u :: qs)) ((r.reverse ++ us.reverse) ++ [u]) := by
        rw [hus', List.append_assoc]
        rw [hus'] at st2
        exact Steps.join st2 _ h2
      have sub : ∀ c ∈ r.reverse ++ us.reverse, c ∈ u :: qs := fun c hc => by
        rcases List.mem_append.mp hc with hc | hc
        · exact h5 c (List.mem_reverse.mp hc)
        · have := inv (neg c) (g5 (neg c) (by rw [← es]; exact List.mem_map.mpr ⟨c, List.mem_reverse.mp hc, rfl⟩))
          rwa [neg_neg'] at this
      intro p hp
      refine SideOk.sub sub (Steps.zip u _ all p ?_)
      have tk : (r.reverse ++ us.reverse).take 1 = [u] := by
        rw [hr]
        rfl
      rw [tk] at hp
      exact hp
    · exfalso
      have q1 := g2 (neg m) ((List.mem_map (l := M :: ys)).mpr ⟨m, (mem m).mp (List.mem_cons_self ..), rfl⟩)
      have := congrArg neg q1
      rw [neg_neg', neg_neg'] at this
      exact h6 this
  · rcases half_side hn with ⟨N, s, e', g1, g2, g3, g4, g5, g6⟩ | ⟨g1, g2⟩
    · exfalso
      obtain ⟨d, hd, rfl⟩ := List.mem_map.mp (show N ∈ (x :: ys).map neg from g4)
      rw [h2 d ((mem d).mpr hd), h2 x ((mem x).mpr (List.mem_cons_self ..))] at g6
      exact g6 rfl
    · exfalso
      apply hlen
      rw [en] at g1
      simp only [List.length_append, List.length_reverse, List.length_tail, List.length_map] at h1 g1 ⊢
      omega

/-! ### no two sides of a hull go the same way -/
def crs (u v : Pt) : Int := u.1 * v.2 - u.2 * v.1
def lexP (u : Pt) : Prop := 0 < u.1 ∨ (u.1 = 0 ∧ 0 < u.2)
def Nsd (u v : Pt) : Prop := crs u v ≠ 0 ∨ (lexP u ∧ lexP (neg v))
theorem nsd_opp {u v : Pt} (h : lexP u) (g : lexP (neg v)) : Nsd u v := .inr ⟨h, g⟩
theorem Nsd.opp {u v : Pt} (h : Nsd u v) (z : crs u v = 0) : (lexP u ∧ lexP (neg v)) ∨ (lexP v ∧ lexP (neg u)) := .inl (h.resolve_left fun n => n z)
def vec (a b : Pt) : Pt := (b.1 - a.1, b.2 - a.2)
def eds : List Pt → List Pt
  | a :: b :: r => vec a b :: eds (b :: r)
  | _ => []
def edsR : List Pt → List Pt
  | b :: a :: r => vec a b :: edsR (a :: r)
  | _ => []
theorem eds_join (a : Pt) (r : List Pt) : ∀ l : List Pt, eds (l ++ a :: r) = eds (l ++ [a]) ++ eds (a :: r)
  | [] => rfl
  | [c] => rfl
  | c :: d :: l => by
    have := eds_join a r (d :: l)
    show vec c d :: eds (d :: l ++ a :: r) = (vec c d :: eds (d :: l ++ [a])) ++ _
    rw [this]
    rfl
theorem eds_rev : ∀ st : List Pt, eds st.reverse = (edsR st).reverse
  | [] => rfl
  | [_] => rfl
  | b :: a :: r => by
    have ih := eds_rev (a :: r)
    rw [List.reverse_cons] at ih
    rw [List.reverse_cons, List.reverse_cons, List.append_assoc]
    show eds (r.reverse ++ a :: [b]) = _
    rw [eds_join, ih]
    show _ = (vec a b :: edsR (a :: r)).reverse
    rw [List.reverse_cons]
    rfl
theorem chain_pw {P : List Pt} : ∀ st : List Pt, Chain P st → (edsR st).Pairwise (fun u v => 0 < crs v u) ∧ ∀ u ∈ edsR st, lexP u
  | [], h => h.elim
  | [_], _ => ⟨List.Pairwise.nil, fun u hu => by cases hu⟩
  | b :: a :: r, h => by
    obtain ⟨hlt, _, hturn, hc⟩ := h
    obtain ⟨pw, lp⟩ := chain_pw (a :: r) hc
    have lu : lexP (vec a b) := by
      unfold lexLt at hlt
      unfold lexP vec
      simp only
      omega
    refine ⟨List.pairwise_cons.mpr ⟨fun v hv => ?_, pw⟩, fun u hu => ?_⟩
    · cases r with
      | nil => cases hv
      | cons z r' =>
        have ht : 0 < crs (vec z a) (vec a b) := by
          have := hturn z r' rfl
          rw [left_vec] at this
          exact this
        have lz : lexP (vec z a) := lp _ (List.mem_cons_self ..)
        rcases List.mem_cons.mp (show v ∈ vec z a :: edsR (z :: r') from hv) with rfl | hv'
        · exact ht
        · have h1 : 0 < crs v (vec z a) := (List.pairwise_cons.mp pw).1 v hv'
          exact lemA (lp v (List.mem_cons_of_mem _ hv')) lz (by unfold lexP at lu; omega) h1 ht
    · rcases List.mem_cons.mp (show u ∈ vec a b :: edsR (a :: r) from hu) with rfl | hu'
      · exact lu
      · exact lp u hu'
theorem vec_neg (a b : Pt) : vec (neg a) (neg b) = neg (vec a b) := by
  unfold vec neg
  exact Prod.ext (by simp only; omega) (by simp only; omega)
theorem edsR_neg : ∀ st : List Pt, edsR (st.map neg) = (edsR st).map neg
  | [] => rfl
  | [_] => rfl
  | b :: a :: r => by
    show vec (neg a) (neg b) :: edsR ((a :: r).map neg) = neg (vec a b) :: (edsR (a :: r)).map neg
    rw [vec_neg, edsR_neg (a :: r)]
theorem crs_neg (u v : Pt) : crs (neg u) (neg v) = crs u v := by
  unfold crs neg
  simp only
  rw [Int.neg_mul_neg, Int.neg_mul_neg]
def Dst (cs : List Pt) : Prop := (eds (cs ++ cs.take 1)).Pairwise Nsd
theorem half_side2 {m : Pt} {qs : List Pt} (hs : (m :: qs).Pairwise lexLe) : (∃ M r, halfR (m :: qs) = M :: r ∧ r.getLast? = some m ∧ ((edsR (M :: r)).Pairwise (fun u v => 0 < crs v u) ∧ ∀ u ∈ edsR (M :: r), lexP u) ∧ (∀ c ∈ m :: qs, lexLe c M) ∧ M ∈ m :: qs ∧ (∀ c ∈ r, c ∈ m :: qs) ∧ m ≠ M) ∨ ((halfR (m :: qs)).tail.length ≤ 1 ∧ ∀ c ∈ m :: qs, c = m) := by
  obtain ⟨P, k1, k0, k2, k3, k4, k5⟩ := half_ok m qs hs
  rcases k5 with ⟨k5, k6⟩ | ⟨t, a, r, e, k5, k6, k7⟩
  · refine .inr ⟨?_, fun c hc => k6 c (k1 c hc)⟩
    rcases k5 with e | e <;> rw [e] <;> simp
  · rw [e] at k4 k5 k6
    refine .inl ⟨t, a :: r, e, ?_, chain_pw _ k5, fun c hc => k7 c (k1 c hc), k0 t (k4 t (by simp)), fun c hc => k0 c (k4 c (List.mem_cons_of_mem _ hc)), fun e => ?_⟩
    · simpa using k6
    · subst e
      have h8 := k5.1
      have h9 := k2 a (k4 a (by simp))
      unfold lexLt at h8
      unfold lexLe at h9
      omega
theorem nsd_of {u v : Pt} (h : 0 < crs u v) : Nsd u v := .inl (by omega)
theorem hull_dst {rs : List Pt} (hs : rs.Pairwise lexLe) : Dst (hullOf rs) := by
  unfold hullOf
  split
  · unfold Dst
    show [((2 : Int), (0 : Int)), (-2, 2), (0, -2)].Pairwise Nsd
    simp only [List.pairwise_cons, List.mem_cons, List.not_mem_nil, or_false, forall_eq_or_imp, forall_eq, List.Pairwise.nil, and_true, false_implies, implies_true]
    refine ⟨⟨.inl (by decide), .inl (by decide)⟩, .inl (by decide)⟩
  rename_i hlen
  cases rs with
  | nil => exact absurd (by decide) hlen
  | cons m qs =>
  obtain ⟨x, ys, hx⟩ : ∃ x ys, (m :: qs).reverse = x :: ys := by
    cases e : (m :: qs).reverse with
    | nil => simp at e
    | cons x ys => exact ⟨x, ys, rfl⟩
  have mem : ∀ c, c ∈ m :: qs ↔ c ∈ x :: ys := fun c => by rw [← hx, List.mem_reverse]
  have hd : (x :: ys).Pairwise (fun a b => lexLe b a) := by
    rw [← hx]
    exact List.pairwise_reverse.mpr hs
  have hn : (neg x :: ys.map neg).Pairwise lexLe := by
    have : ((x :: ys).map neg).Pairwise lexLe := List.pairwise_map.mpr (hd.imp fun h => lex_neg h)
    exact this
  have en : halfR (neg x :: ys.map neg) = (halfR (x :: ys)).map neg := half_neg (x :: ys) []
  have hmin : ∀ c ∈ m :: qs, lexLe m c := fun c hc => by
    rcases List.mem_cons.mp hc with rfl | hc
    · unfold lexLe
      omega
    · exact (List.pairwise_cons.mp hs).1 c hc
  have hmax : ∀ c ∈ m :: qs, lexLe c x := fun c hc => by
    rcases List.mem_cons.mp ((mem c).mp hc) with rfl | hc
    · unfold lexLe
      omega
    · exact (List.pairwise_cons.mp hd).1 c hc
  rw [hx] at hlen ⊢
  rcases half_side2 hs with ⟨M, r, e, h1, h2, h3, h4, h5, h6⟩ | ⟨h1, h2⟩
  · have hM : M = x := lex_anti (hmax M h4) (h3 x ((mem x).mpr (List.mem_cons_self ..)))
    subst hM
    rcases half_side2 hn with ⟨N, s, e', g1, g2, g3, g4, g5, g6⟩ | ⟨g1, g2⟩
    · rw [en] at e'
      cases hU : halfR (M :: ys) with
      | nil => rw [hU] at e'; cases e'
      | cons u us =>
      rw [hU] at e'
      obtain ⟨eN, es⟩ := List.cons.inj e'
      have inv : ∀ c, c ∈ neg M :: ys.map neg → neg c ∈ m :: qs := fun c hc => by
        obtain ⟨d, hd, rfl⟩ := List.mem_map.mp (show c ∈ (M :: ys).map neg from hc)
        rw [neg_neg']
        exact (mem d).mpr hd
      have hu : u = m := by
        refine lex_anti ?_ ?_
        · have := lex_neg (g3 (neg m) ((List.mem_map (l := M :: ys)).mpr ⟨m, (mem m).mp (List.mem_cons_self ..), rfl⟩))
          rw [← eN, neg_neg', neg_neg'] at this
          exact this
        · have := inv N g4
          rw [← eN, neg_neg'] at this
          exact hmin u this
      subst hu
      have hus : us.getLast? = some M := by
        rw [← es] at g1
        rw [List.getLast?_map] at g1
        cases hq : us.getLast? with
        | none => rw [hq] at g1; cases g1
        | some y =>
          rw [hq] at g1
          have : neg y = neg M := by simpa using g1
          have := congrArg neg this
          rw [neg_neg', neg_neg'] at this
          rw [this]
      obtain ⟨r', hr⟩ := last_rev h1
      obtain ⟨us', hus'⟩ := last_rev hus
      rw [e]
      show Dst (r.reverse ++ us.reverse)
      have tk : (r.reverse ++ us.reverse).take 1 = [u] := by
        rw [hr]
        rfl
      have e2 : eds ((r.reverse ++ us.reverse) ++ [u]) = eds (M :: r).reverse ++ eds (u :: us).reverse := by
        rw [List.reverse_cons, List.reverse_cons, hus', List.append_assoc]
        exact eds_join M (us' ++ [u]) r.reverse
      have g2' : (edsR (u :: us)).Pairwise (fun u v => 0 < crs v u) ∧ ∀ v ∈ edsR (u :: us), lexP (neg v) := by
        rw [← es, ← eN, show neg u :: us.map neg = (u :: us).map neg from rfl, edsR_neg] at g2
        refine ⟨List.Pairwise.imp (fun {a b} h => ?_) (List.pairwise_map.mp g2.1), fun v hv => g2.2 _ (List.mem_map.mpr ⟨v, hv, rfl⟩)⟩
        rw [crs_neg] at h
        exact h
      unfold Dst
      rw [tk, e2, eds_rev, eds_rev]
      refine List.pairwise_append.mpr ⟨List.pairwise_reverse.mpr (h2.1.imp fun h => nsd_of h), List.pairwise_reverse.mpr (g2'.1.imp fun h => nsd_of h), fun a ha b hb => nsd_opp (h2.2 a (List.mem_reverse.mp ha)) (g2'.2 b (List.mem_reverse.mp hb))⟩
    · exfalso
      have q1 := g2 (neg m) ((List.mem_map (l := M :: ys)).mpr ⟨m, (mem m).mp (List.mem_cons_self ..), rfl⟩)
      have := congrArg neg q1
      rw [neg_neg', neg_neg'] at this
      exact h6 this
  · rcases half_side2 hn with ⟨N, s, e', g1, g2, g3, g4, g5, g6⟩ | ⟨g1, g2⟩
    · exfalso
      obtain ⟨d, hd, rfl⟩ := List.mem_map.mp (show N ∈ (x :: ys).map neg from g4)
      rw [h2 d ((mem d).mpr hd), h2 x ((mem x).mpr (List.mem_cons_self ..))] at g6
      exact g6 rfl
    · exfalso
      apply hlen
      rw [en] at g1
      simp only [List.length_append, List.length_reverse, List.length_tail, List.length_map] at h1 g1 ⊢
      omega

/-! ### sorted(set(..)) of pairs -/
section
open PySem PySem.Spec PyProof.Rows L2
def kI (h : Heap) (v : Value) : Int × Int := ((TS.intsOf h v).getD 0 0, (TS.intsOf h v).getD 1 0)
theorem kI_is {P : Program} {w : World} {h : Heap} {b : Addr} {x y : Int} (t : IsT P w h [x, y] b) : kI h (.ref b) = (x, y) := by
  unfold kI
  have e : TS.intsOf h (.ref b) = [x, y] := (tupInts_of t).ints
  rw [e]
  rfl
theorem pair_of_isT {P : Program} {w : World} {h : Heap} {b : Addr} {x y : Int} (t : IsT P w h [x, y] b) : Srt.IsPair h (.ref b) x y := by
  obtain ⟨o, items, n, ho, hc, hd, hi⟩ := t
  have h2 := ints_of_items hi
  obtain ⟨l⟩ := items
  cases h2 with
  | cons _ t1 h3 =>
    cases h3 with
    | cons _ t2 h4 =>
      cases h4
      exact ⟨b, o, t1, t2, n, rfl, ho, hc, hd⟩
theorem sorted_setP {P : Program} {w : World} {A : Around} {E : Value → Shared → Prop} {s : Shared} {a : Addr} {L : List (Addr × List Int)} {es : Array (Int × Value)} {ep : Nat} {t : SetTable} {Q : Value → Shared → Prop} (R : SetTR P w s.heap a L es ep t) (hh : A.handled = none)
    (hB : ∀ p ∈ L, ∃ x y, p.2 = [x, y])
    (hQ : ∀ s' p (out : Array Value) (c : Nat) (L' : List (Addr × List Int)), (∀ b o, s.heap.get? b = some o → s'.heap.get? b = some o) → s'.gens = s.gens → s'.os = s.os → s.heap.objs.size ≤ p →
      s'.heap.get? p = some (seqObj "list" out c) → out.toList = L'.map (fun q => Value.ref q.1) → L'.Perm L → L'.Pairwise (fun q r => SrtO.lexB (r.2.getD 0 0, r.2.getD 1 0) (q.2.getD 0 0, q.2.getD 1 0) = false) → Q (.ref p) s') :
    wpAny (model P w) A (call (.builtin "sorted") [.ref a]) Q E s := by
  obtain ⟨o, ho, hex, hd⟩ := R.ob
  have hsz := R.size
  have hfew := R.few
  refine Calls.call_function_entry kind_sorted plain_sorted entry_sorted (args_sorted1 _) ?_
  unfold Builtin.«sorted»
  refine wpAny_bind (m := checkCount "sorted" 1 1 _) (wpAny_pure ?_)
  refine wpAny_bind (collect_set (A := A.in1) hh ⟨o, ho, hex.1, hd⟩ R.fits (by unfold scanBound; omega) R.tab.ris R.led fun s1 vs k1 hz g1 o1 pm => ?_)
  have hes : es.toList.map (·.2) = L.map fun q => Value.ref q.1 := by
    rw [R.rows]
    unfold rowsOf
    rw [List.map_map] <;> rfl
  rw [hes] at pm
  have ord : ∀ vs : List Value, (∀ v ∈ vs, ∃ q ∈ L, v = Value.ref q.1) → ∃ L1 : List (Addr × List Int), vs = L1.map (fun q => Value.ref q.1) ∧ ∀ q ∈ L1, q ∈ L := by
    intro vs
    induction vs with
    | nil => intro _; exact ⟨[], rfl, fun q hq => (by cases hq)⟩
    | cons v vs ih =>
      intro hv
      obtain ⟨q, hq, e⟩ := hv v List.mem_cons_self
      obtain ⟨L1, e1, hs⟩ := ih fun u hu => hv u (List.mem_cons_of_mem _ hu)
      refine ⟨q :: L1, by rw [List.map_cons, e, e1], fun r hr => ?_⟩
      rcases List.mem_cons.mp hr with z | z
      · rw [z]; exact hq
      · exact hs r z
  have one : ∀ q ∈ L, ∀ r ∈ L, q.1 = r.1 → q = r := fun q hq r hr e => by
    have a1 := R.tup q hq
    have a2 := R.tup r hr
    rw [e] at a1
    have e2 : q.2 = r.2 := a1.inj a2
    exact Prod.ext e e2
  have perm_of : ∀ L1 : List (Addr × List Int), (∀ q ∈ L1, q ∈ L) → (L1.map (fun q => Value.ref q.1)).Perm (L.map fun q => Value.ref q.1) → L1.Perm L := by
    intro L1 hs pm1
    have nL : L.Nodup := nodup_of_map R.nd
    have nref : (L.map fun q => Value.ref q.1).Nodup := by
      refine List.pairwise_map.mpr (List.Pairwise.imp_of_mem (fun {q r} hq hr hne e => ?_) nL)
      injection e with e
      exact hne (one q hq r hr e)
    have n1 : L1.Nodup := nodup_of_map (pm1.nodup_iff.mpr nref)
    refine (List.perm_ext_iff_of_nodup n1 nL).mpr fun q => ⟨hs q, fun hq => ?_⟩
    have hm : Value.ref q.1 ∈ L1.map (fun q => Value.ref q.1) := pm1.mem_iff.mpr (List.mem_map.mpr ⟨q, hq, rfl⟩)
    obtain ⟨r, hr, e⟩ := List.mem_map.mp hm
    injection e with e
    rw [← one r (hs r hr) q hq e]
    exact hr
  have hvl : vs.length < 64 := by rw [pm.length_eq, List.length_map]; exact hfew
  have hvz : vs.length ≤ sizeLine := by rw [sizeLine_eq]; omega
  refine wpAny_bind (wpAny_newList ?_ hvz)
  have hoL : (s1.heap.push (seqObj "list" vs.toArray 0)).get? s1.heap.objs.size = some (seqObj "list" vs.toArray 0) := Heap.get?_push_size _ rfl
  have tk : ∀ q ∈ L, IsT P w (s1.heap.push (seqObj "list" vs.toArray 0)) q.2 q.1 := fun q hq => isT_keep (R.tup q hq) fun b u e => Heap.get?_push_of_some _ (k1 b u e)
  have x : ∀ v ∈ vs, Srt.IsPair (s1.heap.push (seqObj "list" vs.toArray 0)) v (kI (s1.heap.push (seqObj "list" vs.toArray 0)) v).1 (kI (s1.heap.push (seqObj "list" vs.toArray 0)) v).2 := fun v hv => by
    obtain ⟨q, hq, e⟩ := List.mem_map.mp (pm.mem_iff.mp hv)
    obtain ⟨a1, a2, e2⟩ := hB q hq
    have t1 := tk q hq
    rw [e2] at t1
    rw [← e, kI_is t1]
    exact pair_of_isT t1
  refine wpAny_bind (wpAny_holding (wpAny_call_entry slot_list_sort ⟨_, hoL, rfl⟩ entry_list_sort (SrtO.list_sort_ord (s := { s1 with heap := s1.heap.push (seqObj "list" vs.toArray 0) }) (SrtO.swo_lex (kI (s1.heap.push (seqObj "list" vs.toArray 0)))) hoL hvz (fun h2 => SrtO.pairs_sortableO (by omega) x fun o e => ?_) fun out hs hb => ⟨_, rfl, ?_⟩) (args_list_sort _)))
  · have e' : some o = some (seqObj "list" vs.toArray 0) := e.symm.trans hoL
    cases e'
    intro c
    exact absurd (Value.type.inj c) (by decide)
  obtain ⟨c, hc⟩ := sortedHeap_at (vs := vs) (out := out.toArray) hoL
  obtain ⟨L', e', hs'⟩ := ord out fun v hv => by
    obtain ⟨q, hq, e⟩ := List.mem_map.mp (pm.mem_iff.mp (hb.perm.mem_iff.mp hv))
    exact ⟨q, hq, e.symm⟩
  have pL : L'.Perm L := perm_of L' hs' (by rw [← e']; exact hb.perm.trans pm)
  have pw : L'.Pairwise (fun q r => SrtO.lexB (r.2.getD 0 0, r.2.getD 1 0) (q.2.getD 0 0, q.2.getD 1 0) = false) := by
    rw [e'] at hs
    have kk : ∀ q ∈ L', kI (s1.heap.push (seqObj "list" vs.toArray 0)) (.ref q.1) = (q.2.getD 0 0, q.2.getD 1 0) := fun q hq => by
      obtain ⟨a1, a2, e2⟩ := hB q (hs' q hq)
      have t1 := tk q (hs' q hq)
      rw [e2] at t1
      rw [kI_is t1, e2]
      rfl
    refine List.Pairwise.imp_of_mem (fun {q r} hq hr hle => ?_) (List.pairwise_map.mp hs)
    rw [← kk q hq, ← kk r hr]
    exact hle
  refine wpAny_pure ⟨_, rfl, hQ _ s1.heap.objs.size out.toArray c L' (fun b u e => ?_) g1 o1 hz hc (by simpa using e') pL pw⟩
  have q := k1 b u e
  have hlt := Heap.lt_size q
  show (sortedHeap (s1.heap.push (seqObj "list" vs.toArray 0)) s1.heap.objs.size vs out.toArray).get? b = some u
  rw [sortedHeap_old (Nat.ne_of_lt hlt) (by rw [size_push']; exact Nat.lt_succ_of_lt hlt)]
  exact Heap.get?_push_of_some _ q
def rSortP2 (K : PySem.W.Frag) (P : Program) (w : World) : List V → Hp → VK → Prop := fun vs H Q => ∃ (a : Addr) (L : List (Addr × List Int)), vs = [V.ref a] ∧ H a = some (SetTO P w a L) ∧ (∀ p ∈ L, SqT K H p.1 (p.2.map V.int)) ∧
  (∀ p ∈ L, ∃ x y, p.2 = [x, y]) ∧
  ∀ (L' : List (Addr × List Int)) (p : Addr), L'.Perm L → (L'.map (·.2)).Nodup → L'.length < 64 → L'.Pairwise (fun q r => SrtO.lexB (r.2.getD 0 0, r.2.getD 1 0) (q.2.getD 0 0, q.2.getD 1 0) = false) → H p = none → Q (.ref p) (upd H p (.lst (L'.map fun q => V.ref q.1)))
theorem cr_sortP2 {X : Cx} (hc : X.calm = true) : CallR X (.builtin "sorted") (rSortP2 X.K X.prog X.w) := by
  intro pins s σ H vs us Q I r h
  obtain ⟨a, L, rfl, ha, hk, hB, q⟩ := h
  have R0 : SetT0 X.prog X.w s.heap a L := (I.hok a _ ha).1
  obtain ⟨es, ep, t, R⟩ := R0.full fun p hp => I.isT (hk p hp)
  rw [Vals.ref1 r]
  refine sorted_setP R (I.ok.hd hc) hB fun s' p out c L' k g o hp hg hout pm pw => ?_
  have hfew : L'.length < 64 := by rw [pm.length_eq]; exact R.few
  have hlen : (L'.map fun q => V.ref q.1).length ≤ sizeLine := by rw [List.length_map, sizeLine_eq]; omega
  have hn : H p = none := I.hok.fresh hp
  have hv : Vals (L'.map fun q => V.ref q.1) out.toList := by rw [hout]; exact vals_of_refs L'
  have J : Inv X pins σ (upd H p (.lst (L'.map fun q => V.ref q.1))) { s with heap := s'.heap, gens := s'.gens, drawn := s'.drawn, toks := s'.toks } :=
    I.call (ch := []) (Un.laid k hp hn) (I.hok.laid k hp ⟨hlen, out.toList, c, hv, hg⟩) (by rw [g]; exact I.bare) (fun _ z => nomatch z)
  have e : s' = { s with heap := s'.heap, gens := s'.gens, drawn := s'.drawn, toks := s'.toks } := by
    cases s'
    cases s
    cases o
    rfl
  rw [e]
  exact ⟨.ref p, _, J, rfl, q L' p pm ((pm.map (·.2)).nodup_iff.mpr R.nd) hfew pw hn⟩
end

/-! ### sorted(set(..)) of pairs in the mirror -/
section
variable {K : PySem.W.Frag}
def rSetT (K : PySem.W.Frag) (P : Program) (w : World) : List V → Hp → VK → Prop := rSetOfT K P w
theorem k_setT {X : Cx} (hK : X.K = K) (hc : X.calm = true) (hu : X.A.units + 64 < cLine) : CallR X (.type "set") (rSetT K X.prog X.w) := hK ▸ cr_setOfT hc hu
theorem k_sortT {X : Cx} (hK : X.K = K) (hc : X.calm = true) : CallR X (.builtin "sorted") (rSortP2 K X.prog X.w) := hK ▸ cr_sortP2 hc
theorem pts_ks {W : Wd} {H : Hp} : ∀ {ps : List Pt} {us : List V}, AtAll K W H us (ps.map pt) → ∃ ks : List (Addr × List Int), us = (ks.map fun p => V.ref p.1) ∧ ks.map (·.2) = ps.map (fun p => [p.1, p.2]) ∧ ∀ k ∈ ks, SqT K H k.1 (k.2.map V.int) ∧ ∃ p : Pt, k.2 = [p.1, p.2] ∧ At K W H (.ref k.1) (pt p)
  | [], _, h => by cases h; exact ⟨[], rfl, rfl, fun z hz => by cases hz⟩
  | p :: ps, _, h => by
    cases h with
    | @cons v vs _ _ a r =>
      obtain ⟨ks, h1, h2, h3⟩ := pts_ks r
      have a' := a
      cases a' with
      | @tup t xs _ s b =>
        cases b with
        | cons b1 b =>
          cases b with
          | cons b2 b =>
            cases b
            cases b1
            cases b2
            refine ⟨(t, [p.1, p.2]) :: ks, by rw [List.map_cons, h1], by rw [List.map_cons, h2, List.map_cons], fun k hk => ?_⟩
            rcases List.mem_cons.mp hk with rfl | hk
            · exact ⟨s, p, rfl, a⟩
            · exact h3 k hk
theorem ks_at {W : Wd} {H : Hp} : ∀ {L : List (Addr × List Int)}, (∀ k ∈ L, ∃ p : Pt, k.2 = [p.1, p.2] ∧ At K W H (.ref k.1) (pt p)) → AtAll K W H (L.map fun q => V.ref q.1) ((L.map fun q => ((q.2.getD 0 0, q.2.getD 1 0) : Pt)).map pt)
  | [], _ => .nil
  | k :: L, h => by
    obtain ⟨p, e, a⟩ := h k List.mem_cons_self
    refine .cons ?_ (ks_at fun z hz => h z (List.mem_cons_of_mem _ hz))
    show At K W H (.ref k.1) (pt (k.2.getD 0 0, k.2.getD 1 0))
    rw [e]
    exact a
def aSS (f : AE) : AE := fun ρ n Q => f ρ n fun d n1 => ∃ ps : List Pt, d = .lst (ps.map pt) ∧ ps.length < 64 ∧ ∀ rs : List Pt, rs.Nodup → (∀ p, p ∈ rs ↔ p ∈ ps) → rs.Pairwise lexLe → Q (.lst (rs.map pt)) n1
instance {P : Program} {w : World} {te : TE} {f : AE} [DE K te f] : DE K (tCB (rSortP2 K P w) (tCons (tCB (rSetT K P w) (tCons te tNil)) tNil)) (aSS f) := ⟨fun W σ ρ n H Q Qa hQ hE o h =>
  DE.run (te := te) (f := f) W σ ρ n H _ _ (fun d n1 h1 H1 x l1 o1 ax => by
    obtain ⟨ps, rfl, hl, q⟩ := h1
    cases ax with
    | @lst l us _ nr s a =>
      obtain ⟨ks, rfl, h2, h3⟩ := pts_ks a
      have hkl : ks.length = ps.length := by simpa using congrArg List.length h2
      refine ⟨l, ks, rfl, SqL.of s, fun p hp => (h3 p hp).1, by omega, fun c L hc hL1 hL2 => ?_⟩
      have s1 : Same H1 (upd H1 c (SetTO P w c L)) := same_upd hc
      refine ⟨c, L, rfl, upd_same, fun p hp => Same.seqT s1 (h3 p (hL1 p hp)).1, fun p hp => ?_, fun L' p pm nd hlen pw hp => ?_⟩
      · obtain ⟨_, z, e, _⟩ := h3 p (hL1 p hp)
        exact ⟨_, _, e⟩
      · have o2 := o1.same s1
        have hin : ∀ k ∈ L', k ∈ ks := fun k hk => hL1 k (pm.mem_iff.mp hk)
        have hshape : ∀ k ∈ L', k.2 = [k.2.getD 0 0, k.2.getD 1 0] := fun k hk => by
          obtain ⟨_, z, e, _⟩ := h3 k (hin k hk)
          rw [e]
          rfl
        refine ((hQ.le l1).le (Wd.le_same s1)).new o2 (q (L'.map fun q => (q.2.getD 0 0, q.2.getD 1 0)) ?_ ?_ ?_) hp ?_
        · refine List.pairwise_map.mpr (List.Pairwise.imp_of_mem (fun {a b} ha hb hne e => hne ?_) (List.pairwise_map.mp nd))
          have e1 := congrArg Prod.fst e
          have e2 := congrArg Prod.snd e
          simp only at e1 e2
          rw [hshape a ha, hshape b hb, e1, e2]
        · intro p
          constructor
          · intro hm
            obtain ⟨k, hk, e⟩ := List.mem_map.mp hm
            have : k.2 ∈ ps.map (fun p => [p.1, p.2]) := by rw [← h2]; exact List.mem_map.mpr ⟨k, hin k hk, rfl⟩
            obtain ⟨z, hz, ez⟩ := List.mem_map.mp this
            rw [← ez] at e
            rw [← e]
            exact hz
          · intro hm
            have : [p.1, p.2] ∈ ks.map (·.2) := by rw [h2]; exact List.mem_map.mpr ⟨p, hm, rfl⟩
            obtain ⟨k, hk, e⟩ := List.mem_map.mp this
            have h4 := hL2 k hk
            rw [e] at h4
            obtain ⟨k', hk', e'⟩ := List.mem_map.mp h4
            refine List.mem_map.mpr ⟨k', pm.mem_iff.mpr hk', ?_⟩
            rw [e']
            rfl
        · refine List.pairwise_map.mpr (pw.imp fun {a b} h => ?_)
          have := SrtO.lexB_no.mp h
          unfold lexLe
          simp only at this ⊢
          omega
        · refine .lst (o2.fresh hp) upd_same ?_
          refine AtAll.le o2 (Wd.le_same (same_upd hp)) _ ?_
          refine ks_at fun k hk => ?_
          obtain ⟨_, z, e, az⟩ := h3 k (hin k hk)
          exact ⟨z, e, At.le o1 (Wd.le_same s1) _ az⟩) hE o h⟩
end

/-! ### lists that a call tells, new ones: they may be built on -/
section
variable {K : PySem.W.Frag} {ow : List Nat} {Wx : WX}
def WantsN (K : PySem.W.Frag) (W : Wd) (H : Hp) (Qa : D → Nat → Prop) (Q : VK) : Prop := ∀ d n', Qa d n' → ∀ H' v, W.le H H' → W.ok K n' H' → At K W H' v d → (∀ a, v = .ref a → H a = none) → Q v H'
/-- the promise of a def that tells a new list -/
def spNew (K : PySem.W.Frag) (k : Nat) (A : ASp) : Sp := fun vs H Q _ => ∃ (W : Wd) (n : Nat) (ds : List D) (Qa : D → Nat → Prop), AtAll K W H vs ds ∧ ds.length = k ∧ W.ok K n H ∧ WantsN K W H Qa Q ∧ A ds n Qa
theorem new_plain {P : Program} {w : World} {mg : Str → Option Value} {base : Heap} {CX : CXT} {j k : Nat} {f : Addr} {fd : FuncData} {ps : List Str} {A : ASp} (F : FnOk P w K mg base CX j f fd ps (spNew K k A)) : FnOk P w K mg base CX j f fd ps (spOf K k A) := F.imp fun vs H Q E ⟨W, n, ds, Qa, a, hl, o, hQ, h⟩ => ⟨W, n, ds, Qa, a, hl, o, fun d n' q H' v l o' av _ => hQ d n' q H' v l o' av, h⟩
theorem pss_assoc {X : Cx} {ss : List Stmt} {t u v : TS} (h : PSs X ss (tSeq t (tSeq u v))) : PSs X ss (tSeq (tSeq t u) v) := h
theorem fn_mirN {P : Program} {w : World} {mg : Str → Option Value} {base : Heap} {x qual : Str} {st : Stmt} {f : Addr} {fd : FuncData} {N ps : List Str} {k : Nat} {A : ASp} (ow : List Nat) (kk i : Nat) (hk : N.length = kk) (hp : ps.length ≤ kk) (ho : ∀ i ∈ ow, ps.length ≤ i) (hi : i ∈ ow) (F : Fun K x qual st f fd) (S : FnScope N ps (defScope st))
    (hbody : ∀ (cdv : Value) (Ar : Around) (outer : List Env) (s : Shared) (H : Hp) (E : XK), Room k (Ar.deeper (envOfC qual (defScope st) s.heap.objs.size f cdv)) →
      ∃ (t : TS) (fa : AS), PSs (cxOf CX0 P w K mg base N qual (defScope st) f cdv Ar outer s H E).nox (defBody st) (tSeq t (tRet (tVar i))) ∧ DS K W0 ow t fa ∧ ∀ ds n Q, ds.length = ps.length → A ds n Q → fa { nx := fun ρ n' => ∃ d, eGet ρ i = some d ∧ Q d n', rt := fun _ _ => False } (startA kk ds) n) : FnOk P w K mg base CX0 (k + 1) f fd ps (spNew K ps.length A) := by
  refine F.ok S (fun vs H Q E h => ?_) (fun cdv Ar outer s H vs Q E hr h => ?_)
  · obtain ⟨W, n, ds, Qa, a, hl, _⟩ := h
    rw [a.length, hl]
  · obtain ⟨W, n, ds, Qa, a, hl, o, hQ, hA⟩ := h
    obtain ⟨t, fa, h1, h2, h3⟩ := hbody cdv Ar outer s H E hr
    refine ⟨_, h1, ?_⟩
    refine DS.run (Wx := W0) (ow := ow) (t := t) (f := fa) W [] (L2.start N vs) (startA kk ds) n H _ { nx := fun ρ n' => ∃ d, eGet ρ i = some d ∧ Qa d n', rt := fun _ _ => False } ⟨fun ρ' n' ⟨d, e, q⟩ U' σ' H' stp sok => ?_, fun d n' q => q.elim, fun _ _ q => q.elim, fun _ _ q => q.elim, fun _ _ _ _ _ q => q.elim⟩ (start_ok hk (by omega) (fun i hi => by rw [hl]; exact ho i hi) a o) (h3 ds n Qa hl hA)
    obtain ⟨u, hu, e1, _⟩ := sok.own i d hi e
    obtain ⟨v, e2, av⟩ := sok.opn.2 i d e
    refine ⟨v, e2, hQ d n' q H' v (le_start stp) sok.base av fun b hb => ?_⟩
    rw [e1] at e2
    have : V.ref u.1 = v := Option.some.inj (Option.some.inj e2)
    rw [hb] at this
    have hub : u.1 = b := V.ref.inj this
    rw [← hub]
    exact stp.new u.1 (Wd.rs_plus.mpr (.inl (List.mem_map.mpr ⟨u, hu, rfl⟩))) (fun z => sok.nr u hu (by
      rcases Wd.rs_plus.mp z with z | z
      · cases z
      · exact z))
/-- things without lists -/
inductive Flt : D → Prop
  | int (i : Int) : Flt (.int i)
  | str (x : Str) : Flt (.str x)
  | pair (i j : Int) : Flt (.tup [.int i, .int j])
def less (H : Hp) (a : Addr) : Hp := fun x => if x = a then none else H x
theorem less_ne {H : Hp} {a x : Addr} (h : x ≠ a) : less H a x = H x := if_neg h
theorem less_same {H : Hp} {a : Addr} : less H a a = none := if_pos rfl
theorem less_back {H : Hp} {a : Addr} {o : HO} (h : H a = some o) : upd (less H a) a o = H := by
  funext x
  by_cases e : x = a
  · subst e; rw [upd_same, h]
  · rw [upd_ne e, less_ne e]
theorem sqt_less {H : Hp} {a x : Addr} {us xs : List V} (ha : H a = some (.lst us)) (h : SqT K H x xs) : SqT K (less H a) x xs := by
  rcases h with (h | ⟨o, h⟩) | h
  · exact .inl (.inl (by rw [less_ne (fun e => by rw [e, ha] at h; cases h)]; exact h))
  · exact .inl (.inr ⟨o, by rw [less_ne (fun e => by rw [e, ha] at h; cases h)]; exact h⟩)
  · exact .inr h
theorem flt_less {W : Wd} {H : Hp} {a : Addr} {us : List V} (ha : H a = some (.lst us)) : ∀ {d : D} {v : V}, Flt d → At K W H v d → At K W (less H a) v d
  | _, _, .int i, h => by cases h; exact .int i
  | _, _, .str x, h => by cases h; exact .str x
  | _, _, .pair i j, h => by
    cases h with
    | tup s b =>
      cases b with
      | cons b1 b =>
        cases b with
        | cons b2 b =>
          cases b
          cases b1
          cases b2
          exact .tup (sqt_less ha s) (.cons (.int i) (.cons (.int j) .nil))
theorem fltAll_less {W : Wd} {H : Hp} {a : Addr} {us : List V} (ha : H a = some (.lst us)) : ∀ {ds : List D} {vs : List V}, (∀ d ∈ ds, Flt d) → AtAll K W H vs ds → AtAll K W (less H a) vs ds
  | [], _, _, h => by cases h; exact .nil
  | d :: ds, _, hf, h => by
    cases h with
    | cons b r => exact .cons (flt_less ha (hf d List.mem_cons_self) b) (fltAll_less ha (fun x hx => hf x (List.mem_cons_of_mem _ hx)) r)
theorem ok_less {W : Wd} {n : Nat} {H : Hp} {a : Addr} {us : List V} (o : W.ok K n H) (ha : H a = some (.lst us)) (nr : ¬ W.rs a) : W.ok K n (less H a) := by
  refine ⟨fun d b e => ?_, fun p hp => ?_, o.dis⟩
  · obtain ⟨c, ⟨⟨s, ns, cs, i, k, h1, h2, h3, h4⟩, ne⟩, l⟩ := o.deck d b e
    have nd : d ≠ a := fun z => nr (.inl ⟨d, b, e, .inl z.symm⟩)
    have nb : b ≠ a := fun z => nr (.inl ⟨d, b, e, .inr z.symm⟩)
    refine ⟨c, ⟨⟨s, ns, cs, i, k, by rw [less_ne nd]; exact h1, by rw [less_ne nb]; exact h2, ?_, h4⟩, ne⟩, l⟩
    rcases h3 with ⟨ob, h⟩ | h
    · exact .inl ⟨ob, by rw [less_ne (fun z => by rw [z, ha] at h; cases h)]; exact h⟩
    · exact .inr h
  · obtain ⟨h1, h2⟩ := o.owns p hp
    have np : p.1 ≠ a := fun z => nr (.inr (List.mem_map.mpr ⟨p, hp, z⟩))
    exact ⟨by rw [less_ne np]; exact h1, h2⟩
def tOwnC (K : PySem.W.Frag) (i k : Nat) (A : ASp) (E : XK) (ta : TA) : TS := tAsg (tCall (spNew K k A) [] E ta) (gName i)
theorem k_ownC {X : Cx} {st : Stmt} {i k : Nat} {A : ASp} {E : XK} {ta : TA} (h : PS X st (tAsg (tCall (spNew K k A) [] E ta) (gName i))) : PS X st (tOwnC K i k A E ta) := h
def aOwnC (ow : List Nat) (i k : Nat) (A : ASp) (g : AA) : AS := fun E ρ n => g (wipeA ρ ow) n fun ds n1 => match Nat.beq ds.length k, ow.contains i with
  | true, true => A ds n1 fun d n2 => ∃ es, d = .lst es ∧ (∀ e ∈ es, Flt e) ∧ E.nx (eSet ρ i (some (.lst es))) n2
  | _, _ => False
instance {i k : Nat} {A : ASp} {E0' : XK} {ta : TA} {g : AA} [DA K ta g] : DS K Wx ow (tOwnC K i k A E0' ta) (aOwnC ow i k A g) := ⟨fun W U σ ρ n H E Ea hD s h =>
  DA.run (te := ta) (f := g) (W.plus U) σ _ n H _ _ (fun ds n1 h1 H1 vs l1 o1 ax => by
    rw [List.append_nil]
    split at h1
    · rename_i hb hc
      refine ⟨W.plus U, n1, ds, _, ax, Nat.eq_of_beq_eq_true hb, o1, ?_, h1⟩
      rintro d n2 ⟨es, rfl, hf, q⟩ H2 v l2 o2 av fresh
      cases av with
      | @lst a us _ nr ha as =>
        have h0 : H1 a = none := fresh a rfl
        have l3 : (W.plus U).le H1 (less H2 a) := fun x ob r e => by
          rw [less_ne (fun z => by rw [z, h0] at e; cases e)]
          exact l2 x ob r e
        have o3 := ok_less o2 ha nr
        obtain ⟨st, s2⟩ := ((s.le l1 o1).le l3 o3).new (List.contains_iff_mem.mp hc) less_same (fltAll_less ha hf as)
        rw [less_back ha] at st s2
        exact hD.nx _ _ q _ _ _ (((Stp.hid l1).trans (Stp.hid l3)).trans st) s2
    · exact h1.elim) s.hid s.ok h⟩
/-! the rest of a def in which the built lists are only read -/
def tOpenS (t : TS) : TS := t
theorem k_openS {X : Cx} {ss : List Stmt} {t : TS} (h : PSs X ss t) : PSs X ss (tOpenS t) := h
def aOpenS (f : AS) : AS := fun E ρ n => f { nx := fun _ _ => False, rt := E.rt } ρ n
instance {t : TS} {f : AS} [DS K Wx [] t f] : DS K Wx ow (tOpenS t) (aOpenS f) := ⟨fun W U σ ρ n H E Ea hD s h =>
  DS.run (Wx := Wx) (ow := []) (t := t) (f := f) W [] σ ρ n H E { nx := fun _ _ => False, rt := Ea.rt } ⟨fun _ _ q => q.elim, fun d n' q U1 H1 H' v st l2 o' a' => hD.rt d n' q U H H' v Stp.refl ((le_start st).trans l2) o' a', fun _ _ q => q.elim, fun _ _ q => q.elim, fun _ _ _ _ _ q => q.elim⟩
    ⟨List.nodup_nil, fun u hu => (by cases hu), s.base, s.opn.1, fun i d _ he => s.opn.2 i d he, fun i d hi _ => (by cases hi), fun i j p hi _ _ _ _ => (by cases hi)⟩ h⟩
end

/-! ### built lists that begin as a sum of lists, or go on as one -/
section
variable {K : PySem.W.Frag} {ow : List Nat} {Wx : WX}
def tOwnP (K : PySem.W.Frag) (i : Nat) (ta tb : TE) : TS := tAsg (tOp (rAddA K) ta tb) (gName i)
theorem k_ownP {X : Cx} {st : Stmt} {i : Nat} {ta tb : TE} (h : PS X st (tAsg (tOp (rAddA K) ta tb) (gName i))) : PS X st (tOwnP K i ta tb) := h
def aOwnP (ow : List Nat) (i : Nat) (fa fb : AE) : AS := fun E ρ n => fa (wipeA ρ ow) n fun d n1 => fb (wipeA ρ ow) n1 fun e n2 => match d, e, ow.contains i with
  | .lst ds, .lst es, true => ds.length + es.length ≤ 1000000 ∧ E.nx (eSet ρ i (some (.lst (ds ++ es)))) n2
  | _, _, _ => False
instance {i : Nat} {ta tb : TE} {fa fb : AE} [DE K ta fa] [DE K tb fb] : DS K Wx ow (tOwnP K i ta tb) (aOwnP ow i fa fb) := ⟨fun W U σ ρ n H E Ea hD s h =>
  DE.run (te := ta) (f := fa) (W.plus U) σ _ n H _ _ (fun d n1 h1 H1 x l1 o1 ax => DE.run (te := tb) (f := fb) (W.plus U) σ _ n1 H1 _ _ (fun e n2 h2 H2 y l2 o2 ay => by
    split at h2
    · rename_i ds es hc
      have ax2 := At.le o1 l2 _ ax
      cases ax2 with
      | lst r s1 a =>
        cases ay with
        | lst r' s2 a' =>
          refine .inl (.inr ⟨_, _, _, _, rfl, rfl, s1, s2, ?_, fun p hp => ?_⟩)
          · rw [a.length, a'.length]
            exact Nat.le_trans h2.1 lim
          · obtain ⟨st, s3⟩ := ((s.le l1 o1).le l2 o2).new (List.contains_iff_mem.mp hc) hp (a.append a')
            exact hD.nx _ _ h2.2 _ _ _ (((Stp.hid l1).trans (Stp.hid l2)).trans st) s3
    · exact h2.elim) (s.hid.le s.ok l1) o1 h1) s.hid s.ok h⟩
def tOwnA (K : PySem.W.Frag) (i : Nat) (tb : TE) : TS := tAsg (tOp (rAddA K) (tVar i) tb) (gName i)
theorem k_ownA {X : Cx} {st : Stmt} {i : Nat} {tb : TE} (h : PS X st (tAsg (tOp (rAddA K) (tVar i) tb) (gName i))) : PS X st (tOwnA K i tb) := h
def aOwnA (ow : List Nat) (i : Nat) (fb : AE) : AS := fun E ρ n => match eGet ρ i, ow.contains i with
  | some (.lst ds), true => fb (wipeA ρ ow) n fun e n2 => (match e with
    | .lst es => ds.length + es.length ≤ 1000000 ∧ E.nx (eSet ρ i (some (.lst (ds ++ es)))) n2
    | _ => False)
  | _, _ => False
instance {i : Nat} {tb : TE} {fb : AE} [DE K tb fb] : DS K Wx ow (tOwnA K i tb) (aOwnA ow i fb) := ⟨fun W U σ ρ n H E Ea hD s h => by
  unfold aOwnA at h
  split at h
  · rename_i ds he hc
    have hi := List.contains_iff_mem.mp hc
    obtain ⟨u, hu, e1, a0⟩ := s.own i _ hi he
    refine ⟨_, e1, DE.run (te := tb) (f := fb) (W.plus U) σ _ n H _ _ (fun e n2 h2 H2 y l2 o2 ay => ?_) s.hid s.ok h⟩
    have s2 := s.le l2 o2
    obtain ⟨u', hu', e1', a⟩ := s2.own i _ hi he
    have eu : u.1 = u'.1 := by
      rw [e1] at e1'
      exact V.ref.inj (Option.some.inj (Option.some.inj e1'))
    have hp1 := (s2.ok.owns _ (List.mem_append_left _ hu')).1
    rw [← eu] at hp1
    obtain ⟨p, ob⟩ := u'
    split at h2
    · rename_i es
      cases a with
      | lst a =>
        cases ay with
        | lst r' s3 a' =>
          refine .inl (.inr ⟨_, _, _, _, rfl, rfl, hp1, s3, ?_, fun q hq => ?_⟩)
          · rw [a.length, a'.length]
            exact Nat.le_trans h2.1 lim
          · obtain ⟨st, s4⟩ := s2.new hi hq (a.append a')
            exact hD.nx _ _ h2.2 _ _ _ ((Stp.hid l2).trans st) s4
    · exact h2.elim
  · exact h.elim⟩
end

/-! ### the pair's prelude -/
def partD (a b : Int) : D := .tup [.int (a / gcdI a b), .int (b / gcdI a b)]
theorem part_sh {a b : Int} (hb : 0 < b) : partD a b = sh (Rat.divInt a b) := by
  obtain ⟨h1, h2, _, _⟩ := low_is (a := a) (b := b) hb
  exact sh_of h1 (by omega) h2
abbrev a_l_gcd : ASp := a_gcd
theorem ok_l_gcd (T : Tx K mg A) : FnOk P w K mg base CX0 1 A.f_l_gcd A.fd_l_gcd ["_law_one", "_law_other"] (spOf K 2 a_l_gcd) := by
  refine fn_mir [] 3 rfl (by decide) (by decide) T.F_l_gcd sc_l_gcd fun cdv Ar outer s H E hr => ?_
  refine ⟨_, _, (pss_cons (ps_set (i := 0) sc_l_gcd.nd rfl (.inl rfl) (pe_callB k_abs (by rfl) T.m_abs (by decide +kernel) (pa_cons (pv 0) pa_nil)))
    (pss_cons (ps_set (i := 1) sc_l_gcd.nd rfl (.inl rfl) (pe_callB k_abs (by rfl) T.m_abs (by decide +kernel) (pa_cons (pv 1) pa_nil)))
    (pss_cons (ps_while PassesOwn.never (pt_cmpR op_gt (pv 1) pe_int (nomark _))
      (pss_cons (ps_set (i := 2) sc_l_gcd.nd rfl (.inl rfl) (pe_op op_mod (pv 0) (pv 1)))
    (pss_cons (ps_set (i := 0) sc_l_gcd.nd rfl (.inl rfl) (pv 1))
    (pss_one (ps_set (i := 1) sc_l_gcd.nd rfl (.inl rfl) (pv 2))))))
    (pss_one (ps_ret (pv 0)))))), by infer_instance, fun ds n Q hl hA => ?_⟩
  obtain ⟨a, b, rfl, q⟩ := hA
  refine ⟨fun m ρ n' => ∃ (x y : Nat) (z : Option D), ρ = [some (.int (x : Int)), some (.int (y : Int)), z] ∧ m = y ∧ n' = n ∧ Nat.gcd x y = Nat.gcd a.natAbs b.natAbs, ⟨_, a.natAbs, b.natAbs, none, by rw [← abs_nat, ← abs_nat]; rfl, rfl, rfl, rfl⟩, ?_⟩
  rintro m _ _ ⟨x, y, z, rfl, rfl, rfl, g⟩
  refine dIte (fun h => ?_) (fun h => ?_)
  · refine ⟨(show (0 : Int) < m by omega), x % m, Nat.mod_lt _ (by omega), m, x % m, _, rfl, rfl, rfl, ?_⟩
    rw [← g, Nat.gcd_comm x m, Nat.gcd_rec m x, Nat.gcd_comm]
  · have hm : m = 0 := by omega
    subst hm
    have e : (x : Int) = gcdI a b := by
      unfold gcdI
      rw [← g, Nat.gcd_zero_right]
    show Q (.int (x : Int)) _
    rw [e]
    exact q
@[irreducible] def a_l_share : ASp := fun ds n Q => ∃ (a b : Int) (k : Nat), ds = [.int a, .int b] ∧ 0 < gcdI a b ∧ Bd k (gcdI a b) ∧ k < 9000 ∧ Q (partD a b) n
theorem ok_l_share (T : Tx K mg A) : FnOk P w K mg base CX0 2 A.f_l_share A.fd_l_share ["_law_top", "_law_bottom"] (spOf K 2 a_l_share) := by
  refine fn_mir [] 3 rfl (by decide) (by decide) T.F_l_share sc_l_share fun cdv Ar outer s H E hr => ?_
  refine ⟨_, _, (pss_cons (ps_set (i := 2) sc_l_share.nd rfl (.inl rfl) (pe_call (ok_l_gcd (P := P) (K := K) T) (hr.mono (by decide)) (by rfl) T.g_l_gcd T.F_l_gcd.kp T.b_l_gcd .nil pass0 (pa_cons (pv 0) (pa_cons (pv 1) pa_nil))))
    (pss_one (ps_ret (pe_tup (pa_cons (pe_op k_fdiv (pv 0) (pv 2)) (pa_cons (pe_op k_fdiv (pv 1) (pv 2)) pa_nil)))))), by infer_instance, fun ds n Q hl hA => ?_⟩
  unfold a_l_share at hA
  obtain ⟨a, b, k, rfl, g0, gb, hk, q⟩ := hA
  exact ⟨a, b, rfl, divA gb g0 hk, divA gb g0 hk, q⟩
theorem share_ok {a b : Int} {k n : Nat} {Q : D → Nat → Prop} (hb : 0 < b) (bb : Bd k b) (hk : k < 9000) (q : Q (sh (Rat.divInt a b)) n) : a_l_share [.int a, .int b] n Q := by
  unfold a_l_share
  exact ⟨a, b, k, rfl, gcdI_pos (by omega), gcdI_bd bb (by omega), hk, by rw [part_sh hb]; exact q⟩
theorem small_log {m : Int} (h0 : 0 < m) (h1 : m ≤ 4000000) : m.natAbs.log2 < 9000 := by
  have e : (2 : Nat) ^ 22 = 4194304 := by decide
  exact Nat.lt_of_lt_of_le (log2_lt (k := 22) (by omega) (by decide)) (by decide)
theorem bd_abs {k : Nat} {r n : Int} (h1 : n.natAbs < 2 ^ k) (h2 : -n ≤ r) (h3 : r ≤ n) : Bd k r := by
  unfold Bd
  omega
def a_l_long : ASp := fun ds n Q => ∃ k : Nat, ds = [.deck, .int (k : Int)] ∧ k ≤ 20 ∧ k ≤ n ∧ ∀ (r : Int) (n' : Nat), 0 ≤ r → r < (1000 : Int) ^ k → n ≤ n' + k → Q (.int r) n'
theorem long_bd {r : Int} {k : Nat} (h0 : 0 ≤ r) (h1 : r < (1000 : Int) ^ k) : Bd (10 * k) r := by
  unfold Bd
  have e : (1000 : Nat) ^ k ≤ 2 ^ (10 * k) := by
    rw [Nat.pow_mul]
    exact Nat.pow_le_pow_left (by decide) k
  have h2 : ((r.natAbs : Nat) : Int) < ((1000 ^ k : Nat) : Int) := by
    rw [Int.natCast_pow]
    have : ((1000 : Nat) : Int) = 1000 := rfl
    rw [this]
    omega
  omega
theorem ok_l_long (T : Tx K mg A) : FnOk P w K mg base CX0 3 A.f_l_long A.fd_l_long ["_law_deck_here", "_law_many"] (spOf K 2 a_l_long) := by
  refine fn_mir [] 4 rfl (by decide) (by decide) T.F_l_long sc_l_long fun cdv Ar outer s H E hr => ?_
  refine ⟨_, _, (pss_cons (ps_set (i := 2) sc_l_long.nd rfl (.inl rfl) pe_int)
    (pss_cons (ps_for PassesOwn.never rfl (pi_range1 (by rfl) T.m_range (pa_cons (pv 1) pa_nil)) (pg_name (i := 3) sc_l_long.nd rfl (.inl rfl))
      (pss_one (ps_set (i := 2) sc_l_long.nd rfl (.inl rfl) (pe_op (k_add (K := K) rfl) (pe_op k_mul (pv 2) pe_int) (pe_call (ok_l_take (P := P) (K := K) T) (hr.mono (by decide)) (by rfl) T.g_l_take T.F_l_take.kp T.b_l_take .nil pass0 (pa_cons (pv 0) (pa_cons pe_int pa_nil)))))))
    (pss_one (ps_ret (pv 2))))), by infer_instance, fun ds n Q hl hA => ?_⟩
  obtain ⟨k, rfl, hk, hn, q⟩ := hA
  refine ⟨⟨by omega, by omega⟩, ?_⟩
  refine aFor_ind (fun ds ρ m => ∃ (r : Int) (j : Nat) (y : Option D), ρ = [some .deck, some (.int (k : Int)), some (.int r), y] ∧ j + ds.length = k ∧ 0 ≤ r ∧ r < (1000 : Int) ^ j ∧ n ≤ m + j) ?_ ?_ ⟨0, 0, none, rfl, by rw [rangeD_length]; simp, by decide, by decide, by omega⟩
  · rintro d r' _ m ⟨r, j, y, rfl, hj, h0, h1, hm⟩ ih
    rw [List.length_cons] at hj
    refine ⟨mulA (n := 10 * j) (m := 10) (long_bd h0 h1) (by unfold Bd; decide) (by omega) (by decide), 1000, rfl, by decide, by decide, by omega, fun t lt ut => ?_⟩
    refine ih _ _ ⟨r * 1000 + t, j + 1, _, rfl, by omega, by omega, ?_, by omega⟩
    rw [Int.pow_succ]
    omega
  · rintro _ m ⟨r, j, y, rfl, hj, h0, h1, hm⟩
    have : j = k := by simpa using hj
    subst this
    exact q r m h0 h1 hm
/-! fractions as they come, not in lowest terms -/
def fr (a b : Int) : D := .tup [.int a, .int b]
def val (a b : Int) : Rat := (a : Rat) / (b : Rat)
theorem val_eq {a b : Int} (hb : 0 < b) : val a b = Rat.divInt a b := by
  unfold val
  rw [Rat.divInt_eq_div]
@[irreducible] def a_l_plus : ASp := fun ds n Q => ∃ (a b c d : Int) (k : Nat), ds = [fr a b, fr c d] ∧ Bd k a ∧ Bd k b ∧ Bd k c ∧ Bd k d ∧ k ≤ 100000 ∧ Q (fr (a * d + c * b) (b * d)) n
theorem ok_l_plus (T : Tx K mg A) : FnOk P w K mg base CX0 1 A.f_l_plus A.fd_l_plus ["_law_one", "_law_other"] (spOf K 2 a_l_plus) := by
  refine fn_mir [] 2 rfl (by decide) (by decide) T.F_l_plus sc_l_plus fun cdv Ar outer s H E hr => ?_
  refine ⟨_, _, (pss_one (ps_ret (pe_tup (pa_cons (pe_op (k_add (K := K) rfl) (pe_op k_mul (pe_ix (k_ix (K := K) rfl) (pv 0) pe_int (fun _ _ => rfl)) (pe_ix (k_ix (K := K) rfl) (pv 1) pe_int (fun _ _ => rfl))) (pe_op k_mul (pe_ix (k_ix (K := K) rfl) (pv 1) pe_int (fun _ _ => rfl)) (pe_ix (k_ix (K := K) rfl) (pv 0) pe_int (fun _ _ => rfl)))) (pa_cons (pe_op k_mul (pe_ix (k_ix (K := K) rfl) (pv 0) pe_int (fun _ _ => rfl)) (pe_ix (k_ix (K := K) rfl) (pv 1) pe_int (fun _ _ => rfl))) pa_nil))))), by infer_instance, fun ds n Q hl hA => ?_⟩
  unfold a_l_plus at hA
  obtain ⟨a, b, c, d, k, rfl, b1, b2, b3, b4, hk, q⟩ := hA
  exact ⟨mulA b1 b4 (by omega) (by omega), mulA b3 b2 (by omega) (by omega), mulA b2 b4 (by omega) (by omega), q⟩
@[irreducible] def a_l_times : ASp := fun ds n Q => ∃ (a b c d : Int) (k : Nat), ds = [fr a b, fr c d] ∧ Bd k a ∧ Bd k b ∧ Bd k c ∧ Bd k d ∧ k ≤ 100000 ∧ Q (fr (a * c) (b * d)) n
theorem ok_l_times (T : Tx K mg A) : FnOk P w K mg base CX0 1 A.f_l_times A.fd_l_times ["_law_one", "_law_other"] (spOf K 2 a_l_times) := by
  refine fn_mir [] 2 rfl (by decide) (by decide) T.F_l_times sc_l_times fun cdv Ar outer s H E hr => ?_
  refine ⟨_, _, (pss_one (ps_ret (pe_tup (pa_cons (pe_op k_mul (pe_ix (k_ix (K := K) rfl) (pv 0) pe_int (fun _ _ => rfl)) (pe_ix (k_ix (K := K) rfl) (pv 1) pe_int (fun _ _ => rfl))) (pa_cons (pe_op k_mul (pe_ix (k_ix (K := K) rfl) (pv 0) pe_int (fun _ _ => rfl)) (pe_ix (k_ix (K := K) rfl) (pv 1) pe_int (fun _ _ => rfl))) pa_nil))))), by infer_instance, fun ds n Q hl hA => ?_⟩
  unfold a_l_times at hA
  obtain ⟨a, b, c, d, k, rfl, b1, b2, b3, b4, hk, q⟩ := hA
  exact ⟨mulA b1 b3 (by omega) (by omega), mulA b2 b4 (by omega) (by omega), q⟩
/-- a fraction: two numbers, the second above nought, so many bits at most, worth q -/
def Fq (k : Nat) (d : D) (q : Rat) : Prop := ∃ a b : Int, d = fr a b ∧ Bd k a ∧ Bd k b ∧ 0 < b ∧ q = Rat.divInt a b
theorem Fq.le {k m : Nat} {d : D} {q : Rat} (h : Fq k d q) (l : k ≤ m) : Fq m d q := by
  obtain ⟨a, b, e, h1, h2, h3, h4⟩ := h
  exact ⟨a, b, e, h1.le l, h2.le l, h3, h4⟩
theorem fq_sh {k : Nat} {q : Rat} (h : BdQ k q) : Fq k (sh q) q := ⟨q.num, q.den, rfl, h.1, h.2, den_pos q, by rw [Rat.divInt_ofNat]; exact (Rat.mkRat_self q).symm⟩
theorem fq_int {k : Nat} {i : Int} (h : Bd k i) (hk : 0 < k) : Fq k (fr i 1) (i : Rat) := ⟨i, 1, rfl, h, Nat.one_lt_two_pow (by omega), by decide, by rw [Rat.divInt_eq_div]; show (i : Rat) = (i : Rat) / 1; grind⟩
theorem fq_plus {k l m n : Nat} {x y : D} {p q : Rat} {Q : D → Nat → Prop} (hx : Fq k x p) (hy : Fq l y q) (hk : k + l ≤ 100000) (hm : k + l + 1 ≤ m) (h : ∀ d, Fq m d (p + q) → Q d n) : a_l_plus [x, y] n Q := by
  unfold a_l_plus
  obtain ⟨a, b, rfl, h1, h2, h3, h4⟩ := hx
  obtain ⟨c, d, rfl, g1, g2, g3, g4⟩ := hy
  refine ⟨a, b, c, d, k + l, rfl, h1.le (by omega), h2.le (by omega), g1.le (by omega), g2.le (by omega), hk, h _ ⟨_, _, rfl, ?_, ?_, Int.mul_pos h3 g3, ?_⟩⟩
  · exact ((h1.mul g2).add ((g1.mul h2).le (by omega))).le (by omega)
  · exact (h2.mul g2).le (by omega)
  · rw [h4, g4, Rat.divInt_add_divInt _ _ (by omega) (by omega)]
theorem fq_times {k l m n : Nat} {x y : D} {p q : Rat} {Q : D → Nat → Prop} (hx : Fq k x p) (hy : Fq l y q) (hk : k + l ≤ 100000) (hm : k + l ≤ m) (h : ∀ d, Fq m d (p * q) → Q d n) : a_l_times [x, y] n Q := by
  unfold a_l_times
  obtain ⟨a, b, rfl, h1, h2, h3, h4⟩ := hx
  obtain ⟨c, d, rfl, g1, g2, g3, g4⟩ := hy
  refine ⟨a, b, c, d, k + l, rfl, h1.le (by omega), h2.le (by omega), g1.le (by omega), g2.le (by omega), hk, h _ ⟨_, _, rfl, (h1.mul g1).le (by omega), (h2.mul g2).le (by omega), Int.mul_pos h3 g3, ?_⟩⟩
  rw [h4, g4, Rat.divInt_mul_divInt]
/-! spots of such fractions -/
def Sq (k : Nat) (d : D) (x y : Rat) : Prop := ∃ u v, d = .tup [u, v] ∧ Fq k u x ∧ Fq k v y
theorem Sq.le {k m : Nat} {d : D} {x y : Rat} (h : Sq k d x y) (l : k ≤ m) : Sq m d x y := by
  obtain ⟨u, v, e, h1, h2⟩ := h
  exact ⟨u, v, e, h1.le l, h2.le l⟩
theorem sq_spt {k : Nat} {x y : Rat} (h : BdQ k x) (g : BdQ k y) : Sq k (spt x y) x y := ⟨_, _, rfl, fq_sh h, fq_sh g⟩
theorem sq_int {k : Nat} {i j : Int} (h : Bd k i) (g : Bd k j) (hk : 0 < k) : Sq k (.tup [fr i 1, fr j 1]) i j := ⟨_, _, rfl, fq_int h hk, fq_int g hk⟩
def a_l_spot_plus : ASp := fun ds n Q => ∃ (d e : D) (x y x' y' : Rat) (k l : Nat), ds = [d, e] ∧ Sq k d x y ∧ Sq l e x' y' ∧ k + l ≤ 100000 ∧ ∀ r, Sq (k + l + 1) r (x + x') (y + y') → Q r n
theorem ok_l_spot_plus (T : Tx K mg A) : FnOk P w K mg base CX0 2 A.f_l_spot_plus A.fd_l_spot_plus ["_law_one", "_law_other"] (spOf K 2 a_l_spot_plus) := by
  refine fn_mir [] 2 rfl (by decide) (by decide) T.F_l_spot_plus sc_l_spot_plus fun cdv Ar outer s H E hr => ?_
  refine ⟨_, _, (pss_one (ps_ret (pe_tup (pa_cons (pe_call (ok_l_plus (P := P) (K := K) T) (hr.mono (by decide)) (by rfl) T.g_l_plus T.F_l_plus.kp T.b_l_plus .nil pass0 (pa_cons (pe_ix (k_ix (K := K) rfl) (pv 0) pe_int (fun _ _ => rfl)) (pa_cons (pe_ix (k_ix (K := K) rfl) (pv 1) pe_int (fun _ _ => rfl)) pa_nil))) (pa_cons (pe_call (ok_l_plus (P := P) (K := K) T) (hr.mono (by decide)) (by rfl) T.g_l_plus T.F_l_plus.kp T.b_l_plus .nil pass0 (pa_cons (pe_ix (k_ix (K := K) rfl) (pv 0) pe_int (fun _ _ => rfl)) (pa_cons (pe_ix (k_ix (K := K) rfl) (pv 1) pe_int (fun _ _ => rfl)) pa_nil))) pa_nil))))), by infer_instance, fun ds n Q hl hA => ?_⟩
  obtain ⟨_, _, x, y, x', y', k, l, rfl, ⟨u, v, rfl, h1, h2⟩, ⟨u', v', rfl, g1, g2⟩, hk, q⟩ := hA
  refine fq_plus h1 g1 hk (Nat.le_refl _) fun d1 e1 => ?_
  refine fq_plus h2 g2 hk (Nat.le_refl _) fun d2 e2 => ?_
  exact q _ ⟨d1, d2, rfl, e1, e2⟩
def a_l_spot_times : ASp := fun ds n Q => ∃ (d e : D) (x y z : Rat) (k l : Nat), ds = [d, e] ∧ Sq k d x y ∧ Fq l e z ∧ k + l ≤ 100000 ∧ ∀ r, Sq (k + l) r (x * z) (y * z) → Q r n
theorem ok_l_spot_times (T : Tx K mg A) : FnOk P w K mg base CX0 2 A.f_l_spot_times A.fd_l_spot_times ["_law_spot_here", "_law_size"] (spOf K 2 a_l_spot_times) := by
  refine fn_mir [] 2 rfl (by decide) (by decide) T.F_l_spot_times sc_l_spot_times fun cdv Ar outer s H E hr => ?_
  refine ⟨_, _, (pss_one (ps_ret (pe_tup (pa_cons (pe_call (ok_l_times (P := P) (K := K) T) (hr.mono (by decide)) (by rfl) T.g_l_times T.F_l_times.kp T.b_l_times .nil pass0 (pa_cons (pe_ix (k_ix (K := K) rfl) (pv 0) pe_int (fun _ _ => rfl)) (pa_cons (pv 1) pa_nil))) (pa_cons (pe_call (ok_l_times (P := P) (K := K) T) (hr.mono (by decide)) (by rfl) T.g_l_times T.F_l_times.kp T.b_l_times .nil pass0 (pa_cons (pe_ix (k_ix (K := K) rfl) (pv 0) pe_int (fun _ _ => rfl)) (pa_cons (pv 1) pa_nil))) pa_nil))))), by infer_instance, fun ds n Q hl hA => ?_⟩
  obtain ⟨_, e, x, y, z, k, l, rfl, ⟨u, v, rfl, h1, h2⟩, g, hk, q⟩ := hA
  refine fq_times h1 g hk (Nat.le_refl _) fun d1 e1 => ?_
  refine fq_times h2 g hk (Nat.le_refl _) fun d2 e2 => ?_
  exact q _ ⟨d1, d2, rfl, e1, e2⟩
def a_l_spot : ASp := fun ds n Q => ∃ (d : D) (x y : Rat) (k : Nat), ds = [d] ∧ Sq k d x y ∧ k ≤ 8000 ∧ (BdQ k x → BdQ k y → Q (spt x y) n)
theorem ok_l_spot (T : Tx K mg A) : FnOk P w K mg base CX0 3 A.f_l_spot A.fd_l_spot ["_law_spot_here"] (spOf K 1 a_l_spot) := by
  refine fn_mir [] 1 rfl (by decide) (by decide) T.F_l_spot sc_l_spot fun cdv Ar outer s H E hr => ?_
  refine ⟨_, _, (pss_one (ps_ret (pe_tup (pa_cons (pe_call (ok_l_share (P := P) (K := K) T) (hr.mono (by decide)) (by rfl) T.g_l_share T.F_l_share.kp T.b_l_share .nil pass0 (pa_cons (pe_ix (k_ix (K := K) rfl) (pe_ix (k_ix (K := K) rfl) (pv 0) pe_int (fun _ _ => rfl)) pe_int (fun _ _ => rfl)) (pa_cons (pe_ix (k_ix (K := K) rfl) (pe_ix (k_ix (K := K) rfl) (pv 0) pe_int (fun _ _ => rfl)) pe_int (fun _ _ => rfl)) pa_nil))) (pa_cons (pe_call (ok_l_share (P := P) (K := K) T) (hr.mono (by decide)) (by rfl) T.g_l_share T.F_l_share.kp T.b_l_share .nil pass0 (pa_cons (pe_ix (k_ix (K := K) rfl) (pe_ix (k_ix (K := K) rfl) (pv 0) pe_int (fun _ _ => rfl)) pe_int (fun _ _ => rfl)) (pa_cons (pe_ix (k_ix (K := K) rfl) (pe_ix (k_ix (K := K) rfl) (pv 0) pe_int (fun _ _ => rfl)) pe_int (fun _ _ => rfl)) pa_nil))) pa_nil))))), by infer_instance, fun ds n Q hl hA => ?_⟩
  obtain ⟨_, x, y, k, rfl, ⟨u, v, rfl, ⟨a, b, rfl, h1, h2, h3, h4⟩, ⟨c, d, rfl, g1, g2, g3, g4⟩⟩, hk, q⟩ := hA
  refine share_ok h3 h2 (by omega) ?_
  refine share_ok g3 g2 (by omega) ?_
  rw [← h4, ← g4]
  exact q (by rw [h4]; exact divInt_bd h3 h1 h2) (by rw [g4]; exact divInt_bd g3 g1 g2)
def a_l_number : ASp := fun ds n Q => ∃ s : Int, ds = [.deck, .int s] ∧ 0 ≤ s ∧ s ≤ 1000000 ∧ 3 ≤ n ∧ ∀ (r : Int) (n' : Nat), -s ≤ r → r ≤ s → n ≤ n' + 3 → Q (.int r) n'
theorem ok_l_number (T : Tx K mg A) : FnOk P w K mg base CX0 4 A.f_l_number A.fd_l_number ["_law_deck_here", "_law_span"] (spOf K 2 a_l_number) := by
  refine fn_mir [] 2 rfl (by decide) (by decide) T.F_l_number sc_l_number fun cdv Ar outer s H E hr => ?_
  refine ⟨_, _, (pss_cons (ps_if (pt_cmpR op_lt (pv 1) pe_int (nomark _))
      (pss_one (ps_ret (pe_op op_sub (pe_call (ok_l_take (P := P) (K := K) T) (hr.mono (by decide)) (by rfl) T.g_l_take T.F_l_take.kp T.b_l_take .nil pass0 (pa_cons (pv 0) (pa_cons (pe_op (k_add (K := K) rfl) (pe_op k_mul pe_int (pv 1)) pe_int) pa_nil))) (pv 1))))
      pss_nil)
    (pss_one (ps_ret (pe_op op_sub (pe_op op_mod (pe_call (ok_l_long (P := P) (K := K) T) (hr.mono (by decide)) (by rfl) T.g_l_long T.F_l_long.kp T.b_l_long .nil pass0 (pa_cons (pv 0) (pa_cons pe_int pa_nil))) (pe_op (k_add (K := K) rfl) (pe_op k_mul pe_int (pv 1)) pe_int)) (pv 1))))), by infer_instance, fun ds n Q hl hA => ?_⟩
  obtain ⟨s, rfl, h0, h1, hn, q⟩ := hA
  refine dIte (fun e => ?_) fun e => ?_
  · exact ⟨.inl (.inl (by decide)), 2 * s + 1, rfl, by omega, small_log (by omega) (by omega), by omega, fun r l u => q _ _ (by omega) (by omega) (by omega)⟩
  · refine ⟨3, rfl, by decide, by omega, fun r n1 l u h1 => ?_⟩
    refine ⟨.inl (.inl (by decide)), (show (0 : Int) < 2 * s + 1 by omega), ?_⟩
    have m0 := Int.emod_nonneg r (show 2 * s + 1 ≠ 0 by omega)
    have m1 := Int.emod_lt_of_pos r (show 0 < 2 * s + 1 by omega)
    exact q _ _ (by omega) (by omega) (by omega)
/-! shapes: points, at least three, no two neighbours alike -/
def Next (cs : List Pt) : Prop := ∀ e ∈ cs.zip (cs.drop 1 ++ cs.take 1), e.1 ≠ e.2
def PtS (p : Pt) : Prop := -3000000 ≤ p.1 ∧ p.1 ≤ 3000000 ∧ -3000000 ≤ p.2 ∧ p.2 ≤ 3000000
def ShOk (cs : List Pt) : Prop := 3 ≤ cs.length ∧ cs.length ≤ 16 ∧ (∀ p ∈ cs, PtS p) ∧ Next cs ∧ Dst cs ∧ Convex cs
theorem next4 {a b c d : Pt} (h1 : a ≠ b) (h2 : b ≠ c) (h3 : c ≠ d) (h4 : d ≠ a) : Next [a, b, c, d] := fun e he => by
  have : e = (a, b) ∨ e = (b, c) ∨ e = (c, d) ∨ e = (d, a) := by simpa using he
  rcases this with rfl | rfl | rfl | rfl <;> assumption
theorem ne_x {a b c d : Int} (h : a ≠ c) : ((a, b) : Pt) ≠ (c, d) := fun e => h (congrArg Prod.fst e)
theorem ne_y {a b c d : Int} (h : b ≠ d) : ((a, b) : Pt) ≠ (c, d) := fun e => h (congrArg Prod.snd e)
theorem pw4 {R : Pt → Pt → Prop} {a b c d : Pt} (h1 : R a b) (h2 : R a c) (h3 : R a d) (h4 : R b c) (h5 : R b d) (h6 : R c d) : [a, b, c, d].Pairwise R := by
  simp only [List.pairwise_cons, List.mem_cons, List.not_mem_nil, or_false, forall_eq_or_imp, forall_eq, List.Pairwise.nil, and_true, false_implies, implies_true]
  exact ⟨⟨h1, h2, h3⟩, ⟨h4, h5⟩, h6⟩
theorem box_dst {x y u v : Int} (hu : 0 < u) (hv : 0 < v) : Dst [(x, y), (x + u, y), (x + u, y + v), (x, y + v)] := by
  have e : eds ([(x, y), (x + u, y), (x + u, y + v), (x, y + v)] ++ List.take 1 [(x, y), (x + u, y), (x + u, y + v), (x, y + v)]) = [(u, 0), (0, v), (-u, 0), (0, -v)] := by
    show [vec (x, y) (x + u, y), vec (x + u, y) (x + u, y + v), vec (x + u, y + v) (x, y + v), vec (x, y + v) (x, y)] = _
    unfold vec
    simp only
    rw [show x + u - x = u by omega, show y - y = (0 : Int) by omega, show x + u - (x + u) = (0 : Int) by omega, show y + v - y = v by omega, show x - (x + u) = -u by omega, show y + v - (y + v) = (0 : Int) by omega, show x - x = (0 : Int) by omega, show y - (y + v) = -v by omega]
  unfold Dst
  rw [e]
  have p := Int.mul_pos hu hv
  have lx : ∀ a b : Int, 0 < a → lexP (a, b) := fun a b h => .inl h
  have ly : ∀ b : Int, 0 < b → lexP (0, b) := fun b h => .inr ⟨rfl, h⟩
  have n1 : lexP (neg (-u, 0)) := .inl (by show 0 < -(-u); omega)
  have n2 : lexP (neg (0, -v)) := .inr ⟨rfl, by show 0 < -(-v); omega⟩
  refine pw4 (nsd_of ?_) (nsd_opp (lx _ _ hu) n1) (nsd_opp (lx _ _ hu) n2) (nsd_opp (ly _ hv) n1) (nsd_opp (ly _ hv) n2) (nsd_of ?_)
  · show 0 < u * v - 0 * 0
    omega
  · show 0 < -u * -v - 0 * 0
    rw [Int.neg_mul_neg]
    omega
theorem tri_dst : Dst [(-1, 0), (2, 0), (0, 2)] := by
  unfold Dst
  show [((3 : Int), (0 : Int)), (-2, 2), (-1, -2)].Pairwise Nsd
  simp only [List.pairwise_cons, List.mem_cons, List.not_mem_nil, or_false, forall_eq_or_imp, forall_eq, List.Pairwise.nil, and_true, false_implies, implies_true]
  exact ⟨⟨.inl (by decide), .inl (by decide)⟩, .inl (by decide)⟩
theorem turn4 {a b c d p q : Int} (ha : 0 < a) (hb : 0 < b) (hc : 0 < c) (hd : 0 < d) (hp : 0 < p) (hq : 0 < q) : [((a, -b) : Pt), (p, 0), (c, d), (0, q)].Pairwise (fun u v => 0 < crs u v) := by
  have m1 := Int.mul_pos hb hp
  have m2 := Int.mul_pos ha hd
  have m3 := Int.mul_pos hb hc
  have m4 := Int.mul_pos ha hq
  have m5 := Int.mul_pos hp hd
  have m6 := Int.mul_pos hp hq
  have m7 := Int.mul_pos hc hq
  refine pw4 ?_ ?_ ?_ ?_ ?_ ?_ <;> (unfold crs; simp only; grind)
theorem turn4n {a b c d p q : Int} (ha : 0 < a) (hb : 0 < b) (hc : 0 < c) (hd : 0 < d) (hp : 0 < p) (hq : 0 < q) : [((-a, b) : Pt), (-p, 0), (-c, -d), (0, -q)].Pairwise (fun u v => 0 < crs u v) := by
  have m1 := Int.mul_pos hb hp
  have m2 := Int.mul_pos ha hd
  have m3 := Int.mul_pos hb hc
  have m4 := Int.mul_pos ha hq
  have m5 := Int.mul_pos hp hd
  have m6 := Int.mul_pos hp hq
  have m7 := Int.mul_pos hc hq
  refine pw4 ?_ ?_ ?_ ?_ ?_ ?_ <;> (unfold crs; simp only; grind)
theorem eight_dst {m c0 c1 c2 c3 c4 c5 c6 c7 : Int} (h0 : 1 ≤ c0 ∧ c0 ≤ m) (h1 : 1 ≤ c1 ∧ c1 ≤ m) (h2 : 1 ≤ c2 ∧ c2 ≤ m) (h3 : 1 ≤ c3 ∧ c3 ≤ m) (h4 : 1 ≤ c4 ∧ c4 ≤ m) (h5 : 1 ≤ c5 ∧ c5 ≤ m) (h6 : 1 ≤ c6 ∧ c6 ≤ m) (h7 : 1 ≤ c7 ∧ c7 ≤ m) : Dst [(0, c0), (c1, 0), (2 * m + 1 - c2, 0), (2 * m + 1, c3), (2 * m + 1, 2 * m + 1 - c4), (2 * m + 1 - c5, 2 * m + 1), (c6, 2 * m + 1), (0, 2 * m + 1 - c7)] := by
  have e : eds ([(0, c0), (c1, 0), (2 * m + 1 - c2, 0), (2 * m + 1, c3), (2 * m + 1, 2 * m + 1 - c4), (2 * m + 1 - c5, 2 * m + 1), (c6, 2 * m + 1), (0, 2 * m + 1 - c7)] ++ List.take 1 [(0, c0), (c1, 0), (2 * m + 1 - c2, 0), (2 * m + 1, c3), (2 * m + 1, 2 * m + 1 - c4), (2 * m + 1 - c5, 2 * m + 1), (c6, 2 * m + 1), (0, 2 * m + 1 - c7)])
      = [(c1, -c0), (2 * m + 1 - c2 - c1, 0), (c2, c3), (0, 2 * m + 1 - c4 - c3)] ++ [(-c5, c4), (-(2 * m + 1 - c5 - c6), 0), (-c6, -c7), (0, -(2 * m + 1 - c7 - c0))] := by
    show [vec (0, c0) (c1, 0), vec (c1, 0) (2 * m + 1 - c2, 0), vec (2 * m + 1 - c2, 0) (2 * m + 1, c3), vec (2 * m + 1, c3) (2 * m + 1, 2 * m + 1 - c4), vec (2 * m + 1, 2 * m + 1 - c4) (2 * m + 1 - c5, 2 * m + 1), vec (2 * m + 1 - c5, 2 * m + 1) (c6, 2 * m + 1), vec (c6, 2 * m + 1) (0, 2 * m + 1 - c7), vec (0, 2 * m + 1 - c7) (0, c0)] = _
    unfold vec
    simp only [List.cons_append, List.nil_append, List.cons.injEq, Prod.mk.injEq, and_true]
    (repeat' apply And.intro) <;> first | trivial | omega
  unfold Dst
  rw [e]
  refine List.pairwise_append.mpr ⟨(turn4 (by omega) (by omega) (by omega) (by omega) (by omega) (by omega)).imp fun h => nsd_of h, (turn4n (by omega) (by omega) (by omega) (by omega) (by omega) (by omega)).imp fun h => nsd_of h, fun a ha b hb => nsd_opp ?_ ?_⟩
  · simp only [List.mem_cons, List.not_mem_nil, or_false] at ha
    rcases ha with rfl | rfl | rfl | rfl <;> (unfold lexP; simp only [true_and]; omega)
  · simp only [List.mem_cons, List.not_mem_nil, or_false] at hb
    rcases hb with rfl | rfl | rfl | rfl <;> (unfold lexP neg; simp only [true_and]; omega)
theorem box_cvx {x y u v : Int} (hu : 0 < u) (hv : 0 < v) : Convex [(x, y), (x + u, y), (x + u, y + v), (x, y + v)] := fun e he => by
  have huv : 0 ≤ u * v := Int.mul_nonneg (by omega) (by omega)
  have : e = ((x, y), (x + u, y)) ∨ e = ((x + u, y), (x + u, y + v)) ∨ e = ((x + u, y + v), (x, y + v)) ∨ e = ((x, y + v), (x, y)) := by simpa using he
  rcases this with rfl | rfl | rfl | rfl
  all_goals
    refine ⟨fun z => by have := congrArg Prod.fst z; have := congrArg Prod.snd z; simp only at *; omega, fun c hc => ?_⟩
    have hc' : c = (x, y) ∨ c = (x + u, y) ∨ c = (x + u, y + v) ∨ c = (x, y + v) := by simpa using hc
    rcases hc' with rfl | rfl | rfl | rfl <;> (unfold leftI; simp only; grind)
theorem slant {a b x y : Int} (ha : 0 ≤ a) (hb : 0 ≤ b) (hx : 0 ≤ x) (hy : 0 ≤ y) (h : a ≤ x ∨ b ≤ y) : 0 ≤ b * x + a * y - a * b := by
  have h1 : 0 ≤ b * x := Int.mul_nonneg hb hx
  have h2 : 0 ≤ a * y := Int.mul_nonneg ha hy
  rcases h with h | h
  · have : b * a ≤ b * x := Int.mul_le_mul_of_nonneg_left h hb
    have e : b * a = a * b := Int.mul_comm _ _
    omega
  · have : a * b ≤ a * y := Int.mul_le_mul_of_nonneg_left h ha
    omega
theorem eight_cvx {m c0 c1 c2 c3 c4 c5 c6 c7 : Int} (h0 : 1 ≤ c0 ∧ c0 ≤ m) (h1 : 1 ≤ c1 ∧ c1 ≤ m) (h2 : 1 ≤ c2 ∧ c2 ≤ m) (h3 : 1 ≤ c3 ∧ c3 ≤ m) (h4 : 1 ≤ c4 ∧ c4 ≤ m) (h5 : 1 ≤ c5 ∧ c5 ≤ m) (h6 : 1 ≤ c6 ∧ c6 ≤ m) (h7 : 1 ≤ c7 ∧ c7 ≤ m) :
    Convex [(0, c0), (c1, 0), (2 * m + 1 - c2, 0), (2 * m + 1, c3), (2 * m + 1, 2 * m + 1 - c4), (2 * m + 1 - c5, 2 * m + 1), (c6, 2 * m + 1), (0, 2 * m + 1 - c7)] := fun e he => by
  obtain ⟨W, hW⟩ : ∃ W, 2 * m + 1 = W := ⟨_, rfl⟩
  rw [hW] at he ⊢
  have inb : ∀ c ∈ [((0 : Int), c0), (c1, 0), (W - c2, 0), (W, c3), (W, W - c4), (W - c5, W), (c6, W), (0, W - c7)], (0 ≤ c.1 ∧ c.1 ≤ W ∧ 0 ≤ c.2 ∧ c.2 ≤ W) ∧ (c1 ≤ c.1 ∨ c0 ≤ c.2) ∧ (c.1 ≤ W - c2 ∨ c3 ≤ c.2) ∧ (c.1 ≤ W - c5 ∨ c.2 ≤ W - c4) ∧ (c6 ≤ c.1 ∨ c.2 ≤ W - c7) := fun c hc => by
    simp only [List.mem_cons, List.not_mem_nil, or_false] at hc
    rcases hc with rfl | rfl | rfl | rfl | rfl | rfl | rfl | rfl <;> (simp only; omega)
  simp only [List.drop_succ_cons, List.drop_zero, List.take_succ_cons, List.take_zero, List.cons_append, List.nil_append, List.zip_cons_cons, List.zip_nil_left, List.mem_cons, List.not_mem_nil, or_false] at he
  have mn : ∀ {a b : Int}, 0 ≤ a → 0 ≤ b → 0 ≤ a * b := fun h g => Int.mul_nonneg h g
  rcases he with rfl | rfl | rfl | rfl | rfl | rfl | rfl | rfl
  · refine ⟨ne_x (by omega), fun c hc => ?_⟩
    obtain ⟨b, g1, g2, g3, g4⟩ := inb c hc
    have := slant (a := c1) (b := c0) (x := c.1) (y := c.2) (by omega) (by omega) (by omega) (by omega) g1
    unfold leftI
    simp only
    grind
  · refine ⟨ne_x (by omega), fun c hc => ?_⟩
    obtain ⟨b, g1, g2, g3, g4⟩ := inb c hc
    have := mn (a := W - c2 - c1) (b := c.2) (by omega) (by omega)
    unfold leftI
    simp only
    grind
  · refine ⟨ne_x (by omega), fun c hc => ?_⟩
    obtain ⟨b, g1, g2, g3, g4⟩ := inb c hc
    have := slant (a := c2) (b := c3) (x := W - c.1) (y := c.2) (by omega) (by omega) (by omega) (by omega) (by omega)
    unfold leftI
    simp only
    grind
  · refine ⟨ne_y (by omega), fun c hc => ?_⟩
    obtain ⟨b, g1, g2, g3, g4⟩ := inb c hc
    have := mn (a := W - c4 - c3) (b := W - c.1) (by omega) (by omega)
    unfold leftI
    simp only
    grind
  · refine ⟨ne_x (by omega), fun c hc => ?_⟩
    obtain ⟨b, g1, g2, g3, g4⟩ := inb c hc
    have := slant (a := c5) (b := c4) (x := W - c.1) (y := W - c.2) (by omega) (by omega) (by omega) (by omega) (by omega)
    unfold leftI
    simp only
    grind
  · refine ⟨ne_x (by omega), fun c hc => ?_⟩
    obtain ⟨b, g1, g2, g3, g4⟩ := inb c hc
    have := mn (a := W - c5 - c6) (b := W - c.2) (by omega) (by omega)
    unfold leftI
    simp only
    grind
  · refine ⟨ne_x (by omega), fun c hc => ?_⟩
    obtain ⟨b, g1, g2, g3, g4⟩ := inb c hc
    have := slant (a := c6) (b := c7) (x := c.1) (y := W - c.2) (by omega) (by omega) (by omega) (by omega) (by omega)
    unfold leftI
    simp only
    grind
  · refine ⟨ne_y (by omega), fun c hc => ?_⟩
    obtain ⟨b, g1, g2, g3, g4⟩ := inb c hc
    have := mn (a := W - c7 - c0) (b := c.1) (by omega) (by omega)
    unfold leftI
    simp only
    grind
theorem tri_cvx : Convex [(-1, 0), (2, 0), (0, 2)] := fun e he => by
  have he' : e = ((-1, 0), (2, 0)) ∨ e = ((2, 0), (0, 2)) ∨ e = ((0, 2), (-1, 0)) := by simpa using he
  rcases he' with rfl | rfl | rfl <;> refine ⟨by decide, fun c hc => ?_⟩ <;> (have hc' : c = (-1, 0) ∨ c = (2, 0) ∨ c = (0, 2) := by simpa using hc) <;> rcases hc' with rfl | rfl | rfl <;> decide
def a_l_eight : ASp := fun ds n Q => ∃ m : Int, ds = [.deck, .int m] ∧ 1 ≤ m ∧ m ≤ 400000 ∧ 30 ≤ n ∧ ∀ (cs : List Pt) (n' : Nat), ShOk cs → n ≤ n' + 24 → Q (.tup (cs.map pt)) n'
theorem ok_l_eight (T : Tx K mg A) : FnOk P w K mg base CX0 5 A.f_l_eight A.fd_l_eight ["_law_deck_here", "_law_most"] (spOf K 2 a_l_eight) := by
  refine fn_mir [] 7 rfl (by decide) (by decide) T.F_l_eight sc_l_eight fun cdv Ar outer s H E hr => ?_
  refine ⟨_, _, (pss_cons (ps_par (i := 2) (j := 3) (by rfl) sc_l_eight.nd rfl rfl (by decide) rfl rfl (pa_cons (pe_op (k_add (K := K) rfl) (pe_op k_mul pe_int (pv 1)) pe_int) (pa_cons (pe_op (k_add (K := K) rfl) (pe_op k_mul pe_int (pv 1)) pe_int) pa_nil)) (by rfl))
    (pss_cons (ps_setLc (i := 4) (own := [("_law_turn", 6)]) rfl sc_l_eight.nd rfl rfl (sw_true rfl rfl rfl (by decide +kernel)) (pi_range1 (by rfl) T.m_range (pa_cons pe_int pa_nil)) (blkOk_by (own := [("_law_turn", 6)]) (N := ["_law_deck_here", "_law_most", "_law_wide", "_law_high", "_law_cuts", "_law_found", "_law_turn"]) (sc := defScope s_l_eight) (by decide +kernel)) (fun _ _ _ _ _ => (pg_name (i := 6) sc_l_eight.nd rfl (Or.inl rfl))) (fun _ _ _ _ _ => pts_nil) (fun _ _ _ _ _ => (pe_op (k_add (K := K) rfl) pe_int (pe_op op_mod (pe_callB k_abs (by rfl) T.m_abs (by decide +kernel) (pa_cons (pe_call (ok_l_number (P := P) (K := K) T) (hr.mono (by decide)) (by rfl) T.g_l_number T.F_l_number.kp T.b_l_number .nil pass0 (pa_cons (pv 0) (pa_cons (pv 1) pa_nil))) pa_nil)) (pv 1)))))
    (pss_cons (ps_set (i := 5) sc_l_eight.nd rfl (.inl rfl) (pe_lst (pa_cons (pe_tup (pa_cons pe_int (pa_cons (pe_ix (k_ix (K := K) rfl) (pv 4) pe_int (fun _ _ => rfl)) pa_nil))) (pa_cons (pe_tup (pa_cons (pe_ix (k_ix (K := K) rfl) (pv 4) pe_int (fun _ _ => rfl)) (pa_cons pe_int pa_nil))) (pa_cons (pe_tup (pa_cons (pe_op op_sub (pv 2) (pe_ix (k_ix (K := K) rfl) (pv 4) pe_int (fun _ _ => rfl))) (pa_cons pe_int pa_nil))) (pa_cons (pe_tup (pa_cons (pv 2) (pa_cons (pe_ix (k_ix (K := K) rfl) (pv 4) pe_int (fun _ _ => rfl)) pa_nil))) pa_nil))))))
    (pss_one (ps_ret (pe_callTy (k_tuple (K := K) rfl) (by rfl) T.m_tuple (by decide +kernel) (pa_cons (pe_op (k_add (K := K) rfl) (pv 5) (pe_lst (pa_cons (pe_tup (pa_cons (pv 2) (pa_cons (pe_op op_sub (pv 3) (pe_ix (k_ix (K := K) rfl) (pv 4) pe_int (fun _ _ => rfl))) pa_nil))) (pa_cons (pe_tup (pa_cons (pe_op op_sub (pv 2) (pe_ix (k_ix (K := K) rfl) (pv 4) pe_int (fun _ _ => rfl))) (pa_cons (pv 3) pa_nil))) (pa_cons (pe_tup (pa_cons (pe_ix (k_ix (K := K) rfl) (pv 4) pe_int (fun _ _ => rfl)) (pa_cons (pv 3) pa_nil))) (pa_cons (pe_tup (pa_cons pe_int (pa_cons (pe_op op_sub (pv 3) (pe_ix (k_ix (K := K) rfl) (pv 4) pe_int (fun _ _ => rfl))) pa_nil))) pa_nil)))))) pa_nil))))))), by infer_instance, fun ds n Q hl hA => ?_⟩
  obtain ⟨m, rfl, h0, h1, hn, q⟩ := hA
  refine ⟨.inl (.inl (by decide)), .inl (.inl (by decide)), ⟨by decide, by decide⟩, by rw [rangeD_length]; decide, ?_⟩
  refine aLc_ind (fun acc ds k => ∃ cs : List Int, acc = cs.map D.int ∧ (∀ c ∈ cs, 1 ≤ c ∧ c ≤ m) ∧ cs.length + ds.length = 8 ∧ n ≤ k + 3 * cs.length) ?_ ?_ ⟨[], rfl, (fun c h => by cases h), by rw [rangeD_length]; rfl, by simp⟩
  · rintro acc d r k ⟨cs, rfl, hc, hl, hk⟩ ih
    rw [List.length_cons] at hl
    refine aT ⟨m, rfl, by omega, by omega, by omega, fun v k1 lv uv h2 => ⟨(show (0 : Int) < m by omega), ?_⟩⟩
    have m0 := Int.emod_nonneg (if v < 0 then -v else v) (show m ≠ 0 by omega)
    have m1 := Int.emod_lt_of_pos (if v < 0 then -v else v) (show 0 < m by omega)
    refine ih _ _ ⟨cs ++ [1 + (if v < 0 then -v else v) % m], by rw [List.map_append]; rfl, fun c h => ?_, by rw [List.length_append]; simp; omega, by rw [List.length_append]; simp; omega⟩
    rcases List.mem_append.mp h with h | h
    · exact hc c h
    · rw [List.mem_singleton.mp h]
      omega
  · rintro acc k ⟨cs, rfl, hc, hl, hk⟩
    match cs, hl, hc with
    | [c0, c1, c2, c3, c4, c5, c6, c7], _, hc =>
      have g0 := hc c0 (by simp)
      have g1 := hc c1 (by simp)
      have g2 := hc c2 (by simp)
      have g3 := hc c3 (by simp)
      have g4 := hc c4 (by simp)
      have g5 := hc c5 (by simp)
      have g6 := hc c6 (by simp)
      have g7 := hc c7 (by simp)
      refine ⟨(show 4 + 4 ≤ 1000000 by decide), q [(0, c0), (c1, 0), (2 * m + 1 - c2, 0), (2 * m + 1, c3), (2 * m + 1, 2 * m + 1 - c4), (2 * m + 1 - c5, 2 * m + 1), (c6, 2 * m + 1), (0, 2 * m + 1 - c7)] k ⟨by simp, by simp, fun p hp => ?_, fun e he => ?_, eight_dst g0 g1 g2 g3 g4 g5 g6 g7, eight_cvx g0 g1 g2 g3 g4 g5 g6 g7⟩ (by simp at hk; omega)⟩
      · simp only [List.mem_cons, List.not_mem_nil, or_false] at hp
        rcases hp with rfl | rfl | rfl | rfl | rfl | rfl | rfl | rfl <;> (unfold PtS; simp only; omega)
      · simp only [List.drop_succ_cons, List.drop_zero, List.take_succ_cons, List.take_zero, List.cons_append, List.nil_append, List.zip_cons_cons, List.zip_nil_left, List.mem_cons, List.not_mem_nil, or_false] at he
        rcases he with rfl | rfl | rfl | rfl | rfl | rfl | rfl | rfl
        · exact ne_x (by omega)
        · exact ne_x (by omega)
        · exact ne_x (by omega)
        · exact ne_y (by omega)
        · exact ne_x (by omega)
        · exact ne_x (by omega)
        · exact ne_x (by omega)
        · exact ne_y (by omega)
def a_l_shape : ASp := fun ds n Q => ∃ s : Int, ds = [.deck, .int s] ∧ (s = 5 ∨ s = 30 ∨ s = 1000000) ∧ 100 ≤ n ∧ ∀ (cs : List Pt) (n' : Nat), ShOk cs → n ≤ n' + 60 → Q (.tup (cs.map pt)) n'
theorem ok_l_shape (T : Tx K mg A) : FnOk P w K mg base CX0 6 A.f_l_shape A.fd_l_shape ["_law_deck_here", "_law_span"] (spOf K 2 a_l_shape) := by
  refine fn_mir [] 11 rfl (by decide) (by decide) T.F_l_shape sc_l_shape fun cdv Ar outer s H E hr => ?_
  refine ⟨_, _, (pss_cons (ps_set (i := 2) sc_l_shape.nd rfl (.inl rfl) (pe_call (ok_l_take (P := P) (K := K) T) (hr.mono (by decide)) (by rfl) T.g_l_take T.F_l_take.kp T.b_l_take .nil pass0 (pa_cons (pv 0) (pa_cons pe_int pa_nil))))
    (pss_cons (ps_if (pt_cmpR (k_eq (K := K) rfl hr.units) (pv 2) pe_int (nomark _))
      (pss_cons (ps_par (i := 3) (j := 4) (by rfl) sc_l_shape.nd rfl rfl (by decide) rfl rfl (pa_cons (pe_un un_neg (pe_callB k_abs (by rfl) T.m_abs (by decide +kernel) (pa_cons (pe_call (ok_l_number (P := P) (K := K) T) (hr.mono (by decide)) (by rfl) T.g_l_number T.F_l_number.kp T.b_l_number .nil pass0 (pa_cons (pv 0) (pa_cons (pv 1) pa_nil))) pa_nil))) (pa_cons (pe_un un_neg (pe_callB k_abs (by rfl) T.m_abs (by decide +kernel) (pa_cons (pe_call (ok_l_number (P := P) (K := K) T) (hr.mono (by decide)) (by rfl) T.g_l_number T.F_l_number.kp T.b_l_number .nil pass0 (pa_cons (pv 0) (pa_cons (pv 1) pa_nil))) pa_nil))) pa_nil)) (by rfl))
    (pss_cons (ps_par (i := 5) (j := 6) (by rfl) sc_l_shape.nd rfl rfl (by decide) rfl rfl (pa_cons (pe_op (k_add (K := K) rfl) pe_int (pe_callB k_abs (by rfl) T.m_abs (by decide +kernel) (pa_cons (pe_call (ok_l_number (P := P) (K := K) T) (hr.mono (by decide)) (by rfl) T.g_l_number T.F_l_number.kp T.b_l_number .nil pass0 (pa_cons (pv 0) (pa_cons (pe_op op_sub (pv 1) pe_int) pa_nil))) pa_nil))) (pa_cons (pe_op (k_add (K := K) rfl) pe_int (pe_callB k_abs (by rfl) T.m_abs (by decide +kernel) (pa_cons (pe_call (ok_l_number (P := P) (K := K) T) (hr.mono (by decide)) (by rfl) T.g_l_number T.F_l_number.kp T.b_l_number .nil pass0 (pa_cons (pv 0) (pa_cons (pe_op op_sub (pv 1) pe_int) pa_nil))) pa_nil))) pa_nil)) (by rfl))
    (pss_one (ps_ret (pe_tup (pa_cons (pe_tup (pa_cons (pv 3) (pa_cons (pv 4) pa_nil))) (pa_cons (pe_tup (pa_cons (pe_op (k_add (K := K) rfl) (pv 3) (pv 5)) (pa_cons (pv 4) pa_nil))) (pa_cons (pe_tup (pa_cons (pe_op (k_add (K := K) rfl) (pv 3) (pv 5)) (pa_cons (pe_op (k_add (K := K) rfl) (pv 4) (pv 6)) pa_nil))) (pa_cons (pe_tup (pa_cons (pv 3) (pa_cons (pe_op (k_add (K := K) rfl) (pv 4) (pv 6)) pa_nil))) pa_nil)))))))))
      pss_nil)
    (pss_cons (ps_if (pt_cmpR (k_eq (K := K) rfl hr.units) (pv 2) pe_int (nomark _))
      (pss_one (ps_ret (pe_call (ok_l_eight (P := P) (K := K) T) (hr.mono (by decide)) (by rfl) T.g_l_eight T.F_l_eight.kp T.b_l_eight .nil pass0 (pa_cons (pv 0) (pa_cons (pe_op k_fdiv (pv 1) pe_int) pa_nil)))))
      pss_nil)
    (pss_cons (ps_set (i := 7) sc_l_shape.nd rfl (.inl rfl) (pe_op (k_add (K := K) rfl) pe_int (pe_call (ok_l_take (P := P) (K := K) T) (hr.mono (by decide)) (by rfl) T.g_l_take T.F_l_take.kp T.b_l_take .nil pass0 (pa_cons (pv 0) (pa_cons pe_int pa_nil)))))
    (pss_cons (ps_set (i := 8) sc_l_shape.nd rfl (.inl rfl) (pe_callB (k_sortP (K := K) rfl) (by rfl) T.m_sorted (by decide +kernel) (pa_cons (pe_lc (own := [("_law_turn", 10)]) rfl sc_l_shape.nd (pi_range1 (by rfl) T.m_range (pa_cons (pv 7) pa_nil)) (blkOk_by (own := [("_law_turn", 10)]) (N := ["_law_deck_here", "_law_span", "_law_kind", "_law_x", "_law_y", "_law_wide", "_law_high", "_law_many", "_law_rows", "_law_found", "_law_turn"]) (sc := defScope s_l_shape) (by decide +kernel)) (fun _ _ _ _ _ => (pg_name (i := 10) sc_l_shape.nd rfl (Or.inl rfl))) (fun _ _ _ _ _ => pts_nil) (fun _ _ _ _ _ => (pe_tup (pa_cons (pe_call (ok_l_number (P := P) (K := K) T) (hr.mono (by decide)) (by rfl) T.g_l_number T.F_l_number.kp T.b_l_number .nil pass0 (pa_cons (pv 0) (pa_cons (pv 1) pa_nil))) (pa_cons (pe_call (ok_l_number (P := P) (K := K) T) (hr.mono (by decide)) (by rfl) T.g_l_number T.F_l_number.kp T.b_l_number .nil pass0 (pa_cons (pv 0) (pa_cons (pv 1) pa_nil))) pa_nil))))) pa_nil)))
    (pss_cons (ps_set (i := 9) sc_l_shape.nd rfl (.inl rfl) (pe_callTy (k_tuple (K := K) rfl) (by rfl) T.m_tuple (by decide +kernel) (pa_cons (pe_op (k_add (K := K) rfl) (pe_call (ok_l_half (P := P) (K := K) T) (hr.mono (by decide)) (by rfl) T.g_l_half T.F_l_half.kp T.b_l_half .nil pass0 (pa_cons (pv 8) pa_nil)) (pe_call (ok_l_half (P := P) (K := K) T) (hr.mono (by decide)) (by rfl) T.g_l_half T.F_l_half.kp T.b_l_half .nil pass0 (pa_cons (k_rev (K := K) rfl (pv 8)) pa_nil))) pa_nil)))
    (pss_cons (ps_if (pt_cmpR op_lt (pe_callB (k_len (K := K) rfl) (by rfl) T.m_len (by decide +kernel) (pa_cons (pv 9) pa_nil)) pe_int (nomark _))
      (pss_one (ps_ret (pe_tup (pa_cons (pe_tup (pa_cons (pe_un un_neg pe_int) (pa_cons pe_int pa_nil))) (pa_cons (pe_tup (pa_cons pe_int (pa_cons pe_int pa_nil))) (pa_cons (pe_tup (pa_cons pe_int (pa_cons pe_int pa_nil))) pa_nil))))))
      pss_nil)
    (pss_one (ps_ret (pv 9)))))))))), by infer_instance, fun ds n Q hl hA => ?_⟩
  obtain ⟨s, rfl, hs, hn, q⟩ := hA
  refine ⟨4, rfl, by decide, by decide, by omega, fun kd l u => ?_⟩
  have ab : ∀ v : Int, -s ≤ v → v ≤ s → 0 ≤ (if v < 0 then -v else v) ∧ (if v < 0 then -v else v) ≤ s := fun v h1 h2 => by split <;> omega
  have ab1 : ∀ v : Int, -(s - 1) ≤ v → v ≤ s - 1 → 0 ≤ (if v < 0 then -v else v) ∧ (if v < 0 then -v else v) ≤ s - 1 := fun v h1 h2 => by split <;> omega
  refine dIte (fun e => ?_) fun e => dIte (fun e2 => ?_) fun e2 => ?_
  · refine ⟨s, rfl, by omega, by omega, by omega, fun a n1 la ua h1 => ⟨s, rfl, by omega, by omega, by omega, fun b n2 lb ub h2 => ?_⟩⟩
    refine ⟨s - 1, rfl, by omega, by omega, by omega, fun c n3 lc uc h3 => ⟨s - 1, rfl, by omega, by omega, by omega, fun d n4 ld ud h4 => ?_⟩⟩
    have a1 := ab a la ua
    have b1 := ab b lb ub
    have c1 := ab1 c lc uc
    have d1 := ab1 d ld ud
    refine q [(-(if a < 0 then -a else a), -(if b < 0 then -b else b)), (-(if a < 0 then -a else a) + (1 + (if c < 0 then -c else c)), -(if b < 0 then -b else b)), (-(if a < 0 then -a else a) + (1 + (if c < 0 then -c else c)), -(if b < 0 then -b else b) + (1 + (if d < 0 then -d else d))), (-(if a < 0 then -a else a), -(if b < 0 then -b else b) + (1 + (if d < 0 then -d else d)))] n4 ?_ (by omega)
    generalize (if a < 0 then -a else a) = a' at a1
    generalize (if b < 0 then -b else b) = b' at b1
    generalize (if c < 0 then -c else c) = c' at c1
    generalize (if d < 0 then -d else d) = d' at d1
    refine ⟨by simp, by simp, fun p hp => ?_, next4 (ne_x (by omega)) (ne_y (by omega)) (ne_x (by omega)) (ne_y (by omega)), box_dst (by omega) (by omega), box_cvx (by omega) (by omega)⟩
    simp only [List.mem_cons, List.not_mem_nil, or_false] at hp
    rcases hp with rfl | rfl | rfl | rfl <;> (unfold PtS; simp only; omega)
  · refine ⟨.inl ⟨by decide, by decide⟩, s / 3, rfl, by omega, by omega, by omega, fun cs n1 ok h1 => q cs n1 ok (by omega)⟩
  · refine ⟨6, rfl, by decide, by decide, by omega, fun mn lm um => ?_⟩
    refine ⟨⟨by omega, by omega⟩, by rw [rangeD_length]; omega, ?_⟩
    refine aLc_ind (fun acc ds k => ∃ ps : List Pt, acc = ps.map pt ∧ (∀ p ∈ ps, -1000000 ≤ p.1 ∧ p.1 ≤ 1000000 ∧ -1000000 ≤ p.2 ∧ p.2 ≤ 1000000) ∧ ps.length + ds.length ≤ 8 ∧ n ≤ k + 2 + 6 * ps.length) ?_ ?_ ⟨[], rfl, (fun c h => by cases h), by rw [rangeD_length]; simp; omega, by simp; omega⟩
    · rintro acc d r k ⟨ps, rfl, hp, hl, hk⟩ ih
      rw [List.length_cons] at hl
      refine aT ⟨s, rfl, by omega, by omega, by omega, fun a n1 la ua h1 => ⟨s, rfl, by omega, by omega, by omega, fun b n2 lb ub h2 => ?_⟩⟩
      refine ih _ _ ⟨ps ++ [(a, b)], by rw [List.map_append]; rfl, fun c h => ?_, by rw [List.length_append]; simp; omega, by rw [List.length_append]; simp; omega⟩
      rcases List.mem_append.mp h with h | h
      · exact hp c h
      · rw [List.mem_singleton.mp h]
        exact ⟨by simp only; omega, by simp only; omega, by simp only; omega, by simp only; omega⟩
    · rintro acc k ⟨ps, rfl, hp, hl, hk⟩
      refine ⟨ps, rfl, fun rs hr hrs => ?_⟩
      have hrB : ∀ p ∈ rs, PtB p := fun p h => by have := hp p (hr.mem_iff.mp h); unfold PtB; omega
      have hrl : rs.length ≤ 8 := by have := hr.length_eq; simp at hl; omega
      refine ⟨rs, rfl, hrB, by omega, ?_⟩
      refine ⟨rs.reverse, by rw [List.map_reverse], fun p h => hrB p (List.mem_reverse.mp h), by rw [List.length_reverse]; omega, ?_⟩
      have hraw : ∀ x ∈ (halfR rs).tail.reverse ++ (halfR rs.reverse).tail.reverse, x ∈ rs := fun x hx => by
        rcases List.mem_append.mp hx with h | h
        · rcases halfS_sub rs [] x (List.mem_of_mem_tail (List.mem_reverse.mp h)) with h | h
          · cases h
          · exact h
        · rcases halfS_sub rs.reverse [] x (List.mem_of_mem_tail (List.mem_reverse.mp h)) with h | h
          · cases h
          · exact List.mem_reverse.mp h
      have hlen1 := halfS_len rs []
      have hlen2 := halfS_len rs.reverse []
      have hrawl : ((halfR rs).tail.reverse ++ (halfR rs.reverse).tail.reverse).length ≤ 16 := by
        rw [List.length_append, List.length_reverse, List.length_reverse, List.length_tail, List.length_tail]
        have e1 : (halfR rs).length ≤ rs.length := by show (halfS [] rs).length ≤ _; simpa using hlen1
        have e2 : (halfR rs.reverse).length ≤ rs.length := by show (halfS [] rs.reverse).length ≤ _; simpa using hlen2
        omega
      have hc := hull_convex hrs
      have hd := hull_dst hrs
      unfold hullOf at hc hd
      have el : stk (halfR rs).tail ++ stk (halfR rs.reverse).tail = ((halfR rs).tail.reverse ++ (halfR rs.reverse).tail.reverse).map pt := by
        rw [List.map_append]
        rfl
      refine ⟨?_, ?_⟩
      · have h := congrArg List.length el
        rw [List.length_append, List.length_map] at h
        omega
      generalize (halfR rs).tail.reverse ++ (halfR rs.reverse).tail.reverse = cs at *
      show aIte (decide (((stk (halfR rs).tail ++ stk (halfR rs.reverse).tail).length : Int) < 3)) _ (Q (.tup (stk (halfR rs).tail ++ stk (halfR rs.reverse).tail)) k)
      rw [el, List.length_map]
      refine dIte (fun e3 => ?_) fun e3 => ?_
      · exact q [(-1, 0), (2, 0), (0, 2)] k ⟨by decide, by decide, by unfold PtS; decide, by unfold Next; decide, tri_dst, tri_cvx⟩ (by simp at hl; omega)
      · rw [if_neg (by omega)] at hc hd
        exact q cs k ⟨hc.2, hrawl, fun p h => by have := hp p (hr.mem_iff.mp (hraw p h)); unfold PtS; omega, fun e he => (hc.1 e he).1, hd, hc.1⟩ (by simp at hl; omega)
/-! ways -/
theorem room65 {k : Nat} {A : Around} (r : Room k A) : A.units + 65 < cLine := by
  have := r.un
  omega
def rNIP (K : PySem.W.Frag) : R2 := rNotInD K
theorem k_notInP {X : Cx} (hK : X.K = K) (hu : X.A.units + 65 < cLine) : OpR X (compareOp .NotIn) (rNIP K) := hK ▸ op_notInD hu
theorem pt_isD : ∀ ws : List Pt, isDAll (ws.map pt) = true
  | [] => rfl
  | w :: ws => by
    show ((pt w).isD && isDAll (ws.map pt)) = true
    rw [pt_isD ws]
    rfl
theorem pt_lay : ∀ ws : List Pt, PyData.canLayAll0 (pdAll (ws.map pt)) = true ∧ PyData.depthAll (pdAll (ws.map pt)) ≤ 1
  | [] => ⟨rfl, Nat.zero_le _⟩
  | w :: ws => by
    obtain ⟨h1, h2⟩ := pt_lay ws
    refine ⟨?_, ?_⟩
    · show (PyData.canLay0 (pt w).pd && PyData.canLayAll0 (pdAll (ws.map pt))) = true
      rw [h1]
      rfl
    · show max (PyData.depth (pt w).pd) (PyData.depthAll (pdAll (ws.map pt))) ≤ 1
      exact Nat.max_le.mpr ⟨by show PyData.depth (.tuple [.int w.1, .int w.2]) ≤ 1; simp [PyData.depth, PyData.depthAll], h2⟩
theorem pt_shaped (ws : List Pt) : SeqAt.shaped (.list (pdAll (ws.map pt))) = true := by
  obtain ⟨h1, h2⟩ := pt_lay ws
  unfold SeqAt.shaped
  refine Bool.and_eq_true_iff.mpr ⟨h1, decide_eq_true ?_⟩
  show PyData.depthAll (pdAll (ws.map pt)) + 1 ≤ 64
  omega
theorem pt_eqv (v w : Pt) : PyData.eqv (pt v).pd (pt w).pd = decide (v = w) := by
  show PyData.eqv (.tuple [.int v.1, .int v.2]) (.tuple [.int w.1, .int w.2]) = _
  simp only [PyData.eqv, PyData.eqvAll, Bool.and_true]
  by_cases h : v = w
  · subst h
    simp
  · rw [decide_eq_false h]
    have : ¬ (v.1 = w.1 ∧ v.2 = w.2) := fun z => h (Prod.ext z.1 z.2)
    by_cases h1 : v.1 = w.1
    · have h2 : v.2 ≠ w.2 := fun z => this ⟨h1, z⟩
      simp [h2]
    · simp [h1]
theorem pt_any (w : Pt) : ∀ ws : List Pt, ((pdAll (ws.map pt)).any fun z => PyData.eqv z (pt w).pd) = decide (w ∈ ws)
  | [] => by simp [pdAll]
  | v :: ws => by
    show (PyData.eqv (pt v).pd (pt w).pd || (pdAll (ws.map pt)).any fun z => PyData.eqv z (pt w).pd) = _
    rw [pt_any w ws, pt_eqv]
    by_cases h1 : v = w
    · subst h1
      simp
    · have h2 : ¬ w = v := fun z => h1 z.symm
      by_cases h3 : w ∈ ws
      · simp [h3]
      · simp [h1, h2, h3]
def aNIP : D → D → Nat → (D → Nat → Prop) → Prop := fun d e n Q => ∃ (w : Pt) (ws : List Pt), d = pt w ∧ e = .lst (ws.map pt) ∧ Q (.bl (decide (w ∉ ws))) n
instance : D2 K (rNIP K) aNIP := ⟨fun W n H x y d e Q Qa hQ o ax ay h => by
  obtain ⟨w, ws, rfl, rfl, h⟩ := h
  exact ⟨(pt w).pd, pdAll (ws.map pt), At.dp (pt w) rfl ax, At.dp (.lst (ws.map pt)) (pt_isD ws) ay, (by simp [SeqAt.shaped, pt, D.pd, pdAll, PyData.canLay0, PyData.canLayAll0, PyData.depth, PyData.depthAll]), pt_shaped ws, by rw [pt_any]; exact hQ.now o (by rw [← decide_not]; exact h) (.bl _)⟩⟩
/-- ways: two whole numbers, not both nought -/
def WyS (k : Nat) (w : Pt) : Prop := Bd k w.1 ∧ Bd k w.2
def wayI (p q : Int) : Pt := (p / gcdI p q, q / gcdI p q)
theorem wayI_wys {p q : Int} {k : Nat} (h0 : ¬ (p = 0 ∧ q = 0)) (bp : Bd k p) (bq : Bd k q) : WyS k (wayI p q) := ⟨bp.of_le (div_natAbs_le (gcdI_pos2 h0) (gcdI_dvd_l _ _)), bq.of_le (div_natAbs_le (gcdI_pos2 h0) (gcdI_dvd_r _ _))⟩
def a_l_way : ASp := fun ds n Q => ∃ (p q : Int) (k : Nat), ds = [.int p, .int q] ∧ ¬ (p = 0 ∧ q = 0) ∧ Bd k p ∧ Bd k q ∧ k < 9000 ∧ ∀ w : Pt, w = wayI p q → WyS k w → Q (pt w) n
theorem ok_l_way (T : Tx K mg A) : FnOk P w K mg base CX0 2 A.f_l_way A.fd_l_way ["_law_p", "_law_q"] (spOf K 2 a_l_way) := by
  refine fn_mir [] 3 rfl (by decide) (by decide) T.F_l_way sc_l_way fun cdv Ar outer s H E hr => ?_
  refine ⟨_, _, (pss_cons (ps_set (i := 2) sc_l_way.nd rfl (.inl rfl) (pe_call (ok_l_gcd (P := P) (K := K) T) (hr.mono (by decide)) (by rfl) T.g_l_gcd T.F_l_gcd.kp T.b_l_gcd .nil pass0 (pa_cons (pv 0) (pa_cons (pv 1) pa_nil))))
    (pss_one (ps_ret (pe_tup (pa_cons (pe_op k_fdiv (pv 0) (pv 2)) (pa_cons (pe_op k_fdiv (pv 1) (pv 2)) pa_nil)))))), by infer_instance, fun ds n Q hl hA => ?_⟩
  obtain ⟨p, q, k, rfl, h0, bp, bq, hk, Qk⟩ := hA
  have g0 := gcdI_pos2 h0
  have gb := gcdI_bd2 bp bq h0
  exact ⟨p, q, rfl, divA gb g0 hk, divA gb g0 hk, Qk (_, _) rfl (wayI_wys h0 bp bq)⟩
theorem next_at {cs : List Pt} (h : Next cs) {k : Nat} (hk : k < cs.length) : cs[k]'hk ≠ cs[(k + 1) % cs.length]'(Nat.mod_lt _ (by omega)) := by
  have hl : (cs.drop 1 ++ cs.take 1).length = cs.length := by simp; omega
  have hz : k < (cs.zip (cs.drop 1 ++ cs.take 1)).length := by rw [List.length_zip, hl]; omega
  have := h _ (List.getElem_mem hz)
  rw [List.getElem_zip] at this
  simp only at this
  intro e
  refine this ?_
  rw [e]
  by_cases hk1 : k + 1 < cs.length
  · rw [List.getElem_append_left (by simp; omega), List.getElem_drop]
    congr 1
    rw [Nat.mod_eq_of_lt hk1]
    omega
  · have hk2 : k + 1 = cs.length := by omega
    rw [List.getElem_append_right (by simp; omega), List.getElem_take]
    congr 1
    rw [hk2, Nat.mod_self]
    simp
    omega
def prs (cs : List Pt) : List (Pt × Pt) := cs.zip (cs.drop 1 ++ cs.take 1)
def wyE (e : Pt × Pt) : Pt := wayI (e.2.2 - e.1.2) (e.1.1 - e.2.1)
def waysOf (cs : List Pt) : List Pt := (prs cs).map wyE
theorem prs_len {cs : List Pt} (h : cs ≠ []) : (prs cs).length = cs.length := by
  unfold prs
  rw [List.length_zip, List.length_append, List.length_drop, List.length_take]
  have : 0 < cs.length := List.length_pos_iff.mpr h
  omega
theorem prs_get {cs : List Pt} {k : Nat} (hk : k < cs.length) : (prs cs)[k]? = some (cs[k]'hk, cs[(k + 1) % cs.length]'(Nat.mod_lt _ (by omega))) := by
  have hl : (cs.drop 1 ++ cs.take 1).length = cs.length := by simp; omega
  have hz : k < (cs.zip (cs.drop 1 ++ cs.take 1)).length := by rw [List.length_zip, hl]; omega
  unfold prs
  rw [List.getElem?_eq_getElem hz, List.getElem_zip]
  congr 2
  by_cases hk1 : k + 1 < cs.length
  · rw [List.getElem_append_left (by simp; omega), List.getElem_drop]
    congr 1
    rw [Nat.mod_eq_of_lt hk1]
    omega
  · have hk2 : k + 1 = cs.length := by omega
    rw [List.getElem_append_right (by simp; omega), List.getElem_take]
    congr 1
    rw [hk2, Nat.mod_self]
    simp
    omega
theorem prs_ok {cs : List Pt} (h : ShOk cs) : ∀ e ∈ prs cs, e.1 ≠ e.2 ∧ PtS e.1 ∧ PtS e.2 := fun e he => by
  refine ⟨h.2.2.2.1 e he, h.2.2.1 _ (List.of_mem_zip he).1, h.2.2.1 _ ?_⟩
  rcases List.mem_append.mp (List.of_mem_zip he).2 with h1 | h1
  · exact List.mem_of_mem_drop h1
  · exact List.mem_of_mem_take h1
theorem ways_wys {cs : List Pt} (h : ShOk cs) : ∀ w ∈ waysOf cs, WyS 23 w := fun w hw => by
  obtain ⟨e, he, rfl⟩ := List.mem_map.mp hw
  obtain ⟨h1, h2, h3⟩ := prs_ok h e he
  unfold PtS at h2 h3
  exact wayI_wys (fun z => h1 (Prod.ext (by omega) (by omega))) (bd_abs (n := 6000000) (by decide) (by omega) (by omega)) (bd_abs (n := 6000000) (by decide) (by omega) (by omega))
theorem eds_zip (x : Pt) : ∀ h : List Pt, eds (h ++ [x]) = (h.zip (h.drop 1 ++ [x])).map (fun e => vec e.1 e.2)
  | [] => rfl
  | [a] => rfl
  | a :: b :: r => by
    have := eds_zip x (b :: r)
    show vec a b :: eds (b :: r ++ [x]) = vec a b :: ((b :: r).zip (r ++ [x])).map _
    rw [this]
    rfl
theorem way_same {u v : Pt} (hu : u ≠ (0, 0)) (hv : v ≠ (0, 0)) (e : wayI u.2 (-u.1) = wayI v.2 (-v.1)) : ¬ Nsd u v := by
  have h1 : ¬ (u.2 = 0 ∧ -u.1 = 0) := fun z => hu (Prod.ext (by show u.1 = 0; omega) z.1)
  have h2 : ¬ (v.2 = 0 ∧ -v.1 = 0) := fun z => hv (Prod.ext (by show v.1 = 0; omega) z.1)
  have g1 := gcdI_pos2 h1
  have g2 := gcdI_pos2 h2
  have a1 := div_mul (gcdI_dvd_l u.2 (-u.1))
  have a2 := div_mul (gcdI_dvd_r u.2 (-u.1))
  have b1 := div_mul (gcdI_dvd_l v.2 (-v.1))
  have b2 := div_mul (gcdI_dvd_r v.2 (-v.1))
  have e1 := congrArg Prod.fst e
  have e2 := congrArg Prod.snd e
  unfold wayI at e1 e2
  simp only at e1 e2
  rw [← e1] at b1
  rw [← e2] at b2
  generalize gcdI u.2 (-u.1) = g at *
  generalize gcdI v.2 (-v.1) = g' at *
  generalize u.2 / g = p at *
  generalize -u.1 / g = q at *
  obtain ⟨u1, u2⟩ := u
  obtain ⟨v1, v2⟩ := v
  simp only at *
  intro hn
  have hc : crs (u1, u2) (v1, v2) = 0 := by
    unfold crs
    simp only
    have eu : u1 = -(g * q) := by omega
    have ev : v1 = -(g' * q) := by omega
    rw [eu, ev, ← a1, ← b1]
    grind
  have ho := hn.opp hc
  unfold lexP neg at ho
  simp only at ho
  rcases Int.lt_trichotomy q 0 with hq | hq | hq
  · have := Int.mul_neg_of_pos_of_neg g2 hq
    have := Int.mul_neg_of_pos_of_neg g1 hq
    omega
  · subst hq
    rw [Int.mul_zero] at a2 b2
    rcases Int.lt_trichotomy p 0 with hp | hp | hp
    · have := Int.mul_neg_of_pos_of_neg g1 hp
      have := Int.mul_neg_of_pos_of_neg g2 hp
      omega
    · subst hp
      rw [Int.mul_zero] at a1
      omega
    · have := Int.mul_pos g2 hp
      have := Int.mul_pos g1 hp
      omega
  · have := Int.mul_pos g1 hq
    have := Int.mul_pos g2 hq
    omega
theorem ways_nodup {cs : List Pt} (h : ShOk cs) : (waysOf cs).Nodup := by
  have hd := h.2.2.2.2.1
  have hne : cs ≠ [] := fun z => by have := h.1; rw [z] at this; simp at this
  unfold Dst at hd
  obtain ⟨x, r, rfl⟩ : ∃ x r, cs = x :: r := by
    cases cs with
    | nil => exact absurd rfl hne
    | cons x r => exact ⟨x, r, rfl⟩
  have et : (x :: r).take 1 = [x] := rfl
  rw [et, eds_zip x (x :: r)] at hd
  refine List.pairwise_map.mpr (List.Pairwise.imp_of_mem (fun {e f} he hf hn z => ?_) (List.pairwise_map.mp hd))
  obtain ⟨h1, _⟩ := prs_ok h e he
  obtain ⟨h2, _⟩ := prs_ok h f hf
  have nz : ∀ e : Pt × Pt, e.1 ≠ e.2 → vec e.1 e.2 ≠ (0, 0) := fun e h z => h (by
    have z1 := congrArg Prod.fst z
    have z2 := congrArg Prod.snd z
    unfold vec at z1 z2
    simp only at z1 z2
    exact Prod.ext (by omega) (by omega))
  refine way_same (nz e h1) (nz f h2) ?_ hn
  have ew : ∀ e : Pt × Pt, wayI (vec e.1 e.2).2 (-(vec e.1 e.2).1) = wyE e := fun e => by
    unfold vec wyE
    simp only
    rw [show -(e.2.1 - e.1.1) = e.1.1 - e.2.1 by omega]
  rw [ew, ew]
  exact z
def a_l_ways : ASp := fun ds n Q => ∃ cs : List Pt, ds = [.tup (cs.map pt)] ∧ ShOk cs ∧ Q (.lst ((waysOf cs).map pt)) n
theorem okN_l_ways (T : Tx K mg A) : FnOk P w K mg base CX0 3 A.f_l_ways A.fd_l_ways ["_law_shape_here"] (spNew K 1 a_l_ways) := by
  refine fn_mirN [1] 5 1 rfl (by decide) (by decide) (by decide) T.F_l_ways sc_l_ways fun cdv Ar outer s H E hr => ?_
  refine ⟨_, _, (pss_assoc (pss_cons (k_own (ps_set (i := 1) sc_l_ways.nd rfl (.inl rfl) (pe_lst pa_nil)))
    (pss_cons (ps_for PassesOwn.never rfl (k_enumT (K := K) rfl (by rfl) T.m_enumerate (pa_cons (pv 0) pa_nil)) (k_gtup (K := K) (m := 2) rfl rfl (pgs_cons (pg_name (i := 2) sc_l_ways.nd rfl (.inl rfl)) (pgs_cons (pg_name (i := 3) sc_l_ways.nd rfl (.inl rfl)) pgs_nil)))
      (pss_cons (ps_set (i := 4) sc_l_ways.nd rfl (.inl rfl) (pe_ix (k_ixS (K := K) rfl) (pv 0) (pe_op op_mod (pe_op (k_add (K := K) rfl) (pv 2) pe_int) (pe_callB (k_len (K := K) rfl) (by rfl) T.m_len (by decide +kernel) (pa_cons (pv 0) pa_nil))) (fun _ _ => rfl)))
    (pss_one (k_app (K := K) rfl (ps_expr (pe_bm PySem.F.plainAttrs_list PySem.F.slot_list_append PySem.F.type_list_append mt_append (pv 1) (pa_cons (pe_call (ok_l_way (P := P) (K := K) T) (hr.mono (by decide)) (by rfl) T.g_l_way T.F_l_way.kp T.b_l_way .nil pass0 (pa_cons (pe_op op_sub (pe_ix (k_ix (K := K) rfl) (pv 4) pe_int (fun _ _ => rfl)) (pe_ix (k_ix (K := K) rfl) (pv 3) pe_int (fun _ _ => rfl))) (pa_cons (pe_op op_sub (pe_ix (k_ix (K := K) rfl) (pv 3) pe_int (fun _ _ => rfl)) (pe_ix (k_ix (K := K) rfl) (pv 4) pe_int (fun _ _ => rfl))) pa_nil))) pa_nil)))))))
    (pss_one (ps_ret (pv 1)))))), by infer_instance, fun ds n Q hl hA => ?_⟩
  obtain ⟨cs, rfl, hS, q⟩ := hA
  obtain ⟨h3, h16, hB, hN, _⟩ := id hS
  refine aFor_ind (fun ds ρ m => m = n ∧ ∃ (ws : List Pt) (j : Nat) (y2 y3 y4 : Option D), ρ = [some (.tup (cs.map pt)), some (.lst (ws.map pt)), y2, y3, y4] ∧ ds = enumD j ((cs.drop j).map pt) ∧ ws = ((prs cs).take j).map wyE ∧ j ≤ cs.length) ?_ ?_ ⟨rfl, [], 0, none, none, none, rfl, rfl, rfl, Nat.zero_le _⟩
  · rintro d r _ m ⟨rfl, ws, j, y2, y3, y4, rfl, e, hj, hle⟩ ih
    have hlt : j < cs.length := by
      rcases Nat.lt_or_ge j cs.length with h | h
      · exact h
      · rw [List.drop_of_length_le h] at e
        cases e
    rw [List.drop_eq_getElem_cons hlt, List.map_cons] at e
    obtain ⟨rfl, rfl⟩ := List.cons.inj e
    have hl0 : (0 : Int) < ((cs.map pt).length : Int) := by rw [List.length_map]; omega
    have hat : atI (cs.map pt) (((j : Int) + 1) % ((cs.map pt).length : Int)) = some (pt (cs[(j + 1) % cs.length]'(Nat.mod_lt _ (by omega)))) := by
      have e1 : ((j : Int) + 1) % ((cs.map pt).length : Int) = (((j + 1) % cs.length : Nat) : Int) := by rw [List.length_map]; first | rfl | (push_cast; rfl) | simp
      rw [e1]
      exact atI_nat (by rw [List.getElem?_map, List.getElem?_eq_getElem (Nat.mod_lt _ (by omega))]; rfl)
    refine ⟨hl0, aIx_tup hat ?_⟩
    have hne := next_at hN hlt
    have hpg := prs_get hlt
    have b1 := hB _ (List.getElem_mem hlt)
    have b2 := hB _ (List.getElem_mem (show (j + 1) % cs.length < cs.length from Nat.mod_lt _ (by omega)))
    generalize cs[(j + 1) % cs.length]'(Nat.mod_lt _ (by omega)) = nx at hne b2 hpg
    generalize cs[j] = cr at hne b1 hpg
    unfold PtS at b1 b2
    refine ⟨nx.2 - cr.2, cr.1 - nx.1, 23, rfl, fun z => hne (Prod.ext (by omega) (by omega)), bd_abs (n := 6000000) (by decide) (by omega) (by omega), bd_abs (n := 6000000) (by decide) (by omega) (by omega), by decide, fun w ew hww => ?_⟩
    have hwl : ws.length ≤ j := by rw [hj, List.length_map, List.length_take]; omega
    refine ⟨by rw [List.length_map]; omega, ih _ _ ⟨rfl, ws ++ [w], j + 1, _, _, _, by rw [List.map_append]; rfl, rfl, ?_, by omega⟩⟩
    rw [List.take_add_one, hpg, hj, List.map_append, ew]
    rfl
  · rintro _ m ⟨rfl, ws, j, y2, y3, y4, rfl, e, hj, hle⟩
    have : cs.length ≤ j := by
      rcases Nat.lt_or_ge j cs.length with h | h
      · rw [List.drop_eq_getElem_cons h, List.map_cons] at e
        cases e
      · exact h
    have hj2 : ws = waysOf cs := by
      rw [hj, List.take_of_length_le (by rw [prs_len (fun z => by rw [z] at h3; simp at h3)]; exact this)]
      rfl
    rw [hj2]
    exact ⟨_, rfl, q⟩
theorem ok_l_ways (T : Tx K mg A) : FnOk P w K mg base CX0 3 A.f_l_ways A.fd_l_ways ["_law_shape_here"] (spOf K 1 a_l_ways) := new_plain (okN_l_ways T)
/-! rows -/
structure Bw where
  nm : D
  cs : List Pt
  m : Int
  rail : D
  px : Rat
  py : Rat
  x : Rat
  y : Rat
def Bw.d (b : Bw) : D := .tup [b.nm, .tup (b.cs.map pt), .int b.m, b.rail, spt b.px b.py, spt b.x b.y]
def Bw.ok (k m : Nat) (b : Bw) : Prop := ShOk b.cs ∧ BdQ k b.px ∧ BdQ k b.py ∧ BdQ m b.x ∧ BdQ m b.y
def ngP (w : Pt) : Pt := (-w.1, -w.2)
theorem ngP_ngP (w : Pt) : ngP (ngP w) = w := by unfold ngP; simp
theorem ng_wys {w : Pt} {k : Nat} (h : WyS k w) : WyS k (ngP w) := ⟨h.1.neg, h.2.neg⟩
/-- the ways of a pair: each once, in order -/
structure PwOk (as bs rs : List Pt) : Prop where
  nd : rs.Nodup
  mem : ∀ p, p ∈ rs ↔ p ∈ as ∨ ngP p ∈ bs
  ord : rs.Pairwise lexLe
theorem PwOk.uniq {as bs rs rs' : List Pt} (h : PwOk as bs rs) (g : PwOk as bs rs') : rs = rs' :=
  List.Perm.eq_of_pairwise (fun a b _ _ h1 h2 => lex_anti h1 h2) h.ord g.ord ((List.perm_ext_iff_of_nodup h.nd g.nd).mpr fun p => by rw [h.mem, g.mem])
theorem PwOk.sub {as bs rs : List Pt} (h : PwOk as bs rs) {F : Pt → Prop} (h1 : ∀ w ∈ as, F w) (h2 : ∀ w ∈ bs, F (ngP w)) : ∀ w ∈ rs, F w := fun w hw => by
  rcases (h.mem w).mp hw with g | g
  · exact h1 w g
  · have := h2 _ g
    rwa [ngP_ngP] at this
def a_l_pair_ways : ASp := fun ds n Q => ∃ (b c : Bw), ds = [b.d, c.d] ∧ ShOk b.cs ∧ ShOk c.cs ∧ ∀ ws : List Pt, 0 < ws.length → ws.length ≤ 40 → (∀ w ∈ ws, WyS 23 w) → PwOk (waysOf b.cs) (waysOf c.cs) ws → Q (.lst (ws.map pt)) n
theorem ok_l_pair_ways (T : Tx K mg A) : FnOk P w K mg base CX0 4 A.f_l_pair_ways A.fd_l_pair_ways ["_law_one", "_law_other"] (spOf K 2 a_l_pair_ways) := by
  refine fn_mir [2] 4 rfl (by decide) (by decide) T.F_l_pair_ways sc_l_pair_ways fun cdv Ar outer s H E hr => ?_
  refine ⟨_, _, (pss_cons (k_ownC (K := K) (ps_set (i := 2) sc_l_pair_ways.nd rfl (.inl rfl) (pe_call (okN_l_ways (P := P) (K := K) T) (hr.mono (by decide)) (by rfl) T.g_l_ways T.F_l_ways.kp T.b_l_ways .nil pass0 (pa_cons (pe_ix (k_ix (K := K) rfl) (pv 0) pe_int (fun _ _ => rfl)) pa_nil))))
    (pss_cons (ps_for PassesOwn.never rfl (k_iter (K := K) rfl (pe_call (ok_l_ways (P := P) (K := K) T) (hr.mono (by decide)) (by rfl) T.g_l_ways T.F_l_ways.kp T.b_l_ways .nil pass0 (pa_cons (pe_ix (k_ix (K := K) rfl) (pv 1) pe_int (fun _ _ => rfl)) pa_nil))) (pg_name (i := 3) sc_l_pair_ways.nd rfl (.inl rfl))
      (pss_one (ps_if (pt_cmpR (k_notInP (K := K) rfl (room65 hr)) (pe_tup (pa_cons (pe_un un_neg (pe_ix (k_ix (K := K) rfl) (pv 3) pe_int (fun _ _ => rfl))) (pa_cons (pe_un un_neg (pe_ix (k_ix (K := K) rfl) (pv 3) pe_int (fun _ _ => rfl))) pa_nil))) (pv 2) (by rfl))
      (pss_one (k_app (K := K) rfl (ps_expr (pe_bm PySem.F.plainAttrs_list PySem.F.slot_list_append PySem.F.type_list_append mt_append (pv 2) (pa_cons (pe_tup (pa_cons (pe_un un_neg (pe_ix (k_ix (K := K) rfl) (pv 3) pe_int (fun _ _ => rfl))) (pa_cons (pe_un un_neg (pe_ix (k_ix (K := K) rfl) (pv 3) pe_int (fun _ _ => rfl))) pa_nil))) pa_nil)))))
      pss_nil)))
    (pss_one (ps_ret (pe_callB (k_sortP (K := K) rfl) (by rfl) T.m_sorted (by decide +kernel) (pa_cons (pv 2) pa_nil)))))), by infer_instance, fun ds n Q hl hA => ?_⟩
  obtain ⟨b, c, rfl, hb, hc, q⟩ := hA
  refine ⟨b.cs, rfl, hb, ?_⟩
  have hb3 := hb.1
  have hb16 := hb.2.1
  have hc16 := hc.2.1
  have wl : ∀ {cs : List Pt}, ShOk cs → (waysOf cs).length = cs.length := fun {cs} h => by
    unfold waysOf
    rw [List.length_map, prs_len (fun z => by have := h.1; rw [z] at this; simp at this)]
  have hlb := wl hb
  have hlc := wl hc
  refine ⟨(waysOf b.cs).map pt, rfl, fun e he => ?_, ?_⟩
  · obtain ⟨w, _, rfl⟩ := List.mem_map.mp he
    exact .pair _ _
  refine ⟨c.cs, rfl, hc, ?_⟩
  refine aFor_ind (fun ds ρ m => m = n ∧ ∃ (ds' us fs : List Pt) (y : Option D), waysOf c.cs = ds' ++ us ∧ ds = us.map pt ∧ ρ = [some b.d, some c.d, some (.lst (fs.map pt)), y] ∧ fs.Nodup ∧ (∀ p, p ∈ fs ↔ p ∈ waysOf b.cs ∨ ngP p ∈ ds') ∧ 0 < fs.length ∧ fs.length + us.length ≤ 40) ?_ ?_ ⟨rfl, [], waysOf c.cs, waysOf b.cs, none, rfl, rfl, rfl, ways_nodup hb, fun p => by simp, by omega, by omega⟩
  · rintro d r _ m ⟨rfl, ds', us, fs, y, e0, e, rfl, hnd, hf, h0, hlen⟩ ih
    cases us with
    | nil => cases e
    | cons w us =>
    obtain ⟨rfl, rfl⟩ := List.cons.inj e
    rw [List.length_cons] at hlen
    have hng : ∀ p, ngP p = w ↔ p = ngP w := fun p => ⟨fun z => by rw [← z, ngP_ngP], fun z => by rw [z, ngP_ngP]⟩
    refine ⟨ngP w, fs, rfl, rfl, dIte (fun hn => ?_) fun hn => ?_⟩
    · refine ⟨by rw [List.length_map]; omega, ih _ _ ⟨rfl, ds' ++ [w], us, fs ++ [ngP w], _, by rw [e0]; simp, rfl, by rw [List.map_append]; rfl, ?_, fun p => ?_, by simp, by simp; omega⟩⟩
      · refine List.nodup_append.mpr ⟨hnd, by simp, fun a ha b' hb' z => ?_⟩
        rw [List.mem_singleton.mp hb'] at z
        exact hn (z ▸ ha)
      · rw [List.mem_append, List.mem_singleton, hf, List.mem_append, List.mem_singleton, hng, or_assoc]
    · have hin : ngP w ∈ fs := by simpa using hn
      refine ih _ _ ⟨rfl, ds' ++ [w], us, fs, _, by rw [e0]; simp, rfl, rfl, hnd, fun p => ?_, h0, by omega⟩
      rw [hf, List.mem_append, List.mem_singleton, hng]
      constructor
      · rintro (z | z)
        · exact .inl z
        · exact .inr (.inl z)
      · rintro (z | z | z)
        · exact .inl z
        · exact .inr z
        · rw [z]
          exact (hf _).mp hin
  · rintro _ m ⟨rfl, ds', us, fs, y, e0, e, rfl, hnd, hf, h0, hlen⟩
    cases us with
    | cons w us => cases e
    | nil =>
    rw [List.append_nil] at e0
    refine ⟨fs, rfl, fun rs hp hpw => ?_⟩
    have pok : PwOk (waysOf b.cs) (waysOf c.cs) rs := ⟨hp.nodup_iff.mpr hnd, fun p => by rw [hp.mem_iff, hf, e0], hpw⟩
    exact q rs (by have := hp.length_eq; omega) (by have := hp.length_eq; simp at hlen; omega) (pok.sub (ways_wys hb) fun w hw => ng_wys (ways_wys hc w hw)) pok
/-! names, numbers, rows -/
theorem joinE_len : ∀ ps : List (List Nat), (TL.joinL [] ps).length = (ps.map (·.length)).sum
  | [] => rfl
  | [p] => by simp [TL.joinL]
  | p :: q :: r => by
    have := joinE_len (q :: r)
    show (p ++ ([] ++ TL.joinL [] (q :: r))).length = _
    rw [List.nil_append, List.length_append, this]
    simp
theorem joinE (ys : List Str) : (Txt.join (Str.ofString "") ys).length = (ys.map (·.length)).sum := by
  have e0 : TL.tl (Str.ofString "") = [] := by decide +kernel
  have h : (TL.tl (Txt.join (Str.ofString "") ys)).length = (ys.map (·.length)).sum := by
    rw [TL.join_eq, TL.tl_join, e0, joinE_len, List.map_map]
    congr 1
  rw [← h]
  show (Txt.join (Str.ofString "") ys).cps.size = (Txt.join (Str.ofString "") ys).cps.toList.length
  simp
theorem letters_at {i : Int} (h0 : 0 ≤ i) (h1 : i < 26) : ∃ c, atI (Str.ofString "abcdefghijklmnopqrstuvwxyz").cps.toList i = some c := by
  have hl : (Str.ofString "abcdefghijklmnopqrstuvwxyz").cps.toList.length = 26 := by decide +kernel
  obtain ⟨x, _, h⟩ := pick_at (xs := (Str.ofString "abcdefghijklmnopqrstuvwxyz").cps.toList) h0 (by rw [hl]; exact h1)
  exact ⟨x, h⟩
theorem aIx_str {z : Str} {i : Int} {c n : Nat} {Q : D → Nat → Prop} (hl : z.length ≤ 1000000) (e : atI z.cps.toList i = some c) (q : Q (.str ⟨#[c]⟩) n) : aIxS (.str z) (.int i) n Q := by
  unfold aIxS
  refine ⟨hl, ?_⟩
  rw [e]
  exact q
theorem cutS_len (z : Str) (l u : Option Int) : (cutS z l u).length ≤ z.length := by
  show (cutS z l u).cps.size ≤ z.cps.size
  unfold cutS
  rw [List.size_toArray, List.length_take, List.length_drop]
  have : z.cps.toList.length = z.cps.size := by simp
  omega
theorem str_app_len (a b : Str) : (a ++ b).length = a.length + b.length := strLen_append a b
/-! names that are drawn: short, of letters -/
def NmL (z : Str) : Prop := z.length ≤ 40 ∧ PyData.canLay0 (.str z) = true
def NmD (d : D) : Prop := ∃ z : Str, d = .str z ∧ NmL z
theorem nl_of {z : Str} (h : ∀ c ∈ z.cps.toList, c < 0x110000) : PyData.canLay0 (.str z) = true := by
  unfold PyData.canLay0
  show (z.cps.all _) = true
  rw [Array.all_eq_true']
  intro c hc
  exact decide_eq_true (h c (Array.mem_toList_iff.mpr hc))
theorem nl_to {z : Str} (h : PyData.canLay0 (.str z) = true) : ∀ c ∈ z.cps.toList, c < 0x110000 := by
  unfold PyData.canLay0 at h
  have h' : (z.cps.all fun c => decide (c < 0x110000)) = true := h
  rw [Array.all_eq_true'] at h'
  intro c hc
  exact of_decide_eq_true (h' c (Array.mem_toList_iff.mp hc))
theorem nl_cut {z : Str} {l u : Option Int} (h : PyData.canLay0 (.str z) = true) : PyData.canLay0 (.str (cutS z l u)) = true := nl_of fun c hc => by
  unfold cutS at hc
  simp only [List.toList_toArray] at hc
  exact nl_to h c (List.mem_of_mem_drop (List.mem_of_mem_take hc))
theorem nl_app {a b : Str} (ha : PyData.canLay0 (.str a) = true) (hb : PyData.canLay0 (.str b) = true) : PyData.canLay0 (.str (a ++ b)) = true := nl_of fun c hc => by
  have hc' : c ∈ (a.cps ++ b.cps).toList := hc
  rw [Array.toList_append] at hc'
  rcases List.mem_append.mp hc' with z | z
  · exact nl_to ha c z
  · exact nl_to hb c z
theorem nl_one {c : Nat} (h : c < 0x110000) : PyData.canLay0 (.str ⟨#[c]⟩) = true := nl_of fun x hx => by
  have : x ∈ [c] := hx
  rw [List.mem_singleton.mp this]
  exact h
theorem nl_joinL (S : List Nat) : ∀ (ps : List (List Nat)) (c : Nat), c ∈ TL.joinL S ps → c ∈ S ∨ ∃ p ∈ ps, c ∈ p
  | [], c, h => by cases h
  | [p], c, h => .inr ⟨p, List.mem_cons_self, h⟩
  | p :: q :: r, c, h => by
    rcases List.mem_append.mp h with h | h
    · exact .inr ⟨p, List.mem_cons_self, h⟩
    · rcases List.mem_append.mp h with h | h
      · exact .inl h
      · rcases nl_joinL S (q :: r) c h with h | ⟨p', h1, h2⟩
        · exact .inl h
        · exact .inr ⟨p', List.mem_cons_of_mem _ h1, h2⟩
theorem nl_join {ys : List Str} (h : ∀ y ∈ ys, PyData.canLay0 (.str y) = true) : PyData.canLay0 (.str (Txt.join (Str.ofString "") ys)) = true := nl_of fun c hc => by
  rw [TL.join_eq] at hc
  have hc2 : c ∈ TL.tl (Str.join (Str.ofString "") ys) := hc
  rw [TL.tl_join] at hc2
  rcases nl_joinL _ _ _ hc2 with h' | ⟨p, h1, h2⟩
  · have e0 : TL.tl (Str.ofString "") = [] := by decide +kernel
    rw [e0] at h'
    cases h'
  · obtain ⟨y, hy, rfl⟩ := List.mem_map.mp h1
    exact nl_to (h y hy) c h2
theorem nl_letter {i : Int} (h0 : 0 ≤ i) (h1 : i < 26) : ∃ c, atI (Str.ofString "abcdefghijklmnopqrstuvwxyz").cps.toList i = some c ∧ c < 0x110000 := by
  obtain ⟨k, rfl⟩ := Int.eq_ofNat_of_zero_le h0
  have hk : k < 26 := by omega
  have : ∀ k < 26, ∃ c, atI (Str.ofString "abcdefghijklmnopqrstuvwxyz").cps.toList ((k : Nat) : Int) = some c ∧ c < 0x110000 := fun k hk => ⟨97 + k, by
    revert k
    decide +kernel, by omega⟩
  exact this k hk
def a_l_names : ASp := fun ds n Q => ds = [.deck] ∧ 100 ≤ n ∧ ∀ (x y : Str) (n' : Nat), NmL x → NmL y → n ≤ n' + 20 → Q (.lst [.str x, .str y]) n'
theorem ok_l_names (T : Tx K mg A) : FnOk P w K mg base CX0 3 A.f_l_names A.fd_l_names ["_law_deck_here"] (spOf K 1 a_l_names) := by
  refine fn_mir [] 7 rfl (by decide) (by decide) T.F_l_names sc_l_names fun cdv Ar outer s H E hr => ?_
  refine ⟨_, _, (pss_cons (ps_set (i := 1) sc_l_names.nd rfl (.inr rfl) pe_str)
    (pss_cons (ps_set (i := 2) sc_l_names.nd rfl (.inl rfl) (k_join (K := K) rfl pe_str (pe_lc (own := [("_law_turn", 6)]) rfl sc_l_names.nd (pi_range1 (by rfl) T.m_range (pa_cons (pe_ix (k_ixS (K := K) rfl) (pe_lst (pa_cons pe_int (pa_cons pe_int (pa_cons pe_int (pa_cons pe_int pa_nil))))) (pe_call (ok_l_take (P := P) (K := K) T) (hr.mono (by decide)) (by rfl) T.g_l_take T.F_l_take.kp T.b_l_take .nil pass0 (pa_cons (pv 0) (pa_cons pe_int pa_nil))) (fun _ _ => rfl)) pa_nil)) (blkOk_by (own := [("_law_turn", 6)]) (N := ["_law_deck_here", "_law_letters", "_law_stem", "_law_at", "_law_first_letter", "_law_second_letter", "_law_turn"]) (sc := defScope s_l_names) (by decide +kernel)) (fun _ _ _ _ _ => (pg_name (i := 6) sc_l_names.nd rfl (Or.inl rfl))) (fun _ _ _ _ _ => pts_nil) (fun _ _ _ _ _ => (pe_ix (k_ixS (K := K) rfl) (pv 1) (pe_call (ok_l_take (P := P) (K := K) T) (hr.mono (by decide)) (by rfl) T.g_l_take T.F_l_take.kp T.b_l_take .nil pass0 (pa_cons (pv 0) (pa_cons pe_int pa_nil))) (fun _ _ => rfl))))))
    (pss_cons (ps_set (i := 3) sc_l_names.nd rfl (.inl rfl) (pe_call (ok_l_take (P := P) (K := K) T) (hr.mono (by decide)) (by rfl) T.g_l_take T.F_l_take.kp T.b_l_take .nil pass0 (pa_cons (pv 0) (pa_cons (pe_op (k_add (K := K) rfl) (pe_callB (k_len (K := K) rfl) (by rfl) T.m_len (by decide +kernel) (pa_cons (pv 2) pa_nil)) pe_int) pa_nil))))
    (pss_cons (ps_set (i := 4) sc_l_names.nd rfl (.inl rfl) (pe_call (ok_l_take (P := P) (K := K) T) (hr.mono (by decide)) (by rfl) T.g_l_take T.F_l_take.kp T.b_l_take .nil pass0 (pa_cons (pv 0) (pa_cons pe_int pa_nil))))
    (pss_cons (ps_set (i := 5) sc_l_names.nd rfl (.inl rfl) (pe_op op_mod (pe_op (k_add (K := K) rfl) (pe_op (k_add (K := K) rfl) (pv 4) pe_int) (pe_call (ok_l_take (P := P) (K := K) T) (hr.mono (by decide)) (by rfl) T.g_l_take T.F_l_take.kp T.b_l_take .nil pass0 (pa_cons (pv 0) (pa_cons pe_int pa_nil)))) pe_int))
    (pss_one (ps_ret (pe_lst (pa_cons (pe_op (k_add (K := K) rfl) (pe_op (k_add (K := K) rfl) (pe_slice (k_sl (K := K) rfl) (pv 2) po_none (po_some (pv 3))) (pe_ix (k_ixS (K := K) rfl) (pv 1) (pv 4) (fun _ _ => rfl))) (pe_slice (k_sl (K := K) rfl) (pv 2) (po_some (pv 3)) po_none)) (pa_cons (pe_op (k_add (K := K) rfl) (pe_op (k_add (K := K) rfl) (pe_slice (k_sl (K := K) rfl) (pv 2) po_none (po_some (pv 3))) (pe_ix (k_ixS (K := K) rfl) (pv 1) (pv 5) (fun _ _ => rfl))) (pe_slice (k_sl (K := K) rfl) (pv 2) (po_some (pv 3)) po_none)) pa_nil)))))))))), by infer_instance, fun ds n Q hl hA => ?_⟩
  obtain ⟨rfl, hn, q⟩ := hA
  refine ⟨4, rfl, by decide, by decide, by omega, fun r l u => ?_⟩
  obtain ⟨lg, hlg, hat⟩ : ∃ lg : Nat, lg ≤ 11 ∧ atI [D.int 0, D.int 1, D.int 3, D.int 11] r = some (D.int (lg : Int)) := by
    obtain rfl | rfl | rfl | rfl : r = 0 ∨ r = 1 ∨ r = 2 ∨ r = 3 := by omega
    · exact ⟨0, by decide, rfl⟩
    · exact ⟨1, by decide, rfl⟩
    · exact ⟨3, by decide, rfl⟩
    · exact ⟨11, by decide, rfl⟩
  refine aIx_lst hat ?_
  refine ⟨⟨by omega, by omega⟩, by rw [rangeD_length]; omega, ?_⟩
  refine aLc_ind (fun acc ds m' => ∃ ys : List Str, acc = ys.map D.str ∧ (∀ y ∈ ys, y.length = 1 ∧ PyData.canLay0 (.str y) = true) ∧ ys.length + ds.length = lg ∧ n ≤ m' + 1 + ys.length) ?_ ?_ ⟨[], rfl, (fun y h => by cases h), by rw [rangeD_length]; simp, by simp; omega⟩
  · rintro acc d r m' ⟨ys, rfl, hy, hl', hm'⟩ ih'
    rw [List.length_cons] at hl'
    refine aT ⟨26, rfl, by decide, by decide, by omega, fun x l5 u5 => ?_⟩
    obtain ⟨ch, hch, hlt⟩ := nl_letter l5 u5
    refine aIx_str (by decide +kernel) hch (ih' _ _ ⟨ys ++ [⟨#[ch]⟩], by rw [List.map_append]; rfl, ?_, by rw [List.length_append]; simp; omega, by rw [List.length_append]; simp; omega⟩)
    intro y hy'
    rcases List.mem_append.mp hy' with h | h
    · exact hy y h
    · rw [List.mem_singleton.mp h]
      exact ⟨rfl, nl_one hlt⟩
  · rintro acc m' ⟨ys, rfl, hy, hl', hm'⟩
    have hjl := nl_join fun y hy' => (hy y hy').2
    have hs : (ys.map (·.length)).sum = ys.length := by
      clear hl' hm' hjl
      induction ys with
      | nil => rfl
      | cons y r ih =>
        rw [List.map_cons, List.sum_cons, ih fun z hz => hy z (List.mem_cons_of_mem _ hz), List.length_cons, (hy y List.mem_cons_self).1]
        omega
    have hlen : (Str.ofString "").length = 0 := by decide +kernel
    simp at hl'
    refine ⟨ys, rfl, by rw [hs, hlen]; omega, ?_⟩
    have hn1 : (Txt.join (Str.ofString "") ys).length ≤ 11 := by rw [joinE, hs]; omega
    generalize Txt.join (Str.ofString "") ys = st at hn1 hjl
    refine ⟨by omega, (st.length : Int) + 1, rfl, by omega, small_log (by omega) (by omega), by omega, fun at' la ua => ?_⟩
    refine ⟨26, rfl, by decide, by decide, by omega, fun f lf uf => ?_⟩
    refine ⟨25, rfl, by decide, by decide, by omega, fun g lg2 ug => ⟨(show (0 : Int) < 26 by decide), ?_⟩⟩
    obtain ⟨c1, h1, t1⟩ := nl_letter lf uf
    obtain ⟨c2, h2, t2⟩ := nl_letter (i := (f + 1 + g) % 26) (Int.emod_nonneg _ (by decide)) (Int.emod_lt_of_pos _ (by decide))
    have k1 := cutS_len st none (some at')
    have k2 := cutS_len st (some at') none
    have one : ∀ c : Nat, (⟨#[c]⟩ : Str).length = 1 := fun c => rfl
    have o1 := one c1
    have o2 := one c2
    refine ⟨by omega, aIx_str (by decide +kernel) h1 ⟨by omega, by omega, by rw [str_app_len]; omega, by omega, aIx_str (by decide +kernel) h2 ⟨by omega, by omega, by rw [str_app_len]; omega, q _ _ _ ⟨by rw [str_app_len, str_app_len]; omega, nl_app (nl_app (nl_cut hjl) (nl_one t1)) (nl_cut hjl)⟩ ⟨by rw [str_app_len, str_app_len]; omega, nl_app (nl_app (nl_cut hjl) (nl_one t2)) (nl_cut hjl)⟩ (by omega)⟩⟩⟩
def a_l_drawn : ASp := fun ds n Q => ∃ k : Int, ds = [.deck, .int k] ∧ (k = 0 ∨ k = 1 ∨ k = 2) ∧ 60 ≤ n ∧ ∀ (q : Rat) (n' : Nat), BdQ 201 q → n ≤ n' + 45 → Q (sh q) n'
theorem ok_l_drawn (T : Tx K mg A) : FnOk P w K mg base CX0 4 A.f_l_drawn A.fd_l_drawn ["_law_deck_here", "_law_size"] (spOf K 2 a_l_drawn) := by
  refine fn_mir [] 4 rfl (by decide) (by decide) T.F_l_drawn sc_l_drawn fun cdv Ar outer s H E hr => ?_
  refine ⟨_, _, (pss_cons (ps_set (i := 2) sc_l_drawn.nd rfl (.inl rfl) (pe_ix (k_ixS (K := K) rfl) (pe_lst (pa_cons pe_int (pa_cons pe_int (pa_cons pe_int pa_nil)))) (pv 1) (fun _ _ => rfl)))
    (pss_cons (ps_if (pt_cmpR (k_eq (K := K) rfl hr.units) (pv 2) pe_int (nomark _))
      (pss_one (ps_ret (pe_call (ok_l_share (P := P) (K := K) T) (hr.mono (by decide)) (by rfl) T.g_l_share T.F_l_share.kp T.b_l_share .nil pass0 (pa_cons (pe_op op_sub (pe_call (ok_l_take (P := P) (K := K) T) (hr.mono (by decide)) (by rfl) T.g_l_take T.F_l_take.kp T.b_l_take .nil pass0 (pa_cons (pv 0) (pa_cons pe_int pa_nil))) pe_int) (pa_cons (pe_op (k_add (K := K) rfl) pe_int (pe_op k_mul (pe_call (ok_l_take (P := P) (K := K) T) (hr.mono (by decide)) (by rfl) T.g_l_take T.F_l_take.kp T.b_l_take .nil pass0 (pa_cons (pv 0) (pa_cons pe_int pa_nil))) (pe_call (ok_l_take (P := P) (K := K) T) (hr.mono (by decide)) (by rfl) T.g_l_take T.F_l_take.kp T.b_l_take .nil pass0 (pa_cons (pv 0) (pa_cons pe_int pa_nil))))) pa_nil)))))
      pss_nil)
    (pss_cons (ps_set (i := 3) sc_l_drawn.nd rfl (.inl rfl) (pe_op op_sub pe_int (pe_op k_mul pe_int (pe_call (ok_l_take (P := P) (K := K) T) (hr.mono (by decide)) (by rfl) T.g_l_take T.F_l_take.kp T.b_l_take .nil pass0 (pa_cons (pv 0) (pa_cons pe_int pa_nil))))))
    (pss_one (ps_ret (pe_call (ok_l_share (P := P) (K := K) T) (hr.mono (by decide)) (by rfl) T.g_l_share T.F_l_share.kp T.b_l_share .nil pass0 (pa_cons (pe_op k_mul (pv 3) (pe_call (ok_l_long (P := P) (K := K) T) (hr.mono (by decide)) (by rfl) T.g_l_long T.F_l_long.kp T.b_l_long .nil pass0 (pa_cons (pv 0) (pa_cons (pv 2) pa_nil)))) (pa_cons (pe_op (k_add (K := K) rfl) pe_int (pe_call (ok_l_long (P := P) (K := K) T) (hr.mono (by decide)) (by rfl) T.g_l_long T.F_l_long.kp T.b_l_long .nil pass0 (pa_cons (pv 0) (pa_cons (pe_call (ok_l_take (P := P) (K := K) T) (hr.mono (by decide)) (by rfl) T.g_l_take T.F_l_take.kp T.b_l_take .nil pass0 (pa_cons (pv 0) (pa_cons (pv 2) pa_nil))) pa_nil)))) pa_nil)))))))), by infer_instance, fun ds n Q hl hA => ?_⟩
  obtain ⟨k, rfl, hk, hn, q⟩ := hA
  obtain ⟨mn, hm, hat⟩ : ∃ mn : Nat, (mn = 0 ∨ mn = 2 ∨ mn = 20) ∧ atI [D.int 0, D.int 2, D.int 20] k = some (D.int (mn : Int)) := by
    obtain rfl | rfl | rfl := hk
    · exact ⟨0, .inl rfl, rfl⟩
    · exact ⟨2, .inr (.inl rfl), rfl⟩
    · exact ⟨20, .inr (.inr rfl), rfl⟩
  refine aIx_lst hat ?_
  refine dIte (fun e => ?_) fun e => ?_
  · refine ⟨19, rfl, by decide, by decide, by omega, fun a la ua => ⟨4, rfl, by decide, by decide, by omega, fun b lb ub => ⟨2, rfl, by decide, by decide, by omega, fun c lc uc => ?_⟩⟩⟩
    have hbc : 0 ≤ b * c ∧ b * c ≤ 3 := by
      obtain rfl | rfl : c = 0 ∨ c = 1 := by omega
      · omega
      · omega
    refine ⟨.inl (.inl ⟨by omega, by omega⟩), ?_⟩
    have b1 : Bd 201 (1 + b * c) := (bd_abs (k := 5) (n := 10) (by decide) (by omega) (by omega)).le (by decide)
    have b2 : Bd 201 (a - 9) := (bd_abs (k := 5) (n := 10) (by decide) (by omega) (by omega)).le (by decide)
    exact share_ok (by omega) b1 (by decide) (q _ _ (divInt_bd (by omega) b2 b1) (by omega))
  · refine ⟨2, rfl, by decide, by decide, by omega, fun sg ls us => ⟨.inl (.inl (by decide)), ?_⟩⟩
    refine ⟨mn, rfl, by omega, by omega, fun a n1 a0 a1 h1 => ?_⟩
    have ba := long_bd a0 a1
    have bs : Bd 1 (1 - 2 * sg) := bd_abs (n := 1) (by decide) (by omega) (by omega)
    refine ⟨mulA bs ba (by decide) (by omega), ?_⟩
    refine ⟨(mn : Int), rfl, by omega, small_log (by omega) (by omega), by omega, fun c lc uc => ?_⟩
    obtain ⟨c', rfl⟩ := Int.eq_ofNat_of_zero_le lc
    refine ⟨c', rfl, by omega, by omega, fun b n2 b0 b1 h2 => ?_⟩
    have bb := long_bd b0 b1
    have bb1 : Bd 201 (1 + b) := by
      have h := bb.le (show 10 * c' ≤ 200 by omega)
      unfold Bd at h ⊢
      rw [Nat.pow_succ]
      have : 0 < 2 ^ 200 := Nat.pow_pos (by decide)
      omega
    exact share_ok (by omega) bb1 (by decide) (q _ _ (divInt_bd (by omega) ((bs.mul ba).le (by omega)) bb1) (by omega))
def a_l_row : ASp := fun ds n Q => ∃ (nm : D) (s k : Int) (f : Bool), ds = [.deck, nm, .int s, .int k, .bl f] ∧ (s = 5 ∨ s = 30 ∨ s = 1000000) ∧ (k = 0 ∨ k = 1 ∨ k = 2) ∧ 1000 ≤ n ∧ ∀ (b : Bw) (n' : Nat), b.nm = nm → ShOk b.cs → BdQ 201 b.px → BdQ 201 b.py → BdQ 206 b.x → BdQ 206 b.y → n ≤ n' + 400 → Q b.d n'
theorem ok_l_row (T : Tx K mg A) : FnOk P w K mg base CX0 7 A.f_l_row A.fd_l_row ["_law_deck_here", "_law_name", "_law_span", "_law_size", "_law_is_free"] (spOf K 5 a_l_row) := by
  refine fn_mir [] 13 rfl (by decide) (by decide) T.F_l_row sc_l_row fun cdv Ar outer s H E hr => ?_
  refine ⟨_, _, (pss_cons (ps_set (i := 5) sc_l_row.nd rfl (.inl rfl) (pe_call (ok_l_take (P := P) (K := K) T) (hr.mono (by decide)) (by rfl) T.g_l_take T.F_l_take.kp T.b_l_take .nil pass0 (pa_cons (pv 0) (pa_cons pe_int pa_nil))))
    (pss_cons (ps_set (i := 6) sc_l_row.nd rfl (.inl rfl) (pe_call (ok_l_shape (P := P) (K := K) T) (hr.mono (by decide)) (by rfl) T.g_l_shape T.F_l_shape.kp T.b_l_shape .nil pass0 (pa_cons (pv 0) (pa_cons (pv 2) pa_nil))))
    (pss_cons (ps_set (i := 7) sc_l_row.nd rfl (.inl rfl) (pe_tup (pa_cons (pe_call (ok_l_drawn (P := P) (K := K) T) (hr.mono (by decide)) (by rfl) T.g_l_drawn T.F_l_drawn.kp T.b_l_drawn .nil pass0 (pa_cons (pv 0) (pa_cons (pv 3) pa_nil))) (pa_cons (pe_call (ok_l_drawn (P := P) (K := K) T) (hr.mono (by decide)) (by rfl) T.g_l_drawn T.F_l_drawn.kp T.b_l_drawn .nil pass0 (pa_cons (pv 0) (pa_cons (pv 3) pa_nil))) pa_nil))))
    (pss_cons (ps_if (PW.pt (pw_and (pt_cmpR (k_eq (K := K) rfl hr.units) (pv 5) pe_int (nomark _)) (pw_and1 (pt_not (pt_val (pv 4))))))
      (pss_one (ps_ret (pe_tup (pa_cons (pv 1) (pa_cons (pv 6) (pa_cons pe_int (pa_cons pe_non (pa_cons (pv 7) (pa_cons (pe_tup (pa_cons (pe_tup (pa_cons pe_int (pa_cons pe_int pa_nil))) (pa_cons (pe_tup (pa_cons pe_int (pa_cons pe_int pa_nil))) pa_nil))) pa_nil)))))))))
      pss_nil)
    (pss_cons (ps_set (i := 8) sc_l_row.nd rfl (.inl rfl) (pe_op (k_add (K := K) rfl) pe_int (pe_op k_mul (pe_call (ok_l_take (P := P) (K := K) T) (hr.mono (by decide)) (by rfl) T.g_l_take T.F_l_take.kp T.b_l_take .nil pass0 (pa_cons (pv 0) (pa_cons pe_int pa_nil))) (pe_op (k_add (K := K) rfl) pe_int (pe_call (ok_l_take (P := P) (K := K) T) (hr.mono (by decide)) (by rfl) T.g_l_take T.F_l_take.kp T.b_l_take .nil pass0 (pa_cons (pv 0) (pa_cons pe_int pa_nil)))))))
    (pss_cons (ps_if (PW.pt (pw_or (pt_cmpR (k_ne (K := K) rfl hr.units) (pv 5) pe_int (nomark _)) (pw_or1 (pt_val (pv 4)))))
      (pss_one (ps_ret (pe_tup (pa_cons (pv 1) (pa_cons (pv 6) (pa_cons (pv 8) (pa_cons pe_non (pa_cons (pv 7) (pa_cons (pe_tup (pa_cons (pe_call (ok_l_drawn (P := P) (K := K) T) (hr.mono (by decide)) (by rfl) T.g_l_drawn T.F_l_drawn.kp T.b_l_drawn .nil pass0 (pa_cons (pv 0) (pa_cons (pv 3) pa_nil))) (pa_cons (pe_call (ok_l_drawn (P := P) (K := K) T) (hr.mono (by decide)) (by rfl) T.g_l_drawn T.F_l_drawn.kp T.b_l_drawn .nil pass0 (pa_cons (pv 0) (pa_cons (pv 3) pa_nil))) pa_nil))) pa_nil)))))))))
      pss_nil)
    (pss_cons (ps_par (i := 9) (j := 10) (by rfl) sc_l_row.nd rfl rfl (by decide) rfl rfl (pa_cons (pe_op (k_add (K := K) rfl) pe_int (pe_call (ok_l_take (P := P) (K := K) T) (hr.mono (by decide)) (by rfl) T.g_l_take T.F_l_take.kp T.b_l_take .nil pass0 (pa_cons (pv 0) (pa_cons pe_int pa_nil)))) (pa_cons (pe_op op_sub (pe_call (ok_l_take (P := P) (K := K) T) (hr.mono (by decide)) (by rfl) T.g_l_take T.F_l_take.kp T.b_l_take .nil pass0 (pa_cons (pv 0) (pa_cons pe_int pa_nil))) pe_int) pa_nil)) (by rfl))
    (pss_cons (ps_set (i := 11) sc_l_row.nd rfl (.inl rfl) (pe_ix (k_ixS (K := K) rfl) (pe_lst (pa_cons (pe_call (ok_l_way (P := P) (K := K) T) (hr.mono (by decide)) (by rfl) T.g_l_way T.F_l_way.kp T.b_l_way .nil pass0 (pa_cons (pv 9) (pa_cons (pv 10) pa_nil))) (pa_cons (pe_call (ok_l_way (P := P) (K := K) T) (hr.mono (by decide)) (by rfl) T.g_l_way T.F_l_way.kp T.b_l_way .nil pass0 (pa_cons (pv 10) (pa_cons (pv 9) pa_nil))) pa_nil))) (pe_call (ok_l_take (P := P) (K := K) T) (hr.mono (by decide)) (by rfl) T.g_l_take T.F_l_take.kp T.b_l_take .nil pass0 (pa_cons (pv 0) (pa_cons pe_int pa_nil))) (fun _ _ => rfl)))
    (pss_cons (ps_set (i := 12) sc_l_row.nd rfl (.inl rfl) (pe_call (ok_l_spot (P := P) (K := K) T) (hr.mono (by decide)) (by rfl) T.g_l_spot T.F_l_spot.kp T.b_l_spot .nil pass0 (pa_cons (pe_call (ok_l_spot_times (P := P) (K := K) T) (hr.mono (by decide)) (by rfl) T.g_l_spot_times T.F_l_spot_times.kp T.b_l_spot_times .nil pass0 (pa_cons (pe_tup (pa_cons (pe_tup (pa_cons (pe_ix (k_ix (K := K) rfl) (pv 11) pe_int (fun _ _ => rfl)) (pa_cons pe_int pa_nil))) (pa_cons (pe_tup (pa_cons (pe_ix (k_ix (K := K) rfl) (pv 11) pe_int (fun _ _ => rfl)) (pa_cons pe_int pa_nil))) pa_nil))) (pa_cons (pe_call (ok_l_drawn (P := P) (K := K) T) (hr.mono (by decide)) (by rfl) T.g_l_drawn T.F_l_drawn.kp T.b_l_drawn .nil pass0 (pa_cons (pv 0) (pa_cons (pv 3) pa_nil))) pa_nil))) pa_nil)))
    (pss_one (ps_ret (pe_tup (pa_cons (pv 1) (pa_cons (pv 6) (pa_cons (pv 8) (pa_cons (pv 11) (pa_cons (pv 7) (pa_cons (pv 12) pa_nil)))))))))))))))))), by infer_instance, fun ds n Q hl hA => ?_⟩
  obtain ⟨nm, s, k, f, rfl, hs, hk, hn, q⟩ := hA
  refine ⟨6, rfl, by decide, by decide, by omega, fun kd l u => ?_⟩
  refine ⟨s, rfl, hs, by omega, fun cs n1 hcs h1 => ?_⟩
  refine ⟨k, rfl, hk, by omega, fun px n2 bpx h2 => ⟨k, rfl, hk, by omega, fun py n3 bpy h3 => ?_⟩⟩
  have z0 : BdQ 206 0 := ⟨by unfold Bd; exact Nat.pow_pos (by decide), Nat.one_lt_two_pow (by decide)⟩
  cases f
  · refine dIte (fun e => aT ?_) fun e => aF ?_
    · exact q ⟨nm, cs, 0, .non, px, py, 0, 0⟩ n3 rfl hcs bpx bpy z0 z0 (by omega)
    · refine ⟨1000, rfl, by decide, by decide, by omega, fun a la ua => ⟨999, rfl, by decide, by decide, by omega, fun b lb ub => ?_⟩⟩
      refine ⟨.inl (.inl ⟨by omega, by omega⟩), ?_⟩
      refine ⟨fun e2 => ?_, fun e2 => ?_⟩
      · refine aT ⟨k, rfl, hk, by omega, fun x n4 bx h4 => ⟨k, rfl, hk, by omega, fun y n5 by' h5 => ?_⟩⟩
        exact q ⟨nm, cs, _, .non, px, py, x, y⟩ n5 rfl hcs bpx bpy (bx.le (by decide)) (by'.le (by decide)) (by omega)
      · refine aF ⟨9, rfl, by decide, by decide, by omega, fun p lp up => ⟨19, rfl, by decide, by decide, by omega, fun r lr ur => ?_⟩⟩
        have bp : Bd 5 (1 + p) := bd_abs (n := 19) (by decide) (by omega) (by omega)
        have bq : Bd 5 (r - 9) := bd_abs (n := 19) (by decide) (by omega) (by omega)
        refine ⟨1 + p, r - 9, 5, rfl, by omega, bp, bq, by decide, fun w1 _ hw1 => ⟨r - 9, 1 + p, 5, rfl, by omega, bq, bp, by decide, fun w2 _ hw2 => ⟨2, rfl, by decide, by decide, by omega, fun t lt ut => ?_⟩⟩⟩
        obtain ⟨w, hw, hat⟩ : ∃ w : Pt, WyS 5 w ∧ atI [pt w1, pt w2] t = some (pt w) := by
          obtain rfl | rfl : t = 0 ∨ t = 1 := by omega
          · exact ⟨w1, hw1, rfl⟩
          · exact ⟨w2, hw2, rfl⟩
        refine aIx_lst hat ?_
        refine ⟨k, rfl, hk, by omega, fun z n4 bz h4 => ⟨_, _, _, _, _, 5, 201, rfl, sq_int hw.1 hw.2 (by decide), fq_sh bz, by decide, fun r' hr' => ⟨_, _, _, _, rfl, hr', by decide, fun b1 b2 => ?_⟩⟩⟩
        exact q ⟨nm, cs, _, pt w, px, py, _, _⟩ n4 rfl hcs bpx bpy (b1.le (by decide)) (b2.le (by decide)) (by omega)
  · refine dIte (fun e => aF ?_) fun e => aF ?_
    all_goals
      refine ⟨1000, rfl, by decide, by decide, by omega, fun a la ua => ⟨999, rfl, by decide, by decide, by omega, fun b lb ub => ?_⟩⟩
      refine ⟨.inl (.inl ⟨by omega, by omega⟩), ?_⟩
      have rest : ∀ n4, n ≤ n4 + 200 → a_l_drawn [.deck, .int k] n4 (fun x n5 => a_l_drawn [.deck, .int k] n5 fun y n6 => Q (.tup [nm, .tup (cs.map pt), .int (1 + a * (1 + b)), .non, spt px py, .tup [x, y]]) n6) := fun n4 h4 => ⟨k, rfl, hk, by omega, fun x n5 bx h5 => ⟨k, rfl, hk, by omega, fun y n6 by' h6 => q ⟨nm, cs, _, .non, px, py, x, y⟩ n6 rfl hcs bpx bpy (bx.le (by decide)) (by'.le (by decide)) (by omega)⟩⟩
      refine ⟨fun e2 => aT (rest _ (by omega)), fun e2 => aT (rest _ (by omega))⟩
/-- how far the two are from one another, and how fast: small numbers -/
def Rel (b c : Bw) : Prop := (BdQ 404 (c.px - b.px) ∧ BdQ 404 (c.py - b.py)) ∧ BdQ 460 (c.x - b.x) ∧ BdQ 460 (c.y - b.y)
theorem Fq.bdq {k : Nat} {d : D} {q : Rat} (h : Fq k d q) : BdQ k q := by
  obtain ⟨a, b, _, h1, h2, h3, rfl⟩ := h
  exact divInt_bd h3 h1 h2
theorem rel_near {p x3 q6 i1 i2 pq : Rat} (e : p + i1 + i2 * pq = x3) (h1 : BdQ 23 i1) (h2 : BdQ 23 i2) (hp : BdQ 2 pq) (h6 : BdQ 3 q6) : BdQ 404 (x3 + q6 - p) := by
  rw [show x3 + q6 - p = i1 + i2 * pq + q6 by rw [← e]; grind]
  exact ((h1.add (h2.mul hp)).add h6).le (by decide)
theorem rel_aim {x3 q6 v s : Rat} (h6 : BdQ 3 q6) (hs : BdQ 3 s) : BdQ 460 (v + (x3 + (x3 + q6) * Rat.divInt (-1) 1) * s - v) := by
  rw [show Rat.divInt (-1) 1 = (-1 : Rat) by decide +kernel, show v + (x3 + (x3 + q6) * (-1 : Rat)) * s - v = (0 - q6) * s by grind]
  exact (((show BdQ 1 (0 : Rat) from ⟨by unfold Bd; decide, by unfold Bd; decide⟩).sub h6).mul hs).le (by decide)
theorem rel_far {p x3 c v i1 i2 pq s : Rat} (e : p + i1 + i2 * pq = x3) (h0 : BdQ 201 p) (h1 : BdQ 23 i1) (h2 : BdQ 23 i2) (hp : BdQ 2 pq) (hc : BdQ 201 c) (hs : BdQ 3 s) : BdQ 460 (v + (x3 + c * Rat.divInt (-1) 1) * s - v) := by
  rw [show Rat.divInt (-1) 1 = (-1 : Rat) by decide +kernel, show v + (x3 + c * (-1 : Rat)) * s - v = (x3 - c) * s by grind, ← e]
  exact ((((h0.add h1).add (h2.mul hp)).sub hc).mul hs).le (by decide)
theorem rel_same {v : Rat} : BdQ 460 (v - v) := by
  rw [show v - v = 0 by grind]
  exact ⟨by unfold Bd; decide, by unfold Bd; decide⟩
theorem rel_side {v i q : Rat} (h1 : BdQ 23 i) (h2 : BdQ 4 q) : BdQ 460 (v + i * q - v) := by
  rw [show v + i * q - v = i * q by grind]
  exact (h1.mul h2).le (by decide)
def a_l_pair : ASp := fun ds n Q => ds = [.deck] ∧ 3000 ≤ n ∧ ∀ (b c : Bw) (t : Rat) (n' : Nat), b.ok 201 206 → c.ok 256 720 → BdQ 3 t → 0 < t.num → Rel b c → n ≤ n' + 1500 → Q (.tup [b.d, c.d, sh t]) n'
theorem ok_l_pair (T : Tx K mg A) : FnOk P w K mg base CX0 8 A.f_l_pair A.fd_l_pair ["_law_deck_here"] (spOf K 1 a_l_pair) := by
  refine fn_mir [] 20 rfl (by decide) (by decide) T.F_l_pair sc_l_pair fun cdv Ar outer s H E hr => ?_
  refine ⟨_, _, (pss_cons (ps_par (i := 1) (j := 2) (by rfl) sc_l_pair.nd rfl rfl (by decide) rfl rfl (pa_cons (pe_call (ok_l_take (P := P) (K := K) T) (hr.mono (by decide)) (by rfl) T.g_l_take T.F_l_take.kp T.b_l_take .nil pass0 (pa_cons (pv 0) (pa_cons pe_int pa_nil))) (pa_cons (pe_call (ok_l_take (P := P) (K := K) T) (hr.mono (by decide)) (by rfl) T.g_l_take T.F_l_take.kp T.b_l_take .nil pass0 (pa_cons (pv 0) (pa_cons pe_int pa_nil))) pa_nil)) (by rfl))
    (pss_cons (ps_set (i := 3) sc_l_pair.nd rfl (.inl rfl) (pe_ix (k_ixS (K := K) rfl) (pe_lst (pa_cons pe_int (pa_cons pe_int (pa_cons pe_int (pa_cons pe_int (pa_cons pe_int pa_nil)))))) (pe_call (ok_l_take (P := P) (K := K) T) (hr.mono (by decide)) (by rfl) T.g_l_take T.F_l_take.kp T.b_l_take .nil pass0 (pa_cons (pv 0) (pa_cons pe_int pa_nil))) (fun _ _ => rfl)))
    (pss_cons (ps_set (i := 4) sc_l_pair.nd rfl (.inl rfl) (pe_ix (k_ixS (K := K) rfl) (pe_lst (pa_cons pe_int (pa_cons pe_int (pa_cons pe_int (pa_cons pe_int pa_nil))))) (pe_call (ok_l_take (P := P) (K := K) T) (hr.mono (by decide)) (by rfl) T.g_l_take T.F_l_take.kp T.b_l_take .nil pass0 (pa_cons (pv 0) (pa_cons pe_int pa_nil))) (fun _ _ => rfl)))
    (pss_cons (ps_set (i := 5) sc_l_pair.nd rfl (.inl rfl) (pe_call (ok_l_names (P := P) (K := K) T) (hr.mono (by decide)) (by rfl) T.g_l_names T.F_l_names.kp T.b_l_names .nil pass0 (pa_cons (pv 0) pa_nil)))
    (pss_cons (ps_set (i := 6) sc_l_pair.nd rfl (.inl rfl) (pe_call (ok_l_row (P := P) (K := K) T) (hr.mono (by decide)) (by rfl) T.g_l_row T.F_l_row.kp T.b_l_row .nil pass0 (pa_cons (pv 0) (pa_cons (pe_ix (k_ix (K := K) rfl) (pv 5) pe_int (fun _ _ => rfl)) (pa_cons (pv 4) (pa_cons (pv 3) (pa_cons pe_bl pa_nil)))))))
    (pss_cons (ps_set (i := 7) sc_l_pair.nd rfl (.inl rfl) (pe_call (ok_l_row (P := P) (K := K) T) (hr.mono (by decide)) (by rfl) T.g_l_row T.F_l_row.kp T.b_l_row .nil pass0 (pa_cons (pv 0) (pa_cons (pe_ix (k_ix (K := K) rfl) (pv 5) pe_int (fun _ _ => rfl)) (pa_cons (pv 4) (pa_cons (pv 3) (pa_cons (pe_cmpR op_gt (pv 2) pe_int (nomark _)) pa_nil)))))))
    (pss_cons (ps_set (i := 8) sc_l_pair.nd rfl (.inl rfl) (pe_call (ok_l_share (P := P) (K := K) T) (hr.mono (by decide)) (by rfl) T.g_l_share T.F_l_share.kp T.b_l_share .nil pass0 (pa_cons (pe_op (k_add (K := K) rfl) pe_int (pe_call (ok_l_take (P := P) (K := K) T) (hr.mono (by decide)) (by rfl) T.g_l_take T.F_l_take.kp T.b_l_take .nil pass0 (pa_cons (pv 0) (pa_cons pe_int pa_nil)))) (pa_cons (pe_op (k_add (K := K) rfl) pe_int (pe_call (ok_l_take (P := P) (K := K) T) (hr.mono (by decide)) (by rfl) T.g_l_take T.F_l_take.kp T.b_l_take .nil pass0 (pa_cons (pv 0) (pa_cons pe_int pa_nil)))) pa_nil))))
    (pss_cons (ps_set (i := 9) sc_l_pair.nd rfl (.inl rfl) (pe_call (ok_l_take (P := P) (K := K) T) (hr.mono (by decide)) (by rfl) T.g_l_take T.F_l_take.kp T.b_l_take .nil pass0 (pa_cons (pv 0) (pa_cons (pe_callB (k_len (K := K) rfl) (by rfl) T.m_len (by decide +kernel) (pa_cons (pe_ix (k_ix (K := K) rfl) (pv 6) pe_int (fun _ _ => rfl)) pa_nil)) pa_nil))))
    (pss_cons (ps_par (i := 10) (j := 11) (by rfl) sc_l_pair.nd rfl rfl (by decide) rfl rfl (pa_cons (pe_ix (k_ixS (K := K) rfl) (pe_ix (k_ix (K := K) rfl) (pv 6) pe_int (fun _ _ => rfl)) (pv 9) (fun _ _ => rfl)) (pa_cons (pe_ix (k_ixS (K := K) rfl) (pe_ix (k_ix (K := K) rfl) (pv 6) pe_int (fun _ _ => rfl)) (pe_op op_mod (pe_op (k_add (K := K) rfl) (pv 9) pe_int) (pe_callB (k_len (K := K) rfl) (by rfl) T.m_len (by decide +kernel) (pa_cons (pe_ix (k_ix (K := K) rfl) (pv 6) pe_int (fun _ _ => rfl)) pa_nil))) (fun _ _ => rfl)) pa_nil)) (by rfl))
    (pss_cons (ps_set (i := 12) sc_l_pair.nd rfl (.inl rfl) (pe_tup (pa_cons (pe_tup (pa_cons (pe_op op_sub (pe_ix (k_ix (K := K) rfl) (pv 11) pe_int (fun _ _ => rfl)) (pe_ix (k_ix (K := K) rfl) (pv 10) pe_int (fun _ _ => rfl))) (pa_cons pe_int pa_nil))) (pa_cons (pe_tup (pa_cons (pe_op op_sub (pe_ix (k_ix (K := K) rfl) (pv 11) pe_int (fun _ _ => rfl)) (pe_ix (k_ix (K := K) rfl) (pv 10) pe_int (fun _ _ => rfl))) (pa_cons pe_int pa_nil))) pa_nil))))
    (pss_cons (ps_set (i := 13) sc_l_pair.nd rfl (.inl rfl) (pe_ix (k_ixS (K := K) rfl) (pe_ix (k_ix (K := K) rfl) (pv 7) pe_int (fun _ _ => rfl)) (pe_call (ok_l_take (P := P) (K := K) T) (hr.mono (by decide)) (by rfl) T.g_l_take T.F_l_take.kp T.b_l_take .nil pass0 (pa_cons (pv 0) (pa_cons (pe_callB (k_len (K := K) rfl) (by rfl) T.m_len (by decide +kernel) (pa_cons (pe_ix (k_ix (K := K) rfl) (pv 7) pe_int (fun _ _ => rfl)) pa_nil)) pa_nil))) (fun _ _ => rfl)))
    (pss_cons (ps_set (i := 14) sc_l_pair.nd rfl (.inl rfl) (pe_ix (k_ixS (K := K) rfl) (pe_lst (pa_cons (pe_tup (pa_cons pe_int (pa_cons pe_int pa_nil))) (pa_cons (pe_tup (pa_cons pe_int (pa_cons pe_int pa_nil))) (pa_cons (pe_tup (pa_cons pe_int (pa_cons pe_int pa_nil))) (pa_cons (pe_tup (pa_cons pe_int (pa_cons pe_int pa_nil))) pa_nil))))) (pe_call (ok_l_take (P := P) (K := K) T) (hr.mono (by decide)) (by rfl) T.g_l_take T.F_l_take.kp T.b_l_take .nil pass0 (pa_cons (pv 0) (pa_cons pe_int pa_nil))) (fun _ _ => rfl)))
    (pss_cons (ps_set (i := 15) sc_l_pair.nd rfl (.inl rfl) (pe_call (ok_l_spot_plus (P := P) (K := K) T) (hr.mono (by decide)) (by rfl) T.g_l_spot_plus T.F_l_spot_plus.kp T.b_l_spot_plus .nil pass0 (pa_cons (pe_ix (k_ix (K := K) rfl) (pv 6) pe_int (fun _ _ => rfl)) (pa_cons (pe_tup (pa_cons (pe_tup (pa_cons (pe_op op_sub (pe_ix (k_ix (K := K) rfl) (pv 10) pe_int (fun _ _ => rfl)) (pe_ix (k_ix (K := K) rfl) (pv 13) pe_int (fun _ _ => rfl))) (pa_cons pe_int pa_nil))) (pa_cons (pe_tup (pa_cons (pe_op op_sub (pe_ix (k_ix (K := K) rfl) (pv 10) pe_int (fun _ _ => rfl)) (pe_ix (k_ix (K := K) rfl) (pv 13) pe_int (fun _ _ => rfl))) (pa_cons pe_int pa_nil))) pa_nil))) pa_nil))))
    (pss_cons (ps_set (i := 15) sc_l_pair.nd rfl (.inl rfl) (pe_call (ok_l_spot_plus (P := P) (K := K) T) (hr.mono (by decide)) (by rfl) T.g_l_spot_plus T.F_l_spot_plus.kp T.b_l_spot_plus .nil pass0 (pa_cons (pv 15) (pa_cons (pe_call (ok_l_spot_times (P := P) (K := K) T) (hr.mono (by decide)) (by rfl) T.g_l_spot_times T.F_l_spot_times.kp T.b_l_spot_times .nil pass0 (pa_cons (pv 12) (pa_cons (pv 14) pa_nil))) pa_nil))))
    (pss_cons (ps_par (i := 16) (j := 17) (by rfl) sc_l_pair.nd rfl rfl (by decide) rfl rfl (pa_cons (pe_ix (k_ix (K := K) rfl) (pv 7) pe_int (fun _ _ => rfl)) (pa_cons (pe_ix (k_ix (K := K) rfl) (pv 7) pe_int (fun _ _ => rfl)) pa_nil)) (by rfl))
    (pss_cons (ps_if (pt_cmpR op_gt (pv 1) pe_int (nomark _))
      (pss_cons (ps_set (i := 18) sc_l_pair.nd rfl (.inl rfl) (pe_lst (pa_cons (pe_tup (pa_cons pe_int (pa_cons pe_int pa_nil))) (pa_cons (pe_tup (pa_cons pe_int (pa_cons pe_int pa_nil))) (pa_cons (pe_tup (pa_cons pe_int (pa_cons pe_int pa_nil))) (pa_cons (pe_tup (pa_cons (pe_un un_neg pe_int) (pa_cons pe_int pa_nil))) pa_nil))))))
    (pss_one (ps_set (i := 16) sc_l_pair.nd rfl (.inl rfl) (pe_call (ok_l_spot (P := P) (K := K) T) (hr.mono (by decide)) (by rfl) T.g_l_spot T.F_l_spot.kp T.b_l_spot .nil pass0 (pa_cons (pe_call (ok_l_spot_plus (P := P) (K := K) T) (hr.mono (by decide)) (by rfl) T.g_l_spot_plus T.F_l_spot_plus.kp T.b_l_spot_plus .nil pass0 (pa_cons (pv 15) (pa_cons (pe_tup (pa_cons (pe_ix (k_ixS (K := K) rfl) (pv 18) (pe_call (ok_l_take (P := P) (K := K) T) (hr.mono (by decide)) (by rfl) T.g_l_take T.F_l_take.kp T.b_l_take .nil pass0 (pa_cons (pv 0) (pa_cons pe_int pa_nil))) (fun _ _ => rfl)) (pa_cons (pe_ix (k_ixS (K := K) rfl) (pv 18) (pe_call (ok_l_take (P := P) (K := K) T) (hr.mono (by decide)) (by rfl) T.g_l_take T.F_l_take.kp T.b_l_take .nil pass0 (pa_cons (pv 0) (pa_cons pe_int pa_nil))) (fun _ _ => rfl)) pa_nil))) pa_nil))) pa_nil)))))
      pss_nil)
    (pss_cons (ps_if (pt_cmpR (k_eq (K := K) rfl hr.units) (pv 2) pe_int (nomark _))
      (pss_one (ps_set (i := 17) sc_l_pair.nd rfl (.inl rfl) (pe_ix (k_ix (K := K) rfl) (pv 6) pe_int (fun _ _ => rfl))))
      pss_nil)
    (pss_cons (ps_if (pt_cmpR (k_eq (K := K) rfl hr.units) (pv 2) pe_int (nomark _))
      (pss_one (ps_set (i := 17) sc_l_pair.nd rfl (.inl rfl) (pe_call (ok_l_spot (P := P) (K := K) T) (hr.mono (by decide)) (by rfl) T.g_l_spot T.F_l_spot.kp T.b_l_spot .nil pass0 (pa_cons (pe_call (ok_l_spot_plus (P := P) (K := K) T) (hr.mono (by decide)) (by rfl) T.g_l_spot_plus T.F_l_spot_plus.kp T.b_l_spot_plus .nil pass0 (pa_cons (pe_ix (k_ix (K := K) rfl) (pv 6) pe_int (fun _ _ => rfl)) (pa_cons (pe_call (ok_l_spot_times (P := P) (K := K) T) (hr.mono (by decide)) (by rfl) T.g_l_spot_times T.F_l_spot_times.kp T.b_l_spot_times .nil pass0 (pa_cons (pv 12) (pa_cons (pe_tup (pa_cons (pe_op op_sub (pe_call (ok_l_take (P := P) (K := K) T) (hr.mono (by decide)) (by rfl) T.g_l_take T.F_l_take.kp T.b_l_take .nil pass0 (pa_cons (pv 0) (pa_cons pe_int pa_nil))) pe_int) (pa_cons pe_int pa_nil))) pa_nil))) pa_nil))) pa_nil))))
      pss_nil)
    (pss_cons (ps_if (pt_cmpR op_gt (pv 2) pe_int (nomark _))
      (pss_cons (ps_set (i := 19) sc_l_pair.nd rfl (.inl rfl) (pe_call (ok_l_spot_plus (P := P) (K := K) T) (hr.mono (by decide)) (by rfl) T.g_l_spot_plus T.F_l_spot_plus.kp T.b_l_spot_plus .nil pass0 (pa_cons (pv 15) (pa_cons (pe_call (ok_l_spot_times (P := P) (K := K) T) (hr.mono (by decide)) (by rfl) T.g_l_spot_times T.F_l_spot_times.kp T.b_l_spot_times .nil pass0 (pa_cons (pv 16) (pa_cons (pe_tup (pa_cons (pe_un un_neg pe_int) (pa_cons pe_int pa_nil))) pa_nil))) pa_nil))))
    (pss_one (ps_set (i := 17) sc_l_pair.nd rfl (.inl rfl) (pe_call (ok_l_spot (P := P) (K := K) T) (hr.mono (by decide)) (by rfl) T.g_l_spot T.F_l_spot.kp T.b_l_spot .nil pass0 (pa_cons (pe_call (ok_l_spot_plus (P := P) (K := K) T) (hr.mono (by decide)) (by rfl) T.g_l_spot_plus T.F_l_spot_plus.kp T.b_l_spot_plus .nil pass0 (pa_cons (pe_ix (k_ix (K := K) rfl) (pv 6) pe_int (fun _ _ => rfl)) (pa_cons (pe_call (ok_l_spot_times (P := P) (K := K) T) (hr.mono (by decide)) (by rfl) T.g_l_spot_times T.F_l_spot_times.kp T.b_l_spot_times .nil pass0 (pa_cons (pv 19) (pa_cons (pe_tup (pa_cons (pe_ix (k_ix (K := K) rfl) (pv 8) pe_int (fun _ _ => rfl)) (pa_cons (pe_ix (k_ix (K := K) rfl) (pv 8) pe_int (fun _ _ => rfl)) pa_nil))) pa_nil))) pa_nil))) pa_nil)))))
      pss_nil)
    (pss_one (ps_ret (pe_tup (pa_cons (pv 6) (pa_cons (pe_op (k_add (K := K) rfl) (pe_slice (k_sl (K := K) rfl) (pv 7) po_none (po_some pe_int)) (pe_tup (pa_cons (pv 16) (pa_cons (pv 17) pa_nil)))) (pa_cons (pv 8) pa_nil))))))))))))))))))))))))), by infer_instance, fun ds n Q hl hA => ?_⟩
  obtain ⟨rfl, hn, q⟩ := hA
  refine ⟨4, rfl, by decide, by decide, by omega, fun near lnr unr => ⟨5, rfl, by decide, by decide, by omega, fun aim lai uai => ?_⟩⟩
  refine ⟨5, rfl, by decide, by decide, by omega, fun r lr ur => ?_⟩
  obtain ⟨k, hk, hat⟩ : ∃ k : Int, (k = 0 ∨ k = 1 ∨ k = 2) ∧ atI [D.int 0, D.int 0, D.int 0, D.int 1, D.int 2] r = some (D.int k) := by
    obtain rfl | rfl | rfl | rfl | rfl : r = 0 ∨ r = 1 ∨ r = 2 ∨ r = 3 ∨ r = 4 := by omega
    · exact ⟨0, .inl rfl, rfl⟩
    · exact ⟨0, .inl rfl, rfl⟩
    · exact ⟨0, .inl rfl, rfl⟩
    · exact ⟨1, .inr (.inl rfl), rfl⟩
    · exact ⟨2, .inr (.inr rfl), rfl⟩
  refine aIx_lst hat ?_
  refine ⟨4, rfl, by decide, by decide, by omega, fun r2 lr2 ur2 => ?_⟩
  obtain ⟨s, hs, hat2⟩ : ∃ s : Int, (s = 5 ∨ s = 30 ∨ s = 1000000) ∧ atI [D.int 5, D.int 5, D.int 30, D.int 1000000] r2 = some (D.int s) := by
    obtain rfl | rfl | rfl | rfl : r2 = 0 ∨ r2 = 1 ∨ r2 = 2 ∨ r2 = 3 := by omega
    · exact ⟨5, .inl rfl, rfl⟩
    · exact ⟨5, .inl rfl, rfl⟩
    · exact ⟨30, .inr (.inl rfl), rfl⟩
    · exact ⟨1000000, .inr (.inr rfl), rfl⟩
  refine aIx_lst hat2 ?_
  refine ⟨rfl, by omega, fun x y n1 hx hy h1 => ?_⟩
  simp only [startA, eSetAll, eSet, List.cons_append, List.nil_append]
  refine ⟨.str x, s, k, false, rfl, hs, hk, by omega, fun b n2 hnm hcs bpx bpy bx by' h2 => ?_⟩
  refine ⟨.str y, s, k, decide (aim > 0), rfl, hs, hk, by omega, fun c n3 hnm' hcs' bpx' bpy' bx' by'' h3 => ?_⟩
  refine ⟨6, rfl, by decide, by decide, by omega, fun t1 lt1 ut1 => ⟨3, rfl, by decide, by decide, by omega, fun t2 lt2 ut2 => ?_⟩⟩
  have bt1 : Bd 3 (1 + t1) := bd_abs (n := 7) (by decide) (by omega) (by omega)
  have bt2 : Bd 3 (1 + t2) := bd_abs (n := 7) (by decide) (by omega) (by omega)
  refine share_ok (by omega) bt2 (by decide) ?_
  have bw : BdQ 3 (Rat.divInt (1 + t1) (1 + t2)) := divInt_bd (by omega) bt1 bt2
  simp only [startA, eSetAll, eSet, List.cons_append, List.nil_append]
  have ht0 : 0 < (Rat.divInt (1 + t1) (1 + t2)).num := by
    have h := divInt_cross (a := 1 + t1) (b := 1 + t2) (by omega)
    have h1 : 0 < (1 + t1) * ((Rat.divInt (1 + t1) (1 + t2)).den : Int) := Int.mul_pos (by omega) (den_pos _)
    rw [h] at h1
    exact Int.pos_of_mul_pos_left h1 (by omega)
  generalize Rat.divInt (1 + t1) (1 + t2) = t at bw ht0
  have hb3 := hcs.1
  have hb16 := hcs.2.1
  have hc3 := hcs'.1
  have hc16 := hcs'.2.1
  have pick : ∀ (e : Bw) (i : Int), ShOk e.cs → 0 ≤ i → i < ((e.cs.map pt).length : Int) → ∃ p : Pt, PtS p ∧ atI (e.cs.map pt) i = some (pt p) := fun e i he h0 h1 => by
    obtain ⟨d, hd, h⟩ := pick_at h0 h1
    obtain ⟨p, hp, rfl⟩ := List.mem_map.mp hd
    exact ⟨p, he.2.2.1 p hp, h⟩
  have lb : (3 : Int) ≤ ((b.cs.map pt).length : Int) ∧ ((b.cs.map pt).length : Int) ≤ 16 := by rw [List.length_map]; omega
  have lc : (3 : Int) ≤ ((c.cs.map pt).length : Int) ∧ ((c.cs.map pt).length : Int) ≤ 16 := by rw [List.length_map]; omega
  refine ⟨((b.cs.map pt).length : Int), rfl, by omega, small_log (by omega) (by omega), by omega, fun i li ui => ?_⟩
  obtain ⟨p1, hp1, hat3⟩ := pick b i hcs li ui
  refine aIx_tup hat3 ⟨(show (0 : Int) < ((b.cs.map pt).length : Int) by omega), ?_⟩
  obtain ⟨p2, hp2, hat4⟩ := pick b ((i + 1) % ((b.cs.map pt).length : Int)) hcs (Int.emod_nonneg _ (by omega)) (Int.emod_lt_of_pos _ (by omega))
  refine aIx_tup hat4 ?_
  simp only [startA, eSetAll, eSet, List.cons_append, List.nil_append]
  refine ⟨((c.cs.map pt).length : Int), rfl, by omega, small_log (by omega) (by omega), by omega, fun j lj uj => ?_⟩
  obtain ⟨p3, hp3, hat5⟩ := pick c j hcs' lj uj
  refine aIx_tup hat5 ?_
  simp only [startA, eSetAll, eSet, List.cons_append, List.nil_append]
  refine ⟨4, rfl, by decide, by decide, by omega, fun r3 lr3 ur3 => ?_⟩
  obtain ⟨pd, pq, hpd, hat6⟩ : ∃ (d : D) (q : Rat), Fq 2 d q ∧ atI [fr 0 1, fr 0 1, fr 1 2, fr 1 3] r3 = some d := by
    obtain rfl | rfl | rfl | rfl : r3 = 0 ∨ r3 = 1 ∨ r3 = 2 ∨ r3 = 3 := by omega
    · exact ⟨_, _, ⟨0, 1, rfl, by unfold Bd; decide, by unfold Bd; decide, by decide, rfl⟩, rfl⟩
    · exact ⟨_, _, ⟨0, 1, rfl, by unfold Bd; decide, by unfold Bd; decide, by decide, rfl⟩, rfl⟩
    · exact ⟨_, _, ⟨1, 2, rfl, by unfold Bd; decide, by unfold Bd; decide, by decide, rfl⟩, rfl⟩
    · exact ⟨_, _, ⟨1, 3, rfl, by unfold Bd; decide, by unfold Bd; decide, by decide, rfl⟩, rfl⟩
  refine aIx_lst hat6 ?_
  unfold PtS at hp1 hp2 hp3
  have bdi : ∀ u v : Int, -3000000 ≤ u → u ≤ 3000000 → -3000000 ≤ v → v ≤ 3000000 → Bd 23 (u - v) := fun u v _ _ _ _ => bd_abs (n := 6000000) (by decide) (by omega) (by omega)
  have hside : Sq 23 (.tup [fr (p2.1 - p1.1) 1, fr (p2.2 - p1.2) 1]) ((p2.1 - p1.1 : Int) : Rat) ((p2.2 - p1.2 : Int) : Rat) := sq_int (bdi _ _ (by omega) (by omega) (by omega) (by omega)) (bdi _ _ (by omega) (by omega) (by omega) (by omega)) (by decide)
  simp only [startA, eSetAll, eSet, List.cons_append, List.nil_append]
  refine ⟨_, _, _, _, _, _, 201, 23, rfl, sq_spt bpx bpy, sq_int (bdi p1.1 p3.1 (by omega) (by omega) (by omega) (by omega)) (bdi p1.2 p3.2 (by omega) (by omega) (by omega) (by omega)) (by decide), by decide, fun s1 hs1 => ?_⟩
  refine ⟨_, _, _, _, _, 23, 2, rfl, hside, hpd, by decide, fun s2 hs2 => ?_⟩
  refine ⟨_, _, _, _, _, _, _, _, rfl, hs1, hs2, by decide, fun s3 hs3 => ?_⟩
  generalize hx3 : b.px + ((p1.1 - p3.1 : Int) : Rat) + ((p2.1 - p1.1 : Int) : Rat) * pq = x3 at hs3
  generalize hy3 : b.py + ((p1.2 - p3.2 : Int) : Rat) + ((p2.2 - p1.2 : Int) : Rat) * pq = y3 at hs3
  have fin : ∀ (plx ply vx vy : Rat) (n' : Nat), BdQ 256 plx → BdQ 256 ply → BdQ 720 vx → BdQ 720 vy → (BdQ 404 (plx - b.px) ∧ BdQ 404 (ply - b.py)) → (BdQ 460 (vx - b.x) ∧ BdQ 460 (vy - b.y)) → n ≤ n' + 1500 → Q (.tup [b.d, .tup [c.nm, .tup (c.cs.map pt), .int c.m, c.rail, spt plx ply, spt vx vy], sh t]) n' := fun plx ply vx vy n' h1 h2 h3 h4 g1 g2 h5 => q b ⟨c.nm, c.cs, c.m, c.rail, plx, ply, vx, vy⟩ t n' ⟨hcs, bpx, bpy, bx, by'⟩ ⟨hcs', h1, h2, h3, h4⟩ bw ht0 ⟨g1, g2⟩ h5
  have i23 : ∀ u v : Int, -3000000 ≤ u → u ≤ 3000000 → -3000000 ≤ v → v ≤ 3000000 → BdQ 23 ((u - v : Int) : Rat) := fun u v h1 h2 h3 h4 => bdq_int (bdi u v h1 h2 h3 h4) (by decide)
  have k1 := i23 p1.1 p3.1 (by omega) (by omega) (by omega) (by omega)
  have k2 := i23 p2.1 p1.1 (by omega) (by omega) (by omega) (by omega)
  have k3 := i23 p1.2 p3.2 (by omega) (by omega) (by omega) (by omega)
  have k4 := i23 p2.2 p1.2 (by omega) (by omega) (by omega) (by omega)
  have bpq := hpd.bdq
  have bts : BdQ 3 (Rat.divInt (t.den : Int) t.num) := divInt_bd ht0 bw.2 bw.1
  simp only [startA, eSetAll, eSet, List.cons_append, List.nil_append]
  refine dIte (fun enr => ?_) fun enr => ?_
  · have hsome : ∀ r : Int, 0 ≤ r → r < 4 → ∃ (d : D) (q : Rat), Fq 3 d q ∧ atI [fr 0 1, fr 0 1, fr 1 7, fr (-1) 7] r = some d := fun r h0 h1 => by
      obtain rfl | rfl | rfl | rfl : r = 0 ∨ r = 1 ∨ r = 2 ∨ r = 3 := by omega
      · exact ⟨_, _, ⟨0, 1, rfl, by unfold Bd; decide, by unfold Bd; decide, by decide, rfl⟩, rfl⟩
      · exact ⟨_, _, ⟨0, 1, rfl, by unfold Bd; decide, by unfold Bd; decide, by decide, rfl⟩, rfl⟩
      · exact ⟨_, _, ⟨1, 7, rfl, by unfold Bd; decide, by unfold Bd; decide, by decide, rfl⟩, rfl⟩
      · exact ⟨_, _, ⟨-1, 7, rfl, by unfold Bd; decide, by unfold Bd; decide, by decide, rfl⟩, rfl⟩
    refine ⟨4, rfl, by decide, by decide, by omega, fun r6 l6 u6 => ?_⟩
    obtain ⟨d6, q6, f6, at6⟩ := hsome r6 l6 u6
    refine aIx_lst at6 ⟨4, rfl, by decide, by decide, by omega, fun r7 l7 u7 => ?_⟩
    obtain ⟨d7, q7, f7, at7⟩ := hsome r7 l7 u7
    refine aIx_lst at7 ⟨_, _, _, _, _, _, _, 3, rfl, hs3, ⟨d6, d7, rfl, f6, f7⟩, by decide, fun s4 hs4 => ⟨_, _, _, _, rfl, hs4, by decide, fun hpl1 hpl2 => ?_⟩⟩
    simp only [startA, eSetAll, eSet, List.cons_append, List.nil_append]
    replace hpl1 := hpl1.le (show _ ≤ 256 by decide)
    replace hpl2 := hpl2.le (show _ ≤ 256 by decide)
    have hcase : aim = 0 ∨ aim = 1 ∨ aim = 2 ∨ 2 < aim := by omega
    rcases hcase with rfl | rfl | rfl | e4
    · refine aF (aF (aF ?_))
      refine ⟨fun z => absurd z.2 (show ¬ (HT.sIx 6 6 (some 4) = 6) by decide), (fun z => nomatch z), (show 4 + 2 ≤ 1000000 by decide), fin _ _ _ _ _ hpl1 hpl2 (bx'.le (by decide)) (by''.le (by decide)) ⟨rel_near hx3 k1 k2 bpq f6.bdq, rel_near hy3 k3 k4 bpq f7.bdq⟩ ⟨(bx'.sub bx).le (by decide), (by''.sub by').le (by decide)⟩ ?_⟩
      omega
    · refine aT (aF (aF ?_))
      refine ⟨fun z => absurd z.2 (show ¬ (HT.sIx 6 6 (some 4) = 6) by decide), (fun z => nomatch z), (show 4 + 2 ≤ 1000000 by decide), fin _ _ _ _ _ hpl1 hpl2 (bx.le (by decide)) (by'.le (by decide)) ⟨rel_near hx3 k1 k2 bpq f6.bdq, rel_near hy3 k3 k4 bpq f7.bdq⟩ ⟨rel_same, rel_same⟩ ?_⟩
      omega
    · refine aF (aT ⟨9, rfl, by decide, by decide, by omega, fun r5 l5 u5 => ?_⟩)
      have b5 : Bd 4 (r5 - 4) := bd_abs (n := 9) (by decide) (by omega) (by omega)
      refine ⟨_, _, _, _, _, 23, 4, rfl, hside, ⟨r5 - 4, 3, rfl, b5, by unfold Bd; decide, by decide, rfl⟩, by decide, fun s5 hs5 => ?_⟩
      refine ⟨_, _, _, _, _, _, _, _, rfl, sq_spt bx by', hs5, by decide, fun s6 hs6 => ⟨_, _, _, _, rfl, hs6, by decide, fun bv1 bv2 => aF ?_⟩⟩
      refine ⟨fun z => absurd z.2 (show ¬ (HT.sIx 6 6 (some 4) = 6) by decide), (fun z => nomatch z), (show 4 + 2 ≤ 1000000 by decide), fin _ _ _ _ _ hpl1 hpl2 (bv1.le (by decide)) (bv2.le (by decide)) ⟨rel_near hx3 k1 k2 bpq f6.bdq, rel_near hy3 k3 k4 bpq f7.bdq⟩ ⟨rel_side k2 (divInt_bd (by decide) b5 (by unfold Bd; decide)), rel_side k4 (divInt_bd (by decide) b5 (by unfold Bd; decide))⟩ ?_⟩
      omega
    · refine dIte (fun z => absurd z (by omega)) fun _ => dIte (fun z => absurd z (by omega)) fun _ => dIte (fun _ => ?_) fun z => absurd e4 z
      refine ⟨_, _, _, _, _, 256, 1, rfl, sq_spt hpl1 hpl2, ⟨-1, 1, rfl, by unfold Bd; decide, by unfold Bd; decide, by decide, rfl⟩, by decide, fun s5 hs5 => ?_⟩
      refine ⟨_, _, _, _, _, _, _, _, rfl, hs3, hs5, by decide, fun s6 hs6 => ?_⟩
      refine ⟨_, _, _, _, _, _, 3, rfl, hs6, ⟨t.den, t.num, rfl, bw.2, bw.1, ht0, rfl⟩, by decide, fun s7 hs7 => ?_⟩
      refine ⟨_, _, _, _, _, _, _, _, rfl, sq_spt bx by', hs7, by decide, fun s8 hs8 => ⟨_, _, _, _, rfl, hs8, by decide, fun bv1 bv2 => ?_⟩⟩
      refine ⟨fun z => absurd z.2 (show ¬ (HT.sIx 6 6 (some 4) = 6) by decide), (fun z => nomatch z), (show 4 + 2 ≤ 1000000 by decide), fin _ _ _ _ _ hpl1 hpl2 (bv1.le (by decide)) (bv2.le (by decide)) ⟨rel_near hx3 k1 k2 bpq f6.bdq, rel_near hy3 k3 k4 bpq f7.bdq⟩ ⟨rel_aim f6.bdq bts, rel_aim f7.bdq bts⟩ ?_⟩
      omega
  · have hpl1 : BdQ 256 c.px := bpx'.le (by decide)
    have hpl2 : BdQ 256 c.py := bpy'.le (by decide)
    have hcase : aim = 0 ∨ aim = 1 ∨ aim = 2 ∨ 2 < aim := by omega
    rcases hcase with rfl | rfl | rfl | e4
    · refine aF (aF (aF ?_))
      refine ⟨fun z => absurd z.2 (show ¬ (HT.sIx 6 6 (some 4) = 6) by decide), (fun z => nomatch z), (show 4 + 2 ≤ 1000000 by decide), fin _ _ _ _ _ hpl1 hpl2 (bx'.le (by decide)) (by''.le (by decide)) ⟨(bpx'.sub bpx).le (by decide), (bpy'.sub bpy).le (by decide)⟩ ⟨(bx'.sub bx).le (by decide), (by''.sub by').le (by decide)⟩ ?_⟩
      omega
    · refine aT (aF (aF ?_))
      refine ⟨fun z => absurd z.2 (show ¬ (HT.sIx 6 6 (some 4) = 6) by decide), (fun z => nomatch z), (show 4 + 2 ≤ 1000000 by decide), fin _ _ _ _ _ hpl1 hpl2 (bx.le (by decide)) (by'.le (by decide)) ⟨(bpx'.sub bpx).le (by decide), (bpy'.sub bpy).le (by decide)⟩ ⟨rel_same, rel_same⟩ ?_⟩
      omega
    · refine aF (aT ⟨9, rfl, by decide, by decide, by omega, fun r5 l5 u5 => ?_⟩)
      have b5 : Bd 4 (r5 - 4) := bd_abs (n := 9) (by decide) (by omega) (by omega)
      refine ⟨_, _, _, _, _, 23, 4, rfl, hside, ⟨r5 - 4, 3, rfl, b5, by unfold Bd; decide, by decide, rfl⟩, by decide, fun s5 hs5 => ?_⟩
      refine ⟨_, _, _, _, _, _, _, _, rfl, sq_spt bx by', hs5, by decide, fun s6 hs6 => ⟨_, _, _, _, rfl, hs6, by decide, fun bv1 bv2 => aF ?_⟩⟩
      refine ⟨fun z => absurd z.2 (show ¬ (HT.sIx 6 6 (some 4) = 6) by decide), (fun z => nomatch z), (show 4 + 2 ≤ 1000000 by decide), fin _ _ _ _ _ hpl1 hpl2 (bv1.le (by decide)) (bv2.le (by decide)) ⟨(bpx'.sub bpx).le (by decide), (bpy'.sub bpy).le (by decide)⟩ ⟨rel_side k2 (divInt_bd (by decide) b5 (by unfold Bd; decide)), rel_side k4 (divInt_bd (by decide) b5 (by unfold Bd; decide))⟩ ?_⟩
      omega
    · refine dIte (fun z => absurd z (by omega)) fun _ => dIte (fun z => absurd z (by omega)) fun _ => dIte (fun _ => ?_) fun z => absurd e4 z
      refine ⟨_, _, _, _, _, 256, 1, rfl, sq_spt hpl1 hpl2, ⟨-1, 1, rfl, by unfold Bd; decide, by unfold Bd; decide, by decide, rfl⟩, by decide, fun s5 hs5 => ?_⟩
      refine ⟨_, _, _, _, _, _, _, _, rfl, hs3, hs5, by decide, fun s6 hs6 => ?_⟩
      refine ⟨_, _, _, _, _, _, 3, rfl, hs6, ⟨t.den, t.num, rfl, bw.2, bw.1, ht0, rfl⟩, by decide, fun s7 hs7 => ?_⟩
      refine ⟨_, _, _, _, _, _, _, _, rfl, sq_spt bx by', hs7, by decide, fun s8 hs8 => ⟨_, _, _, _, rfl, hs8, by decide, fun bv1 bv2 => ?_⟩⟩
      refine ⟨fun z => absurd z.2 (show ¬ (HT.sIx 6 6 (some 4) = 6) by decide), (fun z => nomatch z), (show 4 + 2 ≤ 1000000 by decide), fin _ _ _ _ _ hpl1 hpl2 (bv1.le (by decide)) (bv2.le (by decide)) ⟨(bpx'.sub bpx).le (by decide), (bpy'.sub bpy).le (by decide)⟩ ⟨rel_far hx3 bpx k1 k2 bpq bpx' bts, rel_far hy3 bpy k3 k4 bpq bpy' bts⟩ ?_⟩
      omega

/-! CUT -/
theorem cutL_tail (d : D) (r : List D) : cutL (d :: r) (some 1) none = r := by
  unfold cutL
  rw [HT.sIx_none]
  have e : HT.sIx (d :: r).length 0 (some 1) = 1 := by
    unfold HT.sIx
    simp
  rw [e]
  show (List.drop 1 (d :: r)).take ((d :: r).length - 1) = r
  rw [List.drop_succ_cons, List.drop_zero, List.length_cons, Nat.add_sub_cancel, List.take_length]
theorem aIx_lst0 {d : D} {r : List D} {n : Nat} {Q : D → Nat → Prop} (q : Q d n) : aIx (.lst (d :: r)) (.int 0) n Q := by
  have e : atI (d :: r) 0 = some d := atI_nat (j := 0) rfl
  show (match atI (d :: r) 0 with
    | some d => Q d n
    | none => False)
  rw [e]
  exact q
/-! ### the ways of a pair -/
def a_p_way_of : ASp := fun ds n Q => ∃ (p q : Int) (k : Nat), ds = [.int p, .int q] ∧ ¬ (p = 0 ∧ q = 0) ∧ Bd k p ∧ Bd k q ∧ k ≤ 8900 ∧ Q (pt (wayI p q)) n
theorem ok_p_way_of (T : Tx K mg A) : FnOk P w K mg base CX0 4 A.f_p_way_of A.fd_p_way_of ["p", "q"] (spOf K 2 a_p_way_of) := by
  refine fn_mir [] 3 rfl (by decide) (by decide) T.F_p_way_of sc_p_way_of fun cdv Ar outer s H E hr => ?_
  refine ⟨_, _, (pss_cons (ps_set (i := 2) sc_p_way_of.nd rfl (.inl rfl) (pe_call (ok_p_common_divisor (P := P) (K := K) T) (hr.mono (by decide)) (by rfl) T.g_p_common_divisor T.F_p_common_divisor.kp T.b_p_common_divisor .nil pass0 (pa_cons (pv 0) (pa_cons (pv 1) pa_nil))))
    (pss_cons (ps_if (pt_cmpR (k_eq (K := K) rfl hr.units) (pv 2) pe_int (nomark _))
      (pss_one ps_never)
      pss_nil)
    (pss_one (ps_ret (pe_tup (pa_cons (pe_op k_fdiv (pv 0) (pv 2)) (pa_cons (pe_op k_fdiv (pv 1) (pv 2)) pa_nil))))))), by infer_instance, fun ds n Q hl hA => ?_⟩
  obtain ⟨p, q, k, rfl, h0, bp, bq, hk, Qk⟩ := hA
  have g0 := gcdI_pos2 h0
  have gb := gcdI_bd2 bp bq h0
  refine ⟨p, q, rfl, bp.le (by omega), bq.le (by omega), dIte (fun e => absurd e (by omega)) fun _ => ?_⟩
  exact ⟨divA gb g0 (by omega), divA gb g0 (by omega), Qk⟩
def prD (e : Pt × Pt) : D := .tup [pt e.1, pt e.2]
theorem zipD_prs : ∀ as bs : List Pt, zipD (as.map pt) (bs.map pt) = (as.zip bs).map prD
  | [], _ => by simp [zipD]
  | _ :: _, [] => by simp [zipD]
  | a :: as, b :: bs => by
    rw [List.map_cons, List.map_cons, zipD, zipD_prs as bs]
    rfl
theorem sIx_one {n d : Nat} (h : 1 ≤ n) : HT.sIx n d (some 1) = 1 := by
  unfold HT.sIx
  simp
  omega
theorem cut_drop {xs : List D} (h : 1 ≤ xs.length) : cutL xs (some 1) none = xs.drop 1 := by
  unfold cutL
  rw [HT.sIx_none, sIx_one h, ← List.length_drop, List.take_length]
theorem cut_take {xs : List D} (h : 1 ≤ xs.length) : cutL xs none (some 1) = xs.take 1 := by
  unfold cutL
  rw [HT.sIx_none, sIx_one h, List.drop_zero, Nat.sub_zero]
def a_p_side_ends : ASp := fun ds n Q => ∃ cs : List Pt, ds = [.tup (cs.map pt)] ∧ ShOk cs ∧ Q (.lst ((prs cs).map prD)) n
theorem ok_p_side_ends (T : Tx K mg A) : FnOk P w K mg base CX0 1 A.f_p_side_ends A.fd_p_side_ends ["corners"] (spOf K 1 a_p_side_ends) := by
  refine fn_mir [] 1 rfl (by decide) (by decide) T.F_p_side_ends sc_p_side_ends fun cdv Ar outer s H E hr => ?_
  refine ⟨_, _, (pss_one (ps_ret (k_lzip (K := K) rfl rfl (by rfl) T.m_list (by rfl) T.m_zip (pa_cons (pv 0) (pa_cons (pe_op (k_add (K := K) rfl) (pe_slice (k_sl (K := K) rfl) (pv 0) (po_some pe_int) po_none) (pe_slice (k_sl (K := K) rfl) (pv 0) po_none (po_some pe_int))) pa_nil))))), by infer_instance, fun ds n Q hl hA => ?_⟩
  obtain ⟨cs, rfl, hS, q⟩ := hA
  have h3 := hS.1
  have h16 := hS.2.1
  have hl : (cs.map pt).length = cs.length := List.length_map _
  have e1 := cut_drop (xs := cs.map pt) (by omega)
  have e2 := cut_take (xs := cs.map pt) (by omega)
  have e3 : (cs.map pt).drop 1 ++ (cs.map pt).take 1 = (cs.drop 1 ++ cs.take 1).map pt := by rw [List.map_append, List.map_drop, List.map_take]
  refine ⟨fun z => ?_, fun z => ?_, fun z => ?_, ?_, ?_, ?_, ?_⟩
  · have := z.1
    rw [sIx_one (by omega)] at this
    cases this
  · have := z.2
    rw [sIx_one (by omega)] at this
    omega
  · rw [e1] at z
    have := congrArg List.length z
    rw [List.length_drop] at this
    simp at this
    omega
  · rw [e1, e2, List.length_drop, List.length_take]
    omega
  · rw [e1, e2, List.length_append, List.length_drop, List.length_take]
    omega
  · omega
  · show Q (.lst (zipD (cs.map pt) (cutL (cs.map pt) (some 1) none ++ cutL (cs.map pt) none (some 1)))) n
    rw [e1, e2, e3, zipD_prs]
    exact q
def a_p_outwards : ASp := fun ds n Q => ∃ e : Pt × Pt, ds = [pt e.1, pt e.2] ∧ e.1 ≠ e.2 ∧ PtS e.1 ∧ PtS e.2 ∧ Q (pt (wyE e)) n
theorem ok_p_outwards (T : Tx K mg A) : FnOk P w K mg base CX0 5 A.f_p_outwards A.fd_p_outwards ["start", "end"] (spOf K 2 a_p_outwards) := by
  refine fn_mir [] 6 rfl (by decide) (by decide) T.F_p_outwards sc_p_outwards fun cdv Ar outer s H E hr => ?_
  refine ⟨_, _, (pss_cons (ps_asg (pv 0) (k_gtup (K := K) (m := 2) rfl rfl (pgs_cons (pg_name (i := 2) sc_p_outwards.nd rfl (.inl rfl)) (pgs_cons (pg_name (i := 3) sc_p_outwards.nd rfl (.inl rfl)) pgs_nil))))
    (pss_cons (ps_asg (pv 1) (k_gtup (K := K) (m := 2) rfl rfl (pgs_cons (pg_name (i := 4) sc_p_outwards.nd rfl (.inl rfl)) (pgs_cons (pg_name (i := 5) sc_p_outwards.nd rfl (.inl rfl)) pgs_nil))))
    (pss_one (ps_ret (pe_call (ok_p_way_of (P := P) (K := K) T) (hr.mono (by decide)) (by rfl) T.g_p_way_of T.F_p_way_of.kp T.b_p_way_of .nil pass0 (pa_cons (pe_op op_sub (pv 5) (pv 3)) (pa_cons (pe_op op_sub (pv 2) (pv 4)) pa_nil))))))), by infer_instance, fun ds n Q hl hA => ?_⟩
  obtain ⟨e, rfl, h1, h2, h3, q⟩ := hA
  unfold PtS at h2 h3
  exact ⟨e.2.2 - e.1.2, e.1.1 - e.2.1, 23, rfl, fun z => h1 (Prod.ext (by omega) (by omega)), bd_abs (n := 6000000) (by decide) (by omega) (by omega), bd_abs (n := 6000000) (by decide) (by omega) (by omega), by decide, q⟩
def a_p_sides : ASp := fun ds n Q => ∃ cs : List Pt, ds = [.tup (cs.map pt)] ∧ ShOk cs ∧ Q (.tup ((waysOf cs).map pt)) n
theorem ok_p_sides (T : Tx K mg A) : FnOk P w K mg base CX0 6 A.f_p_sides A.fd_p_sides ["shape"] (spOf K 1 a_p_sides) := by
  refine fn_mir [] 3 rfl (by decide) (by decide) T.F_p_sides sc_p_sides fun cdv Ar outer s H E hr => ?_
  refine ⟨_, _, (pss_one (ps_ret (pe_callTy (k_tuple (K := K) rfl) (by rfl) T.m_tuple (by decide +kernel) (pa_cons (pe_lc (own := [("start", 1), ("end", 2)]) rfl sc_p_sides.nd (k_iter (K := K) rfl (pe_call (ok_p_side_ends (P := P) (K := K) T) (hr.mono (by decide)) (by rfl) T.g_p_side_ends T.F_p_side_ends.kp T.b_p_side_ends .nil pass0 (pa_cons (pv 0) pa_nil))) (blkOk_by (own := [("start", 1), ("end", 2)]) (N := ["shape", "start", "end"]) (sc := defScope s_p_sides) (by decide +kernel)) (fun _ _ _ _ _ => (k_gtup (K := K) (m := 2) rfl rfl (pgs_cons (pg_name (i := 1) sc_p_sides.nd rfl (Or.inl rfl)) (pgs_cons (pg_name (i := 2) sc_p_sides.nd rfl (Or.inl rfl)) pgs_nil)))) (fun _ _ _ _ _ => pts_nil) (fun _ _ _ _ _ => (pe_call (ok_p_outwards (P := P) (K := K) T) (hr.mono (by decide)) (by rfl) T.g_p_outwards T.F_p_outwards.kp T.b_p_outwards .nil pass0 (pa_cons (pv 1) (pa_cons (pv 2) pa_nil))))) pa_nil)))), by infer_instance, fun ds n Q hl hA => ?_⟩
  obtain ⟨cs, rfl, hS, q⟩ := hA
  have h16 := hS.2.1
  have hl := prs_len (cs := cs) (fun z => by have := hS.1; rw [z] at this; simp at this)
  refine ⟨cs, rfl, hS, by rw [List.length_map]; omega, ?_⟩
  refine aLc_ind (fun acc ds m => m = n ∧ ∃ us vs : List (Pt × Pt), prs cs = us ++ vs ∧ ds = vs.map prD ∧ acc = (us.map wyE).map pt) ?_ ?_ ⟨rfl, [], prs cs, rfl, rfl, rfl⟩
  · rintro acc d r m ⟨rfl, us, vs, e0, e, rfl⟩ ih
    cases vs with
    | nil => cases e
    | cons v vs =>
    obtain ⟨rfl, rfl⟩ := List.cons.inj e
    obtain ⟨h1, h2, h3⟩ := prs_ok hS v (by rw [e0]; exact List.mem_append_right _ List.mem_cons_self)
    refine aT ⟨v, rfl, h1, h2, h3, ih _ _ ⟨rfl, us ++ [v], vs, by rw [e0]; simp, rfl, by rw [List.map_append, List.map_append]; rfl⟩⟩
  · rintro acc m ⟨rfl, us, vs, e0, e, rfl⟩
    cases vs with
    | cons v vs => cases e
    | nil =>
    rw [List.append_nil] at e0
    show Q (.tup ((us.map wyE).map pt)) _
    rw [← e0]
    exact q
def a_p_turned : ASp := fun ds n Q => ∃ w : Pt, ds = [pt w] ∧ Q (pt (ngP w)) n
theorem ok_p_turned (T : Tx K mg A) : FnOk P w K mg base CX0 1 A.f_p_turned A.fd_p_turned ["way"] (spOf K 1 a_p_turned) := by
  refine fn_mir [] 3 rfl (by decide) (by decide) T.F_p_turned sc_p_turned fun cdv Ar outer s H E hr => ?_
  refine ⟨_, _, (pss_cons (ps_asg (pv 0) (k_gtup (K := K) (m := 2) rfl rfl (pgs_cons (pg_name (i := 1) sc_p_turned.nd rfl (.inl rfl)) (pgs_cons (pg_name (i := 2) sc_p_turned.nd rfl (.inl rfl)) pgs_nil))))
    (pss_one (ps_ret (pe_tup (pa_cons (pe_un un_neg (pv 1)) (pa_cons (pe_un un_neg (pv 2)) pa_nil)))))), by infer_instance, fun ds n Q hl hA => ?_⟩
  obtain ⟨w, rfl, q⟩ := hA
  exact q
def a_p_pair_ways : ASp := fun ds n Q => ∃ b c : Bw, ds = [b.d, c.d] ∧ ShOk b.cs ∧ ShOk c.cs ∧ ∀ rs : List Pt, rs.length ≤ 32 → PwOk (waysOf b.cs) (waysOf c.cs) rs → Q (.tup (rs.map pt)) n
theorem ok_p_pair_ways (T : Tx K mg A) : FnOk P w K mg base CX0 7 A.f_p_pair_ways A.fd_p_pair_ways ["one", "other"] (spOf K 2 a_p_pair_ways) := by
  refine fn_mir [] 4 rfl (by decide) (by decide) T.F_p_pair_ways sc_p_pair_ways fun cdv Ar outer s H E hr => ?_
  refine ⟨_, _, (pss_cons (ps_set (i := 2) sc_p_pair_ways.nd rfl (.inl rfl) (pe_op (k_add (K := K) rfl) (pe_callTy (k_list (K := K) rfl) (by rfl) T.m_list (by decide +kernel) (pa_cons (pe_call (ok_p_sides (P := P) (K := K) T) (hr.mono (by decide)) (by rfl) T.g_p_sides T.F_p_sides.kp T.b_p_sides .nil pass0 (pa_cons (pe_ix (k_ix (K := K) rfl) (pv 0) pe_int (fun _ _ => rfl)) pa_nil)) pa_nil)) (pe_lc (own := [("way", 3)]) rfl sc_p_pair_ways.nd (k_iter (K := K) rfl (pe_call (ok_p_sides (P := P) (K := K) T) (hr.mono (by decide)) (by rfl) T.g_p_sides T.F_p_sides.kp T.b_p_sides .nil pass0 (pa_cons (pe_ix (k_ix (K := K) rfl) (pv 1) pe_int (fun _ _ => rfl)) pa_nil))) (blkOk_by (own := [("way", 3)]) (N := ["one", "other", "ways", "way"]) (sc := defScope s_p_pair_ways) (by decide +kernel)) (fun _ _ _ _ _ => (pg_name (i := 3) sc_p_pair_ways.nd rfl (Or.inl rfl))) (fun _ _ _ _ _ => pts_nil) (fun _ _ _ _ _ => (pe_call (ok_p_turned (P := P) (K := K) T) (hr.mono (by decide)) (by rfl) T.g_p_turned T.F_p_turned.kp T.b_p_turned .nil pass0 (pa_cons (pv 3) pa_nil))))))
    (pss_one (ps_ret (pe_callTy (k_tuple (K := K) rfl) (by rfl) T.m_tuple (by decide +kernel) (pa_cons (pe_callB (k_sortT (K := K) rfl rfl) (by rfl) T.m_sorted (by decide +kernel) (pa_cons (pe_callTy (k_setT (K := K) rfl rfl hr.units) (by rfl) T.m_set (by decide +kernel) (pa_cons (pv 2) pa_nil)) pa_nil)) pa_nil))))), by infer_instance, fun ds n Q hl hA => ?_⟩
  obtain ⟨b, c, rfl, hb, hc, q⟩ := hA
  refine ⟨b.cs, rfl, hb, ?_⟩
  refine ⟨c.cs, rfl, hc, ?_⟩
  have h16 := hb.2.1
  have h16' := hc.2.1
  have wl : ∀ {cs : List Pt}, ShOk cs → (waysOf cs).length = cs.length := fun {cs} h => by
    unfold waysOf
    rw [List.length_map, prs_len (fun z => by have := h.1; rw [z] at this; simp at this)]
  have hlb := wl hb
  have hlc := wl hc
  refine ⟨by rw [List.length_map]; omega, ?_⟩
  refine aLc_ind (fun acc ds m => m = n ∧ ∃ us vs : List Pt, waysOf c.cs = us ++ vs ∧ ds = vs.map pt ∧ acc = (us.map ngP).map pt) ?_ ?_ ⟨rfl, [], waysOf c.cs, rfl, rfl, rfl⟩
  · rintro acc d r m ⟨rfl, us, vs, e0, e, rfl⟩ ih
    cases vs with
    | nil => cases e
    | cons v vs =>
    obtain ⟨rfl, rfl⟩ := List.cons.inj e
    refine aT ⟨v, rfl, ih _ _ ⟨rfl, us ++ [v], vs, by rw [e0]; simp, rfl, by rw [List.map_append, List.map_append]; rfl⟩⟩
  · rintro acc m ⟨rfl, us, vs, e0, e, rfl⟩
    cases vs with
    | cons v vs => cases e
    | nil =>
    rw [List.append_nil] at e0
    subst e0
    have hll : ((waysOf b.cs).map pt).length + (((waysOf c.cs).map ngP).map pt).length ≤ 1000000 := by
      rw [List.length_map, List.length_map, List.length_map]
      omega
    refine ⟨hll, waysOf b.cs ++ (waysOf c.cs).map ngP, by rw [List.map_append], by rw [List.length_append, List.length_map]; omega, fun rs nd mem ord => ?_⟩
    have mem' : ∀ p, p ∈ rs ↔ p ∈ waysOf b.cs ∨ ngP p ∈ waysOf c.cs := fun p => by
      rw [mem, List.mem_append, List.mem_map]
      constructor
      · rintro (h | ⟨z, h1, h2⟩)
        · exact .inl h
        · right
          rw [← h2, ngP_ngP]
          exact h1
      · rintro (h | h)
        · exact .inl h
        · exact .inr ⟨_, h, ngP_ngP p⟩
    have hlen : rs.length ≤ 32 := by
      have h1 : rs.length ≤ (waysOf b.cs ++ (waysOf c.cs).map ngP).length := List.Nodup.length_le_of_subset nd fun p hp => (mem p).mp hp
      rw [List.length_append, List.length_map] at h1
      omega
    exact q rs hlen ⟨nd, mem', ord⟩
/-! ### gaps -/
def dot (w c : Pt) : Int := w.1 * c.1 + w.2 * c.2
def IsMax (w : Pt) (cs : List Pt) (m : Int) : Prop := (∃ c ∈ cs, m = dot w c) ∧ ∀ c ∈ cs, dot w c ≤ m
theorem IsMax.uniq {w : Pt} {cs : List Pt} {m m' : Int} (h : IsMax w cs m) (g : IsMax w cs m') : m = m' := by
  obtain ⟨⟨c, hc, rfl⟩, h2⟩ := h
  obtain ⟨⟨e, he, rfl⟩, g2⟩ := g
  have := h2 e he
  have := g2 c hc
  omega
def mx (w : Pt) : List Pt → Int
  | [] => 0
  | [c] => dot w c
  | c :: d :: r => max (dot w c) (mx w (d :: r))
theorem mx_is {w : Pt} : ∀ {cs : List Pt}, cs ≠ [] → IsMax w cs (mx w cs)
  | [], h => absurd rfl h
  | [c], _ => ⟨⟨c, List.mem_cons_self, rfl⟩, fun x hx => by rw [List.mem_singleton.mp hx]; exact Int.le_refl _⟩
  | c :: d :: r, _ => by
    obtain ⟨⟨e, he, h1⟩, h2⟩ := mx_is (w := w) (cs := d :: r) (fun z => nomatch z)
    refine ⟨?_, fun x hx => ?_⟩
    · show ∃ c' ∈ c :: d :: r, max (dot w c) (mx w (d :: r)) = dot w c'
      rcases Int.le_total (dot w c) (mx w (d :: r)) with h | h
      · rw [Int.max_eq_right h]
        exact ⟨e, List.mem_cons_of_mem _ he, h1⟩
      · rw [Int.max_eq_left h]
        exact ⟨c, List.mem_cons_self, rfl⟩
    · show dot w x ≤ max (dot w c) (mx w (d :: r))
      rcases List.mem_cons.mp hx with rfl | hx
      · exact Int.le_max_left _ _
      · exact Int.le_trans (h2 x hx) (Int.le_max_right _ _)
theorem ShOk.ne {cs : List Pt} (h : ShOk cs) : cs ≠ [] := fun z => by have := h.1; rw [z] at this; simp at this
theorem bd_pt {p : Int} (h1 : -3000000 ≤ p) (h2 : p ≤ 3000000) : Bd 22 p := bd_abs (n := 3000000) (by decide) h1 h2
theorem dot_bd {w c : Pt} {k : Nat} (hw : WyS k w) (hc : PtS c) : Bd (k + 23) (dot w c) := by
  unfold PtS at hc
  exact ((hw.1.mul (bd_pt hc.1 hc.2.1)).add (hw.2.mul (bd_pt hc.2.2.1 hc.2.2.2))).le (by omega)
theorem mx_bd {w : Pt} {cs : List Pt} {k : Nat} (hw : WyS k w) (hc : ShOk cs) : Bd (k + 23) (mx w cs) := by
  obtain ⟨⟨c, h1, h2⟩, _⟩ := mx_is (w := w) hc.ne
  rw [h2]
  exact dot_bd hw (hc.2.2.1 c h1)
def a_p_reach : ASp := fun ds n Q => ∃ (cs : List Pt) (w : Pt), ds = [.tup (cs.map pt), pt w] ∧ ShOk cs ∧ WyS 8000 w ∧ Q (.int (mx w cs)) n
theorem ok_p_reach (T : Tx K mg A) : FnOk P w K mg base CX0 1 A.f_p_reach A.fd_p_reach ["shape", "way"] (spOf K 2 a_p_reach) := by
  refine fn_mir [] 6 rfl (by decide) (by decide) T.F_p_reach sc_p_reach fun cdv Ar outer s H E hr => ?_
  refine ⟨_, _, (pss_cons (ps_asg (pv 1) (k_gtup (K := K) (m := 2) rfl rfl (pgs_cons (pg_name (i := 2) sc_p_reach.nd rfl (.inr rfl)) (pgs_cons (pg_name (i := 3) sc_p_reach.nd rfl (.inr rfl)) pgs_nil))))
    (pss_one (ps_ret (pe_callB (k_max1 (K := K) rfl rfl) (by rfl) T.m_max (by decide +kernel) (pa_cons (pe_lc (own := [("x", 4), ("y", 5)]) rfl sc_p_reach.nd (k_iter (K := K) rfl (pv 0)) (blkOk_by (own := [("x", 4), ("y", 5)]) (N := ["shape", "way", "p", "q", "x", "y"]) (sc := defScope s_p_reach) (by decide +kernel)) (fun _ _ _ _ _ => (k_gtup (K := K) (m := 2) rfl rfl (pgs_cons (pg_name (i := 4) sc_p_reach.nd rfl (Or.inl rfl)) (pgs_cons (pg_name (i := 5) sc_p_reach.nd rfl (Or.inl rfl)) pgs_nil)))) (fun _ _ _ _ _ => pts_nil) (fun _ _ _ _ _ => (pe_op (k_add (K := K) rfl) (pe_op k_mul (pv 2) (pv 4)) (pe_op k_mul (pv 3) (pv 5))))) pa_nil))))), by infer_instance, fun ds n Q hl hA => ?_⟩
  obtain ⟨cs, w, rfl, hc, hw, q⟩ := hA
  have h16 := hc.2.1
  refine ⟨by rw [List.length_map]; omega, ?_⟩
  refine aLc_ind (fun acc ds m => m = n ∧ ∃ us vs : List Pt, cs = us ++ vs ∧ ds = vs.map pt ∧ acc = us.map fun c => D.int (dot w c)) ?_ ?_ ⟨rfl, [], cs, rfl, rfl, rfl⟩
  · rintro acc d r m ⟨rfl, us, vs, rfl, e, rfl⟩ ih
    cases vs with
    | nil => cases e
    | cons v vs =>
    obtain ⟨rfl, rfl⟩ := List.cons.inj e
    have hp := hc.2.2.1 v (List.mem_append_right _ List.mem_cons_self)
    unfold PtS at hp
    refine aT ⟨mulA hw.1 (bd_pt hp.1 hp.2.1) (by decide) (by decide), mulA hw.2 (bd_pt hp.2.2.1 hp.2.2.2) (by decide) (by decide), ih _ _ ⟨rfl, us ++ [v], vs, by simp, rfl, by rw [List.map_append]; rfl⟩⟩
  · rintro acc m ⟨rfl, us, vs, rfl, e, rfl⟩
    cases vs with
    | cons v vs => cases e
    | nil =>
    rw [List.append_nil] at hc q
    refine ⟨us.map (dot w), by rw [List.map_map]; rfl, by rw [List.length_map]; have := hc.1; omega, fun m h1 h2 => ?_⟩
    have : IsMax w us m := by
      obtain ⟨c, h3, h4⟩ := List.mem_map.mp h1
      exact ⟨⟨c, h3, h4.symm⟩, fun x hx => h2 _ (List.mem_map.mpr ⟨x, hx, rfl⟩)⟩
    rw [this.uniq (mx_is hc.ne)]
    exact q
def wid (b c : Bw) (w : Pt) : Int := mx w b.cs + mx (ngP w) c.cs
def a_p_width : ASp := fun ds n Q => ∃ (b c : Bw) (w : Pt), ds = [b.d, c.d, pt w] ∧ ShOk b.cs ∧ ShOk c.cs ∧ WyS 8000 w ∧ Q (.int (wid b c w)) n
theorem ok_p_width (T : Tx K mg A) : FnOk P w K mg base CX0 2 A.f_p_width A.fd_p_width ["one", "other", "way"] (spOf K 3 a_p_width) := by
  refine fn_mir [] 3 rfl (by decide) (by decide) T.F_p_width sc_p_width fun cdv Ar outer s H E hr => ?_
  refine ⟨_, _, (pss_one (ps_ret (pe_op (k_add (K := K) rfl) (pe_call (ok_p_reach (P := P) (K := K) T) (hr.mono (by decide)) (by rfl) T.g_p_reach T.F_p_reach.kp T.b_p_reach .nil pass0 (pa_cons (pe_ix (k_ix (K := K) rfl) (pv 0) pe_int (fun _ _ => rfl)) (pa_cons (pv 2) pa_nil))) (pe_call (ok_p_reach (P := P) (K := K) T) (hr.mono (by decide)) (by rfl) T.g_p_reach T.F_p_reach.kp T.b_p_reach .nil pass0 (pa_cons (pe_ix (k_ix (K := K) rfl) (pv 1) pe_int (fun _ _ => rfl)) (pa_cons (pe_call (ok_p_turned (P := P) (K := K) T) (hr.mono (by decide)) (by rfl) T.g_p_turned T.F_p_turned.kp T.b_p_turned .nil pass0 (pa_cons (pv 2) pa_nil)) pa_nil)))))), by infer_instance, fun ds n Q hl hA => ?_⟩
  obtain ⟨b, c, w, rfl, hb, hc, hw, q⟩ := hA
  exact ⟨b.cs, w, rfl, hb, hw, w, rfl, c.cs, ngP w, rfl, hc, ng_wys hw, q⟩

/-- two rows, and how long their differences' numbers are -/
structure Two (kp ks : Nat) (b c : Bw) : Prop where
  sb : ShOk b.cs
  sc : ShOk c.cs
  b1 : BdQ 8000 b.px
  b2 : BdQ 8000 b.py
  b3 : BdQ 8000 b.x
  b4 : BdQ 8000 b.y
  c1 : BdQ 8000 c.px
  c2 : BdQ 8000 c.py
  c3 : BdQ 8000 c.x
  c4 : BdQ 8000 c.y
  px : BdQ kp (c.px - b.px)
  py : BdQ kp (c.py - b.py)
  vx : BdQ ks (c.x - b.x)
  vy : BdQ ks (c.y - b.y)
  lim : kp + ks ≤ 4300
theorem Two.of {b c : Bw} {k m k' m' kp ks : Nat} (hb : b.ok k m) (hc : c.ok k' m') (h1 : k + k' + 1 ≤ kp) (h2 : m + m' + 1 ≤ ks) (h3 : kp + ks ≤ 4300) : Two kp ks b c :=
  ⟨hb.1, hc.1, hb.2.1.le (by omega), hb.2.2.1.le (by omega), hb.2.2.2.1.le (by omega), hb.2.2.2.2.le (by omega), hc.2.1.le (by omega), hc.2.2.1.le (by omega), hc.2.2.2.1.le (by omega), hc.2.2.2.2.le (by omega), (hc.2.1.sub hb.2.1).le (by omega), (hc.2.2.1.sub hb.2.2.1).le (by omega), (hc.2.2.2.1.sub hb.2.2.2.1).le (by omega), (hc.2.2.2.2.sub hb.2.2.2.2).le (by omega), h3⟩
theorem bdq_swap {k : Nat} {x y : Rat} (h : BdQ k (x - y)) : BdQ k (y - x) := by
  have e : y - x = -(x - y) := by grind
  rw [e]
  exact h.neg
theorem Two.sym {b c : Bw} {kp ks : Nat} (h : Two kp ks b c) : Two kp ks c b :=
  ⟨h.sc, h.sb, h.c1, h.c2, h.c3, h.c4, h.b1, h.b2, h.b3, h.b4, bdq_swap h.px, bdq_swap h.py, bdq_swap h.vx, bdq_swap h.vy, h.lim⟩
def a_p_place_apart : ASp := fun ds n Q => ∃ (b c : Bw) (kp ks : Nat), ds = [b.d, c.d] ∧ Two kp ks b c ∧ Q (spt (c.px - b.px) (c.py - b.py)) n
theorem ok_p_place_apart (T : Tx K mg A) : FnOk P w K mg base CX0 7 A.f_p_place_apart A.fd_p_place_apart ["one", "other"] (spOf K 2 a_p_place_apart) := by
  refine fn_mir [] 2 rfl (by decide) (by decide) T.F_p_place_apart sc_p_place_apart fun cdv Ar outer s H E hr => ?_
  refine ⟨_, _, (pss_one (ps_ret (pe_call (ok_p_spot_minus (P := P) (K := K) T) (hr.mono (by decide)) (by rfl) T.g_p_spot_minus T.F_p_spot_minus.kp T.b_p_spot_minus .nil pass0 (pa_cons (pe_ix (k_ix (K := K) rfl) (pv 1) pe_int (fun _ _ => rfl)) (pa_cons (pe_ix (k_ix (K := K) rfl) (pv 0) pe_int (fun _ _ => rfl)) pa_nil))))), by infer_instance, fun ds n Q hl hA => ?_⟩
  obtain ⟨b, c, kp, ks, rfl, h, q⟩ := hA
  exact ⟨_, _, _, _, 8000, 8000, 8000, 8000, rfl, h.c1, h.c2, h.b1, h.b2, by decide, by decide, by decide, by decide, q⟩
def a_p_speed_apart : ASp := fun ds n Q => ∃ (b c : Bw) (kp ks : Nat), ds = [b.d, c.d] ∧ Two kp ks b c ∧ Q (spt (c.x - b.x) (c.y - b.y)) n
theorem ok_p_speed_apart (T : Tx K mg A) : FnOk P w K mg base CX0 7 A.f_p_speed_apart A.fd_p_speed_apart ["one", "other"] (spOf K 2 a_p_speed_apart) := by
  refine fn_mir [] 2 rfl (by decide) (by decide) T.F_p_speed_apart sc_p_speed_apart fun cdv Ar outer s H E hr => ?_
  refine ⟨_, _, (pss_one (ps_ret (pe_call (ok_p_spot_minus (P := P) (K := K) T) (hr.mono (by decide)) (by rfl) T.g_p_spot_minus T.F_p_spot_minus.kp T.b_p_spot_minus .nil pass0 (pa_cons (pe_ix (k_ix (K := K) rfl) (pv 1) pe_int (fun _ _ => rfl)) (pa_cons (pe_ix (k_ix (K := K) rfl) (pv 0) pe_int (fun _ _ => rfl)) pa_nil))))), by infer_instance, fun ds n Q hl hA => ?_⟩
  obtain ⟨b, c, kp, ks, rfl, h, q⟩ := hA
  exact ⟨_, _, _, _, 8000, 8000, 8000, 8000, rfl, h.c3, h.c4, h.b3, h.b4, by decide, by decide, by decide, by decide, q⟩
def ofx (b c : Bw) (t : Rat) : Rat := c.px - b.px + (c.x - b.x) * t
def ofy (b c : Bw) (t : Rat) : Rat := c.py - b.py + (c.y - b.y) * t
def gapQ (b c : Bw) (w : Pt) (t : Rat) : Rat := (w.1 : Rat) * ofx b c t + (w.2 : Rat) * ofy b c t - ((wid b c w : Int) : Rat)
def rtQ (b c : Bw) (w : Pt) : Rat := (w.1 : Rat) * (c.x - b.x) + (w.2 : Rat) * (c.y - b.y)
theorem gapQ_lin (b c : Bw) (w : Pt) (t : Rat) : gapQ b c w t = gapQ b c w 0 + rtQ b c w * t := by
  unfold gapQ rtQ ofx ofy
  grind
theorem gapQ_sym (b c : Bw) (w : Pt) (t : Rat) : gapQ c b (ngP w) t = gapQ b c w t := by
  have e : wid c b (ngP w) = wid b c w := by
    unfold wid
    rw [ngP_ngP, Int.add_comm]
  unfold gapQ
  rw [e]
  unfold ofx ofy ngP
  simp only
  rw [Rat.intCast_neg, Rat.intCast_neg]
  grind
theorem rtQ_sym (b c : Bw) (w : Pt) : rtQ c b (ngP w) = rtQ b c w := by
  unfold rtQ ngP
  simp only
  rw [Rat.intCast_neg, Rat.intCast_neg]
  grind
theorem wid_bd {b c : Bw} {w : Pt} {k : Nat} (hb : ShOk b.cs) (hc : ShOk c.cs) (hw : WyS k w) : Bd (k + 24) (wid b c w) := (mx_bd hw hb).add (mx_bd (ng_wys hw) hc)
def a_p_offset : ASp := fun ds n Q => ∃ (b c : Bw) (t : Rat) (kp ks kt : Nat), ds = [b.d, c.d, sh t] ∧ Two kp ks b c ∧ BdQ kt t ∧ kp + ks + kt ≤ 8000 ∧ Q (spt (ofx b c t) (ofy b c t)) n
theorem ok_p_offset (T : Tx K mg A) : FnOk P w K mg base CX0 8 A.f_p_offset A.fd_p_offset ["one", "other", "after"] (spOf K 3 a_p_offset) := by
  refine fn_mir [] 3 rfl (by decide) (by decide) T.F_p_offset sc_p_offset fun cdv Ar outer s H E hr => ?_
  refine ⟨_, _, (pss_one (ps_ret (pe_call (ok_p_spot_plus (P := P) (K := K) T) (hr.mono (by decide)) (by rfl) T.g_p_spot_plus T.F_p_spot_plus.kp T.b_p_spot_plus .nil pass0 (pa_cons (pe_call (ok_p_place_apart (P := P) (K := K) T) (hr.mono (by decide)) (by rfl) T.g_p_place_apart T.F_p_place_apart.kp T.b_p_place_apart .nil pass0 (pa_cons (pv 0) (pa_cons (pv 1) pa_nil))) (pa_cons (pe_call (ok_p_spot_times (P := P) (K := K) T) (hr.mono (by decide)) (by rfl) T.g_p_spot_times T.F_p_spot_times.kp T.b_p_spot_times .nil pass0 (pa_cons (pe_call (ok_p_speed_apart (P := P) (K := K) T) (hr.mono (by decide)) (by rfl) T.g_p_speed_apart T.F_p_speed_apart.kp T.b_p_speed_apart .nil pass0 (pa_cons (pv 0) (pa_cons (pv 1) pa_nil))) (pa_cons (pv 2) pa_nil))) pa_nil))))), by infer_instance, fun ds n Q hl hA => ?_⟩
  obtain ⟨b, c, t, kp, ks, kt, rfl, h, ht, hl, q⟩ := hA
  refine ⟨b, c, kp, ks, rfl, h, b, c, kp, ks, rfl, h, ?_⟩
  refine ⟨_, _, t, ks, ks, kt, kt, rfl, h.vx, h.vy, ht, by omega, by omega, by omega, by omega, ?_⟩
  exact ⟨_, _, _, _, kp, kp, ks + kt, ks + kt, rfl, h.px, h.py, h.vx.mul ht, h.vy.mul ht, by omega, by omega, by omega, by omega, q⟩
theorem Two.off {b c : Bw} {t : Rat} {kp ks kt : Nat} (h : Two kp ks b c) (ht : BdQ kt t) : Bq (kp + ks + kt + 1) (kp + ks + kt) (ofx b c t) ∧ Bq (kp + ks + kt + 1) (kp + ks + kt) (ofy b c t) :=
  ⟨(h.px.q.add (h.vx.mul ht).q (s := kp + ks + kt) (by omega) (by omega)).le (Nat.le_refl _) (by omega), (h.py.q.add (h.vy.mul ht).q (s := kp + ks + kt) (by omega) (by omega)).le (Nat.le_refl _) (by omega)⟩
theorem Two.gap {b c : Bw} {w : Pt} {t : Rat} {kp ks kt kw : Nat} (h : Two kp ks b c) (hw : WyS kw w) (ht : BdQ kt t) : Bq (2 * (kp + ks + kt) + kw + 3) (2 * (kp + ks + kt) + 2) ((w.1 : Rat) * ofx b c t + (w.2 : Rat) * ofy b c t) ∧ Bq (2 * (kp + ks + kt) + kw + 28) (2 * (kp + ks + kt) + 3) (gapQ b c w t) := by
  obtain ⟨h1, h2⟩ := h.off ht
  have g1 := ((bq_int hw.1).mul h1).add ((bq_int hw.2).mul h2) (s := 2 * (kp + ks + kt) + kw + 2) (by omega) (by omega)
  have g1' : Bq (2 * (kp + ks + kt) + kw + 3) (2 * (kp + ks + kt) + 2) ((w.1 : Rat) * ofx b c t + (w.2 : Rat) * ofy b c t) := g1.le (by omega) (by omega)
  have g2 : Bq (kw + 24) 1 ((wid b c w : Int) : Rat) := bq_int (wid_bd h.sb h.sc hw)
  exact ⟨g1', (g1'.sub g2 (s := 2 * (kp + ks + kt) + kw + 27) (by omega) (by omega)).le (by omega) (by omega)⟩
def a_p_gap : ASp := fun ds n Q => ∃ (b c : Bw) (w : Pt) (t : Rat) (kp ks kt kw : Nat), ds = [b.d, c.d, pt w, sh t] ∧ Two kp ks b c ∧ WyS kw w ∧ BdQ kt t ∧ kp + ks + kt ≤ 8000 ∧ kw ≤ 8000 ∧ Q (sh (gapQ b c w t)) n
theorem ok_p_gap (T : Tx K mg A) : FnOk P w K mg base CX0 9 A.f_p_gap A.fd_p_gap ["one", "other", "way", "after"] (spOf K 4 a_p_gap) := by
  refine fn_mirD [] 4 rfl (by decide) (by decide) T.F_p_gap sc_p_gap fun cdv Ar outer s H E hr => ?_
  refine ⟨_, _, (pss_one (ps_ret (pe_call (ok_p_minus (P := P) (K := K) T) (hr.mono (by decide)) (by rfl) T.g_p_minus T.F_p_minus.kp T.b_p_minus .nil pass0 (pa_cons (pe_call (ok_p_along (P := P) (K := K) T) (hr.mono (by decide)) (by rfl) T.g_p_along T.F_p_along.kp T.b_p_along .nil pass0 (pa_cons (pv 2) (pa_cons (pe_call (ok_p_offset (P := P) (K := K) T) (hr.mono (by decide)) (by rfl) T.g_p_offset T.F_p_offset.kp T.b_p_offset .nil pass0 (pa_cons (pv 0) (pa_cons (pv 1) (pa_cons (pv 3) pa_nil)))) pa_nil))) (pa_cons (pe_tup (pa_cons (pe_call (ok_p_width (P := P) (K := K) T) (hr.mono (by decide)) (by rfl) T.g_p_width T.F_p_width.kp T.b_p_width .nil pass0 (pa_cons (pv 0) (pa_cons (pv 1) (pa_cons (pv 2) pa_nil)))) (pa_cons pe_int pa_nil))) pa_nil))))), by infer_instance, fun ds n Q hl hA => ?_⟩
  obtain ⟨b, c, w, t, kp, ks, kt, kw, rfl, h, hw, ht, hl, hkw, q⟩ := hA
  obtain ⟨h1, h2⟩ := h.off ht
  obtain ⟨g1, g2⟩ := h.gap hw ht
  refine ⟨b, c, t, kp, ks, kt, rfl, h, ht, hl, ?_⟩
  refine ⟨w.1, w.2, _, _, kp + ks + kt + 1, kp + ks + kt, kw, rfl, hw.1, hw.2, h1, h2, by omega, by omega, ?_⟩
  refine ⟨b, c, w, rfl, h.sb, h.sc, ⟨hw.1.le hkw, hw.2.le hkw⟩, ?_⟩
  exact ⟨_, ((wid b c w : Int) : Rat), _, _, kw + 24, 1, rfl, g1, bq_int (wid_bd h.sb h.sc hw), by omega, by omega, by omega, by omega, .inr (by decide), q⟩

/-! ### over one bottom; courses -/
def topI (B : Int) (x : Rat) : Int := x.num * (B / (x.den : Int))
theorem topI_val {B : Int} {x : Rat} (h : (x.den : Int) ∣ B) : ((topI B x : Int) : Rat) = x * (B : Rat) := by
  obtain ⟨c, rfl⟩ := h
  have hd := den_pos x
  unfold topI
  rw [Int.mul_ediv_cancel_left _ (by omega)]
  have e : x = (x.num : Rat) / ((x.den : Int) : Rat) := by
    rw [← Rat.divInt_eq_div]
    exact (Rat.num_divInt_den x).symm
  have h0 : ((x.den : Int) : Rat) ≠ 0 := fun z => by
    have : ((x.den : Int) : Rat) = ((0 : Int) : Rat) := z
    have := Rat.intCast_inj.mp this
    omega
  have e2 : (((x.num * c : Int)) : Rat) = (x.num : Rat) * (c : Rat) := Rat.intCast_mul _ _
  have e3 : ((((x.den : Int) * c : Int)) : Rat) = ((x.den : Int) : Rat) * (c : Rat) := Rat.intCast_mul _ _
  rw [e2, e3]
  generalize hD : ((x.den : Int) : Rat) = D at *
  generalize hN : (x.num : Rat) = N at *
  generalize (c : Rat) = C at *
  rw [e]
  grind
def zsD (zs : List (Nat × Rat)) : List D := zs.map fun z => sh z.2
theorem lcm_ok {B d : Int} (hB : 0 < B) (hd : 0 < d) : 0 < B / gcdI B d * d ∧ d ∣ B / gcdI B d * d ∧ B ∣ B / gcdI B d * d ∧ (B / gcdI B d).natAbs ≤ B.natAbs := by
  have g0 : 0 < gcdI B d := gcdI_pos (by omega)
  have h1 : 0 < B / gcdI B d := Int.ediv_pos_of_pos_of_dvd hB (by omega) (gcdI_dvd_l _ _)
  refine ⟨Int.mul_pos h1 hd, Int.dvd_mul_left _ _, ?_, div_natAbs_le g0 (gcdI_dvd_l _ _)⟩
  obtain ⟨y, hy⟩ := gcdI_dvd_r B d
  refine ⟨y, ?_⟩
  have hx := Int.ediv_mul_cancel (gcdI_dvd_l B d)
  generalize hg : gcdI B d = g at *
  generalize hq : B / g = q at *
  rw [← hx, hy]
  grind
def a_p_on_one_bottom : ASp := fun ds n Q => ∃ (zs : List (Nat × Rat)) (d : D) (m : Nat), ds = [d] ∧ (d = .tup (zsD zs) ∨ d = .lst (zsD zs)) ∧ (∀ z ∈ zs, Bd z.1 (z.2.den : Int) ∧ z.1 ≤ 8900 ∧ Bd m z.2.num) ∧ m ≤ 100000 ∧ zs.length ≤ 1000 ∧ (zs.map Prod.fst).sum ≤ 50000 ∧
  ∀ B : Int, 0 < B → (∀ z ∈ zs, (z.2.den : Int) ∣ B) → Bd ((zs.map Prod.fst).sum + 1) B → Q (.tup [.lst (zs.map fun z => .int (topI B z.2)), .int B]) n
theorem ok_p_on_one_bottom (T : Tx K mg A) : FnOk P w K mg base CX0 4 A.f_p_on_one_bottom A.fd_p_on_one_bottom ["shares"] (spOf K 1 a_p_on_one_bottom) := by
  refine fn_mir [] 4 rfl (by decide) (by decide) T.F_p_on_one_bottom sc_p_on_one_bottom fun cdv Ar outer s H E hr => ?_
  refine ⟨_, _, (pss_cons (ps_set (i := 1) sc_p_on_one_bottom.nd rfl (.inr rfl) pe_int)
    (pss_cons (ps_for PassesOwn.never rfl (k_iter (K := K) rfl (pv 0)) (k_gtup (K := K) (m := 2) rfl rfl (pgs_cons (pg_name (i := 2) sc_p_on_one_bottom.nd rfl (.inl rfl)) (pgs_cons (pg_name (i := 3) sc_p_on_one_bottom.nd rfl (.inl rfl)) pgs_nil)))
      (pss_one (ps_set (i := 1) sc_p_on_one_bottom.nd rfl (.inr rfl) (pe_op k_mul (pe_op k_fdiv (pv 1) (pe_call (ok_p_common_divisor (P := P) (K := K) T) (hr.mono (by decide)) (by rfl) T.g_p_common_divisor T.F_p_common_divisor.kp T.b_p_common_divisor .nil pass0 (pa_cons (pv 1) (pa_cons (pv 3) pa_nil)))) (pv 3)))))
    (pss_one (ps_ret (pe_tup (pa_cons (pe_lc (own := [("top", 2), ("bottom", 3)]) rfl sc_p_on_one_bottom.nd (k_iter (K := K) rfl (pv 0)) (blkOk_by (own := [("top", 2), ("bottom", 3)]) (N := ["shares", "base", "top", "bottom"]) (sc := defScope s_p_on_one_bottom) (by decide +kernel)) (fun _ _ _ _ _ => (k_gtup (K := K) (m := 2) rfl rfl (pgs_cons (pg_name (i := 2) sc_p_on_one_bottom.nd rfl (Or.inl rfl)) (pgs_cons (pg_name (i := 3) sc_p_on_one_bottom.nd rfl (Or.inl rfl)) pgs_nil)))) (fun _ _ _ _ _ => pts_nil) (fun _ _ _ _ _ => (pe_op k_mul (pv 2) (pe_op k_fdiv (pv 1) (pv 3))))) (pa_cons (pv 1) pa_nil))))))), by infer_instance, fun ds n Q hl hA => ?_⟩
  obtain ⟨zs, d, km, rfl, hd, hz, hkm, hl, hsum, q⟩ := hA
  have hzl : (zsD zs).length = zs.length := List.length_map _
  rcases hd with rfl | rfl
  all_goals
    refine aFor_ind (fun ds ρ m => m = n ∧ ∃ (us vs : List (Nat × Rat)) (B : Int) (d0 y2 y3 : Option D), zs = us ++ vs ∧ ds = zsD vs ∧ ρ = [d0, some (.int B), y2, y3] ∧ (d0 = some (.tup (zsD zs)) ∨ d0 = some (.lst (zsD zs))) ∧ 0 < B ∧ (∀ z ∈ us, (z.2.den : Int) ∣ B) ∧ Bd ((us.map Prod.fst).sum + 1) B) ?_ ?_ ⟨rfl, [], zs, 1, _, none, none, rfl, rfl, rfl, (by first | exact .inl rfl | exact .inr rfl), by decide, (fun z h => by cases h), by unfold Bd; decide⟩
    · rintro d r _ m ⟨rfl, us, vs, B, d0, y2, y3, e0, e, rfl, hd0, hB, hdv, bB⟩ ih
      cases vs with
      | nil => cases e
      | cons v vs =>
      obtain ⟨rfl, rfl⟩ := List.cons.inj e
      obtain ⟨bv, v8, bn⟩ := hz v (by rw [e0]; exact List.mem_append_right _ List.mem_cons_self)
      have hs2 : (us.map Prod.fst).sum + (v.1 + (vs.map Prod.fst).sum) ≤ 50000 := by
        rw [e0, List.map_append, List.sum_append, List.map_cons, List.sum_cons] at hsum
        exact hsum
      have dp := den_pos v.2
      obtain ⟨l1, l2, l3, l4⟩ := lcm_ok hB dp
      have bg := gcdI_bd (a := B) bv (by omega)
      have g0 := gcdI_pos (a := B) (b := (v.2.den : Int)) (by omega)
      refine ⟨B, (v.2.den : Int), rfl, bB.le (by omega), bv.le (by omega), divA bg g0 (by omega), mulA (bB.of_le l4) bv (by omega) (by omega), ?_⟩
      refine ih _ _ ⟨rfl, us ++ [v], vs, _, d0, _, _, by rw [e0]; simp, rfl, rfl, hd0, l1, fun z hz' => ?_, ?_⟩
      · rcases List.mem_append.mp hz' with h | h
        · exact Int.dvd_trans (hdv z h) l3
        · rw [List.mem_singleton.mp h]
          exact l2
      · rw [List.map_append, List.sum_append, List.map_cons, List.map_nil, List.sum_cons, List.sum_nil]
        exact ((bB.of_le l4).mul bv).le (by omega)
    · rintro _ m ⟨rfl, us, vs, B, d0, y2, y3, e0, e, rfl, hd0, hB, hdv, bB⟩
      cases vs with
      | cons v vs => cases e
      | nil =>
      rw [List.append_nil] at e0
      subst e0
      have fin : aLcGo [2, 3] (aGTup 2 (aGCons (aName 2) (aGCons (aName 3) aGNil))) aYes (a2 (aInt2 CMulA fun i j => V.int (i * j)) (aVar 2) (a2 (aInt2 CDivA fun i j => V.int (i / j)) (aVar 1) (aVar 3))) [d0, some (.int B), none, none] (fun d n1 => Q (.tup [d, .int B]) n1) [] (zsD zs) m := by
        refine aLc_ind (fun acc ds k => k = m ∧ ∃ us vs : List (Nat × Rat), zs = us ++ vs ∧ ds = zsD vs ∧ acc = us.map fun z => .int (topI B z.2)) ?_ ?_ ⟨rfl, [], zs, rfl, rfl, rfl⟩
        · rintro acc d r k ⟨rfl, us, vs, e0, e, rfl⟩ ih
          cases vs with
          | nil => cases e
          | cons v vs =>
          obtain ⟨rfl, rfl⟩ := List.cons.inj e
          have hv : v ∈ zs := by rw [e0]; exact List.mem_append_right _ List.mem_cons_self
          obtain ⟨bv, v8, bn⟩ := hz v hv
          have dp := den_pos v.2
          refine aT ⟨divA bv dp (by omega), mulA bn (bB.of_le (div_natAbs_le dp (hdv v hv))) (by omega) (by omega), ih _ _ ⟨rfl, us ++ [v], vs, by rw [e0]; simp, rfl, by rw [List.map_append]; rfl⟩⟩
        · rintro acc k ⟨rfl, us, vs, e0, e, rfl⟩
          cases vs with
          | cons v vs => cases e
          | nil =>
          rw [List.append_nil] at e0
          subst e0
          exact q B hB hdv bB
      rcases hd0 with rfl | rfl
      · exact ⟨by omega, fin⟩
      · exact ⟨by omega, fin⟩
/-- the courses of two rows: rs the ways, B times the gaps and the rates -/
structure CoOk (b c : Bw) (k : Nat) (rs : List Pt) (B : Rat) (fS fL : Pt → Int) : Prop where
  pw : PwOk (waysOf b.cs) (waysOf c.cs) rs
  len : rs.length ≤ 32
  pos : 0 < B
  st : ∀ w, (fS w : Rat) = B * gapQ b c w 0
  sl : ∀ w, (fL w : Rat) = B * rtQ b c w
  bd : ∀ w ∈ rs, WyS 23 w ∧ Bd k (fS w) ∧ Bd k (fL w)
def cD (fS fL : Pt → Int) (w : Pt) : D := .tup [pt w, .int (fS w), .int (fL w)]
theorem PwOk.wys {b c : Bw} {rs : List Pt} (h : PwOk (waysOf b.cs) (waysOf c.cs) rs) (hb : ShOk b.cs) (hc : ShOk c.cs) : ∀ w ∈ rs, WyS 23 w := h.sub (ways_wys hb) fun w hw => ng_wys (ways_wys hc w hw)
def a_p_courses : ASp := fun ds n Q => ∃ (b c : Bw) (kp ks : Nat), ds = [b.d, c.d] ∧ Two kp ks b c ∧ ∀ rs B fS fL, CoOk b c (3 * (kp + ks) + 60) rs B fS fL → Q (.lst (rs.map (cD fS fL))) n
theorem ok_p_courses (T : Tx K mg A) : FnOk P w K mg base CX0 8 A.f_p_courses A.fd_p_courses ["one", "other"] (spOf K 2 a_p_courses) := by
  refine fn_mir [7] 11 rfl (by decide) (by decide) T.F_p_courses sc_p_courses fun cdv Ar outer s H E hr => ?_
  refine ⟨_, _, (pss_cons (ps_asg (pe_call (ok_p_on_one_bottom (P := P) (K := K) T) (hr.mono (by decide)) (by rfl) T.g_p_on_one_bottom T.F_p_on_one_bottom.kp T.b_p_on_one_bottom .nil pass0 (pa_cons (pe_op (k_add (K := K) rfl) (pe_call (ok_p_place_apart (P := P) (K := K) T) (hr.mono (by decide)) (by rfl) T.g_p_place_apart T.F_p_place_apart.kp T.b_p_place_apart .nil pass0 (pa_cons (pv 0) (pa_cons (pv 1) pa_nil))) (pe_call (ok_p_speed_apart (P := P) (K := K) T) (hr.mono (by decide)) (by rfl) T.g_p_speed_apart T.F_p_speed_apart.kp T.b_p_speed_apart .nil pass0 (pa_cons (pv 0) (pa_cons (pv 1) pa_nil)))) pa_nil)) (k_gtup (K := K) (m := 2) rfl rfl (pgs_cons (k_gtup (K := K) (m := 4) rfl rfl (pgs_cons (pg_name (i := 2) sc_p_courses.nd rfl (.inl rfl)) (pgs_cons (pg_name (i := 3) sc_p_courses.nd rfl (.inl rfl)) (pgs_cons (pg_name (i := 4) sc_p_courses.nd rfl (.inl rfl)) (pgs_cons (pg_name (i := 5) sc_p_courses.nd rfl (.inl rfl)) pgs_nil))))) (pgs_cons (pg_name (i := 6) sc_p_courses.nd rfl (.inl rfl)) pgs_nil))))
    (pss_cons (k_own (ps_set (i := 7) sc_p_courses.nd rfl (.inl rfl) (pe_lst pa_nil)))
    (pss_cons (ps_for PassesOwn.never rfl (k_iter (K := K) rfl (pe_call (ok_p_pair_ways (P := P) (K := K) T) (hr.mono (by decide)) (by rfl) T.g_p_pair_ways T.F_p_pair_ways.kp T.b_p_pair_ways .nil pass0 (pa_cons (pv 0) (pa_cons (pv 1) pa_nil)))) (pg_name (i := 8) sc_p_courses.nd rfl (.inl rfl))
      (pss_cons (ps_asg (pv 8) (k_gtup (K := K) (m := 2) rfl rfl (pgs_cons (pg_name (i := 9) sc_p_courses.nd rfl (.inl rfl)) (pgs_cons (pg_name (i := 10) sc_p_courses.nd rfl (.inl rfl)) pgs_nil))))
    (pss_one (k_app (K := K) rfl (ps_expr (pe_bm PySem.F.plainAttrs_list PySem.F.slot_list_append PySem.F.type_list_append mt_append (pv 7) (pa_cons (pe_tup (pa_cons (pv 8) (pa_cons (pe_op op_sub (pe_op (k_add (K := K) rfl) (pe_op k_mul (pv 9) (pv 2)) (pe_op k_mul (pv 10) (pv 3))) (pe_op k_mul (pe_call (ok_p_width (P := P) (K := K) T) (hr.mono (by decide)) (by rfl) T.g_p_width T.F_p_width.kp T.b_p_width .nil pass0 (pa_cons (pv 0) (pa_cons (pv 1) (pa_cons (pv 8) pa_nil)))) (pv 6))) (pa_cons (pe_op (k_add (K := K) rfl) (pe_op k_mul (pv 9) (pv 4)) (pe_op k_mul (pv 10) (pv 5))) pa_nil)))) pa_nil)))))))
    (pss_one (ps_ret (pv 7)))))), by infer_instance, fun ds n Q hl hA => ?_⟩
  obtain ⟨b, c, kp, ks, rfl, h, q⟩ := hA
  have hlim := h.lim
  refine ⟨b, c, kp, ks, rfl, h, b, c, kp, ks, rfl, h, ?_⟩
  refine ⟨(fun z => nomatch z), (show 2 + 2 ≤ 1000000 by decide), ?_⟩
  have hz : ∀ z ∈ [(kp, c.px - b.px), (kp, c.py - b.py), (ks, c.x - b.x), (ks, c.y - b.y)], Bd z.1 (z.2.den : Int) ∧ z.1 ≤ 8900 ∧ Bd (kp + ks) z.2.num := fun z hz => by
    simp only [List.mem_cons, List.not_mem_nil, or_false] at hz
    rcases hz with rfl | rfl | rfl | rfl
    · exact ⟨h.px.2, by omega, h.px.1.le (by omega)⟩
    · exact ⟨h.py.2, by omega, h.py.1.le (by omega)⟩
    · exact ⟨h.vx.2, by omega, h.vx.1.le (by omega)⟩
    · exact ⟨h.vy.2, by omega, h.vy.1.le (by omega)⟩
  refine ⟨[(kp, c.px - b.px), (kp, c.py - b.py), (ks, c.x - b.x), (ks, c.y - b.y)], _, kp + ks, rfl, .inl rfl, hz, by omega, (show 4 ≤ 1000 by decide), (by simp; omega), fun B hB hdv bB => ?_⟩
  have bB' : Bd (2 * (kp + ks) + 1) B := bB.le (by simp; omega)
  have dv : ∀ z ∈ [(kp, c.px - b.px), (kp, c.py - b.py), (ks, c.x - b.x), (ks, c.y - b.y)], ((topI B z.2 : Int) : Rat) = z.2 * (B : Rat) ∧ Bd (3 * (kp + ks) + 1) (topI B z.2) := fun z hz' => by
    refine ⟨topI_val (hdv z hz'), ?_⟩
    exact ((hz z hz').2.2.mul (bB'.of_le (div_natAbs_le (den_pos z.2) (hdv z hz')))).le (by omega)
  obtain ⟨x1, x2⟩ := dv (kp, c.px - b.px) (by simp)
  obtain ⟨y1, y2⟩ := dv (kp, c.py - b.py) (by simp)
  obtain ⟨u1, u2⟩ := dv (ks, c.x - b.x) (by simp)
  obtain ⟨v1, v2⟩ := dv (ks, c.y - b.y) (by simp)
  obtain ⟨X, hX⟩ : ∃ X, topI B (c.px - b.px) = X := ⟨_, rfl⟩
  obtain ⟨Y, hY⟩ : ∃ Y, topI B (c.py - b.py) = Y := ⟨_, rfl⟩
  obtain ⟨U, hU⟩ : ∃ U, topI B (c.x - b.x) = U := ⟨_, rfl⟩
  obtain ⟨V, hV⟩ : ∃ V, topI B (c.y - b.y) = V := ⟨_, rfl⟩
  simp only [List.map_cons, List.map_nil, hX, hY, hU, hV] at x1 x2 y1 y2 u1 u2 v1 v2 ⊢
  refine ⟨b, c, rfl, h.sb, h.sc, fun rs hl hpw => ?_⟩
  have hco : CoOk b c (3 * (kp + ks) + 60) rs (B : Rat) (fun w => w.1 * X + w.2 * Y - wid b c w * B) (fun w => w.1 * U + w.2 * V) := by
    refine ⟨hpw, hl, ?_, fun w => ?_, fun w => ?_, fun w hw => ?_⟩
    · have : ((0 : Int) : Rat) < (B : Rat) := Rat.intCast_lt_intCast.mpr hB
      exact this
    · show ((w.1 * X + w.2 * Y - wid b c w * B : Int) : Rat) = _
      rw [Rat.intCast_sub, Rat.intCast_add, Rat.intCast_mul, Rat.intCast_mul, Rat.intCast_mul, x1, y1]
      unfold gapQ ofx ofy
      grind
    · show ((w.1 * U + w.2 * V : Int) : Rat) = _
      rw [Rat.intCast_add, Rat.intCast_mul, Rat.intCast_mul, u1, v1]
      unfold rtQ
      grind
    · have hw23 := hpw.wys h.sb h.sc w hw
      have bw := wid_bd h.sb h.sc hw23
      refine ⟨hw23, ?_, ?_⟩
      · have e1 : Bd (3 * (kp + ks) + 26) (w.1 * X + w.2 * Y) := (((hw23.1.mul x2).le (show _ ≤ 3 * (kp + ks) + 25 by omega)).add ((hw23.2.mul y2).le (by omega)))
        have e2 : Bd (3 * (kp + ks) + 59) (-(wid b c w * B)) := (bw.mul bB').neg.le (by omega)
        have := (e1.le (show _ ≤ 3 * (kp + ks) + 59 by omega)).add e2
        exact this
      · exact (((hw23.1.mul u2).le (show _ ≤ 3 * (kp + ks) + 25 by omega)).add ((hw23.2.mul v2).le (by omega))).le (by omega)
  refine aFor_ind (fun ds ρ m => m = n ∧ ∃ (us vs : List Pt) (y8 y9 y10 : Option D), rs = us ++ vs ∧ ds = vs.map pt ∧ ρ = [some b.d, some c.d, some (.int X), some (.int Y), some (.int U), some (.int V), some (.int B), some (.lst (us.map (cD (fun w => w.1 * X + w.2 * Y - wid b c w * B) (fun w => w.1 * U + w.2 * V)))), y8, y9, y10]) ?_ ?_ ⟨rfl, [], rs, none, none, none, rfl, rfl, rfl⟩
  · rintro d r _ m ⟨rfl, us, vs, y8, y9, y10, e0, e, rfl⟩ ih
    cases vs with
    | nil => cases e
    | cons v vs =>
    obtain ⟨rfl, rfl⟩ := List.cons.inj e
    have hv : v ∈ rs := by rw [e0]; exact List.mem_append_right _ List.mem_cons_self
    have hw23 := hpw.wys h.sb h.sc v hv
    have bw := wid_bd h.sb h.sc hw23
    have hul : us.length ≤ 32 := by
      rw [e0, List.length_append] at hl
      omega
    refine ⟨mulA hw23.1 x2 (by omega) (by omega), mulA hw23.2 y2 (by omega) (by omega), b, c, v, rfl, h.sb, h.sc, ⟨hw23.1.le (by decide), hw23.2.le (by decide)⟩, ?_⟩
    refine ⟨mulA bw bB' (by omega) (by omega), mulA hw23.1 u2 (by omega) (by omega), mulA hw23.2 v2 (by omega) (by omega), ?_⟩
    refine ⟨by rw [List.length_map]; omega, ih _ _ ⟨rfl, us ++ [v], vs, _, _, _, by rw [e0]; simp, rfl, by rw [List.map_append]; rfl⟩⟩
  · rintro _ m ⟨rfl, us, vs, y8, y9, y10, e0, e, rfl⟩
    cases vs with
    | cons v vs => cases e
    | nil =>
    rw [List.append_nil] at e0
    subst e0
    exact q rs (B : Rat) _ _ hco

/-! ### when two bodies meet -/
theorem rat_pos_iff {B x : Rat} (h : 0 < B) : 0 < B * x ↔ 0 < x := by
  constructor
  · intro h1
    rcases Rat.le_total (a := x) (b := 0) with z | z
    · have h2 : B * x ≤ B * 0 := Rat.mul_le_mul_of_nonneg_left z (Rat.le_of_lt h)
      rw [Rat.mul_zero] at h2
      exact absurd h1 (Rat.not_lt.mpr h2)
    · refine Rat.lt_of_le_of_ne z fun e => ?_
      rw [← e, Rat.mul_zero] at h1
      exact absurd h1 (by decide)
  · intro h1
    exact Rat.mul_pos h h1
theorem rat_neg_iff {B x : Rat} (h : 0 < B) : B * x < 0 ↔ x < 0 := by
  have := rat_pos_iff (x := -x) h
  have e : B * -x = -(B * x) := by grind
  rw [e] at this
  constructor
  · intro h1
    have : 0 < -x := this.mp (by grind)
    grind
  · intro h1
    have : 0 < -(B * x) := this.mpr (by grind)
    grind
theorem rat_nn_iff {B x : Rat} (h : 0 < B) : 0 ≤ B * x ↔ 0 ≤ x := by
  have := rat_neg_iff (x := x) h
  constructor
  · intro h1
    exact Rat.not_lt.mp fun z => absurd h1 (Rat.not_le.mpr (this.mpr z))
  · intro h1
    exact Rat.not_lt.mp fun z => absurd h1 (Rat.not_le.mpr (this.mp z))
theorem cast_lt0 {a : Int} : ((a : Int) : Rat) < 0 ↔ a < 0 := Rat.intCast_lt_intCast (b := 0)
theorem cast_nn {a : Int} : (0 : Rat) ≤ ((a : Int) : Rat) ↔ 0 ≤ a := Rat.intCast_le_intCast (a := 0)
section
variable {b c : Bw} {k : Nat} {rs : List Pt} {B : Rat} {fS fL : Pt → Int}
theorem CoOk.sneg (h : CoOk b c k rs B fS fL) (w : Pt) : fS w < 0 ↔ gapQ b c w 0 < 0 := by
  rw [← cast_lt0, h.st, rat_neg_iff h.pos]
theorem CoOk.snn (h : CoOk b c k rs B fS fL) (w : Pt) : 0 ≤ fS w ↔ 0 ≤ gapQ b c w 0 := by
  rw [← cast_nn, h.st, rat_nn_iff h.pos]
theorem CoOk.lneg (h : CoOk b c k rs B fS fL) (w : Pt) : fL w < 0 ↔ rtQ b c w < 0 := by
  rw [← cast_lt0, h.sl, rat_neg_iff h.pos]
theorem CoOk.lnn (h : CoOk b c k rs B fS fL) (w : Pt) : 0 ≤ fL w ↔ 0 ≤ rtQ b c w := by
  rw [← cast_nn, h.sl, rat_nn_iff h.pos]
end
/-- when a falling gap is nought -/
def tmQ (b c : Bw) (w : Pt) : Rat := -(gapQ b c w 0) / rtQ b c w
theorem tmQ_zero {b c : Bw} {w : Pt} (h : rtQ b c w ≠ 0) : gapQ b c w (tmQ b c w) = 0 := by
  rw [gapQ_lin]
  unfold tmQ
  grind
theorem CoOk.time {b c : Bw} {k : Nat} {rs : List Pt} {B : Rat} {fS fL : Pt → Int} (h : CoOk b c k rs B fS fL) {w : Pt} (hl : fL w ≠ 0) : Rat.divInt (-(fS w)) (fL w) = tmQ b c w := by
  rw [Rat.divInt_eq_div, Rat.intCast_neg, h.st, h.sl]
  unfold tmQ
  have hB : B ≠ 0 := fun z => by have := h.pos; rw [z] at this; exact absurd this (by decide)
  have hr : rtQ b c w ≠ 0 := fun z => hl (by
    have := h.sl w
    rw [z, Rat.mul_zero] at this
    exact Rat.intCast_inj.mp this)
  generalize gapQ b c w 0 = g at *
  generalize rtQ b c w = r at *
  grind
/-- the two meet along w at t -/
structure Meets (b c : Bw) (rs : List Pt) (w : Pt) (t : Rat) : Prop where
  mem : w ∈ rs
  nn : 0 ≤ gapQ b c w 0
  fall : rtQ b c w < 0
  zero : gapQ b c w t = 0
  all : ∀ v ∈ rs, gapQ b c v t < 0 ∨ (gapQ b c v t = 0 ∧ rtQ b c v < 0)
def a_p_height : ASp := fun ds n Q => ∃ (w : Pt) (s l : Int) (t : Rat) (k m : Nat), ds = [.tup [pt w, .int s, .int l], sh t] ∧ Bd k s ∧ Bd k l ∧ BdQ m t ∧ k ≤ 60000 ∧ m ≤ 60000 ∧ Q (.int (s * (t.den : Int) + l * t.num)) n
theorem ok_p_height (T : Tx K mg A) : FnOk P w K mg base CX0 1 A.f_p_height A.fd_p_height ["course", "time"] (spOf K 2 a_p_height) := by
  refine fn_mir [] 5 rfl (by decide) (by decide) T.F_p_height sc_p_height fun cdv Ar outer s H E hr => ?_
  refine ⟨_, _, (pss_cons (ps_asg (pv 0) (k_gtup (K := K) (m := 3) rfl rfl (pgs_cons (pg_name (i := 2) sc_p_height.nd rfl (.inl rfl)) (pgs_cons (pg_name (i := 3) sc_p_height.nd rfl (.inl rfl)) (pgs_cons (pg_name (i := 4) sc_p_height.nd rfl (.inl rfl)) pgs_nil)))))
    (pss_one (ps_ret (pe_op (k_add (K := K) rfl) (pe_op k_mul (pv 3) (pe_ix (k_ix (K := K) rfl) (pv 1) pe_int (fun _ _ => rfl))) (pe_op k_mul (pv 4) (pe_ix (k_ix (K := K) rfl) (pv 1) pe_int (fun _ _ => rfl))))))), by infer_instance, fun ds n Q hl hA => ?_⟩
  obtain ⟨w, s, l, t, k, m, rfl, bs, bl, bt, hk, hm, q⟩ := hA
  exact ⟨mulA bs bt.2 (by omega) (by omega), mulA bl bt.1 (by omega) (by omega), q⟩
theorem CoOk.high {b c : Bw} {k : Nat} {rs : List Pt} {B : Rat} {fS fL : Pt → Int} (h : CoOk b c k rs B fS fL) (w : Pt) (t : Rat) : 0 ≤ fS w * (t.den : Int) + fL w * t.num ↔ 0 ≤ gapQ b c w t := by
  rw [← cast_nn, Rat.intCast_add, Rat.intCast_mul, Rat.intCast_mul, h.st, h.sl, gapQ_lin b c w t]
  have hd : (0 : Rat) < ((t.den : Int) : Rat) := (Rat.intCast_lt_intCast (a := 0)).mpr (den_pos t)
  have et : ((t.num : Int) : Rat) = t * ((t.den : Int) : Rat) := by
    have e : t = (t.num : Rat) / ((t.den : Int) : Rat) := by
      rw [← Rat.divInt_eq_div]
      exact (Rat.num_divInt_den t).symm
    generalize ((t.den : Int) : Rat) = D at *
    generalize (t.num : Rat) = N at *
    rw [e]
    grind
  rw [et]
  generalize ((t.den : Int) : Rat) = D at *
  generalize gapQ b c w 0 = g
  generalize rtQ b c w = r
  have e : B * g * D + B * r * (t * D) = (B * D) * (g + r * t) := by grind
  rw [e]
  exact rat_nn_iff (Rat.mul_pos h.pos hd)
def a_p_time_of : ASp := fun ds n Q => ∃ (w : Pt) (s l : Int) (k : Nat), ds = [.tup [pt w, .int s, .int l]] ∧ Bd k s ∧ Bd k l ∧ l ≠ 0 ∧ k ≤ 8900 ∧ Q (sh (Rat.divInt (-s) l)) n
theorem ok_p_time_of (T : Tx K mg A) : FnOk P w K mg base CX0 5 A.f_p_time_of A.fd_p_time_of ["course"] (spOf K 1 a_p_time_of) := by
  refine fn_mir [] 4 rfl (by decide) (by decide) T.F_p_time_of sc_p_time_of fun cdv Ar outer s H E hr => ?_
  refine ⟨_, _, (pss_cons (ps_asg (pv 0) (k_gtup (K := K) (m := 3) rfl rfl (pgs_cons (pg_name (i := 1) sc_p_time_of.nd rfl (.inl rfl)) (pgs_cons (pg_name (i := 2) sc_p_time_of.nd rfl (.inl rfl)) (pgs_cons (pg_name (i := 3) sc_p_time_of.nd rfl (.inl rfl)) pgs_nil)))))
    (pss_one (ps_ret (pe_call (ok_p_share (P := P) (K := K) T) (hr.mono (by decide)) (by rfl) T.g_p_share T.F_p_share.kp T.b_p_share .nil pass0 (pa_cons (pe_un un_neg (pv 2)) (pa_cons (pv 3) pa_nil)))))), by infer_instance, fun ds n Q hl hA => ?_⟩
  obtain ⟨w, s, l, k, rfl, bs, bl, h0, hk, q⟩ := hA
  exact ⟨-s, l, k, k, rfl, bs.neg, bl, by omega, hk, h0, q⟩
def mtB (rs : List Pt) (fS fL : Pt → Int) (w : Pt) : Prop := 0 ≤ fS w ∧ fL w < 0 ∧ ∀ v ∈ rs, ¬ (fL v * fS w - fS v * fL w > 0 ∨ (fL v * fS w - fS v * fL w = 0 ∧ fL v ≥ 0))
def a_p_meets_along : ASp := fun ds n Q => ∃ (w : Pt) (rs : List Pt) (fS fL : Pt → Int) (k : Nat), ds = [cD fS fL w, .lst (rs.map (cD fS fL))] ∧ Bd k (fS w) ∧ Bd k (fL w) ∧ (∀ v ∈ rs, Bd k (fS v) ∧ Bd k (fL v)) ∧ k ≤ 60000 ∧ (mtB rs fS fL w → Q (.bl true) n) ∧ (¬ mtB rs fS fL w → Q (.bl false) n)
theorem ok_p_meets_along (T : Tx K mg A) : FnOk P w K mg base CX0 1 A.f_p_meets_along A.fd_p_meets_along ["course", "all_courses"] (spOf K 2 a_p_meets_along) := by
  refine fn_mir [] 9 rfl (by decide) (by decide) T.F_p_meets_along sc_p_meets_along fun cdv Ar outer s H E hr => ?_
  refine ⟨_, _, (pss_cons (ps_asg (pv 0) (k_gtup (K := K) (m := 3) rfl rfl (pgs_cons (pg_name (i := 2) sc_p_meets_along.nd rfl (.inl rfl)) (pgs_cons (pg_name (i := 3) sc_p_meets_along.nd rfl (.inl rfl)) (pgs_cons (pg_name (i := 4) sc_p_meets_along.nd rfl (.inl rfl)) pgs_nil)))))
    (pss_cons (ps_if (PW.pt (pw_or (pt_cmpR op_lt (pv 3) pe_int (nomark _)) (pw_or1 (pt_cmpR op_ge (pv 4) pe_int (nomark _)))))
      (pss_one (ps_ret pe_bl))
      pss_nil)
    (pss_cons (ps_for PassesOwn.never rfl (k_iter (K := K) rfl (pv 1)) (k_gtup (K := K) (m := 3) rfl rfl (pgs_cons (pg_name (i := 5) sc_p_meets_along.nd rfl (.inl rfl)) (pgs_cons (pg_name (i := 6) sc_p_meets_along.nd rfl (.inl rfl)) (pgs_cons (pg_name (i := 7) sc_p_meets_along.nd rfl (.inl rfl)) pgs_nil))))
      (pss_cons (ps_set (i := 8) sc_p_meets_along.nd rfl (.inl rfl) (pe_op op_sub (pe_op k_mul (pv 7) (pv 3)) (pe_op k_mul (pv 6) (pv 4))))
    (pss_one (ps_if (PW.pt (pw_or (pt_cmpR op_gt (pv 8) pe_int (nomark _)) (pw_or1 (PW.pt (pw_and (pt_cmpR (k_eq (K := K) rfl hr.units) (pv 8) pe_int (nomark _)) (pw_and1 (pt_cmpR op_ge (pv 7) pe_int (nomark _))))))))
      (pss_one (ps_ret pe_bl))
      pss_nil))))
    (pss_one (ps_ret pe_bl))))), by infer_instance, fun ds n Q hl hA => ?_⟩
  obtain ⟨w, rs, fS, fL, k, rfl, bs, bl, hb, hk, q1, q2⟩ := hA
  refine dIte (fun h => aT (q2 fun z => by have := z.1; omega)) fun h => ?_
  refine dIte (fun h2 => q2 fun z => by have := z.2.1; omega) fun h2 => ?_
  refine aFor_ind (fun ds ρ m => m = n ∧ ∃ (us vs : List Pt) (y5 y6 y7 y8 : Option D), rs = us ++ vs ∧ ds = vs.map (cD fS fL) ∧ ρ = [some (cD fS fL w), some (.lst (rs.map (cD fS fL))), some (pt w), some (.int (fS w)), some (.int (fL w)), y5, y6, y7, y8] ∧ ∀ v ∈ us, ¬ (fL v * fS w - fS v * fL w > 0 ∨ (fL v * fS w - fS v * fL w = 0 ∧ fL v ≥ 0))) ?_ ?_ ⟨rfl, [], rs, none, none, none, none, rfl, rfl, rfl, fun v hv => by cases hv⟩
  · rintro d r _ m ⟨rfl, us, vs, y5, y6, y7, y8, e0, e, rfl, hu⟩ ih
    cases vs with
    | nil => cases e
    | cons v vs =>
    obtain ⟨rfl, rfl⟩ := List.cons.inj e
    have hv : v ∈ rs := by rw [e0]; exact List.mem_append_right _ List.mem_cons_self
    obtain ⟨b1, b2⟩ := hb v hv
    have go : ¬ (fL v * fS w - fS v * fL w > 0 ∨ (fL v * fS w - fS v * fL w = 0 ∧ fL v ≥ 0)) → ∀ u ∈ us ++ [v], ¬ (fL u * fS w - fS u * fL w > 0 ∨ (fL u * fS w - fS u * fL w = 0 ∧ fL u ≥ 0)) := fun h3 u hu' => by
      rcases List.mem_append.mp hu' with z | z
      · exact hu u z
      · rw [List.mem_singleton.mp z]
        exact h3
    refine ⟨mulA b2 bs (by omega) (by omega), mulA b1 bl (by omega) (by omega), ?_⟩
    refine dIte (fun h3 => aT (q2 fun z => z.2.2 v hv (.inl h3))) fun h3 => dIte (fun h4 => dIte (fun h5 => q2 fun z => z.2.2 v hv (.inr ⟨h4, h5⟩)) fun h5 => ?_) fun h4 => aF ?_
    · exact ih _ _ ⟨rfl, us ++ [v], vs, _, _, _, _, by rw [e0]; simp, rfl, rfl, go (by omega)⟩
    · exact ih _ _ ⟨rfl, us ++ [v], vs, _, _, _, _, by rw [e0]; simp, rfl, rfl, go (by omega)⟩
  · rintro _ m ⟨rfl, us, vs, y5, y6, y7, y8, e0, e, rfl, hu⟩
    cases vs with
    | cons v vs => cases e
    | nil =>
    rw [List.append_nil] at e0
    subst e0
    exact q1 ⟨by omega, by omega, hu⟩
theorem CoOk.meets {b c : Bw} {k : Nat} {rs : List Pt} {B : Rat} {fS fL : Pt → Int} (h : CoOk b c k rs B fS fL) {w : Pt} (hw : w ∈ rs) : mtB rs fS fL w ↔ Meets b c rs w (tmQ b c w) := by
  have key : rtQ b c w < 0 → ∀ v, ((fL v * fS w - fS v * fL w > 0 ↔ 0 < gapQ b c v (tmQ b c w)) ∧ (fL v * fS w - fS v * fL w = 0 ↔ gapQ b c v (tmQ b c w) = 0)) := fun hr v => by
    have hr0 : rtQ b c w ≠ 0 := by grind
    have e : ((fL v * fS w - fS v * fL w : Int) : Rat) = (B * B * -rtQ b c w) * gapQ b c v (tmQ b c w) := by
      rw [Rat.intCast_sub, Rat.intCast_mul, Rat.intCast_mul, h.st, h.sl, h.st, h.sl, gapQ_lin b c v (tmQ b c w)]
      unfold tmQ
      generalize gapQ b c v 0 = g
      generalize gapQ b c w 0 = g'
      generalize rtQ b c w = r at *
      generalize rtQ b c v = r'
      grind
    have hp : 0 < B * B * -rtQ b c w := Rat.mul_pos (Rat.mul_pos h.pos h.pos) (by grind)
    constructor
    · rw [← rat_pos_iff hp, ← e]
      exact (Rat.intCast_lt_intCast (a := 0)).symm
    · constructor
      · intro z
        rw [z] at e
        have e' : (B * B * -rtQ b c w) * gapQ b c v (tmQ b c w) = 0 := e.symm
        rcases Rat.mul_eq_zero.mp e' with z1 | z1
        · rw [z1] at hp
          exact absurd hp (by decide)
        · exact z1
      · intro z
        rw [z, Rat.mul_zero] at e
        exact Rat.intCast_inj.mp (show _ = ((0 : Int) : Rat) from e)
  constructor
  · rintro ⟨h1, h2, h3⟩
    have hr := (h.lneg w).mp h2
    refine ⟨hw, (h.snn w).mp h1, hr, tmQ_zero (by grind), fun v hv => ?_⟩
    obtain ⟨k1, k2⟩ := key hr v
    have h4 := h3 v hv
    rw [k1, k2] at h4
    have h5 := h.lnn v
    rcases Rat.le_total (a := gapQ b c v (tmQ b c w)) (b := 0) with z | z
    · by_cases z2 : gapQ b c v (tmQ b c w) = 0
      · right
        refine ⟨z2, Rat.not_le.mp fun z3 => h4 (.inr ⟨z2, h5.mpr z3⟩)⟩
      · left
        exact Rat.lt_of_le_of_ne z z2
    · by_cases z2 : gapQ b c v (tmQ b c w) = 0
      · right
        refine ⟨z2, Rat.not_le.mp fun z3 => h4 (.inr ⟨z2, h5.mpr z3⟩)⟩
      · exact absurd (.inl (Rat.lt_of_le_of_ne z (fun z3 => z2 z3.symm))) h4
  · rintro ⟨_, h1, h2, h3, h4⟩
    refine ⟨(h.snn w).mpr h1, (h.lneg w).mpr h2, fun v hv z => ?_⟩
    obtain ⟨k1, k2⟩ := key h2 v
    rw [k1, k2] at z
    have h5 := h.lnn v
    rcases h4 v hv with z1 | ⟨z1, z2⟩
    · rcases z with z | ⟨z, _⟩
      · exfalso
        grind
      · rw [z] at z1
        exact absurd z1 Rat.lt_irrefl
    · rcases z with z | ⟨_, z3⟩
      · rw [z1] at z
        exact absurd z Rat.lt_irrefl
      · exact absurd (h5.mp z3) (Rat.not_le.mpr z2)
def a_p_meeting_courses : ASp := fun ds n Q => ∃ (b c : Bw) (rs : List Pt) (B : Rat) (fS fL : Pt → Int) (k m : Nat) (u : Rat), ds = [.lst (rs.map (cD fS fL)), sh u] ∧ CoOk b c k rs B fS fL ∧ k ≤ 8900 ∧ BdQ m u ∧ m ≤ 60000 ∧ ∀ ms : List Pt, ms.length ≤ 32 → (∀ w, w ∈ ms ↔ w ∈ rs ∧ Meets b c rs w (tmQ b c w) ∧ tmQ b c w < u) → ms.Sublist rs → Q (.lst (ms.map (cD fS fL))) n
theorem ok_p_meeting_courses (T : Tx K mg A) : FnOk P w K mg base CX0 6 A.f_p_meeting_courses A.fd_p_meeting_courses ["all_courses", "until"] (spOf K 2 a_p_meeting_courses) := by
  refine fn_mir [] 4 rfl (by decide) (by decide) T.F_p_meeting_courses sc_p_meeting_courses fun cdv Ar outer s H E hr => ?_
  refine ⟨_, _, (pss_cons (ps_setLc (i := 2) (own := [("course", 3)]) rfl sc_p_meeting_courses.nd rfl rfl (sw_true rfl rfl rfl (by decide +kernel)) (k_iter (K := K) rfl (pv 0)) (blkOk_by (own := [("course", 3)]) (N := ["all_courses", "until", "met", "course"]) (sc := defScope s_p_meeting_courses) (by decide +kernel)) (fun _ _ _ _ _ => (pg_name (i := 3) sc_p_meeting_courses.nd rfl (Or.inl rfl))) (fun _ _ _ _ _ => (pts_one (pt_val (pe_call (ok_p_meets_along (P := P) (K := K) T) (hr.mono (by decide)) (by rfl) T.g_p_meets_along T.F_p_meets_along.kp T.b_p_meets_along .nil pass0 (pa_cons (pv 3) (pa_cons (pv 0) pa_nil)))))) (fun _ _ _ _ _ => (pv 3)))
    (pss_one (ps_ret (pe_lc (own := [("course", 3)]) rfl sc_p_meeting_courses.nd (k_iter (K := K) rfl (pv 2)) (blkOk_by (own := [("course", 3)]) (N := ["all_courses", "until", "met", "course"]) (sc := defScope s_p_meeting_courses) (by decide +kernel)) (fun _ _ _ _ _ => (pg_name (i := 3) sc_p_meeting_courses.nd rfl (Or.inl rfl))) (fun _ _ _ _ _ => (pts_one (pt_cmpR op_lt (pe_call (ok_p_order (P := P) (K := K) T) (hr.mono (by decide)) (by rfl) T.g_p_order T.F_p_order.kp T.b_p_order .nil pass0 (pa_cons (pe_call (ok_p_time_of (P := P) (K := K) T) (hr.mono (by decide)) (by rfl) T.g_p_time_of T.F_p_time_of.kp T.b_p_time_of .nil pass0 (pa_cons (pv 3) pa_nil)) (pa_cons (pv 1) pa_nil))) pe_int (nomark _)))) (fun _ _ _ _ _ => (pv 3)))))), by infer_instance, fun ds n Q hl hA => ?_⟩
  obtain ⟨b, c, rs, B, fS, fL, k, m, u, rfl, h, hk, bu, hm, q⟩ := hA
  have hl := h.len
  refine ⟨by rw [List.length_map]; omega, ?_⟩
  refine aLc_ind (fun acc ds j => j = n ∧ ∃ us vs ms : List Pt, rs = us ++ vs ∧ ds = vs.map (cD fS fL) ∧ acc = ms.map (cD fS fL) ∧ (∀ w, w ∈ ms ↔ w ∈ us ∧ mtB rs fS fL w) ∧ ms.Sublist us) ?_ ?_ ⟨rfl, [], rs, [], rfl, rfl, rfl, (fun w => by simp), List.Sublist.refl _⟩
  · rintro acc d r j ⟨rfl, us, vs, ms, e0, e, rfl, hms, hsub⟩ ih
    cases vs with
    | nil => cases e
    | cons v vs =>
    obtain ⟨rfl, rfl⟩ := List.cons.inj e
    have hv : v ∈ rs := by rw [e0]; exact List.mem_append_right _ List.mem_cons_self
    refine ⟨v, rs, fS, fL, k, rfl, (h.bd v hv).2.1, (h.bd v hv).2.2, fun x hx => (h.bd x hx).2, by omega, fun hy => aT (ih _ _ ⟨rfl, us ++ [v], vs, ms ++ [v], by rw [e0]; simp, rfl, by rw [List.map_append]; rfl, fun w => ?_, hsub.append (List.Sublist.refl _)⟩), fun hn => aF (ih _ _ ⟨rfl, us ++ [v], vs, ms, by rw [e0]; simp, rfl, rfl, fun w => ?_, hsub.trans (List.sublist_append_left _ _)⟩)⟩
    · rw [List.mem_append, List.mem_append, hms, List.mem_singleton]
      constructor
      · rintro (⟨z1, z2⟩ | rfl)
        · exact ⟨.inl z1, z2⟩
        · exact ⟨.inr rfl, hy⟩
      · rintro ⟨z1 | rfl, z2⟩
        · exact .inl ⟨z1, z2⟩
        · exact .inr rfl
    · rw [List.mem_append, hms, List.mem_singleton]
      constructor
      · rintro ⟨z1, z2⟩
        exact ⟨.inl z1, z2⟩
      · rintro ⟨z1 | rfl, z2⟩
        · exact ⟨z1, z2⟩
        · exact absurd z2 hn
  · rintro acc j ⟨rfl, us, vs, ms, e0, e, rfl, hms, hsub⟩
    cases vs with
    | cons v vs => cases e
    | nil =>
    rw [List.append_nil] at e0
    subst e0
    have hl2 := hsub.length_le
    refine ⟨by rw [List.length_map]; omega, ?_⟩
    refine aLc_ind (fun acc ds i => i = j ∧ ∃ us vs xs : List Pt, ms = us ++ vs ∧ ds = vs.map (cD fS fL) ∧ acc = xs.map (cD fS fL) ∧ (∀ w, w ∈ xs ↔ w ∈ us ∧ tmQ b c w < u) ∧ xs.Sublist us) ?_ ?_ ⟨rfl, [], ms, [], rfl, rfl, rfl, (fun w => by simp), List.Sublist.refl _⟩
    · rintro acc d r j ⟨rfl, us, vs, xs, e0, e, rfl, hxs, hsub2⟩ ih
      cases vs with
      | nil => cases e
      | cons v vs =>
      obtain ⟨rfl, rfl⟩ := List.cons.inj e
      have hv : v ∈ ms := by rw [e0]; exact List.mem_append_right _ List.mem_cons_self
      obtain ⟨hvr, hvm⟩ := (hms v).mp hv
      have hl0 : fL v ≠ 0 := by have := hvm.2.1; omega
      have bv := h.bd v hvr
      refine ⟨v, fS v, fL v, k, rfl, bv.2.1, bv.2.2, hl0, hk, ?_⟩
      rw [h.time hl0]
      have bT : BdQ k (tmQ b c v) := by
        rw [← h.time hl0]
        have e5 : Rat.divInt (-(fS v)) (fL v) = Rat.divInt (fS v) (-(fL v)) := (Rat.divInt_eq_divInt_iff hl0 (by omega)).mpr (by grind)
        rw [e5]
        exact divInt_bd (by have := hvm.2.1; omega) bv.2.1 bv.2.2.neg
      refine ⟨_, u, k, m, rfl, bT, bu, by omega, hm, ?_⟩
      by_cases hlt : tmQ b c v < u
      · have e6 : ordI (tmQ b c v) u = -1 := if_pos hlt
        rw [e6]
        refine aT (ih _ _ ⟨rfl, us ++ [v], vs, xs ++ [v], by rw [e0]; simp, rfl, by rw [List.map_append]; rfl, fun w => ?_, hsub2.append (List.Sublist.refl _)⟩)
        rw [List.mem_append, List.mem_append, hxs, List.mem_singleton]
        constructor
        · rintro (⟨z1, z2⟩ | rfl)
          · exact ⟨.inl z1, z2⟩
          · exact ⟨.inr rfl, hlt⟩
        · rintro ⟨z1 | rfl, z2⟩
          · exact .inl ⟨z1, z2⟩
          · exact .inr rfl
      · have e6 : ordI (tmQ b c v) u < 0 ↔ False := by
          unfold ordI
          rw [if_neg hlt]
          split <;> simp
        refine dIte (fun z => (e6.mp z).elim) fun _ => ih _ _ ⟨rfl, us ++ [v], vs, xs, by rw [e0]; simp, rfl, rfl, fun w => ?_, hsub2.trans (List.sublist_append_left _ _)⟩
        rw [List.mem_append, hxs, List.mem_singleton]
        constructor
        · rintro ⟨z1, z2⟩
          exact ⟨.inl z1, z2⟩
        · rintro ⟨z1 | rfl, z2⟩
          · exact ⟨z1, z2⟩
          · exact absurd z2 hlt
    · rintro acc j ⟨rfl, us, vs, xs, e0, e, rfl, hxs, hsub2⟩
      cases vs with
      | cons v vs => cases e
      | nil =>
      rw [List.append_nil] at e0
      subst e0
      refine q xs (by have := hsub2.length_le; omega) (fun w => ?_) (hsub2.trans hsub)
      rw [hxs, hms]
      constructor
      · rintro ⟨⟨z1, z2⟩, z3⟩
        exact ⟨z1, (h.meets z1).mp z2, z3⟩
      · rintro ⟨z1, z2, z3⟩
        exact ⟨⟨z1, (h.meets z1).mpr z2⟩, z3⟩

/-! ### what the shapes' sides make of a plane -/
def dq (p q : Rat) (a : Pt) : Rat := p * (a.1 : Rat) + q * (a.2 : Rat)
theorem dq_dot (w a : Pt) : dq (w.1 : Rat) (w.2 : Rat) a = ((dot w a : Int) : Rat) := by
  unfold dq dot
  rw [Rat.intCast_add, Rat.intCast_mul, Rat.intCast_mul]
theorem flat_crs {p q : Rat} (h0 : p ≠ 0 ∨ q ≠ 0) {u v : Pt} (hu : p * (u.1 : Rat) + q * (u.2 : Rat) = 0) (hv : p * (v.1 : Rat) + q * (v.2 : Rat) = 0) : crs u v = 0 := by
  have e : ((crs u v : Int) : Rat) = (u.1 : Rat) * (v.2 : Rat) - (u.2 : Rat) * (v.1 : Rat) := by
    unfold crs
    rw [Rat.intCast_sub, Rat.intCast_mul, Rat.intCast_mul]
  have z : ((crs u v : Int) : Rat) = ((0 : Int) : Rat) := by
    rw [e]
    show _ = (0 : Rat)
    generalize (u.1 : Rat) = a at *
    generalize (u.2 : Rat) = b at *
    generalize (v.1 : Rat) = c at *
    generalize (v.2 : Rat) = d at *
    rcases h0 with h | h
    · have : p * (a * d - b * c) = 0 := by grind
      rcases Rat.mul_eq_zero.mp this with z | z
      · exact absurd z h
      · exact z
    · have : q * (a * d - b * c) = 0 := by grind
      rcases Rat.mul_eq_zero.mp this with z | z
      · exact absurd z h
      · exact z
  exact Rat.intCast_inj.mp z
theorem vec_flat {p q : Rat} {a b : Pt} (h : dq p q a = dq p q b) : p * ((vec a b).1 : Rat) + q * ((vec a b).2 : Rat) = 0 := by
  unfold vec
  simp only
  rw [Rat.intCast_sub, Rat.intCast_sub]
  unfold dq at h
  grind
theorem not_flat {cs : List Pt} (h : ShOk cs) {p q : Rat} (h0 : p ≠ 0 ∨ q ≠ 0) : ∃ a ∈ cs, ∃ b ∈ cs, dq p q a < dq p q b := by
  obtain ⟨x, y, z, r, rfl⟩ : ∃ x y z r, cs = x :: y :: z :: r := by
    match cs, h.1 with
    | [], h => exact absurd h (by decide)
    | [_], h => exact absurd h (by simp)
    | [_, _], h => exact absurd h (by simp)
    | x :: y :: z :: r, _ => exact ⟨x, y, z, r, rfl⟩
  have hd := h.2.2.2.2.1
  rcases Classical.em (∃ a ∈ x :: y :: z :: r, ∃ b ∈ x :: y :: z :: r, dq p q a < dq p q b) with g | g
  · exact g
  · exfalso
    have eq : ∀ a ∈ x :: y :: z :: r, ∀ b ∈ x :: y :: z :: r, dq p q a = dq p q b := fun a ha b hb => by
      rcases Rat.le_total (a := dq p q a) (b := dq p q b) with l | l
      · exact Classical.byContradiction fun n => g ⟨a, ha, b, hb, Rat.lt_of_le_of_ne l n⟩
      · exact Classical.byContradiction fun n => g ⟨b, hb, a, ha, Rat.lt_of_le_of_ne l fun z => n z.symm⟩
    unfold Dst at hd
    obtain ⟨z', hz', tl, e⟩ : ∃ z' ∈ x :: y :: z :: r, ∃ tl, eds ((x :: y :: z :: r) ++ List.take 1 (x :: y :: z :: r)) = vec x y :: vec y z :: vec z z' :: tl := by
      cases r with
      | nil => exact ⟨x, by simp, [], rfl⟩
      | cons w r => exact ⟨w, by simp, _, rfl⟩
    rw [e] at hd
    have f1 := vec_flat (eq x (by simp) y (by simp))
    have f2 := vec_flat (eq y (by simp) z (by simp))
    have f3 := vec_flat (eq z (by simp) z' hz')
    simp only [List.pairwise_cons] at hd
    obtain ⟨d1, d2, d3, _⟩ := hd
    have n12 := d1 (vec y z) (by simp)
    have n13 := d1 (vec z z') (by simp)
    have n23 := d2 (vec z z') (by simp)
    have o12 := n12.opp (flat_crs h0 f1 f2)
    have o13 := n13.opp (flat_crs h0 f1 f3)
    have o23 := n23.opp (flat_crs h0 f2 f3)
    unfold lexP at o12 o13 o23
    have h9 : ∀ q : Pt, (neg q).1 = -q.1 ∧ (neg q).2 = -q.2 := fun q => ⟨rfl, rfl⟩
    have g1 := h9 (vec x y)
    have g2 := h9 (vec y z)
    have g3 := h9 (vec z z')
    omega
theorem ring_sum (F : Pt → Rat) (y : Pt) : ∀ (x : Pt) (r : List Pt), ((((x :: r).zip (r ++ [y])).map fun e => F e.2 - F e.1)).sum = F y - F x
  | x, [] => by
    simp only [List.nil_append, List.zip_cons_cons, List.zip_nil_right, List.map_cons, List.map_nil, List.sum_cons, List.sum_nil]
    grind
  | x, z :: r => by
    have := ring_sum F y z r
    rw [List.cons_append, List.zip_cons_cons, List.map_cons, List.sum_cons, this]
    grind
theorem prs_sum {cs : List Pt} (h : cs ≠ []) (F : Pt → Rat) : ((prs cs).map fun e => F e.2 - F e.1).sum = 0 := by
  cases cs with
  | nil => exact absurd rfl h
  | cons x r =>
    have := ring_sum F x x r
    rw [show prs (x :: r) = (x :: r).zip (r ++ [x]) from rfl, this]
    grind
theorem sum_le_zero {l : List Rat} : (∀ x ∈ l, x ≤ 0) → l.sum = 0 → ∀ x ∈ l, x = 0 := by
  induction l with
  | nil => intro _ _ x hx; cases hx
  | cons a l ih =>
    intro h e
    rw [List.sum_cons] at e
    have hs : ∀ l : List Rat, (∀ x ∈ l, x ≤ 0) → l.sum ≤ 0 := fun l => by
      induction l with
      | nil => intro _; exact Rat.le_refl
      | cons b l ih2 =>
        intro g
        rw [List.sum_cons]
        have h1 := g b List.mem_cons_self
        have h2 := ih2 fun x hx => g x (List.mem_cons_of_mem _ hx)
        grind
    have h1 := h a List.mem_cons_self
    have h2 := hs l fun x hx => h x (List.mem_cons_of_mem _ hx)
    have ea : a = 0 := by grind
    have el : l.sum = 0 := by grind
    intro x hx
    rcases List.mem_cons.mp hx with rfl | hx
    · exact ea
    · exact ih (fun x hx => h x (List.mem_cons_of_mem _ hx)) el x hx
/-- the way of a side, times its divisor -/
theorem wyE_val {e : Pt × Pt} (h : e.1 ≠ e.2) : ∃ g : Int, 0 < g ∧ (wyE e).1 * g = e.2.2 - e.1.2 ∧ (wyE e).2 * g = e.1.1 - e.2.1 := by
  have g0 := gcdI_pos2 (p := e.2.2 - e.1.2) (q := e.1.1 - e.2.1) fun z => h (Prod.ext (by omega) (by omega))
  exact ⟨_, g0, Int.ediv_mul_cancel (gcdI_dvd_l _ _), Int.ediv_mul_cancel (gcdI_dvd_r _ _)⟩
/-- some side's way points with a speed -/
theorem some_with {cs : List Pt} (h : ShOk cs) {x y : Rat} (h0 : x ≠ 0 ∨ y ≠ 0) : ∃ w ∈ waysOf cs, 0 < (w.1 : Rat) * x + (w.2 : Rat) * y := by
  rcases Classical.em (∃ w ∈ waysOf cs, 0 < (w.1 : Rat) * x + (w.2 : Rat) * y) with g | g
  · exact g
  · exfalso
    have hle : ∀ w ∈ waysOf cs, (w.1 : Rat) * x + (w.2 : Rat) * y ≤ 0 := fun w hw => Rat.not_lt.mp fun z => g ⟨w, hw, z⟩
    have hne : cs ≠ [] := fun z => by have := h.1; rw [z] at this; simp at this
    have key : ∀ e ∈ prs cs, ∃ G : Rat, 0 < G ∧ dq (-y) x e.2 - dq (-y) x e.1 = G * (((wyE e).1 : Rat) * x + ((wyE e).2 : Rat) * y) := fun e he => by
      obtain ⟨g, g0, h1, h2⟩ := wyE_val (prs_ok h e he).1
      refine ⟨(g : Rat), (Rat.intCast_lt_intCast (a := 0)).mpr g0, ?_⟩
      have c1 : ((wyE e).1 : Rat) * (g : Rat) = (e.2.2 : Rat) - (e.1.2 : Rat) := by rw [← Rat.intCast_mul, h1, Rat.intCast_sub]
      have c2 : ((wyE e).2 : Rat) * (g : Rat) = (e.1.1 : Rat) - (e.2.1 : Rat) := by rw [← Rat.intCast_mul, h2, Rat.intCast_sub]
      unfold dq
      generalize ((wyE e).1 : Rat) = a at *
      generalize ((wyE e).2 : Rat) = b at *
      grind
    have hsum := prs_sum hne (dq (-y) x)
    have all0 := sum_le_zero (l := (prs cs).map fun e => dq (-y) x e.2 - dq (-y) x e.1) (fun z hz => by
      obtain ⟨e, he, rfl⟩ := List.mem_map.mp hz
      obtain ⟨G, hG, eG⟩ := key e he
      rw [eG]
      have := hle (wyE e) (List.mem_map.mpr ⟨e, he, rfl⟩)
      have h5 : G * (((wyE e).1 : Rat) * x + ((wyE e).2 : Rat) * y) ≤ G * 0 := Rat.mul_le_mul_of_nonneg_left this (Rat.le_of_lt hG)
      rw [Rat.mul_zero] at h5
      exact h5) hsum
    have step : ∀ e ∈ prs cs, dq (-y) x e.2 = dq (-y) x e.1 := fun e he => by
      have := all0 _ (List.mem_map.mpr ⟨e, he, rfl⟩)
      grind
    have ring_eq : ∀ (y' : Pt) (F : Pt → Rat) (r : List Pt) (x' : Pt), (∀ e ∈ (x' :: r).zip (r ++ [y']), F e.2 = F e.1) → ∀ a ∈ x' :: r, F a = F x' := fun y' F r => by
      induction r with
      | nil =>
        intro x' _ a ha
        rw [List.mem_singleton.mp ha]
      | cons z r ih =>
        intro x' hx a ha
        have hz : F z = F x' := hx (x', z) (by rw [List.cons_append, List.zip_cons_cons]; exact List.mem_cons_self)
        rcases List.mem_cons.mp ha with rfl | ha
        · rfl
        · rw [← hz]
          exact ih z (fun e he => hx e (by rw [List.cons_append, List.zip_cons_cons]; exact List.mem_cons_of_mem _ he)) a ha
    obtain ⟨a, ha, b, hb, hab⟩ := not_flat h (p := -y) (q := x) (by
      rcases h0 with z | z
      · exact .inr z
      · exact .inl fun e => z (by grind))
    cases cs with
    | nil => exact hne rfl
    | cons x0 r =>
      have e1 := ring_eq x0 (dq (-y) x) r x0 step a ha
      have e2 := ring_eq x0 (dq (-y) x) r x0 step b hb
      rw [e1, e2] at hab
      exact absurd hab Rat.lt_irrefl
theorem way_nz {cs : List Pt} (h : ShOk cs) : ∀ w ∈ waysOf cs, ¬ (w.1 = 0 ∧ w.2 = 0) := fun w hw z => by
  obtain ⟨e, he, rfl⟩ := List.mem_map.mp hw
  have hne := (prs_ok h e he).1
  obtain ⟨g, g0, h1, h2⟩ := wyE_val hne
  rw [z.1, Int.zero_mul] at h1
  rw [z.2, Int.zero_mul] at h2
  exact hne (Prod.ext (by omega) (by omega))
theorem mean_lt {F : Pt → Rat} {M : Rat} : ∀ {cs : List Pt}, (∀ a ∈ cs, F a ≤ M) → (∃ a ∈ cs, F a < M) → (cs.map F).sum < (cs.length : Rat) * M
  | [], _, h => by obtain ⟨a, ha, _⟩ := h; cases ha
  | x :: r, h1, h2 => by
    have hx := h1 x List.mem_cons_self
    rw [List.map_cons, List.sum_cons, List.length_cons]
    have el : ((r.length + 1 : Nat) : Rat) = (r.length : Rat) + 1 := by rw [Rat.natCast_add]; rfl
    rw [el]
    have hle : ∀ l : List Pt, (∀ a ∈ l, F a ≤ M) → (l.map F).sum ≤ (l.length : Rat) * M := fun l => by
      induction l with
      | nil => intro _; simp
      | cons y l ih =>
        intro g
        have g1 := g y List.mem_cons_self
        have g2 := ih fun a ha => g a (List.mem_cons_of_mem _ ha)
        rw [List.map_cons, List.sum_cons, List.length_cons]
        have el2 : ((l.length + 1 : Nat) : Rat) = (l.length : Rat) + 1 := by rw [Rat.natCast_add]; rfl
        rw [el2]
        grind
    obtain ⟨a, ha, hlt⟩ := h2
    rcases List.mem_cons.mp ha with rfl | ha
    · have := hle r fun b hb => h1 b (List.mem_cons_of_mem _ hb)
      grind
    · have := mean_lt (cs := r) (fun b hb => h1 b (List.mem_cons_of_mem _ hb)) ⟨a, ha, hlt⟩
      grind

theorem list_max {α : Type} (f : α → Rat) : ∀ {l : List α}, l ≠ [] → ∃ a ∈ l, ∀ b ∈ l, f b ≤ f a
  | [], h => absurd rfl h
  | [a], _ => ⟨a, List.mem_cons_self, fun b hb => by rw [List.mem_singleton.mp hb]; exact Rat.le_refl⟩
  | a :: b :: r, _ => by
    obtain ⟨c, hc, h⟩ := list_max f (l := b :: r) (fun z => nomatch z)
    rcases Rat.le_total (a := f a) (b := f c) with z | z
    · refine ⟨c, List.mem_cons_of_mem _ hc, fun x hx => ?_⟩
      rcases List.mem_cons.mp hx with rfl | hx
      · exact z
      · exact h x hx
    · refine ⟨a, List.mem_cons_self, fun x hx => ?_⟩
      rcases List.mem_cons.mp hx with rfl | hx
      · exact Rat.le_refl
      · have := h x hx
        grind
/-! ### when it is over -/
def OverQ (b c : Bw) (rs : List Pt) (t : Rat) : Prop := ∀ w ∈ rs, gapQ b c w t < 0
def ClrQ (b c : Bw) (w : Pt) (u : Rat) : Prop := 0 ≤ gapQ b c w 0 ∧ 0 ≤ gapQ b c w u
theorem gap_fall {b c : Bw} {w : Pt} {s t : Rat} (h : rtQ b c w ≤ 0) (l : s ≤ t) : gapQ b c w t ≤ gapQ b c w s := by
  rw [gapQ_lin b c w t, gapQ_lin b c w s]
  have : (-rtQ b c w) * s ≤ (-rtQ b c w) * t := Rat.mul_le_mul_of_nonneg_left l (by grind)
  grind
theorem gap_rise {b c : Bw} {w : Pt} {s t : Rat} (h : 0 ≤ rtQ b c w) (l : s ≤ t) : gapQ b c w s ≤ gapQ b c w t := by
  rw [gapQ_lin b c w t, gapQ_lin b c w s]
  have : rtQ b c w * s ≤ rtQ b c w * t := Rat.mul_le_mul_of_nonneg_left l h
  grind
theorem gap_fallS {b c : Bw} {w : Pt} {s t : Rat} (h : rtQ b c w < 0) (l : s < t) : gapQ b c w t < gapQ b c w s := by
  rw [gapQ_lin b c w t, gapQ_lin b c w s]
  have : 0 < (-rtQ b c w) * (t - s) := Rat.mul_pos (by grind) (by grind)
  grind
theorem gap_riseS {b c : Bw} {w : Pt} {s t : Rat} (h : 0 < rtQ b c w) (l : s < t) : gapQ b c w s < gapQ b c w t := by
  rw [gapQ_lin b c w t, gapQ_lin b c w s]
  have : 0 < rtQ b c w * (t - s) := Rat.mul_pos h (by grind)
  grind
/-- a way that is clear at both ends is clear between -/
theorem clr_mid {b c : Bw} {w : Pt} {u t : Rat} (h : ClrQ b c w u) (h0 : 0 ≤ t) (h1 : t ≤ u) : 0 ≤ gapQ b c w t := by
  rcases Rat.le_total (a := rtQ b c w) (b := 0) with z | z
  · have := gap_fall (w := w) z h1
    have := h.2
    grind
  · have := gap_rise (w := w) z h0
    have := h.1
    grind
/-- not over now, no meeting below u, no pair way clear: never over -/
theorem never_over {b c : Bw} {rs : List Pt} {u : Rat} (hu : 0 ≤ u) (h0 : ¬ OverQ b c rs 0) (hm : ∀ w ∈ rs, Meets b c rs w (tmQ b c w) → ¬ tmQ b c w < u) (hc : ∀ w ∈ rs, ¬ ClrQ b c w u) : ∀ t, ¬ OverQ b c rs t := by
  intro t0 ho
  obtain ⟨w0, hw0, g0⟩ : ∃ w ∈ rs, 0 ≤ gapQ b c w 0 := Classical.byContradiction fun z => h0 fun w hw => Rat.not_le.mp fun z2 => z ⟨w, hw, z2⟩
  have r0 : rtQ b c w0 < 0 := Rat.not_le.mp fun z => hc w0 hw0 ⟨g0, by have := gap_rise (w := w0) z hu; grind⟩
  obtain ⟨ws, hws, hmax⟩ := list_max (tmQ b c) (l := rs.filter fun w => decide (rtQ b c w < 0)) (fun z => by
    have : w0 ∈ rs.filter fun w => decide (rtQ b c w < 0) := List.mem_filter.mpr ⟨hw0, decide_eq_true r0⟩
    rw [z] at this
    cases this)
  obtain ⟨hwr, hwf⟩ := List.mem_filter.mp hws
  have rw' : rtQ b c ws < 0 := of_decide_eq_true hwf
  have z0 := tmQ_zero (b := b) (c := c) (w := ws) (by grind)
  have zz := tmQ_zero (b := b) (c := c) (w := w0) (by grind)
  have t1 : tmQ b c ws < t0 := Rat.not_le.mp fun z => by
    have := gap_fall (w := ws) (Rat.le_of_lt rw') z
    have := ho ws hwr
    grind
  have tw0 : 0 ≤ tmQ b c w0 := Rat.not_lt.mp fun z => by
    have := gap_fallS (w := w0) r0 z
    grind
  have tws : 0 ≤ tmQ b c ws := by
    have := hmax w0 (List.mem_filter.mpr ⟨hw0, decide_eq_true r0⟩)
    grind
  have gws : 0 ≤ gapQ b c ws 0 := by
    have := gap_fall (w := ws) (Rat.le_of_lt rw') tws
    grind
  have M : Meets b c rs ws (tmQ b c ws) := ⟨hwr, gws, rw', z0, fun v hv => by
    rcases Rat.le_total (a := 0) (b := rtQ b c v) with z | z
    · left
      have := gap_rise (w := v) z (Rat.le_of_lt t1)
      have := ho v hv
      grind
    · by_cases e : rtQ b c v = 0
      · left
        have := gap_rise (b := b) (c := c) (w := v) (by grind) (Rat.le_of_lt t1)
        have := ho v hv
        grind
      · have rv : rtQ b c v < 0 := Rat.lt_of_le_of_ne z e
        have h5 := hmax v (List.mem_filter.mpr ⟨hv, decide_eq_true rv⟩)
        have h6 := gap_fall (w := v) z h5
        rw [tmQ_zero e] at h6
        by_cases e2 : gapQ b c v (tmQ b c ws) = 0
        · exact .inr ⟨e2, rv⟩
        · exact .inl (Rat.lt_of_le_of_ne h6 e2)⟩
  have hnu := Rat.not_lt.mp (hm ws hwr M)
  have := gap_fall (w := ws) (Rat.le_of_lt rw') hnu
  exact hc ws hwr ⟨gws, by grind⟩

theorem frac_off {n S A V d : Rat} (hn : n ≠ 0) (hS : S ≠ 0) (h : V * A = d * S) : n * (V * (A / (n * S))) = d := by
  have h1 : n * S ≠ 0 := fun z => by
    rcases Rat.mul_eq_zero.mp z with z | z
    · exact hn z
    · exact hS z
  have e : n * (V * (A / (n * S))) = (V * A) * n / (n * S) := by grind
  rw [e, h]
  have e2 : d * S * n / (n * S) = d * ((n * S) / (n * S)) := by grind
  rw [e2, Rat.div_def, Rat.mul_inv_cancel _ h1, Rat.mul_one]
theorem plane_pt {u1 u2 V U X Y m1x m1y m2x m2y cx cy : Rat} (h0 : u1 ≠ 0 ∨ u2 ≠ 0) (hr : u1 * V + u2 * U = 0) (hv : V ≠ 0 ∨ U ≠ 0) (hα : 0 < u1 * m1x + u2 * m1y - (u1 * X + u2 * Y)) (hβ : 0 < u1 * X + u2 * Y - (u1 * m2x + u2 * m2y)) :
    ∃ t s r : Rat, 0 < s ∧ 0 < r ∧ (s + r + 1) * (X + V * t) = s * m1x + r * m2x + cx ∧ (s + r + 1) * (Y + U * t) = s * m1y + r * m2y + cy := by
  obtain ⟨α, eα⟩ : ∃ α, u1 * m1x + u2 * m1y - (u1 * X + u2 * Y) = α := ⟨_, rfl⟩
  obtain ⟨β, eβ⟩ : ∃ β, u1 * X + u2 * Y - (u1 * m2x + u2 * m2y) = β := ⟨_, rfl⟩
  obtain ⟨γ, eγ⟩ : ∃ γ, u1 * cx + u2 * cy - (u1 * X + u2 * Y) = γ := ⟨_, rfl⟩
  rw [eα] at hα
  rw [eβ] at hβ
  have hsr : ∃ s r : Rat, 0 < s ∧ 0 < r ∧ s * α - r * β + γ = 0 := by
    rcases Rat.le_total (a := 0) (b := γ) with z | z
    · refine ⟨1, (α + γ) / β, by decide, ?_, ?_⟩
      · rw [Rat.div_def]
        exact Rat.mul_pos (by grind) (Rat.inv_pos.mpr hβ)
      · have : β ≠ 0 := by grind
        grind
    · refine ⟨(β - γ) / α, 1, ?_, by decide, ?_⟩
      · rw [Rat.div_def]
        exact Rat.mul_pos (by grind) (Rat.inv_pos.mpr hα)
      · have : α ≠ 0 := by grind
        grind
  obtain ⟨s, r, s0, r0, e⟩ := hsr
  have hn0 : 0 < s + r + 1 := by grind
  have hnz : s + r + 1 ≠ 0 := by grind
  obtain ⟨dx, hdx⟩ : ∃ dx, (s * m1x + r * m2x + cx) - (s + r + 1) * X = dx := ⟨_, rfl⟩
  obtain ⟨dy, hdy⟩ : ∃ dy, (s * m1y + r * m2y + cy) - (s + r + 1) * Y = dy := ⟨_, rfl⟩
  have hu : u1 * dx + u2 * dy = 0 := by
    rw [← hdx, ← hdy]
    have : u1 * (s * m1x + r * m2x + cx - (s + r + 1) * X) + u2 * (s * m1y + r * m2y + cy - (s + r + 1) * Y) = s * (u1 * m1x + u2 * m1y - (u1 * X + u2 * Y)) - r * (u1 * X + u2 * Y - (u1 * m2x + u2 * m2y)) + (u1 * cx + u2 * cy - (u1 * X + u2 * Y)) := by grind
    rw [this, eα, eβ, eγ, e]
  have hc : V * dy - U * dx = 0 := by
    rcases h0 with h | h
    · have : u1 * (V * dy - U * dx) = 0 := by grind
      rcases Rat.mul_eq_zero.mp this with z | z
      · exact absurd z h
      · exact z
    · have : u2 * (V * dy - U * dx) = 0 := by grind
      rcases Rat.mul_eq_zero.mp this with z | z
      · exact absurd z h
      · exact z
  have hS : V * V + U * U ≠ 0 := fun z => by
    have v2 : 0 ≤ V * V := by
      rcases Rat.le_total (a := 0) (b := V) with z | z
      · exact Rat.mul_nonneg z z
      · have := Rat.mul_nonneg (a := -V) (b := -V) (by grind) (by grind)
        grind
    have u2 : 0 ≤ U * U := by
      rcases Rat.le_total (a := 0) (b := U) with z | z
      · exact Rat.mul_nonneg z z
      · have := Rat.mul_nonneg (a := -U) (b := -U) (by grind) (by grind)
        grind
    have e1 : V * V = 0 := by grind
    have e2 : U * U = 0 := by grind
    have e3 : V = 0 := by rcases Rat.mul_eq_zero.mp e1 with z | z <;> exact z
    have e4 : U = 0 := by rcases Rat.mul_eq_zero.mp e2 with z | z <;> exact z
    rcases hv with z | z
    · exact z e3
    · exact z e4
  refine ⟨(dx * V + dy * U) / ((s + r + 1) * (V * V + U * U)), s, r, s0, r0, ?_, ?_⟩
  · have : (s + r + 1) * (V * ((dx * V + dy * U) / ((s + r + 1) * (V * V + U * U)))) = dx := by
      exact frac_off hnz hS (by grind)
    grind
  · have : (s + r + 1) * (U * ((dx * V + dy * U) / ((s + r + 1) * (V * V + U * U)))) = dy := by
      exact frac_off hnz hS (by grind)
    grind
/-- never over: clear along an upright way -/
theorem upright_clear {b c : Bw} {rs : List Pt} (hb : ShOk b.cs) (hcs : ShOk c.cs) (hnz : ∀ w ∈ rs, ¬ (w.1 = 0 ∧ w.2 = 0)) {u : Pt} (u0 : ¬ (u.1 = 0 ∧ u.2 = 0)) (hr : rtQ b c u = 0) (hv : c.x - b.x ≠ 0 ∨ c.y - b.y ≠ 0) (hn : ∀ t, ¬ OverQ b c rs t) : 0 ≤ gapQ b c u 0 ∨ 0 ≤ gapQ b c (ngP u) 0 := by
  rcases Classical.em (0 ≤ gapQ b c u 0 ∨ 0 ≤ gapQ b c (ngP u) 0) with g | g
  · exact g
  · exfalso
    have g1 : gapQ b c u 0 < 0 := Rat.not_le.mp fun z => g (.inl z)
    have g2 : gapQ b c (ngP u) 0 < 0 := Rat.not_le.mp fun z => g (.inr z)
    obtain ⟨⟨a1, ha1, ea1⟩, _⟩ := mx_is (w := u) hb.ne
    obtain ⟨⟨d1, hd1, ed1⟩, _⟩ := mx_is (w := ngP u) hcs.ne
    obtain ⟨⟨a2, ha2, ea2⟩, _⟩ := mx_is (w := ngP u) hb.ne
    obtain ⟨⟨d2, hd2, ed2⟩, _⟩ := mx_is (w := u) hcs.ne
    -- P0
    obtain ⟨X, hX⟩ : ∃ X, c.px - b.px = X := ⟨_, rfl⟩
    obtain ⟨Y, hY⟩ : ∃ Y, c.py - b.py = Y := ⟨_, rfl⟩
    obtain ⟨V, hV⟩ : ∃ V, c.x - b.x = V := ⟨_, rfl⟩
    obtain ⟨U, hU⟩ : ∃ U, c.y - b.y = U := ⟨_, rfl⟩
    have gq : ∀ (w : Pt) (t : Rat), gapQ b c w t = (w.1 : Rat) * (X + V * t) + (w.2 : Rat) * (Y + U * t) - ((wid b c w : Int) : Rat) := fun w t => by
      unfold gapQ ofx ofy
      rw [hX, hY, hV, hU]
    -- every corner's difference lies within
    have inM : ∀ (w a d : Pt), a ∈ b.cs → d ∈ c.cs → dq w.1 w.2 a - dq w.1 w.2 d ≤ ((wid b c w : Int) : Rat) := fun w a d ha hd => by
      have h1 := (mx_is (w := w) hb.ne).2 a ha
      have h2 := (mx_is (w := ngP w) hcs.ne).2 d hd
      have e2 : dot (ngP w) d = -dot w d := by
        unfold dot ngP
        simp only
        rw [Int.neg_mul, Int.neg_mul]
        omega
      rw [dq_dot, dq_dot, ← Rat.intCast_sub]
      refine Rat.intCast_le_intCast.mpr ?_
      unfold wid
      omega
    have wu : ((wid b c u : Int) : Rat) = dq u.1 u.2 a1 - dq u.1 u.2 d1 := by
      rw [dq_dot, dq_dot, ← Rat.intCast_sub]
      unfold wid
      rw [ea1, ed1]
      congr 1
      unfold dot ngP
      simp only
      rw [Int.neg_mul, Int.neg_mul]
      omega
    have wn : ((wid b c (ngP u) : Int) : Rat) = dq u.1 u.2 d2 - dq u.1 u.2 a2 := by
      rw [dq_dot, dq_dot, ← Rat.intCast_sub]
      unfold wid
      rw [ngP_ngP, ea2, ed2]
      congr 1
      unfold dot ngP
      simp only
      rw [Int.neg_mul, Int.neg_mul]
      omega
    -- the middle of the one's corners
    obtain ⟨N, hN⟩ : ∃ N : Rat, ((b.cs.length : Nat) : Rat) = N := ⟨_, rfl⟩
    have N0 : 0 < N := by
      rw [← hN]
      have h3 := hb.1
      exact Rat.natCast_pos.mpr (by omega)
    obtain ⟨sx, hsx⟩ : ∃ s : Rat, (b.cs.map fun a => (a.1 : Rat)).sum = s := ⟨_, rfl⟩
    obtain ⟨sy, hsy⟩ : ∃ s : Rat, (b.cs.map fun a => (a.2 : Rat)).sum = s := ⟨_, rfl⟩
    have dsum : ∀ p q : Rat, (b.cs.map (dq p q)).sum = p * sx + q * sy := fun p q => by
      rw [← hsx, ← hsy]
      have : ∀ l : List Pt, (l.map (dq p q)).sum = p * (l.map fun a => (a.1 : Rat)).sum + q * (l.map fun a => (a.2 : Rat)).sum := fun l => by
        induction l with
        | nil =>
          simp only [List.map_nil, List.sum_nil]
          grind
        | cons x l ih =>
          rw [List.map_cons, List.map_cons, List.map_cons, List.sum_cons, List.sum_cons, List.sum_cons, ih]
          unfold dq
          grind
      exact this b.cs
    have mid : ∀ w ∈ rs, (w.1 : Rat) * sx + (w.2 : Rat) * sy < N * (((wid b c w : Int) : Rat) + dq w.1 w.2 d1) := fun w hw => by
      rw [← dsum, ← hN]
      refine mean_lt (fun a ha => ?_) ?_
      · have := inM w a d1 ha hd1
        grind
      · obtain ⟨a, ha, a', ha', hlt⟩ := not_flat hb (p := (w.1 : Rat)) (q := (w.2 : Rat)) (by
          rcases Classical.em (w.1 = 0) with z | z
          · exact .inr fun z2 => hnz w hw ⟨z, Rat.intCast_inj.mp (show _ = ((0 : Int) : Rat) from z2)⟩
          · exact .inl fun z2 => z (Rat.intCast_inj.mp (show _ = ((0 : Int) : Rat) from z2)))
        refine ⟨a, ha, ?_⟩
        have := inM w a' d1 ha' hd1
        grind
    obtain ⟨t, s, r, s0, r0, ex, ey⟩ := plane_pt (u1 := (u.1 : Rat)) (u2 := (u.2 : Rat)) (V := V) (U := U) (X := X) (Y := Y) (m1x := (a1.1 : Rat) - (d1.1 : Rat)) (m1y := (a1.2 : Rat) - (d1.2 : Rat)) (m2x := (a2.1 : Rat) - (d2.1 : Rat)) (m2y := (a2.2 : Rat) - (d2.2 : Rat)) (cx := sx / N - (d1.1 : Rat)) (cy := sy / N - (d1.2 : Rat)) (by
        rcases Classical.em (u.1 = 0) with z | z
        · exact .inr fun z2 => u0 ⟨z, Rat.intCast_inj.mp (show _ = ((0 : Int) : Rat) from z2)⟩
        · exact .inl fun z2 => z (Rat.intCast_inj.mp (show _ = ((0 : Int) : Rat) from z2))) (by
        unfold rtQ at hr
        rw [hV, hU] at hr
        exact hr) (by rw [hV, hU] at hv; exact hv) (by
        rw [gq, wu] at g1
        unfold dq at g1
        grind) (by
        rw [gq, wn] at g2
        have e1 : ((ngP u).1 : Rat) = -(u.1 : Rat) := Rat.intCast_neg _
        have e2 : ((ngP u).2 : Rat) = -(u.2 : Rat) := Rat.intCast_neg _
        rw [e1, e2] at g2
        unfold dq at g2
        grind)
    refine hn t fun w hw => ?_
    have h1 := inM w a1 d1 ha1 hd1
    have h2 := inM w a2 d2 ha2 hd2
    have h3 := mid w hw
    rw [gq]
    have h4 : (w.1 : Rat) * (sx / N) + (w.2 : Rat) * (sy / N) < ((wid b c w : Int) : Rat) + dq w.1 w.2 d1 := by
      have e : N * ((w.1 : Rat) * (sx / N) + (w.2 : Rat) * (sy / N) - (((wid b c w : Int) : Rat) + dq w.1 w.2 d1)) < 0 := by
        have nz : N ≠ 0 := by grind
        have e2 : N * (sx / N) = sx := by grind
        have e3 : N * (sy / N) = sy := by grind
        have e4 : N * ((w.1 : Rat) * (sx / N) + (w.2 : Rat) * (sy / N) - (((wid b c w : Int) : Rat) + dq w.1 w.2 d1)) = (w.1 : Rat) * (N * (sx / N)) + (w.2 : Rat) * (N * (sy / N)) - N * (((wid b c w : Int) : Rat) + dq w.1 w.2 d1) := by grind
        rw [e4, e2, e3]
        grind
      have := (rat_neg_iff N0).mp e
      grind
    generalize ((wid b c w : Int) : Rat) = wd at *
    unfold dq at h1 h2 h4
    have hn0 : 0 < s + r + 1 := by grind
    refine (rat_neg_iff hn0).mp ?_
    have e5 : (s + r + 1) * ((w.1 : Rat) * (X + V * t) + (w.2 : Rat) * (Y + U * t) - wd) = (w.1 : Rat) * ((s + r + 1) * (X + V * t)) + (w.2 : Rat) * ((s + r + 1) * (Y + U * t)) - (s + r + 1) * wd := by grind
    rw [e5, ex, ey]
    have k1 : s * ((w.1 : Rat) * (a1.1 : Rat) + (w.2 : Rat) * (a1.2 : Rat) - ((w.1 : Rat) * (d1.1 : Rat) + (w.2 : Rat) * (d1.2 : Rat))) ≤ s * wd := Rat.mul_le_mul_of_nonneg_left h1 (Rat.le_of_lt s0)
    have k2 : r * ((w.1 : Rat) * (a2.1 : Rat) + (w.2 : Rat) * (a2.2 : Rat) - ((w.1 : Rat) * (d2.1 : Rat) + (w.2 : Rat) * (d2.2 : Rat))) ≤ r * wd := Rat.mul_le_mul_of_nonneg_left h2 (Rat.le_of_lt r0)
    generalize sx / N = cx at *
    generalize sy / N = cy at *
    have e6 : (w.1 : Rat) * (s * ((a1.1 : Rat) - (d1.1 : Rat)) + r * ((a2.1 : Rat) - (d2.1 : Rat)) + (cx - (d1.1 : Rat))) + (w.2 : Rat) * (s * ((a1.2 : Rat) - (d1.2 : Rat)) + r * ((a2.2 : Rat) - (d2.2 : Rat)) + (cy - (d1.2 : Rat))) - (s + r + 1) * wd
      = (s * ((w.1 : Rat) * (a1.1 : Rat) + (w.2 : Rat) * (a1.2 : Rat) - ((w.1 : Rat) * (d1.1 : Rat) + (w.2 : Rat) * (d1.2 : Rat))) - s * wd) + (r * ((w.1 : Rat) * (a2.1 : Rat) + (w.2 : Rat) * (a2.2 : Rat) - ((w.1 : Rat) * (d2.1 : Rat) + (w.2 : Rat) * (d2.2 : Rat))) - r * wd) + ((w.1 : Rat) * cx + (w.2 : Rat) * cy - (wd + ((w.1 : Rat) * (d1.1 : Rat) + (w.2 : Rat) * (d1.2 : Rat)))) := by grind
    rw [e6]
    generalize (s * ((w.1 : Rat) * (a1.1 : Rat) + (w.2 : Rat) * (a1.2 : Rat) - ((w.1 : Rat) * (d1.1 : Rat) + (w.2 : Rat) * (d1.2 : Rat)))) = A1 at *
    generalize (r * ((w.1 : Rat) * (a2.1 : Rat) + (w.2 : Rat) * (a2.2 : Rat) - ((w.1 : Rat) * (d2.1 : Rat) + (w.2 : Rat) * (d2.2 : Rat)))) = A2 at *
    generalize ((w.1 : Rat) * cx + (w.2 : Rat) * cy) = A3 at *
    generalize ((w.1 : Rat) * (d1.1 : Rat) + (w.2 : Rat) * (d1.2 : Rat)) = A4 at *
    grind

/-! ### first -/
theorem wayI_neg {p q : Int} (h : ¬ (p = 0 ∧ q = 0)) : wayI (-p) (-q) = ngP (wayI p q) := by
  have g0 := gcdI_pos2 h
  unfold wayI ngP
  simp only
  rw [gcdI_neg_l, gcdI_neg_r, Int.neg_ediv_of_dvd (gcdI_dvd_l _ _), Int.neg_ediv_of_dvd (gcdI_dvd_r _ _)]
theorem wayI_bd {p q : Int} {k : Nat} (h : ¬ (p = 0 ∧ q = 0)) (bp : Bd k p) (bq : Bd k q) : WyS k (wayI p q) := by
  have g0 := gcdI_pos2 h
  exact ⟨bp.of_le (div_natAbs_le g0 (gcdI_dvd_l _ _)), bq.of_le (div_natAbs_le g0 (gcdI_dvd_r _ _))⟩
theorem wayI_val {p q : Int} (h : ¬ (p = 0 ∧ q = 0)) : ∃ g : Int, 0 < g ∧ (wayI p q).1 * g = p ∧ (wayI p q).2 * g = q :=
  ⟨gcdI p q, gcdI_pos2 h, Int.ediv_mul_cancel (gcdI_dvd_l _ _), Int.ediv_mul_cancel (gcdI_dvd_r _ _)⟩
theorem way_one {p q : Int} (h : ¬ (p = 0 ∧ q = 0)) : gcdI (wayI p q).1 (wayI p q).2 = 1 := by
  have g0 := gcdI_pos2 h
  have d1 := gcdI_dvd_l p q
  have d2 := gcdI_dvd_r p q
  unfold wayI
  simp only
  unfold gcdI at g0 d1 d2 ⊢
  have e1 : (p / ((Nat.gcd p.natAbs q.natAbs : Nat) : Int)).natAbs = p.natAbs / Nat.gcd p.natAbs q.natAbs := by
    rw [Int.natAbs_ediv_of_dvd d1]
    rfl
  have e2 : (q / ((Nat.gcd p.natAbs q.natAbs : Nat) : Int)).natAbs = q.natAbs / Nat.gcd p.natAbs q.natAbs := by
    rw [Int.natAbs_ediv_of_dvd d2]
    rfl
  rw [e1, e2]
  have : Nat.gcd (p.natAbs / Nat.gcd p.natAbs q.natAbs) (q.natAbs / Nat.gcd p.natAbs q.natAbs) = 1 := by
    rcases Nat.eq_zero_or_pos q.natAbs with z | z
    · exact Nat.gcd_div_gcd_div_gcd_of_pos_left (by omega)
    · exact Nat.gcd_div_gcd_div_gcd_of_pos_right z
  rw [this]
  rfl
def a_p_upright_ways : ASp := fun ds n Q => ∃ (b c : Bw) (kp ks : Nat), ds = [b.d, c.d] ∧ Two kp ks b c ∧ 3 * ks ≤ 1890 ∧ (c.x - b.x = 0 → c.y - b.y = 0 → Q (.lst []) n) ∧ ((c.x - b.x ≠ 0 ∨ c.y - b.y ≠ 0) → ∀ u : Pt, WyS 1900 u → ¬ (u.1 = 0 ∧ u.2 = 0) → gcdI u.1 u.2 = 1 → rtQ b c u = 0 → Q (.lst [pt u, pt (ngP u)]) n)
theorem ok_p_upright_ways (T : Tx K mg A) : FnOk P w K mg base CX0 8 A.f_p_upright_ways A.fd_p_upright_ways ["one", "other"] (spOf K 2 a_p_upright_ways) := by
  refine fn_mir [] 5 rfl (by decide) (by decide) T.F_p_upright_ways sc_p_upright_ways fun cdv Ar outer s H E hr => ?_
  refine ⟨_, _, (pss_cons (ps_asg (pe_call (ok_p_on_one_bottom (P := P) (K := K) T) (hr.mono (by decide)) (by rfl) T.g_p_on_one_bottom T.F_p_on_one_bottom.kp T.b_p_on_one_bottom .nil pass0 (pa_cons (pe_call (ok_p_speed_apart (P := P) (K := K) T) (hr.mono (by decide)) (by rfl) T.g_p_speed_apart T.F_p_speed_apart.kp T.b_p_speed_apart .nil pass0 (pa_cons (pv 0) (pa_cons (pv 1) pa_nil))) pa_nil)) (k_gtup (K := K) (m := 2) rfl rfl (pgs_cons (k_gtup (K := K) (m := 2) rfl rfl (pgs_cons (pg_name (i := 2) sc_p_upright_ways.nd rfl (.inl rfl)) (pgs_cons (pg_name (i := 3) sc_p_upright_ways.nd rfl (.inl rfl)) pgs_nil))) (pgs_cons (pg_name (i := 4) sc_p_upright_ways.nd rfl (.inl rfl)) pgs_nil))))
    (pss_cons (ps_if (PW.pt (pw_and (pt_cmpR (k_eq (K := K) rfl hr.units) (pv 2) pe_int (nomark _)) (pw_and1 (pt_cmpR (k_eq (K := K) rfl hr.units) (pv 3) pe_int (nomark _)))))
      (pss_one (ps_ret (pe_lst pa_nil)))
      pss_nil)
    (pss_one (ps_ret (pe_lst (pa_cons (pe_call (ok_p_way_of (P := P) (K := K) T) (hr.mono (by decide)) (by rfl) T.g_p_way_of T.F_p_way_of.kp T.b_p_way_of .nil pass0 (pa_cons (pe_un un_neg (pv 3)) (pa_cons (pv 2) pa_nil))) (pa_cons (pe_call (ok_p_way_of (P := P) (K := K) T) (hr.mono (by decide)) (by rfl) T.g_p_way_of T.F_p_way_of.kp T.b_p_way_of .nil pass0 (pa_cons (pv 3) (pa_cons (pe_un un_neg (pv 2)) pa_nil))) pa_nil))))))), by infer_instance, fun ds n Q hl hA => ?_⟩
  obtain ⟨b, c, kp, ks, rfl, h, hk, q1, q2⟩ := hA
  have hlim := h.lim
  refine ⟨b, c, kp, ks, rfl, h, ?_⟩
  have hz : ∀ z ∈ [(ks, c.x - b.x), (ks, c.y - b.y)], Bd z.1 (z.2.den : Int) ∧ z.1 ≤ 8900 ∧ Bd ks z.2.num := fun z hz => by
    simp only [List.mem_cons, List.not_mem_nil, or_false] at hz
    rcases hz with rfl | rfl
    · exact ⟨h.vx.2, by omega, h.vx.1⟩
    · exact ⟨h.vy.2, by omega, h.vy.1⟩
  refine ⟨[(ks, c.x - b.x), (ks, c.y - b.y)], _, ks, rfl, .inl rfl, hz, by omega, (show 2 ≤ 1000 by decide), (by simp; omega), fun B hB hdv bB => ?_⟩
  have bB' : Bd (2 * ks + 1) B := bB.le (by simp; omega)
  have dv : ∀ z ∈ [(ks, c.x - b.x), (ks, c.y - b.y)], ((topI B z.2 : Int) : Rat) = z.2 * (B : Rat) ∧ Bd (3 * ks + 1) (topI B z.2) := fun z hz' =>
    ⟨topI_val (hdv z hz'), ((hz z hz').2.2.mul (bB'.of_le (div_natAbs_le (den_pos z.2) (hdv z hz')))).le (by omega)⟩
  obtain ⟨u1, u2⟩ := dv (ks, c.x - b.x) (by simp)
  obtain ⟨v1, v2⟩ := dv (ks, c.y - b.y) (by simp)
  obtain ⟨U1, hU⟩ : ∃ U1, topI B (c.x - b.x) = U1 := ⟨_, rfl⟩
  obtain ⟨V1, hV⟩ : ∃ V1, topI B (c.y - b.y) = V1 := ⟨_, rfl⟩
  simp only [List.map_cons, List.map_nil, hU, hV] at u1 u2 v1 v2 ⊢
  have B0 : (B : Rat) ≠ 0 := fun z => by
    have := Rat.intCast_inj.mp (show (B : Rat) = ((0 : Int) : Rat) from z)
    omega
  have zx : U1 = 0 ↔ c.x - b.x = 0 := by
    constructor
    · intro z
      rw [z] at u1
      rcases Rat.mul_eq_zero.mp u1.symm with z | z
      · exact z
      · exact absurd z B0
    · intro z
      rw [z, Rat.zero_mul] at u1
      exact Rat.intCast_inj.mp (show _ = ((0 : Int) : Rat) from u1)
  have zy : V1 = 0 ↔ c.y - b.y = 0 := by
    constructor
    · intro z
      rw [z] at v1
      rcases Rat.mul_eq_zero.mp v1.symm with z | z
      · exact z
      · exact absurd z B0
    · intro z
      rw [z, Rat.zero_mul] at v1
      exact Rat.intCast_inj.mp (show _ = ((0 : Int) : Rat) from v1)
  have fin : ¬ (U1 = 0 ∧ V1 = 0) → aRet (aLst (aCons (aCall 2 a_p_way_of (aCons (a1 (aIntU fun i => V.int (-i)) (aVar 3)) (aCons (aVar 2) aNil))) (aCons (aCall 2 a_p_way_of (aCons (aVar 3) (aCons (a1 (aIntU fun i => V.int (-i)) (aVar 2)) aNil))) aNil))) (aTop Q) [some b.d, some c.d, some (.int U1), some (.int V1), some (.int B)] n := fun hn => by
    have hn1 : ¬ (-V1 = 0 ∧ U1 = 0) := fun z => hn ⟨z.2, by omega⟩
    have hn2 : ¬ (V1 = 0 ∧ -U1 = 0) := fun z => hn ⟨by omega, z.1⟩
    refine ⟨-V1, U1, 3 * ks + 1, rfl, hn1, v2.neg, u2, by omega, ?_⟩
    refine ⟨V1, -U1, 3 * ks + 1, rfl, hn2, v2, u2.neg, by omega, ?_⟩
    have e : wayI V1 (-U1) = ngP (wayI (-V1) U1) := by
      have := wayI_neg (p := -V1) (q := U1) hn1
      rw [Int.neg_neg] at this
      exact this
    show Q (.lst [pt (wayI (-V1) U1), pt (wayI V1 (-U1))]) n
    rw [e]
    obtain ⟨g, g0, e1, e2⟩ := wayI_val hn1
    have bw := wayI_bd hn1 v2.neg u2
    refine q2 ?_ (wayI (-V1) U1) ⟨bw.1.le (by omega), bw.2.le (by omega)⟩ (fun z => ?_) (way_one hn1) ?_
    · rcases Classical.em (U1 = 0) with z | z
      · exact .inr fun z2 => hn ⟨z, zy.mpr z2⟩
      · exact .inl fun z2 => z (zx.mpr z2)
    · rw [z.1, Int.zero_mul] at e1
      rw [z.2, Int.zero_mul] at e2
      exact hn1 ⟨e1.symm, e2.symm⟩
    · have c1 : ((wayI (-V1) U1).1 : Rat) * (g : Rat) = -(V1 : Rat) := by rw [← Rat.intCast_mul, e1, Rat.intCast_neg]
      have c2 : ((wayI (-V1) U1).2 : Rat) * (g : Rat) = (U1 : Rat) := by rw [← Rat.intCast_mul, e2]
      have gz : (g : Rat) ≠ 0 := fun z => by
        have := Rat.intCast_inj.mp (show (g : Rat) = ((0 : Int) : Rat) from z)
        omega
      unfold rtQ
      have : (g : Rat) * (B : Rat) * (((wayI (-V1) U1).1 : Rat) * (c.x - b.x) + ((wayI (-V1) U1).2 : Rat) * (c.y - b.y)) = 0 := by
        generalize ((wayI (-V1) U1).1 : Rat) = a at *
        generalize ((wayI (-V1) U1).2 : Rat) = d at *
        have e3 : (g : Rat) * (B : Rat) * (a * (c.x - b.x) + d * (c.y - b.y)) = (a * (g : Rat)) * ((c.x - b.x) * (B : Rat)) + (d * (g : Rat)) * ((c.y - b.y) * (B : Rat)) := by grind
        rw [e3, c1, c2, ← u1, ← v1]
        grind
      rcases Rat.mul_eq_zero.mp this with z | z
      · rcases Rat.mul_eq_zero.mp z with z | z
        · exact absurd z gz
        · exact absurd z B0
      · exact z
  refine dIte (fun z1 => dIte (fun z2 => q1 (zx.mp z1) (zy.mp z2)) fun z2 => fin fun z => z2 z.2) fun z1 => aF (fin fun z => z1 z.1)
theorem ord_nn {x : Rat} : 0 ≤ ordI x 0 ↔ 0 ≤ x := by
  unfold ordI
  constructor
  · intro h
    refine Rat.not_lt.mp fun z => ?_
    rw [if_pos z] at h
    exact absurd h (by decide)
  · intro h
    rw [if_neg (Rat.not_lt.mpr h)]
    split <;> decide
theorem bdq0 {k : Nat} : BdQ (k + 1) 0 := ⟨by unfold Bd; exact Nat.pow_pos (by decide), Nat.one_lt_two_pow (by omega)⟩
def a_p_is_clear : ASp := fun ds n Q => ∃ (b c : Bw) (w : Pt) (u : Rat) (kp ks kt : Nat), ds = [b.d, c.d, pt w, sh u] ∧ Two kp ks b c ∧ WyS 8000 w ∧ BdQ kt u ∧ kp + ks + kt ≤ 8000 ∧ (ClrQ b c w u → Q (.bl true) n) ∧ (¬ ClrQ b c w u → Q (.bl false) n)
theorem ok_p_is_clear (T : Tx K mg A) : FnOk P w K mg base CX0 10 A.f_p_is_clear A.fd_p_is_clear ["one", "other", "way", "until"] (spOf K 4 a_p_is_clear) := by
  refine fn_mir [] 4 rfl (by decide) (by decide) T.F_p_is_clear sc_p_is_clear fun cdv Ar outer s H E hr => ?_
  haveI := kon_NOUGHT (K := K) T
  refine ⟨_, _, (pss_one (ps_ret (pe_and (pe_cmpR op_ge (pe_call (ok_p_order (P := P) (K := K) T) (hr.mono (by decide)) (by rfl) T.g_p_order T.F_p_order.kp T.b_p_order .nil pass0 (pa_cons (pe_call (dvs := [V.ref A.n_NOUGHT]) (ok_p_gap (P := P) (K := K) T) (hr.mono (by decide)) (by rfl) T.g_p_gap T.F_p_gap.kp T.b1_p_gap (.cons rfl .nil) pass0 (pa_cons (pv 0) (pa_cons (pv 1) (pa_cons (pv 2) pa_nil)))) (pa_cons (k_kon (by rfl) T.g_NOUGHT) pa_nil))) pe_int (nomark _)) (pe_one (pe_cmpR op_ge (pe_call (ok_p_order (P := P) (K := K) T) (hr.mono (by decide)) (by rfl) T.g_p_order T.F_p_order.kp T.b_p_order .nil pass0 (pa_cons (pe_call (ok_p_gap (P := P) (K := K) T) (hr.mono (by decide)) (by rfl) T.g_p_gap T.F_p_gap.kp T.b_p_gap .nil pass0 (pa_cons (pv 0) (pa_cons (pv 1) (pa_cons (pv 2) (pa_cons (pv 3) pa_nil))))) (pa_cons (k_kon (by rfl) T.g_NOUGHT) pa_nil))) pe_int (nomark _)))))), by infer_instance, fun ds n Q hl hA => ?_⟩
  obtain ⟨b, c, w, u, kp, ks, kt, rfl, h, hw, hu, hl, q1, q2⟩ := hA
  have hlim := h.lim
  have g0 := (h.gap hw (bdq0 (k := 0))).2.b (by omega)
  have g1 := (h.gap hw hu).2.b (by omega)
  refine ⟨b, c, w, 0, kp, ks, 1, 8000, rfl, h, hw, bdq0, by omega, by omega, ?_⟩
  refine ⟨_, 0, _, 1, rfl, g0, bdq0, by omega, by decide, ?_⟩
  refine dIte (fun z1 => ?_) fun z1 => ?_
  · refine ⟨b, c, w, u, kp, ks, kt, 8000, rfl, h, hw, hu, hl, by omega, ?_⟩
    refine ⟨_, 0, _, 1, rfl, g1, bdq0, by omega, by decide, ?_⟩
    show Q (.bl (decide (0 ≤ ordI (gapQ b c w u) 0))) n
    by_cases z2 : 0 ≤ ordI (gapQ b c w u) 0
    · rw [decide_eq_true z2]
      exact q1 ⟨ord_nn.mp z1, ord_nn.mp z2⟩
    · rw [decide_eq_false z2]
      exact q2 fun z => z2 (ord_nn.mpr z.2)
  · exact q2 fun z => z1 (ord_nn.mpr z.1)
theorem clr_ng {b c : Bw} {u : Pt} {s t : Rat} (hr : rtQ b c u = 0) (h : 0 ≤ gapQ b c u s) : ClrQ b c u t := by
  rw [gapQ_lin, hr] at h
  constructor
  · grind
  · rw [gapQ_lin, hr]
    grind
theorem rt_ng {b c : Bw} {u : Pt} (hr : rtQ b c u = 0) : rtQ b c (ngP u) = 0 := by
  unfold rtQ ngP at *
  simp only
  rw [Rat.intCast_neg, Rat.intCast_neg]
  grind
theorem PwOk.nz {b c : Bw} {rs : List Pt} (h : PwOk (waysOf b.cs) (waysOf c.cs) rs) (hb : ShOk b.cs) (hc : ShOk c.cs) : ∀ w ∈ rs, ¬ (w.1 = 0 ∧ w.2 = 0) := h.sub (way_nz hb) fun w hw z => way_nz hc w hw (by
  unfold ngP at z
  simp only at z
  omega)
/-- what clear_way and first tell when the two don't meet -/
structure Clear (b c : Bw) (rs : List Pt) (u : Rat) (w : Pt) : Prop where
  clr : ClrQ b c w u
  wys : WyS 1900 w
  one : gcdI w.1 w.2 = 1
  or : w ∈ rs ∨ ∀ t, ¬ OverQ b c rs t
theorem Clear.open {b c : Bw} {rs : List Pt} {u t : Rat} {w : Pt} (h : Clear b c rs u w) (h0 : 0 ≤ t) (h1 : t ≤ u) : ¬ OverQ b c rs t := fun z => by
  rcases h.or with g | g
  · exact absurd (z w g) (Rat.not_lt.mpr (clr_mid h.clr h0 h1))
  · exact g t z
theorem ways_one {cs : List Pt} (h : ShOk cs) : ∀ w ∈ waysOf cs, gcdI w.1 w.2 = 1 := fun w hw => by
  obtain ⟨e, he, rfl⟩ := List.mem_map.mp hw
  exact way_one fun z => (prs_ok h e he).1 (Prod.ext (by omega) (by omega))
theorem PwOk.one {b c : Bw} {rs : List Pt} (h : PwOk (waysOf b.cs) (waysOf c.cs) rs) (hb : ShOk b.cs) (hc : ShOk c.cs) : ∀ w ∈ rs, gcdI w.1 w.2 = 1 := h.sub (ways_one hb) fun w hw => by
  have := ways_one hc w hw
  unfold ngP
  simp only
  rw [gcdI_neg_l, gcdI_neg_r]
  exact this
def a_p_clear_way : ASp := fun ds n Q => ∃ (b c : Bw) (rs : List Pt) (B : Rat) (fS fL : Pt → Int) (k kp ks kt : Nat) (u : Rat), ds = [b.d, c.d, sh u, .lst (rs.map (cD fS fL))] ∧ Two kp ks b c ∧ CoOk b c k rs B fS fL ∧ k ≤ 60000 ∧ 3 * ks ≤ 1890 ∧ BdQ kt u ∧ kp + ks + kt ≤ 8000 ∧ 0 ≤ u ∧ ¬ OverQ b c rs 0 ∧ (∀ w ∈ rs, Meets b c rs w (tmQ b c w) → ¬ tmQ b c w < u) ∧ ∀ w, Clear b c rs u w → Q (pt w) n
theorem ok_p_clear_way (T : Tx K mg A) : FnOk P w K mg base CX0 11 A.f_p_clear_way A.fd_p_clear_way ["one", "other", "until", "all_courses"] (spOf K 4 a_p_clear_way) := by
  refine fn_mir [] 6 rfl (by decide) (by decide) T.F_p_clear_way sc_p_clear_way fun cdv Ar outer s H E hr => ?_
  refine ⟨_, _, (pss_cons (ps_for PassesOwn.never rfl (k_iter (K := K) rfl (pv 3)) (pg_name (i := 4) sc_p_clear_way.nd rfl (.inl rfl))
      (pss_one (ps_if (PW.pt (pw_and (pt_cmpR op_ge (pe_ix (k_ix (K := K) rfl) (pv 4) pe_int (fun _ _ => rfl)) pe_int (nomark _)) (pw_and1 (pt_cmpR op_ge (pe_call (ok_p_height (P := P) (K := K) T) (hr.mono (by decide)) (by rfl) T.g_p_height T.F_p_height.kp T.b_p_height .nil pass0 (pa_cons (pv 4) (pa_cons (pv 2) pa_nil))) pe_int (nomark _)))))
      (pss_one (ps_ret (pe_ix (k_ix (K := K) rfl) (pv 4) pe_int (fun _ _ => rfl))))
      pss_nil)))
    (pss_one (ps_ret (pe_ix (k_ix (K := K) rfl) (pe_lc (own := [("way", 5)]) rfl sc_p_clear_way.nd (k_iter (K := K) rfl (pe_call (ok_p_upright_ways (P := P) (K := K) T) (hr.mono (by decide)) (by rfl) T.g_p_upright_ways T.F_p_upright_ways.kp T.b_p_upright_ways .nil pass0 (pa_cons (pv 0) (pa_cons (pv 1) pa_nil)))) (blkOk_by (own := [("way", 5)]) (N := ["one", "other", "until", "all_courses", "course", "way"]) (sc := defScope s_p_clear_way) (by decide +kernel)) (fun _ _ _ _ _ => (pg_name (i := 5) sc_p_clear_way.nd rfl (Or.inl rfl))) (fun _ _ _ _ _ => (pts_one (pt_val (pe_call (ok_p_is_clear (P := P) (K := K) T) (hr.mono (by decide)) (by rfl) T.g_p_is_clear T.F_p_is_clear.kp T.b_p_is_clear .nil pass0 (pa_cons (pv 0) (pa_cons (pv 1) (pa_cons (pv 5) (pa_cons (pv 2) pa_nil)))))))) (fun _ _ _ _ _ => (pv 5))) pe_int (fun _ _ => rfl))))), by infer_instance, fun ds n Q hl hA => ?_⟩
  obtain ⟨b, c, rs, B, fS, fL, k, kp, ks, kt, u, rfl, h, hco, hk, hks, hu, hl, hu0, h0, hm, q⟩ := hA
  have hlim := h.lim
  refine aFor_ind (fun ds ρ m => m = n ∧ ∃ (us vs : List Pt) (y4 y5 : Option D), rs = us ++ vs ∧ ds = vs.map (cD fS fL) ∧ ρ = [some b.d, some c.d, some (sh u), some (.lst (rs.map (cD fS fL))), y4, y5] ∧ ∀ w ∈ us, ¬ ClrQ b c w u) ?_ ?_ ⟨rfl, [], rs, none, none, rfl, rfl, rfl, fun w hw => by cases hw⟩
  · rintro d r _ m ⟨rfl, us, vs, y4, y5, e0, e, rfl, hus⟩ ih
    cases vs with
    | nil => cases e
    | cons v vs =>
    obtain ⟨rfl, rfl⟩ := List.cons.inj e
    have hv : v ∈ rs := by rw [e0]; exact List.mem_append_right _ List.mem_cons_self
    have bv := hco.bd v hv
    have go : ¬ ClrQ b c v u → ∀ w ∈ us ++ [v], ¬ ClrQ b c w u := fun hn w hw => by
      rcases List.mem_append.mp hw with z | z
      · exact hus w z
      · rw [List.mem_singleton.mp z]
        exact hn
    refine dIte (fun z1 => ?_) fun z1 => aF (ih _ _ ⟨rfl, us ++ [v], vs, _, _, by rw [e0]; simp, rfl, rfl, go fun z => z1 ((hco.snn v).mpr z.1)⟩)
    refine ⟨v, fS v, fL v, u, k, kt, rfl, bv.2.1, bv.2.2, hu, hk, by omega, ?_⟩
    refine dIte (fun z2 => ?_) fun z2 => ih _ _ ⟨rfl, us ++ [v], vs, _, _, by rw [e0]; simp, rfl, rfl, go fun z => z2 ((hco.high v u).mpr z.2)⟩
    exact q v ⟨⟨(hco.snn v).mp z1, (hco.high v u).mp z2⟩, ⟨bv.1.1.le (by decide), bv.1.2.le (by decide)⟩, hco.pw.one h.sb h.sc v hv, .inl hv⟩
  · rintro _ m ⟨rfl, us, vs, y4, y5, e0, e, rfl, hus⟩
    cases vs with
    | cons v vs => cases e
    | nil =>
    rw [List.append_nil] at e0
    subst e0
    have nev := never_over hu0 h0 hm hus
    refine ⟨b, c, kp, ks, rfl, h, hks, fun z1 z2 => ?_, fun hv w hw hw0 hw1 hr => ?_⟩
    · exfalso
      refine nev 0 fun w hw => Rat.not_le.mp fun z => hus w hw ⟨z, ?_⟩
      rw [gapQ_lin]
      have : rtQ b c w = 0 := by
        unfold rtQ
        rw [z1, z2]
        grind
      rw [this]
      grind
    · have hor := upright_clear h.sb h.sc (hco.pw.nz h.sb h.sc) hw0 hr hv nev
      have fin : ∀ v : Pt, (v = w ∨ v = ngP w) → ClrQ b c v u → Q (pt v) m := fun v hv2 hcl => by
        refine q v ⟨hcl, ?_, ?_, .inr nev⟩
        · rcases hv2 with rfl | rfl
          · exact hw
          · exact ng_wys hw
        · rcases hv2 with rfl | rfl
          · exact hw1
          · unfold ngP
            simp only
            rw [gcdI_neg_l, gcdI_neg_r]
            exact hw1
      refine ⟨(show 2 ≤ 1000000 by decide), b, c, w, u, kp, ks, kt, rfl, h, ⟨hw.1.le (by decide), hw.2.le (by decide)⟩, hu, hl, fun yes => aT ?_, fun no => aF ?_⟩
      · refine ⟨b, c, ngP w, u, kp, ks, kt, rfl, h, ng_wys ⟨hw.1.le (by decide), hw.2.le (by decide)⟩, hu, hl, fun _ => aT ?_, fun _ => aF ?_⟩
        · exact (show aIx (.lst [pt w, pt (ngP w)]) (.int 0) m Q from aIx_lst0 (fin w (.inl rfl) yes))
        · exact (show aIx (.lst [pt w]) (.int 0) m Q from aIx_lst0 (fin w (.inl rfl) yes))
      · have hng : ClrQ b c (ngP w) u := by
          rcases hor with z | z
          · exact absurd (clr_ng hr z) no
          · exact clr_ng (rt_ng hr) z
        refine ⟨b, c, ngP w, u, kp, ks, kt, rfl, h, ng_wys ⟨hw.1.le (by decide), hw.2.le (by decide)⟩, hu, hl, fun _ => aT ?_, fun no2 => absurd hng no2⟩
        exact (show aIx (.lst [pt (ngP w)]) (.int 0) m Q from aIx_lst0 (fin (ngP w) (.inr rfl) hng))
def a_p_first : ASp := fun ds n Q => ∃ (b c : Bw) (kp ks kt : Nat) (u : Rat), ds = [b.d, c.d, sh u] ∧ Two kp ks b c ∧ 3 * (kp + ks) ≤ 7800 ∧ 3 * ks ≤ 1890 ∧ BdQ kt u ∧ kp + ks + kt ≤ 8000 ∧ 0 ≤ u ∧ ∃ rs : List Pt, PwOk (waysOf b.cs) (waysOf c.cs) rs ∧ ¬ OverQ b c rs 0 ∧ (∀ (w : Pt) (t : Rat), Meets b c rs w t → t < u → 0 ≤ t → WyS 1900 w → BdQ (3 * (kp + ks) + 60) t → Q (.tup [.str "meets", sh t, pt w]) n) ∧ ((∀ w ∈ rs, Meets b c rs w (tmQ b c w) → ¬ tmQ b c w < u) → ∀ w, Clear b c rs u w → Q (.tup [.str "clear", pt w]) n)
theorem ok_p_first (T : Tx K mg A) : FnOk P w K mg base CX0 12 A.f_p_first A.fd_p_first ["one", "other", "until"] (spOf K 3 a_p_first) := by
  refine fn_mir [] 10 rfl (by decide) (by decide) T.F_p_first sc_p_first fun cdv Ar outer s H E hr => ?_
  refine ⟨_, _, (pss_cons (ps_set (i := 3) sc_p_first.nd rfl (.inl rfl) (pe_call (ok_p_courses (P := P) (K := K) T) (hr.mono (by decide)) (by rfl) T.g_p_courses T.F_p_courses.kp T.b_p_courses .nil pass0 (pa_cons (pv 0) (pa_cons (pv 1) pa_nil))))
    (pss_cons (ps_if (pt_val (pe_callB (k_all (K := K) rfl rfl) (by rfl) T.m_all (by decide +kernel) (pa_cons (pe_lc (own := [("way", 7), ("start", 8), ("slope", 9)]) rfl sc_p_first.nd (k_iter (K := K) rfl (pv 3)) (blkOk_by (own := [("way", 7), ("start", 8), ("slope", 9)]) (N := ["one", "other", "until", "all_courses", "low", "high", "met", "way", "start", "slope"]) (sc := defScope s_p_first) (by decide +kernel)) (fun _ _ _ _ _ => (k_gtup (K := K) (m := 3) rfl rfl (pgs_cons (pg_name (i := 7) sc_p_first.nd rfl (Or.inl rfl)) (pgs_cons (pg_name (i := 8) sc_p_first.nd rfl (Or.inl rfl)) (pgs_cons (pg_name (i := 9) sc_p_first.nd rfl (Or.inl rfl)) pgs_nil))))) (fun _ _ _ _ _ => pts_nil) (fun _ _ _ _ _ => (pe_cmpR op_lt (pv 8) pe_int (nomark _)))) pa_nil)))
      (pss_cons ps_never
    (pss_one ps_never))
      pss_nil)
    (pss_cons (ps_set (i := 6) sc_p_first.nd rfl (.inl rfl) (pe_call (ok_p_meeting_courses (P := P) (K := K) T) (hr.mono (by decide)) (by rfl) T.g_p_meeting_courses T.F_p_meeting_courses.kp T.b_p_meeting_courses .nil pass0 (pa_cons (pv 3) (pa_cons (pv 2) pa_nil))))
    (pss_cons (ps_if (pt_cmpR op_gt (pe_callB (k_len (K := K) rfl) (by rfl) T.m_len (by decide +kernel) (pa_cons (pv 6) pa_nil)) pe_int (nomark _))
      (pss_one (ps_ret (pe_tup (pa_cons pe_str (pa_cons (pe_call (ok_p_time_of (P := P) (K := K) T) (hr.mono (by decide)) (by rfl) T.g_p_time_of T.F_p_time_of.kp T.b_p_time_of .nil pass0 (pa_cons (pe_ix (k_ix (K := K) rfl) (pv 6) pe_int (fun _ _ => rfl)) pa_nil)) (pa_cons (pe_ix (k_ix (K := K) rfl) (pe_ix (k_ix (K := K) rfl) (pv 6) pe_int (fun _ _ => rfl)) pe_int (fun _ _ => rfl)) pa_nil))))))
      pss_nil)
    (pss_one (ps_ret (pe_tup (pa_cons pe_str (pa_cons (pe_call (ok_p_clear_way (P := P) (K := K) T) (hr.mono (by decide)) (by rfl) T.g_p_clear_way T.F_p_clear_way.kp T.b_p_clear_way .nil pass0 (pa_cons (pv 0) (pa_cons (pv 1) (pa_cons (pv 2) (pa_cons (pv 3) pa_nil))))) pa_nil))))))))), by infer_instance, fun ds n Q hl hA => ?_⟩
  obtain ⟨b, c, kp, ks, kt, u, rfl, h, hl, hks, hu, hl2, hu0, rs', hpw, h0, q1, q2⟩ := hA
  refine ⟨b, c, kp, ks, rfl, h, fun rs B fS fL hco => ?_⟩
  obtain rfl : rs' = rs := hpw.uniq hco.pw
  have hlen := hco.len
  refine ⟨by rw [List.length_map]; omega, ?_⟩
  refine aLc_ind (fun acc ds j => j = n ∧ ∃ us vs : List Pt, rs' = us ++ vs ∧ ds = vs.map (cD fS fL) ∧ acc = (us.map fun w => decide (fS w < 0)).map D.bl) ?_ ?_ ⟨rfl, [], rs', rfl, rfl, rfl⟩
  · rintro acc d r j ⟨rfl, us, vs, e0, e, rfl⟩ ih
    cases vs with
    | nil => cases e
    | cons v vs =>
    obtain ⟨rfl, rfl⟩ := List.cons.inj e
    exact aT (ih _ _ ⟨rfl, us ++ [v], vs, by rw [e0]; simp, rfl, by rw [List.map_append, List.map_append]; rfl⟩)
  · rintro acc j ⟨rfl, us, vs, e0, e, rfl⟩
    cases vs with
    | cons v vs => cases e
    | nil =>
    rw [List.append_nil] at e0
    subst e0
    refine ⟨_, rfl, ?_⟩
    have hall : ((rs'.map fun w => decide (fS w < 0)).all id) = false := by
      refine Bool.eq_false_iff.mpr fun z => h0 fun w hw => (hco.sneg w).mp ?_
      rw [List.all_map] at z
      exact of_decide_eq_true (List.all_eq_true.mp z w hw)
    show aIte ((rs'.map fun w => decide (fS w < 0)).all id) _ _
    rw [hall]
    refine aF ⟨b, c, rs', B, fS, fL, 3 * (kp + ks) + 60, kt, u, rfl, hco, by omega, hu, by omega, fun ms hml hms hsub => ?_⟩
    have hmlen : (List.map (cD fS fL) ms).length = ms.length := List.length_map _
    refine dIte (fun hpos => ?_) fun hpos => ?_
    · cases ms with
      | nil => exact absurd hpos (show ¬ ((0 : Int) < ((0 : Nat) : Int)) by decide)
      | cons w ms =>
      obtain ⟨hw, hM, hlt⟩ := (hms w).mp List.mem_cons_self
      have hb := hco.bd w hw
      have hl0 : fL w ≠ 0 := by have := (hco.lneg w).mpr hM.fall; omega
      refine aIx_lst0 ⟨w, fS w, fL w, _, rfl, hb.2.1, hb.2.2, hl0, by omega, ?_⟩
      rw [hco.time hl0]
      show aIx (.lst (cD fS fL w :: ms.map (cD fS fL))) (.int 0) j fun d n1 => aIx d (.int 0) n1 fun e n2 => Q (.tup [.str "meets", sh (tmQ b c w), e]) n2
      refine aIx_lst0 ?_
      show Q (.tup [.str "meets", sh (tmQ b c w), pt w]) j
      have hT : 0 ≤ tmQ b c w := Rat.not_lt.mp fun z => by
        have h7 := gap_fallS hM.fall z
        have h8 := hM.nn
        have h9 := hM.zero
        rw [h9] at h7
        exact absurd h7 (Rat.not_lt.mpr h8)
      refine q1 w (tmQ b c w) hM hlt hT ⟨hb.1.1.le (by decide), hb.1.2.le (by decide)⟩ ?_
      rw [← hco.time hl0]
      have e5 : Rat.divInt (-(fS w)) (fL w) = Rat.divInt (fS w) (-(fL w)) := (Rat.divInt_eq_divInt_iff hl0 (by omega)).mpr (by grind)
      rw [e5]
      exact divInt_bd (by have := (hco.lneg w).mpr hM.fall; omega) hb.2.1 hb.2.2.neg
    · have hnil : ms = [] := by
        cases ms with
        | nil => rfl
        | cons w ms => exact absurd (show (0 : Int) < ((List.map (cD fS fL) (w :: ms)).length : Int) by rw [List.length_map, List.length_cons]; omega) hpos
      have hno : ∀ w ∈ rs', Meets b c rs' w (tmQ b c w) → ¬ tmQ b c w < u := fun w hw hM hlt => by
        have := (hms w).mpr ⟨hw, hM, hlt⟩
        rw [hnil] at this
        cases this
      exact ⟨b, c, rs', B, fS, fL, _, kp, ks, kt, u, rfl, h, hco, by omega, by omega, hu, hl2, hu0, h0, hno, fun w hc => q2 hno w hc⟩

/-! ### the law's own look: over or not -/
def a_l_reach : ASp := fun ds n Q => ∃ (cs : List Pt) (w : Pt), ds = [.tup (cs.map pt), pt w] ∧ ShOk cs ∧ WyS 8000 w ∧ Q (.int (mx w cs)) n
theorem ok_l_reach (T : Tx K mg A) : FnOk P w K mg base CX0 1 A.f_l_reach A.fd_l_reach ["_law_shape_here", "_law_way_here"] (spOf K 2 a_l_reach) := by
  refine fn_mir [] 3 rfl (by decide) (by decide) T.F_l_reach sc_l_reach fun cdv Ar outer s H E hr => ?_
  refine ⟨_, _, (pss_one (ps_ret (pe_callB (k_max1 (K := K) rfl rfl) (by rfl) T.m_max (by decide +kernel) (pa_cons (pe_lc (own := [("_law_corner", 2)]) rfl sc_l_reach.nd (k_iter (K := K) rfl (pv 0)) (blkOk_by (own := [("_law_corner", 2)]) (N := ["_law_shape_here", "_law_way_here", "_law_corner"]) (sc := defScope s_l_reach) (by decide +kernel)) (fun _ _ _ _ _ => (pg_name (i := 2) sc_l_reach.nd rfl (Or.inl rfl))) (fun _ _ _ _ _ => pts_nil) (fun _ _ _ _ _ => (pe_op (k_add (K := K) rfl) (pe_op k_mul (pe_ix (k_ix (K := K) rfl) (pv 1) pe_int (fun _ _ => rfl)) (pe_ix (k_ix (K := K) rfl) (pv 2) pe_int (fun _ _ => rfl))) (pe_op k_mul (pe_ix (k_ix (K := K) rfl) (pv 1) pe_int (fun _ _ => rfl)) (pe_ix (k_ix (K := K) rfl) (pv 2) pe_int (fun _ _ => rfl)))))) pa_nil)))), by infer_instance, fun ds n Q hl hA => ?_⟩
  obtain ⟨cs, w, rfl, hc, hw, q⟩ := hA
  have h16 := hc.2.1
  refine ⟨by rw [List.length_map]; omega, ?_⟩
  refine aLc_ind (fun acc ds m => m = n ∧ ∃ us vs : List Pt, cs = us ++ vs ∧ ds = vs.map pt ∧ acc = us.map fun c => D.int (dot w c)) ?_ ?_ ⟨rfl, [], cs, rfl, rfl, rfl⟩
  · rintro acc d r m ⟨rfl, us, vs, rfl, e, rfl⟩ ih
    cases vs with
    | nil => cases e
    | cons v vs =>
    obtain ⟨rfl, rfl⟩ := List.cons.inj e
    have hp := hc.2.2.1 v (List.mem_append_right _ List.mem_cons_self)
    unfold PtS at hp
    refine aT ⟨mulA hw.1 (bd_pt hp.1 hp.2.1) (by decide) (by decide), mulA hw.2 (bd_pt hp.2.2.1 hp.2.2.2) (by decide) (by decide), ih _ _ ⟨rfl, us ++ [v], vs, by simp, rfl, by rw [List.map_append]; rfl⟩⟩
  · rintro acc m ⟨rfl, us, vs, rfl, e, rfl⟩
    cases vs with
    | cons v vs => cases e
    | nil =>
    rw [List.append_nil] at hc q
    refine ⟨us.map (dot w), by rw [List.map_map]; rfl, by rw [List.length_map]; have := hc.1; omega, fun m h1 h2 => ?_⟩
    have : IsMax w us m := by
      obtain ⟨c, h3, h4⟩ := List.mem_map.mp h1
      exact ⟨⟨c, h3, h4.symm⟩, fun x hx => h2 _ (List.mem_map.mpr ⟨x, hx, rfl⟩)⟩
    rw [this.uniq (mx_is hc.ne)]
    exact q
theorem fq_m1 : Fq 1 (fr (-1) 1) (-1) := ⟨-1, 1, rfl, by unfold Bd; decide, by unfold Bd; decide, by decide, by decide +kernel⟩
theorem fq_top {k : Nat} {a b : Int} {q : Rat} (h : q = Rat.divInt a b) (hb : 0 < b) : (a : Rat) = (b : Rat) * q := by
  rw [h, Rat.divInt_eq_div]
  have : (b : Rat) ≠ 0 := fun z => by
    have := Rat.intCast_inj.mp (show (b : Rat) = ((0 : Int) : Rat) from z)
    omega
  grind
def a_l_between : ASp := fun ds n Q => ∃ (b c : Bw) (d : D) (t : Rat) (kb mb kc mc kt : Nat), ds = [b.d, c.d, d] ∧ b.ok kb mb ∧ c.ok kc mc ∧ Fq kt d t ∧ kb + mb + kc + mc + kt ≤ 60000 ∧ ∀ X Y Z : Int, 0 < Z → (X : Rat) = (Z : Rat) * ofx b c t → (Y : Rat) = (Z : Rat) * ofy b c t → Bd (2 * (kb + mb + kc + mc + kt) + 12) X → Bd (2 * (kb + mb + kc + mc + kt) + 12) Y → Bd (2 * (kb + mb + kc + mc + kt) + 12) Z → Q (.tup [.int X, .int Y, .int Z]) n
theorem ok_l_between (T : Tx K mg A) : FnOk P w K mg base CX0 3 A.f_l_between A.fd_l_between ["_law_one", "_law_other", "_law_after"] (spOf K 3 a_l_between) := by
  refine fn_mir [] 6 rfl (by decide) (by decide) T.F_l_between sc_l_between fun cdv Ar outer s H E hr => ?_
  refine ⟨_, _, (pss_cons (ps_set (i := 3) sc_l_between.nd rfl (.inl rfl) (pe_call (ok_l_spot_plus (P := P) (K := K) T) (hr.mono (by decide)) (by rfl) T.g_l_spot_plus T.F_l_spot_plus.kp T.b_l_spot_plus .nil pass0 (pa_cons (pe_ix (k_ix (K := K) rfl) (pv 1) pe_int (fun _ _ => rfl)) (pa_cons (pe_call (ok_l_spot_times (P := P) (K := K) T) (hr.mono (by decide)) (by rfl) T.g_l_spot_times T.F_l_spot_times.kp T.b_l_spot_times .nil pass0 (pa_cons (pe_ix (k_ix (K := K) rfl) (pv 0) pe_int (fun _ _ => rfl)) (pa_cons (pe_tup (pa_cons (pe_un un_neg pe_int) (pa_cons pe_int pa_nil))) pa_nil))) pa_nil))))
    (pss_cons (ps_set (i := 4) sc_l_between.nd rfl (.inl rfl) (pe_call (ok_l_spot_plus (P := P) (K := K) T) (hr.mono (by decide)) (by rfl) T.g_l_spot_plus T.F_l_spot_plus.kp T.b_l_spot_plus .nil pass0 (pa_cons (pe_ix (k_ix (K := K) rfl) (pv 1) pe_int (fun _ _ => rfl)) (pa_cons (pe_call (ok_l_spot_times (P := P) (K := K) T) (hr.mono (by decide)) (by rfl) T.g_l_spot_times T.F_l_spot_times.kp T.b_l_spot_times .nil pass0 (pa_cons (pe_ix (k_ix (K := K) rfl) (pv 0) pe_int (fun _ _ => rfl)) (pa_cons (pe_tup (pa_cons (pe_un un_neg pe_int) (pa_cons pe_int pa_nil))) pa_nil))) pa_nil))))
    (pss_cons (ps_set (i := 5) sc_l_between.nd rfl (.inl rfl) (pe_call (ok_l_spot_plus (P := P) (K := K) T) (hr.mono (by decide)) (by rfl) T.g_l_spot_plus T.F_l_spot_plus.kp T.b_l_spot_plus .nil pass0 (pa_cons (pv 3) (pa_cons (pe_call (ok_l_spot_times (P := P) (K := K) T) (hr.mono (by decide)) (by rfl) T.g_l_spot_times T.F_l_spot_times.kp T.b_l_spot_times .nil pass0 (pa_cons (pv 4) (pa_cons (pv 2) pa_nil))) pa_nil))))
    (pss_one (ps_ret (pe_tup (pa_cons (pe_op k_mul (pe_ix (k_ix (K := K) rfl) (pe_ix (k_ix (K := K) rfl) (pv 5) pe_int (fun _ _ => rfl)) pe_int (fun _ _ => rfl)) (pe_ix (k_ix (K := K) rfl) (pe_ix (k_ix (K := K) rfl) (pv 5) pe_int (fun _ _ => rfl)) pe_int (fun _ _ => rfl))) (pa_cons (pe_op k_mul (pe_ix (k_ix (K := K) rfl) (pe_ix (k_ix (K := K) rfl) (pv 5) pe_int (fun _ _ => rfl)) pe_int (fun _ _ => rfl)) (pe_ix (k_ix (K := K) rfl) (pe_ix (k_ix (K := K) rfl) (pv 5) pe_int (fun _ _ => rfl)) pe_int (fun _ _ => rfl))) (pa_cons (pe_op k_mul (pe_ix (k_ix (K := K) rfl) (pe_ix (k_ix (K := K) rfl) (pv 5) pe_int (fun _ _ => rfl)) pe_int (fun _ _ => rfl)) (pe_ix (k_ix (K := K) rfl) (pe_ix (k_ix (K := K) rfl) (pv 5) pe_int (fun _ _ => rfl)) pe_int (fun _ _ => rfl))) pa_nil))))))))), by infer_instance, fun ds n Q hl hA => ?_⟩
  obtain ⟨b, c, d, t, kb, mb, kc, mc, kt, rfl, hb, hc, ht, hl, q⟩ := hA
  refine ⟨_, _, _, _, _, kb, 1, rfl, sq_spt hb.2.1 hb.2.2.1, fq_m1, by omega, fun s1 h1 => ?_⟩
  refine ⟨_, _, _, _, _, _, kc, kb + 1, rfl, sq_spt hc.2.1 hc.2.2.1, h1, by omega, fun s2 h2 => ?_⟩
  refine ⟨_, _, _, _, _, mb, 1, rfl, sq_spt hb.2.2.2.1 hb.2.2.2.2, fq_m1, by omega, fun s3 h3 => ?_⟩
  refine ⟨_, _, _, _, _, _, mc, mb + 1, rfl, sq_spt hc.2.2.2.1 hc.2.2.2.2, h3, by omega, fun s4 h4 => ?_⟩
  refine ⟨_, _, _, _, _, _, kt, rfl, h4, ht, by omega, fun s5 h5 => ?_⟩
  refine ⟨_, _, _, _, _, _, _, _, rfl, h2, h5, by omega, fun s6 h6 => ?_⟩
  obtain ⟨u, v, rfl, ⟨a1, b1, rfl, x1, x2, x3, x4⟩, ⟨a2, b2, rfl, y1, y2, y3, y4⟩⟩ := h6
  have eK : kc + (kb + 1) + 1 + (mc + (mb + 1) + 1 + kt) + 1 = kb + mb + kc + mc + kt + 5 := by omega
  rw [eK] at x1 x2 y1 y2
  refine ⟨mulA x1 y2 (by omega) (by omega), mulA y1 x2 (by omega) (by omega), mulA x2 y2 (by omega) (by omega), ?_⟩
  have v1 := fq_top (k := 0) x4 x3
  have v2 := fq_top (k := 0) y4 y3
  refine q (a1 * b2) (a2 * b1) (b1 * b2) (Int.mul_pos x3 y3) ?_ ?_ ((x1.mul y2).le (by omega)) ((y1.mul x2).le (by omega)) ((x2.mul y2).le (by omega))
  · rw [Rat.intCast_mul, Rat.intCast_mul, v1]
    unfold ofx
    grind
  · rw [Rat.intCast_mul, Rat.intCast_mul, v2]
    unfold ofy
    grind
def a_l_room : ASp := fun ds n Q => ∃ (b c : Bw) (w : Pt) (X Y Z : Int) (t : Rat) (k : Nat), ds = [b.d, c.d, pt w, .tup [.int X, .int Y, .int Z]] ∧ ShOk b.cs ∧ ShOk c.cs ∧ WyS 8000 w ∧ (X : Rat) = (Z : Rat) * ofx b c t ∧ (Y : Rat) = (Z : Rat) * ofy b c t ∧ Bd k X ∧ Bd k Y ∧ Bd k Z ∧ k ≤ 200000 ∧ ∀ r : Int, (r : Rat) = (Z : Rat) * gapQ b c w t → (∀ j, WyS j w → j ≤ 8000 → Bd (k + j + 26) r) → Q (.int r) n
theorem ok_l_room (T : Tx K mg A) : FnOk P w K mg base CX0 2 A.f_l_room A.fd_l_room ["_law_one", "_law_other", "_law_way_here", "_law_gone"] (spOf K 4 a_l_room) := by
  refine fn_mir [] 5 rfl (by decide) (by decide) T.F_l_room sc_l_room fun cdv Ar outer s H E hr => ?_
  refine ⟨_, _, (pss_cons (ps_set (i := 4) sc_l_room.nd rfl (.inl rfl) (pe_op (k_add (K := K) rfl) (pe_call (ok_l_reach (P := P) (K := K) T) (hr.mono (by decide)) (by rfl) T.g_l_reach T.F_l_reach.kp T.b_l_reach .nil pass0 (pa_cons (pe_ix (k_ix (K := K) rfl) (pv 0) pe_int (fun _ _ => rfl)) (pa_cons (pv 2) pa_nil))) (pe_call (ok_l_reach (P := P) (K := K) T) (hr.mono (by decide)) (by rfl) T.g_l_reach T.F_l_reach.kp T.b_l_reach .nil pass0 (pa_cons (pe_ix (k_ix (K := K) rfl) (pv 1) pe_int (fun _ _ => rfl)) (pa_cons (pe_tup (pa_cons (pe_un un_neg (pe_ix (k_ix (K := K) rfl) (pv 2) pe_int (fun _ _ => rfl))) (pa_cons (pe_un un_neg (pe_ix (k_ix (K := K) rfl) (pv 2) pe_int (fun _ _ => rfl))) pa_nil))) pa_nil)))))
    (pss_one (ps_ret (pe_op op_sub (pe_op (k_add (K := K) rfl) (pe_op k_mul (pe_ix (k_ix (K := K) rfl) (pv 2) pe_int (fun _ _ => rfl)) (pe_ix (k_ix (K := K) rfl) (pv 3) pe_int (fun _ _ => rfl))) (pe_op k_mul (pe_ix (k_ix (K := K) rfl) (pv 2) pe_int (fun _ _ => rfl)) (pe_ix (k_ix (K := K) rfl) (pv 3) pe_int (fun _ _ => rfl)))) (pe_op k_mul (pv 4) (pe_ix (k_ix (K := K) rfl) (pv 3) pe_int (fun _ _ => rfl))))))), by infer_instance, fun ds n Q hl hA => ?_⟩
  obtain ⟨b, c, w, X, Y, Z, t, k, rfl, hb, hc, hw, eX, eY, bX, bY, bZ, hk, q⟩ := hA
  refine ⟨b.cs, w, rfl, hb, hw, ?_⟩
  refine ⟨c.cs, ngP w, rfl, hc, ng_wys hw, ?_⟩
  have bw := wid_bd hb hc hw
  refine ⟨mulA hw.1 bX (by decide) (by omega), mulA hw.2 bY (by decide) (by omega), mulA (show Bd (8000 + 24) (mx w b.cs + mx (ngP w) c.cs) from bw) bZ (by decide) (by omega), ?_⟩
  refine q _ ?_ fun j hj hj8 => ?_
  · show ((w.1 * X + w.2 * Y - wid b c w * Z : Int) : Rat) = _
    rw [Rat.intCast_sub, Rat.intCast_add, Rat.intCast_mul, Rat.intCast_mul, Rat.intCast_mul, eX, eY]
    unfold gapQ
    grind
  · have e1 : Bd (k + j + 1) (w.1 * X + w.2 * Y) := ((hj.1.mul bX).le (show _ ≤ k + j by omega)).add ((hj.2.mul bY).le (by omega))
    have e2 : Bd (k + j + 25) (-(wid b c w * Z)) := ((wid_bd hb hc hj).mul bZ).neg.le (by omega)
    have := (e1.le (show _ ≤ k + j + 25 by omega)).add e2
    exact this
def a_l_rooms : ASp := fun ds n Q => ∃ (b c : Bw) (d : D) (t : Rat) (kb mb kc mc kt : Nat), ds = [b.d, c.d, d] ∧ b.ok kb mb ∧ c.ok kc mc ∧ Fq kt d t ∧ kb + mb + kc + mc + kt ≤ 60000 ∧ ∀ (rs : List Pt) (Z : Int) (f : Pt → Int), 0 < Z → rs ≠ [] → rs.length ≤ 40 → PwOk (waysOf b.cs) (waysOf c.cs) rs → (∀ w ∈ rs, (f w : Rat) = (Z : Rat) * gapQ b c w t) → Q (.lst (rs.map fun w => .int (f w))) n
theorem ok_l_rooms (T : Tx K mg A) : FnOk P w K mg base CX0 5 A.f_l_rooms A.fd_l_rooms ["_law_one", "_law_other", "_law_after"] (spOf K 3 a_l_rooms) := by
  refine fn_mir [] 5 rfl (by decide) (by decide) T.F_l_rooms sc_l_rooms fun cdv Ar outer s H E hr => ?_
  refine ⟨_, _, (pss_cons (ps_set (i := 3) sc_l_rooms.nd rfl (.inr rfl) (pe_call (ok_l_between (P := P) (K := K) T) (hr.mono (by decide)) (by rfl) T.g_l_between T.F_l_between.kp T.b_l_between .nil pass0 (pa_cons (pv 0) (pa_cons (pv 1) (pa_cons (pv 2) pa_nil)))))
    (pss_one (ps_ret (pe_lc (own := [("_law_way_here", 4)]) rfl sc_l_rooms.nd (k_iter (K := K) rfl (pe_call (ok_l_pair_ways (P := P) (K := K) T) (hr.mono (by decide)) (by rfl) T.g_l_pair_ways T.F_l_pair_ways.kp T.b_l_pair_ways .nil pass0 (pa_cons (pv 0) (pa_cons (pv 1) pa_nil)))) (blkOk_by (own := [("_law_way_here", 4)]) (N := ["_law_one", "_law_other", "_law_after", "_law_gone", "_law_way_here"]) (sc := defScope s_l_rooms) (by decide +kernel)) (fun _ _ _ _ _ => (pg_name (i := 4) sc_l_rooms.nd rfl (Or.inl rfl))) (fun _ _ _ _ _ => pts_nil) (fun _ _ _ _ _ => (pe_call (ok_l_room (P := P) (K := K) T) (hr.mono (by decide)) (by rfl) T.g_l_room T.F_l_room.kp T.b_l_room .nil pass0 (pa_cons (pv 0) (pa_cons (pv 1) (pa_cons (pv 4) (pa_cons (pv 3) pa_nil)))))))))), by infer_instance, fun ds n Q hl hA => ?_⟩
  obtain ⟨b, c, d, t, kb, mb, kc, mc, kt, rfl, hb, hc, ht, hl, q⟩ := hA
  refine ⟨b, c, d, t, kb, mb, kc, mc, kt, rfl, hb, hc, ht, hl, fun X Y Z hZ eX eY bX bY bZ => ?_⟩
  refine ⟨b, c, rfl, hb.1, hc.1, fun rs h0 h40 hw hpw => ?_⟩
  refine ⟨by rw [List.length_map]; omega, ?_⟩
  refine aLc_ind (fun acc ds m => m = n ∧ ∃ (us vs : List Pt) (f : Pt → Int), rs = us ++ vs ∧ ds = vs.map pt ∧ acc = us.map (fun w => D.int (f w)) ∧ ∀ w ∈ us, (f w : Rat) = (Z : Rat) * gapQ b c w t) ?_ ?_ ⟨rfl, [], rs, fun _ => 0, rfl, rfl, rfl, fun w hw => by cases hw⟩
  · rintro acc d' r m ⟨rfl, us, vs, f, e0, e, rfl, hf⟩ ih
    cases vs with
    | nil => cases e
    | cons v vs =>
    obtain ⟨rfl, rfl⟩ := List.cons.inj e
    have hv : v ∈ rs := by rw [e0]; exact List.mem_append_right _ List.mem_cons_self
    have hw8 : WyS 8000 v := ⟨(hw v hv).1.le (by decide), (hw v hv).2.le (by decide)⟩
    have hnv : v ∉ us := fun z => by
      have := hpw.nd
      rw [e0] at this
      exact (List.nodup_append.mp this).2.2 v z v List.mem_cons_self rfl
    refine aT ⟨b, c, v, X, Y, Z, t, _, rfl, hb.1, hc.1, hw8, eX, eY, bX, bY, bZ, by omega, fun r hr _ => ?_⟩
    refine ih _ _ ⟨rfl, us ++ [v], vs, fun w => if w = v then r else f w, by rw [e0]; simp, rfl, ?_, fun w hw' => ?_⟩
    · rw [List.map_append]
      have : (us.map fun w => D.int (f w)) = us.map fun w => D.int (if w = v then r else f w) := List.map_congr_left fun w hw' => by
        rw [if_neg fun z => hnv (by rw [← z]; exact hw')]
      rw [this, List.map_cons, List.map_nil]
      show _ ++ [D.int r] = _ ++ [D.int (if v = v then r else f v)]
      rw [if_pos rfl]
    · simp only
      rcases List.mem_append.mp hw' with z | z
      · rw [if_neg fun z2 => hnv (by rw [← z2]; exact z)]
        exact hf w z
      · rw [List.mem_singleton.mp z, if_pos rfl]
        exact hr
  · rintro acc m ⟨rfl, us, vs, f, e0, e, rfl, hf⟩
    cases vs with
    | cons v vs => cases e
    | nil =>
    rw [List.append_nil] at e0
    subst e0
    exact q rs Z f hZ (fun z => by rw [z] at h0; exact absurd h0 (by decide)) h40 hpw hf
def a_l_over : ASp := fun ds n Q => ∃ (b c : Bw) (d : D) (t : Rat) (kb mb kc mc kt : Nat) (rs : List Pt), ds = [b.d, c.d, d] ∧ b.ok kb mb ∧ c.ok kc mc ∧ Fq kt d t ∧ kb + mb + kc + mc + kt ≤ 60000 ∧ PwOk (waysOf b.cs) (waysOf c.cs) rs ∧ (OverQ b c rs t → Q (.bl true) n) ∧ (¬ OverQ b c rs t → Q (.bl false) n)
theorem ok_l_over (T : Tx K mg A) : FnOk P w K mg base CX0 6 A.f_l_over A.fd_l_over ["_law_one", "_law_other", "_law_after"] (spOf K 3 a_l_over) := by
  refine fn_mir [] 3 rfl (by decide) (by decide) T.F_l_over sc_l_over fun cdv Ar outer s H E hr => ?_
  refine ⟨_, _, (pss_one (ps_ret (pe_cmpR op_lt (pe_callB (k_max1 (K := K) rfl rfl) (by rfl) T.m_max (by decide +kernel) (pa_cons (pe_call (ok_l_rooms (P := P) (K := K) T) (hr.mono (by decide)) (by rfl) T.g_l_rooms T.F_l_rooms.kp T.b_l_rooms .nil pass0 (pa_cons (pv 0) (pa_cons (pv 1) (pa_cons (pv 2) pa_nil)))) pa_nil)) pe_int (nomark _)))), by infer_instance, fun ds n Q hl hA => ?_⟩
  obtain ⟨b, c, d, t, kb, mb, kc, mc, kt, rs', rfl, hb, hc, ht, hl, hpw', q1, q2⟩ := hA
  refine ⟨b, c, d, t, kb, mb, kc, mc, kt, rfl, hb, hc, ht, hl, fun rs Z f hZ h0 h40 hpw hf => ?_⟩
  obtain rfl := hpw'.uniq hpw
  have hZ' : (0 : Rat) < (Z : Rat) := (Rat.intCast_lt_intCast (a := 0)).mpr hZ
  refine ⟨rs'.map f, by rw [List.map_map]; rfl, by rw [List.length_map]; exact List.length_pos_iff.mpr h0, fun m hm hmax => ?_⟩
  have key : m < 0 ↔ OverQ b c rs' t := by
    constructor
    · intro h w hw
      have h1 := hmax (f w) (List.mem_map.mpr ⟨w, hw, rfl⟩)
      have h2 : ((f w : Int) : Rat) < 0 := cast_lt0.mpr (by omega)
      rw [hf w hw, rat_neg_iff hZ'] at h2
      exact h2
    · intro h
      obtain ⟨w, hw, rfl⟩ := List.mem_map.mp hm
      rw [← cast_lt0, hf w hw, rat_neg_iff hZ']
      exact h w hw
  show Q (.bl (decide (m < 0))) n
  by_cases h : m < 0
  · rw [decide_eq_true h]
    exact q1 (key.mp h)
  · rw [decide_eq_false h]
    exact q2 fun z => h (key.mpr z)

/-! ### times -/
def a_l_until : ASp := fun ds n Q => ∃ t : Rat, ds = [.deck, sh t] ∧ BdQ 3 t ∧ 0 < t.num ∧ 4 ≤ n ∧ ∀ (u : Rat) (n' : Nat), BdQ 12 u → 0 ≤ u → n ≤ n' + 4 → Q (sh u) n'
theorem divInt_nn {a b : Int} (ha : 0 ≤ a) (hb : 0 < b) : 0 ≤ Rat.divInt a b := (Rat.divInt_nonneg_iff_of_pos_right hb).mpr ha
theorem ok_l_until (T : Tx K mg A) : FnOk P w K mg base CX0 3 A.f_l_until A.fd_l_until ["_law_deck_here", "_law_when"] (spOf K 2 a_l_until) := by
  refine fn_mir [] 4 rfl (by decide) (by decide) T.F_l_until sc_l_until fun cdv Ar outer s H E hr => ?_
  refine ⟨_, _, (pss_cons (ps_set (i := 2) sc_l_until.nd rfl (.inl rfl) (pe_call (ok_l_take (P := P) (K := K) T) (hr.mono (by decide)) (by rfl) T.g_l_take T.F_l_take.kp T.b_l_take .nil pass0 (pa_cons (pv 0) (pa_cons pe_int pa_nil))))
    (pss_cons (ps_set (i := 3) sc_l_until.nd rfl (.inl rfl) (pe_tup (pa_cons pe_int (pa_cons (pe_op (k_add (K := K) rfl) pe_int (pe_call (ok_l_take (P := P) (K := K) T) (hr.mono (by decide)) (by rfl) T.g_l_take T.F_l_take.kp T.b_l_take .nil pass0 (pa_cons (pv 0) (pa_cons pe_int pa_nil)))) pa_nil))))
    (pss_cons (ps_if (pt_cmpR (k_eq (K := K) rfl hr.units) (pv 2) pe_int (nomark _))
      (pss_one (ps_ret (pe_tup (pa_cons pe_int (pa_cons pe_int pa_nil)))))
      pss_nil)
    (pss_cons (ps_if (pt_cmpR op_lt (pv 2) pe_int (nomark _))
      (pss_one (ps_ret (pv 1)))
      pss_nil)
    (pss_cons (ps_if (pt_cmpR (k_eq (K := K) rfl hr.units) (pv 2) pe_int (nomark _))
      (pss_one (ps_ret (pe_call (ok_l_share (P := P) (K := K) T) (hr.mono (by decide)) (by rfl) T.g_l_share T.F_l_share.kp T.b_l_share .nil pass0 (pa_cons (pe_op (k_add (K := K) rfl) (pe_op k_mul (pe_ix (k_ix (K := K) rfl) (pv 1) pe_int (fun _ _ => rfl)) (pe_ix (k_ix (K := K) rfl) (pv 3) pe_int (fun _ _ => rfl))) (pe_ix (k_ix (K := K) rfl) (pv 1) pe_int (fun _ _ => rfl))) (pa_cons (pe_op k_mul (pe_ix (k_ix (K := K) rfl) (pv 1) pe_int (fun _ _ => rfl)) (pe_ix (k_ix (K := K) rfl) (pv 3) pe_int (fun _ _ => rfl))) pa_nil)))))
      pss_nil)
    (pss_cons (ps_if (PW.pt (pw_and (pt_cmpR (k_eq (K := K) rfl hr.units) (pv 2) pe_int (nomark _)) (pw_and1 (pt_cmpR op_gt (pe_op k_mul (pe_ix (k_ix (K := K) rfl) (pv 1) pe_int (fun _ _ => rfl)) (pe_ix (k_ix (K := K) rfl) (pv 3) pe_int (fun _ _ => rfl))) (pe_ix (k_ix (K := K) rfl) (pv 1) pe_int (fun _ _ => rfl)) (nomark _)))))
      (pss_one (ps_ret (pe_call (ok_l_share (P := P) (K := K) T) (hr.mono (by decide)) (by rfl) T.g_l_share T.F_l_share.kp T.b_l_share .nil pass0 (pa_cons (pe_op op_sub (pe_op k_mul (pe_ix (k_ix (K := K) rfl) (pv 1) pe_int (fun _ _ => rfl)) (pe_ix (k_ix (K := K) rfl) (pv 3) pe_int (fun _ _ => rfl))) (pe_ix (k_ix (K := K) rfl) (pv 1) pe_int (fun _ _ => rfl))) (pa_cons (pe_op k_mul (pe_ix (k_ix (K := K) rfl) (pv 1) pe_int (fun _ _ => rfl)) (pe_ix (k_ix (K := K) rfl) (pv 3) pe_int (fun _ _ => rfl))) pa_nil)))))
      pss_nil)
    (pss_one (ps_ret (pe_call (ok_l_share (P := P) (K := K) T) (hr.mono (by decide)) (by rfl) T.g_l_share T.F_l_share.kp T.b_l_share .nil pass0 (pa_cons (pe_call (ok_l_take (P := P) (K := K) T) (hr.mono (by decide)) (by rfl) T.g_l_take T.F_l_take.kp T.b_l_take .nil pass0 (pa_cons (pv 0) (pa_cons pe_int pa_nil))) (pa_cons (pe_op (k_add (K := K) rfl) pe_int (pe_call (ok_l_take (P := P) (K := K) T) (hr.mono (by decide)) (by rfl) T.g_l_take T.F_l_take.kp T.b_l_take .nil pass0 (pa_cons (pv 0) (pa_cons pe_int pa_nil)))) pa_nil))))))))))), by infer_instance, fun ds n Q hl hA => ?_⟩
  obtain ⟨t, rfl, bt, ht, hn, q⟩ := hA
  have b1 := bt.1
  have b2 := bt.2
  have dp := den_pos t
  unfold Bd at b1 b2
  have e8 : (2 : Nat) ^ 3 = 8 := by decide
  rw [e8] at b1 b2
  refine ⟨6, rfl, by decide, by decide, by omega, fun r0 l0 u0 => ⟨90, rfl, by decide, by decide, by omega, fun r1 l1 u1 => ?_⟩⟩
  have z0 : BdQ 12 0 := ⟨by unfold Bd; decide, by unfold Bd; decide⟩
  have prod : ∀ x : Int, 0 ≤ x → x < 8 → 0 ≤ x * (1 + r1) ∧ x * (1 + r1) ≤ 7 * 90 := fun x h0 h1 => ⟨Int.mul_nonneg h0 (by omega), Int.mul_le_mul (by omega) (by omega) (by omega) (by omega)⟩
  have tn := prod t.num (by omega) (by omega)
  have td := prod (t.den : Int) (by omega) (by omega)
  have tdp : 0 < (t.den : Int) * (1 + r1) := Int.mul_pos dp (by omega)
  have bd1 : ∀ x : Int, 0 ≤ x → x ≤ 2000 → Bd 11 x := fun x h0 h1 => bd_abs (n := 2000) (by decide) (by omega) h1
  have mA : ∀ x : Int, CMulA x (1 + r1) := fun x => .inl (.inr ⟨by omega, by omega⟩)
  refine dIte (fun _ => q 0 _ z0 (by decide) (by omega)) fun _ => dIte (fun _ => q t _ (bt.le (by decide)) (Rat.num_nonneg.mp (by omega)) (by omega)) fun _ => dIte (fun _ => ?_) fun _ => ?_
  · refine ⟨mA _, mA _, ?_⟩
    refine share_ok tdp (bd1 _ (by omega) (by omega)) (by decide) (q _ _ ((divInt_bd tdp (bd1 _ (by omega) (by omega)) (bd1 _ (by omega) (by omega))).le (by decide)) (divInt_nn (by omega) tdp) (by omega))
  · have fin : ∀ m, n ≤ m + 2 → 2 ≤ m → aRet (aCall 2 a_l_share (aCons (aCall 2 a_l_take (aCons (aVar 0) (aCons (aC (V.int 40)) aNil))) (aCons (a2 aAdd (aC (V.int 1)) (aCall 2 a_l_take (aCons (aVar 0) (aCons (aC (V.int 7)) aNil)))) aNil))) (aTop Q) [some .deck, some (sh t), some (.int r0), some (fr 1 (1 + r1))] m := fun m hm hm2 => by
      refine ⟨40, rfl, by decide, by decide, by omega, fun r2 l2 u2 => ⟨7, rfl, by decide, by decide, by omega, fun r3 l3 u3 => ?_⟩⟩
      exact share_ok (by omega) (bd1 _ (by omega) (by omega)) (by decide) (q _ _ ((divInt_bd (by omega) (bd1 _ (by omega) (by omega)) (bd1 _ (by omega) (by omega))).le (by decide)) (divInt_nn (by omega) (by omega)) (by omega))
    refine dIte (fun _ => ?_) fun _ => aF (fin _ (by omega) (by omega))
    refine ⟨mA _, dIte (fun h4 => ?_) fun h4 => fin _ (by omega) (by omega)⟩
    refine ⟨mA _, mA _, ?_⟩
    have h4' : (t.den : Int) < t.num * (1 + r1) := h4
    exact share_ok tdp (bd1 _ (by omega) (by omega)) (by decide) (q _ _ ((divInt_bd tdp (bd1 _ (by omega) (by omega)) (bd1 _ (by omega) (by omega))).le (by decide)) (divInt_nn (by omega) tdp) (by omega))

theorem dedup_ex : ∀ l : List Pt, ∃ r : List Pt, r.Nodup ∧ ∀ x, x ∈ r ↔ x ∈ l
  | [] => ⟨[], List.nodup_nil, fun _ => Iff.rfl⟩
  | a :: l => by
    obtain ⟨r, h1, h2⟩ := dedup_ex l
    by_cases h : a ∈ r
    · refine ⟨r, h1, fun x => ?_⟩
      rw [h2, List.mem_cons]
      constructor
      · exact .inr
      · rintro (rfl | z)
        · exact (h2 _).mp h
        · exact z
    · exact ⟨a :: r, List.nodup_cons.mpr ⟨h, h1⟩, fun x => by rw [List.mem_cons, List.mem_cons, h2]⟩
theorem pw_ex (as bs : List Pt) : ∃ rs, PwOk as bs rs := by
  obtain ⟨r, h1, h2⟩ := dedup_ex (as ++ bs.map ngP)
  let le : Pt → Pt → Bool := fun p q => decide (p.1 < q.1 ∨ (p.1 = q.1 ∧ p.2 ≤ q.2))
  have hp := List.mergeSort_perm r le
  refine ⟨r.mergeSort le, hp.nodup_iff.mpr h1, fun p => ?_, ?_⟩
  · rw [hp.mem_iff, h2, List.mem_append, List.mem_map]
    constructor
    · rintro (h | ⟨z, h1, rfl⟩)
      · exact .inl h
      · right
        rw [ngP_ngP]
        exact h1
    · rintro (h | h)
      · exact .inl h
      · exact .inr ⟨_, h, ngP_ngP p⟩
  · have := List.pairwise_mergeSort (le := le) (fun a b c h1 h2 => by
      have h1 := of_decide_eq_true h1
      have h2 := of_decide_eq_true h2
      refine decide_eq_true ?_
      omega) (fun a b => by
      show (decide _ || decide _) = true
      rw [Bool.or_eq_true, decide_eq_true_iff, decide_eq_true_iff]
      omega) r
    exact this.imp fun h => of_decide_eq_true h

/-! CUT -/
/-! ### plain data, not deep -/
/-- plain data, not deep -/
def Sd (k : Nat) (d : D) : Prop := d.isD = true ∧ PyData.canLay0 d.pd = true ∧ PyData.depth d.pd ≤ k
theorem Sd.all {k : Nat} : ∀ {ds : List D}, (∀ d ∈ ds, Sd k d) → isDAll ds = true ∧ PyData.canLayAll0 (pdAll ds) = true ∧ PyData.depthAll (pdAll ds) ≤ k
  | [], _ => ⟨rfl, rfl, Nat.zero_le _⟩
  | d :: ds, h => by
    obtain ⟨h1, h2, h3⟩ := Sd.all (ds := ds) fun e he => h e (List.mem_cons_of_mem _ he)
    obtain ⟨g1, g2, g3⟩ := h d List.mem_cons_self
    refine ⟨?_, ?_, ?_⟩
    · show (d.isD && isDAll ds) = true
      rw [g1, h1]; rfl
    · show (PyData.canLay0 d.pd && PyData.canLayAll0 (pdAll ds)) = true
      rw [g2, h2]; rfl
    · show max (PyData.depth d.pd) (PyData.depthAll (pdAll ds)) ≤ k
      exact Nat.max_le.mpr ⟨g3, h3⟩
theorem Sd.tup {k : Nat} {ds : List D} (h : ∀ d ∈ ds, Sd k d) : Sd (k + 1) (.tup ds) := by
  obtain ⟨h1, h2, h3⟩ := Sd.all h
  exact ⟨h1, h2, Nat.succ_le_succ h3⟩
theorem Sd.lst {k : Nat} {ds : List D} (h : ∀ d ∈ ds, Sd k d) : Sd (k + 1) (.lst ds) := by
  obtain ⟨h1, h2, h3⟩ := Sd.all h
  exact ⟨h1, h2, Nat.succ_le_succ h3⟩
theorem Sd.le {k m : Nat} {d : D} (h : Sd k d) (hm : k ≤ m) : Sd m d := ⟨h.1, h.2.1, Nat.le_trans h.2.2 hm⟩
theorem Sd.int {k : Nat} (i : Int) : Sd k (.int i) := ⟨rfl, rfl, Nat.zero_le _⟩
theorem Sd.non {k : Nat} : Sd k .non := ⟨rfl, rfl, Nat.zero_le _⟩
theorem Sd.str {k : Nat} {z : Str} (h : PyData.canLay0 (.str z) = true) : Sd k (.str z) := ⟨rfl, h, Nat.zero_le _⟩
theorem Sd.two {k : Nat} {x y : D} (h1 : Sd k x) (h2 : Sd k y) : Sd (k + 1) (.tup [x, y]) := Sd.tup fun d hd => by
  have : d = x ∨ d = y := by simpa using hd
  rcases this with rfl | rfl
  · exact h1
  · exact h2
theorem Sd.pt {k : Nat} (w : Pt) : Sd (k + 1) (pt w) := Sd.two (Sd.int _) (Sd.int _)
theorem Sd.sh {k : Nat} (x : Rat) : Sd (k + 1) (sh x) := Sd.two (Sd.int _) (Sd.int _)
theorem Sd.spt {k : Nat} (x y : Rat) : Sd (k + 2) (spt x y) := Sd.two (Sd.sh _) (Sd.sh _)
theorem Sd.shaped {k : Nat} {d : D} (h : Sd k d) (hk : k ≤ 64) : SeqAt.shaped d.pd = true := by
  unfold SeqAt.shaped
  exact Bool.and_eq_true_iff.mpr ⟨h.2.1, decide_eq_true (Nat.le_trans h.2.2 hk)⟩

/-! ### plain things whose numbers are not too long -/
theorem int_short {i : Int} (h : Bd 1919 i) : i.natAbs.log2 < 1920 ∧ (PyData.shown (.int i)).length ≤ 600 := by
  unfold Bd at h
  have l : i.natAbs.log2 < 1920 := Nat.lt_of_lt_of_le (log2_lt (k := 1919) h (by decide)) (by decide)
  refine ⟨l, ?_⟩
  have e : (2 : Nat) ^ 1919 ≤ 10 ^ 579 := by decide +kernel
  have := int_text_length_le10 (a := i) (k := 579) (by decide) (Nat.lt_of_lt_of_le h e)
  show (Str.ofString (toString i)).length ≤ 600
  rw [PySem.ofString_length]
  omega
structure Rp (k w : Nat) (d : D) : Prop where
  sd : Sd k d
  sh : d.pd.showable = true
  sz : d.pd.intsShort 600 = true
  wt : d.pd.weight ≤ w
theorem Rp.le {k w k' w' : Nat} {d : D} (h : Rp k w d) (h1 : k ≤ k') (h2 : w ≤ w') : Rp k' w' d := ⟨h.sd.le h1, h.sh, h.sz, Nat.le_trans h.wt h2⟩
theorem Rp.int {k : Nat} {i : Int} (h : Bd 1919 i) : Rp k 1920 (.int i) := by
  obtain ⟨h1, h2⟩ := int_short h
  refine ⟨Sd.int i, decide_eq_true h1, decide_eq_true h2, ?_⟩
  show (if i == 0 then 0 else i.natAbs.log2 + 1) ≤ 1920
  split <;> omega
theorem Rp.non {k w : Nat} : Rp k w .non := ⟨Sd.non, rfl, rfl, Nat.zero_le _⟩
theorem Rp.bl {k w : Nat} {b : Bool} : Rp k w (.bl b) := ⟨⟨rfl, rfl, Nat.zero_le _⟩, rfl, rfl, Nat.zero_le _⟩
theorem Rp.str {k w : Nat} {z : Str} (h : PyData.canLay0 (.str z) = true) (hw : z.cps.size ≤ w) : Rp k w (.str z) := ⟨Sd.str h, rfl, rfl, hw⟩
theorem rp_all {k w : Nat} : ∀ {ds : List D}, (∀ d ∈ ds, Rp k w d) → PyData.showableAll (pdAll ds) = true ∧ PyData.intsShortAll 600 (pdAll ds) = true ∧ PyData.weightAll (pdAll ds) ≤ ds.length * (w + 1)
  | [], _ => ⟨rfl, rfl, Nat.zero_le _⟩
  | d :: ds, h => by
    obtain ⟨h1, h2, h3⟩ := rp_all (ds := ds) fun x hx => h x (List.mem_cons_of_mem _ hx)
    have g := h d List.mem_cons_self
    refine ⟨?_, ?_, ?_⟩
    · show (PyData.showable d.pd && PyData.showableAll (pdAll ds)) = true
      rw [g.sh, h1]; rfl
    · show (PyData.intsShort 600 d.pd && PyData.intsShortAll 600 (pdAll ds)) = true
      rw [g.sz, h2]; rfl
    · show PyData.weight d.pd + 1 + PyData.weightAll (pdAll ds) ≤ (ds.length + 1) * (w + 1)
      have := g.wt
      rw [Nat.add_mul]
      omega
theorem Rp.tup {k w m : Nat} {ds : List D} (h : ∀ d ∈ ds, Rp k w d) (hl : ds.length * (w + 1) ≤ m) : Rp (k + 1) m (.tup ds) := by
  obtain ⟨h1, h2, h3⟩ := rp_all h
  exact ⟨Sd.tup fun d hd => (h d hd).sd, h1, h2, Nat.le_trans h3 hl⟩
theorem Rp.lst {k w m : Nat} {ds : List D} (h : ∀ d ∈ ds, Rp k w d) (hl : ds.length * (w + 1) ≤ m) : Rp (k + 1) m (.lst ds) := by
  obtain ⟨h1, h2, h3⟩ := rp_all h
  exact ⟨Sd.lst fun d hd => (h d hd).sd, h1, h2, Nat.le_trans h3 hl⟩
theorem rp_inv {k w : Nat} : ∀ {ds : List D}, isDAll ds = true → PyData.canLayAll0 (pdAll ds) = true → PyData.depthAll (pdAll ds) ≤ k → PyData.showableAll (pdAll ds) = true → PyData.intsShortAll 600 (pdAll ds) = true → PyData.weightAll (pdAll ds) ≤ w → ∀ d ∈ ds, Rp k w d
  | [], _, _, _, _, _, _ => fun d hd => by cases hd
  | x :: ds, a1, a2, a3, a4, a5, a6 => by
    have a1' : (x.isD && isDAll ds) = true := a1
    have a2' : (PyData.canLay0 x.pd && PyData.canLayAll0 (pdAll ds)) = true := a2
    have a3' : max (PyData.depth x.pd) (PyData.depthAll (pdAll ds)) ≤ k := a3
    have a4' : (PyData.showable x.pd && PyData.showableAll (pdAll ds)) = true := a4
    have a5' : (PyData.intsShort 600 x.pd && PyData.intsShortAll 600 (pdAll ds)) = true := a5
    have a6' : PyData.weight x.pd + 1 + PyData.weightAll (pdAll ds) ≤ w := a6
    rw [Bool.and_eq_true] at a1' a2' a4' a5'
    have ih := rp_inv (k := k) (w := w) a1'.2 a2'.2 (by omega) a4'.2 a5'.2 (by omega)
    intro d hd
    rcases List.mem_cons.mp hd with rfl | hd
    · exact ⟨⟨a1'.1, a2'.1, by omega⟩, a4'.1, a5'.1, by omega⟩
    · exact ih d hd
def Kd7 (d : D) : Prop := d.tv.isSome = true
/-- plain, not deep, not long -/
def Ok (d : D) : Prop := Rp 10 25000 d
theorem Ok.tup {ds : List D} (h : Ok (.tup ds)) : ∀ d ∈ ds, Ok d := rp_inv h.sd.1 h.sd.2.1 (by
  have : PyData.depthAll (pdAll ds) + 1 ≤ 10 := h.sd.2.2
  omega) h.sh h.sz h.wt
theorem Ok.k7 {d : D} (h : Ok d) : Kd7 d := by
  have := h.sd.1
  cases d <;> first | rfl | cases this
theorem Ok.num {i : Int} (h : Ok (.int i)) : Bd 1920 i := by
  have h1 : i.natAbs.log2 < 1920 := of_decide_eq_true h.sh
  unfold Bd
  exact Nat.lt_of_lt_of_le Nat.lt_log2_self (Nat.pow_le_pow_right (by decide) (by omega))
theorem Ok.cmp {d : D} (h : Ok d) : Cmp d := .inr ⟨h.sd.1, h.sd.shaped (by decide)⟩
theorem Ok.shw {d : D} (h : Ok d) : shw d.pd := by
  refine ⟨h.sh, PyData.hasDict_of_canLay d.pd h.sd.2.1, Nat.le_trans h.sd.2.2 (by decide), ?_⟩
  have := PyData.shown_le 600 (by decide) d.pd (PyData.leavesShort_of_canLay0 600 d.pd h.sd.2.1 h.sz)
  have hw := h.wt
  rw [sizeLine_eq]
  omega
theorem Ok.rep {d : D} (h : Ok d) : RepZ d d.pd.shown := .inl ⟨h.sd.1, h.shw, rfl⟩
def isInt : D → Bool
  | .int _ => true
  | _ => false
def isWay (d : D) : Prop := ∃ w : Pt, d = pt w ∧ gcdI w.1 w.2 = 1
def isShr (d : D) : Prop := ∃ x : Rat, d = sh x
theorem int_of {d : D} (h : isInt d = true) : ∃ i, d = .int i := by
  cases d with
  | int i => exact ⟨i, rfl⟩
  | _ => cases h
theorem len_two {α : Type} {l : List α} (h : ((l.length : Nat) : Int) = 2) : ∃ a b, l = [a, b] := by
  match l, h with
  | [a, b], _ => exact ⟨a, b, rfl⟩
  | [], h => simp at h
  | [_], h => simp at h
  | _ :: _ :: _ :: _, h => simp at h; omega
theorem len_three {α : Type} {l : List α} (h : ((l.length : Nat) : Int) = 3) : ∃ a b c, l = [a, b, c] := by
  match l, h with
  | [a, b, c], _ => exact ⟨a, b, c, rfl⟩
  | [], h => simp at h
  | [_], h => simp at h
  | [_, _], h => simp at h
  | _ :: _ :: _ :: _ :: _, h => simp at h; omega
theorem pair_not {p q : D} {i j : Int} (h : ¬ (isInt p = true ∧ isInt q = true)) : ¬ D.tup [p, q] = .tup [.int i, .int j] := fun e => by
  obtain ⟨a1, e1⟩ := List.cons.inj (D.tup.inj e)
  obtain ⟨a2, _⟩ := List.cons.inj e1
  refine h ?_
  rw [a1, a2]
  exact ⟨rfl, rfl⟩
theorem way_not {p q : D} (h : ¬ (isInt p = true ∧ isInt q = true)) : ¬ isWay (.tup [p, q]) := fun ⟨w, e, _⟩ => pair_not h e
theorem shr_not {p q : D} (h : ¬ (isInt p = true ∧ isInt q = true)) : ¬ isShr (.tup [p, q]) := fun ⟨x, e⟩ => pair_not h e
theorem pt_inj {w v : Pt} (h : pt w = pt v) : w = v := by
  have e : [D.int w.1, D.int w.2] = [.int v.1, .int v.2] := D.tup.inj h
  obtain ⟨a1, e⟩ := List.cons.inj e
  obtain ⟨a2, _⟩ := List.cons.inj e
  exact Prod.ext (D.int.inj a1) (D.int.inj a2)
theorem sh_inj {x y : Rat} (h : sh x = sh y) : x = y := by
  have e : [D.int x.num, D.int (x.den : Int)] = [.int y.num, .int (y.den : Int)] := D.tup.inj h
  obtain ⟨a1, e⟩ := List.cons.inj e
  obtain ⟨a2, _⟩ := List.cons.inj e
  have := D.int.inj a2
  exact Rat.ext (D.int.inj a1) (by omega)
/-- a share is what is in lowest terms over a number above nought -/
theorem shr_iff {i j : Int} : isShr (.tup [.int i, .int j]) ↔ 0 < j ∧ gcdI i j = 1 := by
  constructor
  · rintro ⟨x, e⟩
    have e' : [D.int i, D.int j] = [.int x.num, .int (x.den : Int)] := D.tup.inj e
    obtain ⟨a1, e1⟩ := List.cons.inj e'
    obtain ⟨a2, _⟩ := List.cons.inj e1
    rw [D.int.inj a1, D.int.inj a2]
    exact isSh_q x
  · rintro ⟨h1, h2⟩
    refine ⟨Rat.divInt i j, ?_⟩
    rw [← part_sh h1]
    unfold partD
    rw [h2, Int.ediv_one, Int.ediv_one]
theorem eqTh {f : Bool → Bool} {d : D} {z : Str} {n : Nat} {Q : D → Nat → Prop} (h : Cmp d) (hz : PyData.canLay0 (.str z) = true) (q : Q (.bl (f (isNm z d))) n) : aEqTh f d (.str z) n Q := by
  unfold aEqTh
  exact ⟨z, rfl, h, hz, q⟩
theorem isNm_iff {z : Str} {d : D} : isNm z d = true ↔ d = .str z := by
  cases d with
  | str y =>
    show decide (y = z) = true ↔ _
    rw [decide_eq_true_eq]
    exact ⟨fun h => by rw [h], fun h => D.str.inj h⟩
  | _ => exact ⟨(fun h => by cases h), (fun h => by cases h)⟩
theorem nIte {p : Prop} [Decidable p] {a b : Prop} (h : ¬ p → a) (g : p → b) : aIte (not (decide p)) a b := by
  by_cases e : p
  · rw [decide_eq_true e]
    exact aF (g e)
  · rw [decide_eq_false e]
    exact aT (h e)

/-! ### shares and ways among things of any kind -/
def a_p_is_whole : ASp := fun ds n Q => ∃ d, ds = [d] ∧ Kd7 d ∧ Q (.bl (isInt d)) n
theorem ok_p_is_whole (T : Tx K mg A) : FnOk P w K mg base CX0 1 A.f_p_is_whole A.fd_p_is_whole ["thing"] (spOf K 1 a_p_is_whole) := by
  refine fn_mir [] 1 rfl (by decide) (by decide) T.F_p_is_whole sc_p_is_whole fun cdv Ar outer s H E hr => ?_
  refine ⟨_, _, (pss_one (ps_ret (pe_and (pe_callB (k_isi (K := K) rfl) (by rfl) T.m_isinstance (by decide +kernel) (pa_cons (pv 0) (pa_cons (k_ty (t := .int) (by rfl) T.m_int (by decide +kernel)) pa_nil))) (pe_one (pe_not (pe_callB (k_isi (K := K) rfl) (by rfl) T.m_isinstance (by decide +kernel) (pa_cons (pv 0) (pa_cons (k_ty (t := .bl) (by rfl) T.m_bool (by decide +kernel)) pa_nil)))))))), by infer_instance, fun ds n Q hl hA => ?_⟩
  obtain ⟨d, rfl, h, q⟩ := hA
  cases d with
  | ty _ => cases h
  | cls _ => cases h
  | ins _ _ _ => cases h
  | deck => cases h
  | xcp _ _ _ _ _ => cases h
  | int i => exact aT q
  | bl b => exact aT q
  | non => exact aF q
  | str z => exact aF q
  | tup ds => exact aF q
  | lst ds => exact aF q
  | dic ks ds => exact aF q
def a_l_is_whole : ASp := fun ds n Q => ∃ d, ds = [d] ∧ Kd7 d ∧ Q (.bl (isInt d)) n
theorem ok_l_is_whole (T : Tx K mg A) : FnOk P w K mg base CX0 1 A.f_l_is_whole A.fd_l_is_whole ["_law_thing"] (spOf K 1 a_l_is_whole) := by
  refine fn_mir [] 1 rfl (by decide) (by decide) T.F_l_is_whole sc_l_is_whole fun cdv Ar outer s H E hr => ?_
  refine ⟨_, _, (pss_one (ps_ret (pe_and (pe_callB (k_isi (K := K) rfl) (by rfl) T.m_isinstance (by decide +kernel) (pa_cons (pv 0) (pa_cons (k_ty (t := .int) (by rfl) T.m_int (by decide +kernel)) pa_nil))) (pe_one (pe_not (pe_callB (k_isi (K := K) rfl) (by rfl) T.m_isinstance (by decide +kernel) (pa_cons (pv 0) (pa_cons (k_ty (t := .bl) (by rfl) T.m_bool (by decide +kernel)) pa_nil)))))))), by infer_instance, fun ds n Q hl hA => ?_⟩
  obtain ⟨d, rfl, h, q⟩ := hA
  cases d with
  | ty _ => cases h
  | cls _ => cases h
  | ins _ _ _ => cases h
  | deck => cases h
  | xcp _ _ _ _ _ => cases h
  | int i => exact aT q
  | bl b => exact aT q
  | non => exact aF q
  | str z => exact aF q
  | tup ds => exact aF q
  | lst ds => exact aF q
  | dic ks ds => exact aF q
def a_p_is_share : ASp := fun ds n Q => ∃ d, ds = [d] ∧ Ok d ∧ (isShr d → Q (.bl true) n) ∧ (¬ isShr d → Q (.bl false) n)
theorem ok_p_is_share (T : Tx K mg A) : FnOk P w K mg base CX0 4 A.f_p_is_share A.fd_p_is_share ["thing"] (spOf K 1 a_p_is_share) := by
  refine fn_mir [] 3 rfl (by decide) (by decide) T.F_p_is_share sc_p_is_share fun cdv Ar outer s H E hr => ?_
  refine ⟨_, _, (pss_cons (ps_if (PW.pt (pw_or (pt_not (pt_val (pe_callB (k_isi (K := K) rfl) (by rfl) T.m_isinstance (by decide +kernel) (pa_cons (pv 0) (pa_cons (k_ty (t := .tup) (by rfl) T.m_tuple (by decide +kernel)) pa_nil))))) (pw_or1 (pt_cmpR (k_ne (K := K) rfl hr.units) (pe_callB (k_len (K := K) rfl) (by rfl) T.m_len (by decide +kernel) (pa_cons (pv 0) pa_nil)) pe_int (nomark _)))))
      (pss_one (ps_ret pe_bl))
      pss_nil)
    (pss_cons (ps_asg (pv 0) (k_gtup (K := K) (m := 2) rfl rfl (pgs_cons (pg_name (i := 1) sc_p_is_share.nd rfl (.inl rfl)) (pgs_cons (pg_name (i := 2) sc_p_is_share.nd rfl (.inl rfl)) pgs_nil))))
    (pss_cons (ps_if (PW.pt (pw_or (pt_not (pt_val (pe_call (ok_p_is_whole (P := P) (K := K) T) (hr.mono (by decide)) (by rfl) T.g_p_is_whole T.F_p_is_whole.kp T.b_p_is_whole .nil pass0 (pa_cons (pv 1) pa_nil)))) (pw_or1 (pt_not (pt_val (pe_call (ok_p_is_whole (P := P) (K := K) T) (hr.mono (by decide)) (by rfl) T.g_p_is_whole T.F_p_is_whole.kp T.b_p_is_whole .nil pass0 (pa_cons (pv 2) pa_nil)))))))
      (pss_one (ps_ret pe_bl))
      pss_nil)
    (pss_one (ps_ret (pe_and (pe_cmpR op_ge (pv 2) pe_int (nomark _)) (pe_one (pe_cmpR (k_eq (K := K) rfl hr.units) (pe_call (ok_p_common_divisor (P := P) (K := K) T) (hr.mono (by decide)) (by rfl) T.g_p_common_divisor T.F_p_common_divisor.kp T.b_p_common_divisor .nil pass0 (pa_cons (pv 1) (pa_cons (pv 2) pa_nil))) pe_int (nomark _))))))))), by infer_instance, fun ds n Q hl hA => ?_⟩
  obtain ⟨d, rfl, h, q1, q2⟩ := hA
  have h7 := h.k7
  cases d with
  | ty _ => cases h7
  | cls _ => cases h7
  | ins _ _ _ => cases h7
  | deck => cases h7
  | xcp _ _ _ _ _ => cases h7
  | tup ds =>
    refine aF ?_
    refine nIte (fun hl => ?_) fun hl => ?_
    · exact (q2 fun ⟨x, e⟩ => hl (by rw [D.tup.inj e]; rfl))
    · obtain ⟨p, q, rfl⟩ := len_two hl
      have n1 := h.tup p (by simp)
      have n2 := h.tup q (by simp)
      refine ⟨p, rfl, n1.k7, ?_⟩
      cases e1 : isInt p with
      | false => exact aT (aT (q2 (shr_not fun z => by rw [e1] at z; exact Bool.false_ne_true z.1)))
      | true =>
        refine aF ?_
        refine ⟨q, rfl, n2.k7, ?_⟩
        cases e2 : isInt q with
        | false => exact aT (q2 (shr_not fun z => by rw [e2] at z; exact Bool.false_ne_true z.2))
        | true =>
          refine aF ?_
          obtain ⟨i, rfl⟩ := int_of e1
          obtain ⟨j, rfl⟩ := int_of e2
          refine dIte (fun h0 => ⟨i, j, rfl, n1.num.le (by decide), n2.num.le (by decide), ?_⟩) fun h0 => q2 fun z => h0 (shr_iff.mp z).1
          show Q (.bl (decide (gcdI i j = 1))) n
          by_cases h1 : gcdI i j = 1
          · rw [decide_eq_true h1]
            exact q1 (shr_iff.mpr ⟨h0, h1⟩)
          · rw [decide_eq_false h1]
            exact q2 fun z => h1 (shr_iff.mp z).2
  | non => exact aT (aT (q2 fun ⟨x, e⟩ => by cases e))
  | bl b => exact aT (aT (q2 fun ⟨x, e⟩ => by cases e))
  | int i => exact aT (aT (q2 fun ⟨x, e⟩ => by cases e))
  | str z => exact aT (aT (q2 fun ⟨x, e⟩ => by cases e))
  | lst ds => exact aT (aT (q2 fun ⟨x, e⟩ => by cases e))
  | dic ks ds => exact aT (aT (q2 fun ⟨x, e⟩ => by cases e))
def a_l_is_share : ASp := fun ds n Q => ∃ d, ds = [d] ∧ Ok d ∧ (isShr d → Q (.bl true) n) ∧ (¬ isShr d → Q (.bl false) n)
theorem ok_l_is_share (T : Tx K mg A) : FnOk P w K mg base CX0 2 A.f_l_is_share A.fd_l_is_share ["_law_thing"] (spOf K 1 a_l_is_share) := by
  refine fn_mir [] 1 rfl (by decide) (by decide) T.F_l_is_share sc_l_is_share fun cdv Ar outer s H E hr => ?_
  refine ⟨_, _, (pss_cons (ps_if (PW.pt (pw_or (pt_not (pt_val (pe_callB (k_isi (K := K) rfl) (by rfl) T.m_isinstance (by decide +kernel) (pa_cons (pv 0) (pa_cons (k_ty (t := .tup) (by rfl) T.m_tuple (by decide +kernel)) pa_nil))))) (pw_or1 (pt_cmpR (k_ne (K := K) rfl hr.units) (pe_callB (k_len (K := K) rfl) (by rfl) T.m_len (by decide +kernel) (pa_cons (pv 0) pa_nil)) pe_int (nomark _)))))
      (pss_one (ps_ret pe_bl))
      pss_nil)
    (pss_cons (ps_if (PW.pt (pw_or (pt_not (pt_val (pe_call (ok_l_is_whole (P := P) (K := K) T) (hr.mono (by decide)) (by rfl) T.g_l_is_whole T.F_l_is_whole.kp T.b_l_is_whole .nil pass0 (pa_cons (pe_ix (k_ix (K := K) rfl) (pv 0) pe_int (fun _ _ => rfl)) pa_nil)))) (pw_or1 (pt_not (pt_val (pe_call (ok_l_is_whole (P := P) (K := K) T) (hr.mono (by decide)) (by rfl) T.g_l_is_whole T.F_l_is_whole.kp T.b_l_is_whole .nil pass0 (pa_cons (pe_ix (k_ix (K := K) rfl) (pv 0) pe_int (fun _ _ => rfl)) pa_nil)))))))
      (pss_one (ps_ret pe_bl))
      pss_nil)
    (pss_one (ps_ret (pe_and (pe_cmpR op_gt (pe_ix (k_ix (K := K) rfl) (pv 0) pe_int (fun _ _ => rfl)) pe_int (nomark _)) (pe_one (pe_cmpR (k_eq (K := K) rfl hr.units) (pe_call (ok_l_gcd (P := P) (K := K) T) (hr.mono (by decide)) (by rfl) T.g_l_gcd T.F_l_gcd.kp T.b_l_gcd .nil pass0 (pa_cons (pe_ix (k_ix (K := K) rfl) (pv 0) pe_int (fun _ _ => rfl)) (pa_cons (pe_ix (k_ix (K := K) rfl) (pv 0) pe_int (fun _ _ => rfl)) pa_nil))) pe_int (nomark _)))))))), by infer_instance, fun ds n Q hl hA => ?_⟩
  obtain ⟨d, rfl, h, q1, q2⟩ := hA
  have h7 := h.k7
  cases d with
  | ty _ => cases h7
  | cls _ => cases h7
  | ins _ _ _ => cases h7
  | deck => cases h7
  | xcp _ _ _ _ _ => cases h7
  | tup ds =>
    refine aF ?_
    refine nIte (fun hl => ?_) fun hl => ?_
    · exact (q2 fun ⟨x, e⟩ => hl (by rw [D.tup.inj e]; rfl))
    · obtain ⟨p, q, rfl⟩ := len_two hl
      have n1 := h.tup p (by simp)
      have n2 := h.tup q (by simp)
      refine ⟨p, rfl, n1.k7, ?_⟩
      cases e1 : isInt p with
      | false => exact aT (aT (q2 (shr_not fun z => by rw [e1] at z; exact Bool.false_ne_true z.1)))
      | true =>
        refine aF ?_
        refine ⟨q, rfl, n2.k7, ?_⟩
        cases e2 : isInt q with
        | false => exact aT (q2 (shr_not fun z => by rw [e2] at z; exact Bool.false_ne_true z.2))
        | true =>
          refine aF ?_
          obtain ⟨i, rfl⟩ := int_of e1
          obtain ⟨j, rfl⟩ := int_of e2
          refine dIte (fun h0 => ⟨i, j, rfl, ?_⟩) fun h0 => q2 fun z => h0 (shr_iff.mp z).1
          show Q (.bl (decide (gcdI i j = 1))) n
          by_cases h1 : gcdI i j = 1
          · rw [decide_eq_true h1]
            exact q1 (shr_iff.mpr ⟨h0, h1⟩)
          · rw [decide_eq_false h1]
            exact q2 fun z => h1 (shr_iff.mp z).2
  | non => exact aT (aT (q2 fun ⟨x, e⟩ => by cases e))
  | bl b => exact aT (aT (q2 fun ⟨x, e⟩ => by cases e))
  | int i => exact aT (aT (q2 fun ⟨x, e⟩ => by cases e))
  | str z => exact aT (aT (q2 fun ⟨x, e⟩ => by cases e))
  | lst ds => exact aT (aT (q2 fun ⟨x, e⟩ => by cases e))
  | dic ks ds => exact aT (aT (q2 fun ⟨x, e⟩ => by cases e))
def a_p_is_way : ASp := fun ds n Q => ∃ d, ds = [d] ∧ Ok d ∧ (isWay d → Q (.bl true) n) ∧ (¬ isWay d → Q (.bl false) n)
theorem ok_p_is_way (T : Tx K mg A) : FnOk P w K mg base CX0 4 A.f_p_is_way A.fd_p_is_way ["thing"] (spOf K 1 a_p_is_way) := by
  refine fn_mir [] 3 rfl (by decide) (by decide) T.F_p_is_way sc_p_is_way fun cdv Ar outer s H E hr => ?_
  refine ⟨_, _, (pss_cons (ps_if (PW.pt (pw_or (pt_not (pt_val (pe_callB (k_isi (K := K) rfl) (by rfl) T.m_isinstance (by decide +kernel) (pa_cons (pv 0) (pa_cons (k_ty (t := .tup) (by rfl) T.m_tuple (by decide +kernel)) pa_nil))))) (pw_or1 (pt_cmpR (k_ne (K := K) rfl hr.units) (pe_callB (k_len (K := K) rfl) (by rfl) T.m_len (by decide +kernel) (pa_cons (pv 0) pa_nil)) pe_int (nomark _)))))
      (pss_one (ps_ret pe_bl))
      pss_nil)
    (pss_cons (ps_asg (pv 0) (k_gtup (K := K) (m := 2) rfl rfl (pgs_cons (pg_name (i := 1) sc_p_is_way.nd rfl (.inl rfl)) (pgs_cons (pg_name (i := 2) sc_p_is_way.nd rfl (.inl rfl)) pgs_nil))))
    (pss_cons (ps_if (PW.pt (pw_or (pt_not (pt_val (pe_call (ok_p_is_whole (P := P) (K := K) T) (hr.mono (by decide)) (by rfl) T.g_p_is_whole T.F_p_is_whole.kp T.b_p_is_whole .nil pass0 (pa_cons (pv 1) pa_nil)))) (pw_or1 (pt_not (pt_val (pe_call (ok_p_is_whole (P := P) (K := K) T) (hr.mono (by decide)) (by rfl) T.g_p_is_whole T.F_p_is_whole.kp T.b_p_is_whole .nil pass0 (pa_cons (pv 2) pa_nil)))))))
      (pss_one (ps_ret pe_bl))
      pss_nil)
    (pss_one (ps_ret (pe_cmpR (k_eq (K := K) rfl hr.units) (pe_call (ok_p_common_divisor (P := P) (K := K) T) (hr.mono (by decide)) (by rfl) T.g_p_common_divisor T.F_p_common_divisor.kp T.b_p_common_divisor .nil pass0 (pa_cons (pv 1) (pa_cons (pv 2) pa_nil))) pe_int (nomark _))))))), by infer_instance, fun ds n Q hl hA => ?_⟩
  obtain ⟨d, rfl, h, q1, q2⟩ := hA
  have h7 := h.k7
  cases d with
  | ty _ => cases h7
  | cls _ => cases h7
  | ins _ _ _ => cases h7
  | deck => cases h7
  | xcp _ _ _ _ _ => cases h7
  | tup ds =>
    refine aF ?_
    refine nIte (fun hl => ?_) fun hl => ?_
    · exact q2 fun ⟨w, e, _⟩ => hl (by rw [D.tup.inj e]; rfl)
    · obtain ⟨p, q, rfl⟩ := len_two hl
      have n1 := h.tup p (by simp)
      have n2 := h.tup q (by simp)
      refine ⟨p, rfl, n1.k7, ?_⟩
      cases e1 : isInt p with
      | false => exact aT (aT (q2 (way_not fun z => by rw [e1] at z; exact Bool.false_ne_true z.1)))
      | true =>
        refine aF ?_
        refine ⟨q, rfl, n2.k7, ?_⟩
        cases e2 : isInt q with
        | false => exact aT (q2 (way_not fun z => by rw [e2] at z; exact Bool.false_ne_true z.2))
        | true =>
          refine aF ?_
          obtain ⟨i, rfl⟩ := int_of e1
          obtain ⟨j, rfl⟩ := int_of e2
          refine ⟨i, j, rfl, n1.num.le (by decide), n2.num.le (by decide), ?_⟩
          show Q (.bl (decide (gcdI i j = 1))) n
          by_cases h1 : gcdI i j = 1
          · rw [decide_eq_true h1]
            exact q1 ⟨(i, j), rfl, h1⟩
          · rw [decide_eq_false h1]
            refine q2 fun ⟨w, e, hg⟩ => h1 ?_
            have e' : [D.int i, D.int j] = [.int w.1, .int w.2] := D.tup.inj e
            obtain ⟨a1, e'⟩ := List.cons.inj e'
            obtain ⟨a2, _⟩ := List.cons.inj e'
            rw [D.int.inj a1, D.int.inj a2]
            exact hg
  | non => exact aT (aT (q2 fun ⟨w, e, _⟩ => by cases e))
  | bl b => exact aT (aT (q2 fun ⟨w, e, _⟩ => by cases e))
  | int i => exact aT (aT (q2 fun ⟨w, e, _⟩ => by cases e))
  | str z => exact aT (aT (q2 fun ⟨w, e, _⟩ => by cases e))
  | lst ds => exact aT (aT (q2 fun ⟨w, e, _⟩ => by cases e))
  | dic ks ds => exact aT (aT (q2 fun ⟨w, e, _⟩ => by cases e))
def a_l_is_way : ASp := fun ds n Q => ∃ d, ds = [d] ∧ Ok d ∧ (isWay d → Q (.bl true) n) ∧ (¬ isWay d → Q (.bl false) n)
theorem ok_l_is_way (T : Tx K mg A) : FnOk P w K mg base CX0 2 A.f_l_is_way A.fd_l_is_way ["_law_thing"] (spOf K 1 a_l_is_way) := by
  refine fn_mir [] 1 rfl (by decide) (by decide) T.F_l_is_way sc_l_is_way fun cdv Ar outer s H E hr => ?_
  refine ⟨_, _, (pss_cons (ps_if (PW.pt (pw_or (pt_not (pt_val (pe_callB (k_isi (K := K) rfl) (by rfl) T.m_isinstance (by decide +kernel) (pa_cons (pv 0) (pa_cons (k_ty (t := .tup) (by rfl) T.m_tuple (by decide +kernel)) pa_nil))))) (pw_or1 (pt_cmpR (k_ne (K := K) rfl hr.units) (pe_callB (k_len (K := K) rfl) (by rfl) T.m_len (by decide +kernel) (pa_cons (pv 0) pa_nil)) pe_int (nomark _)))))
      (pss_one (ps_ret pe_bl))
      pss_nil)
    (pss_one (ps_ret (pe_and (pe_call (ok_l_is_whole (P := P) (K := K) T) (hr.mono (by decide)) (by rfl) T.g_l_is_whole T.F_l_is_whole.kp T.b_l_is_whole .nil pass0 (pa_cons (pe_ix (k_ix (K := K) rfl) (pv 0) pe_int (fun _ _ => rfl)) pa_nil)) (pe_and (pe_call (ok_l_is_whole (P := P) (K := K) T) (hr.mono (by decide)) (by rfl) T.g_l_is_whole T.F_l_is_whole.kp T.b_l_is_whole .nil pass0 (pa_cons (pe_ix (k_ix (K := K) rfl) (pv 0) pe_int (fun _ _ => rfl)) pa_nil)) (pe_one (pe_cmpR (k_eq (K := K) rfl hr.units) (pe_call (ok_l_gcd (P := P) (K := K) T) (hr.mono (by decide)) (by rfl) T.g_l_gcd T.F_l_gcd.kp T.b_l_gcd .nil pass0 (pa_cons (pe_ix (k_ix (K := K) rfl) (pv 0) pe_int (fun _ _ => rfl)) (pa_cons (pe_ix (k_ix (K := K) rfl) (pv 0) pe_int (fun _ _ => rfl)) pa_nil))) pe_int (nomark _)))))))), by infer_instance, fun ds n Q hl hA => ?_⟩
  obtain ⟨d, rfl, h, q1, q2⟩ := hA
  have h7 := h.k7
  cases d with
  | ty _ => cases h7
  | cls _ => cases h7
  | ins _ _ _ => cases h7
  | deck => cases h7
  | xcp _ _ _ _ _ => cases h7
  | tup ds =>
    refine aF ?_
    refine nIte (fun hl => ?_) fun hl => ?_
    · exact q2 fun ⟨w, e, _⟩ => hl (by rw [D.tup.inj e]; rfl)
    · obtain ⟨p, q, rfl⟩ := len_two hl
      have n1 := h.tup p (by simp)
      have n2 := h.tup q (by simp)
      refine ⟨p, rfl, n1.k7, ?_⟩
      cases e1 : isInt p with
      | false => exact aF (q2 (way_not fun z => by rw [e1] at z; exact Bool.false_ne_true z.1))
      | true =>
        refine aT ?_
        refine ⟨q, rfl, n2.k7, ?_⟩
        cases e2 : isInt q with
        | false => exact aF (q2 (way_not fun z => by rw [e2] at z; exact Bool.false_ne_true z.2))
        | true =>
          refine aT ?_
          obtain ⟨i, rfl⟩ := int_of e1
          obtain ⟨j, rfl⟩ := int_of e2
          refine ⟨i, j, rfl, ?_⟩
          show Q (.bl (decide (gcdI i j = 1))) n
          by_cases h1 : gcdI i j = 1
          · rw [decide_eq_true h1]
            exact q1 ⟨(i, j), rfl, h1⟩
          · rw [decide_eq_false h1]
            refine q2 fun ⟨w, e, hg⟩ => h1 ?_
            have e' : [D.int i, D.int j] = [.int w.1, .int w.2] := D.tup.inj e
            obtain ⟨a1, e'⟩ := List.cons.inj e'
            obtain ⟨a2, _⟩ := List.cons.inj e'
            rw [D.int.inj a1, D.int.inj a2]
            exact hg
  | non => exact aT (aT (q2 fun ⟨w, e, _⟩ => by cases e))
  | bl b => exact aT (aT (q2 fun ⟨w, e, _⟩ => by cases e))
  | int i => exact aT (aT (q2 fun ⟨w, e, _⟩ => by cases e))
  | str z => exact aT (aT (q2 fun ⟨w, e, _⟩ => by cases e))
  | lst ds => exact aT (aT (q2 fun ⟨w, e, _⟩ => by cases e))
  | dic ks ds => exact aT (aT (q2 fun ⟨w, e, _⟩ => by cases e))

/-! CUT -/
/-! ### what is held -/
theorem Meets.time {b c : Bw} {rs : List Pt} {w : Pt} {t : Rat} (h : Meets b c rs w t) : t = tmQ b c w := by
  have hr : rtQ b c w ≠ 0 := by have := h.fall; grind
  have h1 := h.zero
  have h2 := tmQ_zero hr
  rw [gapQ_lin] at h1 h2
  have e : rtQ b c w * (t - tmQ b c w) = 0 := by grind
  rcases Rat.mul_eq_zero.mp e with z | z
  · exact absurd z hr
  · grind
theorem sh_eqv (x y : Rat) : PyData.eqv (D.lst [sh x]).pd (D.lst [sh y]).pd = decide (x = y) := by
  show PyData.eqv (.list [.tuple [.int x.num, .int (x.den : Int)]]) (.list [.tuple [.int y.num, .int (y.den : Int)]]) = _
  simp only [PyData.eqv, PyData.eqvAll, Bool.and_true]
  by_cases h : x = y
  · subst h
    simp
  · rw [decide_eq_false h]
    by_cases h1 : x.num = y.num
    · have h2 : (x.den : Int) ≠ (y.den : Int) := fun z => h (Rat.ext h1 (by omega))
      simp only [h1, beq_self_eq_true, Bool.true_and]
      simpa using h2
    · simp [h1]
theorem filter_one {w : Pt} : ∀ {ms : List Pt}, ms.Nodup → w ∈ ms → ms.filter (fun v => decide (v = w)) = [w]
  | [], _, h => by cases h
  | x :: ms, hn, h => by
    obtain ⟨h1, h2⟩ := List.nodup_cons.mp hn
    by_cases e : x = w
    · subst e
      rw [List.filter_cons_of_pos (p := fun v => decide (v = x)) (decide_eq_true rfl)]
      congr 1
      exact List.filter_eq_nil_iff.mpr fun v hv z => h1 (by rw [← of_decide_eq_true z]; exact hv)
    · rw [List.filter_cons_of_neg (by simpa using e)]
      rcases List.mem_cons.mp h with z | z
      · exact absurd z.symm e
      · exact filter_one h2 z
def HM (b c : Bw) (rs : List Pt) (u : Rat) (x y : D) : Prop := ∃ (t : Rat) (w : Pt), x = sh t ∧ y = pt w ∧ Meets b c rs w t ∧ t < u
theorem ok_sh {t : Rat} (h : Ok (sh t)) : BdQ 1920 t := ⟨(h.tup (.int t.num) (by simp)).num, (h.tup (.int (t.den : Int)) (by simp)).num⟩
theorem ok_pt {w : Pt} (h : Ok (pt w)) : WyS 1920 w := ⟨(h.tup (.int w.1) (by simp)).num, (h.tup (.int w.2) (by simp)).num⟩
def a_p_is_meeting : ASp := fun ds n Q => ∃ (b c : Bw) (kp ks kt : Nat) (u : Rat) (x y : D) (rs : List Pt), ds = [b.d, c.d, sh u, x, y] ∧ Two kp ks b c ∧ 3 * (kp + ks) ≤ 7800 ∧ BdQ kt u ∧ kt ≤ 60000 ∧ Ok x ∧ Ok y ∧ PwOk (waysOf b.cs) (waysOf c.cs) rs ∧ (HM b c rs u x y → Q (.bl true) n) ∧ (¬ HM b c rs u x y → Q (.bl false) n)
theorem ok_p_is_meeting (T : Tx K mg A) : FnOk P w K mg base CX0 9 A.f_p_is_meeting A.fd_p_is_meeting ["one", "other", "until", "time", "way"] (spOf K 5 a_p_is_meeting) := by
  refine fn_mir [] 7 rfl (by decide) (by decide) T.F_p_is_meeting sc_p_is_meeting fun cdv Ar outer s H E hr => ?_
  refine ⟨_, _, (pss_cons (ps_if (PW.pt (pw_or (pt_not (pt_val (pe_call (ok_p_is_share (P := P) (K := K) T) (hr.mono (by decide)) (by rfl) T.g_p_is_share T.F_p_is_share.kp T.b_p_is_share .nil pass0 (pa_cons (pv 3) pa_nil)))) (pw_or1 (pt_not (pt_val (pe_call (ok_p_is_way (P := P) (K := K) T) (hr.mono (by decide)) (by rfl) T.g_p_is_way T.F_p_is_way.kp T.b_p_is_way .nil pass0 (pa_cons (pv 4) pa_nil)))))))
      (pss_one (ps_ret pe_bl))
      pss_nil)
    (pss_cons (ps_setLc (i := 5) (own := [("course", 6)]) rfl sc_p_is_meeting.nd rfl rfl (sw_true rfl rfl rfl (by decide +kernel)) (k_iter (K := K) rfl (pe_call (ok_p_meeting_courses (P := P) (K := K) T) (hr.mono (by decide)) (by rfl) T.g_p_meeting_courses T.F_p_meeting_courses.kp T.b_p_meeting_courses .nil pass0 (pa_cons (pe_call (ok_p_courses (P := P) (K := K) T) (hr.mono (by decide)) (by rfl) T.g_p_courses T.F_p_courses.kp T.b_p_courses .nil pass0 (pa_cons (pv 0) (pa_cons (pv 1) pa_nil))) (pa_cons (pv 2) pa_nil)))) (blkOk_by (own := [("course", 6)]) (N := ["one", "other", "until", "time", "way", "met", "course"]) (sc := defScope s_p_is_meeting) (by decide +kernel)) (fun _ _ _ _ _ => (pg_name (i := 6) sc_p_is_meeting.nd rfl (Or.inl rfl))) (fun _ _ _ _ _ => (pts_one (pt_cmpR (k_eq (K := K) rfl hr.units) (pe_ix (k_ix (K := K) rfl) (pv 6) pe_int (fun _ _ => rfl)) (pv 4) (nomark _)))) (fun _ _ _ _ _ => (pv 6)))
    (pss_one (ps_ret (pe_cmpR (k_eq (K := K) rfl hr.units) (pe_lc (own := [("course", 6)]) rfl sc_p_is_meeting.nd (k_iter (K := K) rfl (pv 5)) (blkOk_by (own := [("course", 6)]) (N := ["one", "other", "until", "time", "way", "met", "course"]) (sc := defScope s_p_is_meeting) (by decide +kernel)) (fun _ _ _ _ _ => (pg_name (i := 6) sc_p_is_meeting.nd rfl (Or.inl rfl))) (fun _ _ _ _ _ => pts_nil) (fun _ _ _ _ _ => (pe_call (ok_p_time_of (P := P) (K := K) T) (hr.mono (by decide)) (by rfl) T.g_p_time_of T.F_p_time_of.kp T.b_p_time_of .nil pass0 (pa_cons (pv 6) pa_nil)))) (pe_lst (pa_cons (pv 3) pa_nil)) (nomark _)))))), by infer_instance, fun ds n Q hl hA => ?_⟩
  obtain ⟨b, c, kp, ks, kt, u, x, y, rs, rfl, h, hl, hu, hkt, hx, hy, hpw, q1, q2⟩ := hA
  refine ⟨x, rfl, hx, fun s1 => aF ?_, fun s1 => aT (aT (q2 fun ⟨t, w, e, _⟩ => s1 ⟨t, e⟩))⟩
  refine ⟨y, rfl, hy, fun s2 => aF ?_, fun s2 => aT (q2 fun ⟨t, w, _, e, hM, _⟩ => s2 ⟨w, e, hpw.one h.sb h.sc w hM.mem⟩)⟩
  obtain ⟨t, rfl⟩ := s1
  obtain ⟨w, rfl, hw1⟩ := s2
  have ht := ok_sh hx
  have p1 : (Meets b c rs w t ∧ t < u) → Q (.bl true) n := fun z => q1 ⟨t, w, rfl, rfl, z⟩
  have p2 : ¬ (Meets b c rs w t ∧ t < u) → Q (.bl false) n := fun z => q2 fun ⟨t', w', e1, e2, g⟩ => z (by rw [sh_inj e1, pt_inj e2]; exact g)
  refine ⟨b, c, kp, ks, rfl, h, fun rs' B fS fL hco => ?_⟩
  obtain rfl := hpw.uniq hco.pw
  refine ⟨b, c, rs, B, fS, fL, _, kt, u, rfl, hco, by omega, hu, hkt, fun ms hml hms hsub => ?_⟩
  have hnd : ms.Nodup := hsub.nodup hpw.nd
  refine ⟨by rw [List.length_map]; omega, ?_⟩
  refine aLc_ind (fun acc ds m => m = n ∧ ∃ us vs : List Pt, ms = us ++ vs ∧ ds = vs.map (cD fS fL) ∧ acc = (us.filter fun v => decide (v = w)).map (cD fS fL)) ?_ ?_ ⟨rfl, [], ms, rfl, rfl, rfl⟩
  · rintro acc d r m ⟨rfl, us, vs, e0, e, rfl⟩ ih
    cases vs with
    | nil => cases e
    | cons v vs =>
    obtain ⟨rfl, rfl⟩ := List.cons.inj e
    refine ⟨⟨rfl, rfl, rfl, rfl⟩, ?_⟩
    show aIte (PyData.eqv (pt v).pd (pt w).pd) _ _
    rw [pt_eqv]
    refine dIte (fun z => ?_) fun z => ?_
    · refine ih _ _ ⟨rfl, us ++ [v], vs, by rw [e0]; simp, rfl, ?_⟩
      rw [List.filter_append, List.filter_cons_of_pos (p := fun v => decide (v = w)) (decide_eq_true z), List.filter_nil, List.map_append]
      rfl
    · refine ih _ _ ⟨rfl, us ++ [v], vs, by rw [e0]; simp, rfl, ?_⟩
      rw [List.filter_append, List.filter_cons_of_neg (p := fun v => decide (v = w)) (by simpa using z), List.filter_nil, List.append_nil]
  · rintro acc m ⟨rfl, us, vs, e0, e, rfl⟩
    cases vs with
    | cons v vs => cases e
    | nil =>
    rw [List.append_nil] at e0
    subst e0
    by_cases hin : w ∈ ms
    · have ef : ms.filter (fun v => decide (v = w)) = [w] := filter_one hnd hin
      rw [ef]
      obtain ⟨hwr, hM, hlt⟩ := (hms w).mp hin
      have hb := hco.bd w hwr
      have hl0 : fL w ≠ 0 := by have := (hco.lneg w).mpr hM.fall; omega
      refine ⟨(show 1 ≤ 1000000 by decide), aT ⟨w, fS w, fL w, _, rfl, hb.2.1, hb.2.2, hl0, by omega, ?_⟩⟩
      rw [hco.time hl0]
      refine ⟨⟨rfl, rfl, rfl, rfl⟩, ?_⟩
      show Q (.bl (PyData.eqv (D.lst [sh (tmQ b c w)]).pd (D.lst [sh t]).pd)) m
      rw [sh_eqv]
      by_cases ht' : tmQ b c w = t
      · rw [decide_eq_true ht']
        exact p1 ⟨ht' ▸ hM, ht' ▸ hlt⟩
      · rw [decide_eq_false ht']
        exact p2 fun z => ht' z.1.time.symm
    · have ef : ms.filter (fun v => decide (v = w)) = [] := List.filter_eq_nil_iff.mpr fun v hv z => hin (by rw [← of_decide_eq_true z]; exact hv)
      rw [ef]
      refine ⟨(show 0 ≤ 1000000 by decide), ?_⟩
      refine ⟨⟨rfl, rfl, rfl, rfl⟩, ?_⟩
      refine (show Q (.bl false) m from p2 fun z => hin ((hms w).mpr ⟨z.1.mem, by rw [← z.1.time]; exact z.1, by rw [← z.1.time]; exact z.2⟩))
/-- things that may be looked at as papers -/
structure Th (d : D) : Prop where
  k7 : Kd7 d
  two : ∀ a x, d = .tup [a, x] → Cmp a ∧ Ok x
  three : ∀ a x y, d = .tup [a, x, y] → Cmp a ∧ Ok x ∧ Ok y
def FH (b c : Bw) (rs : List Pt) (u : Rat) (d : D) : Prop := (∃ w, d = .tup [.str "clear", pt w] ∧ gcdI w.1 w.2 = 1 ∧ ClrQ b c w u) ∨ ∃ x y, d = .tup [.str "meets", x, y] ∧ HM b c rs u x y
theorem lay_clear : PyData.canLay0 (.str "clear") = true := by decide +kernel
theorem lay_meets : PyData.canLay0 (.str "meets") = true := by decide +kernel
theorem tup2 {a x a' x' : D} (e : D.tup [a, x] = .tup [a', x']) : a = a' ∧ x = x' := by
  obtain ⟨e1, e⟩ := List.cons.inj (D.tup.inj e)
  obtain ⟨e2, _⟩ := List.cons.inj e
  exact ⟨e1, e2⟩
theorem tup3 {a x y a' x' y' : D} (e : D.tup [a, x, y] = .tup [a', x', y']) : a = a' ∧ x = x' ∧ y = y' := by
  obtain ⟨e1, e⟩ := List.cons.inj (D.tup.inj e)
  obtain ⟨e2, e⟩ := List.cons.inj e
  obtain ⟨e3, _⟩ := List.cons.inj e
  exact ⟨e1, e2, e3⟩
theorem fh_len {b c : Bw} {rs : List Pt} {u : Rat} {ds : List D} (h : FH b c rs u (.tup ds)) : ds.length = 2 ∨ ds.length = 3 := by
  rcases h with ⟨w, e, _⟩ | ⟨x, y, e, _⟩
  · left; rw [D.tup.inj e]; rfl
  · right; rw [D.tup.inj e]; rfl
theorem fh_two {b c : Bw} {rs : List Pt} {u : Rat} {a x : D} (h : FH b c rs u (.tup [a, x])) : a = .str "clear" ∧ ∃ w, x = pt w ∧ gcdI w.1 w.2 = 1 ∧ ClrQ b c w u := by
  rcases h with ⟨w, e, h⟩ | ⟨y, z, e, _⟩
  · obtain ⟨e1, e2⟩ := tup2 e
    exact ⟨e1, w, e2, h⟩
  · have := congrArg List.length (D.tup.inj e)
    simp at this
theorem fh_three {b c : Bw} {rs : List Pt} {u : Rat} {a x y : D} (h : FH b c rs u (.tup [a, x, y])) : a = .str "meets" ∧ HM b c rs u x y := by
  rcases h with ⟨w, e, _⟩ | ⟨x', y', e, h⟩
  · have := congrArg List.length (D.tup.inj e)
    simp at this
  · obtain ⟨e1, e2, e3⟩ := tup3 e
    rw [e2, e3]
    exact ⟨e1, h⟩
def a_p_first_held : ASp := fun ds n Q => ∃ (b c : Bw) (kp ks kt : Nat) (u : Rat) (d : D) (rs : List Pt), ds = [b.d, c.d, sh u, d] ∧ Two kp ks b c ∧ 3 * (kp + ks) ≤ 7800 ∧ BdQ kt u ∧ kp + ks + kt ≤ 8000 ∧ Th d ∧ PwOk (waysOf b.cs) (waysOf c.cs) rs ∧ (FH b c rs u d → Q (.bl true) n) ∧ (¬ FH b c rs u d → Q (.bl false) n)
theorem ok_p_first_held (T : Tx K mg A) : FnOk P w K mg base CX0 11 A.f_p_first_held A.fd_p_first_held ["one", "other", "until", "paper"] (spOf K 4 a_p_first_held) := by
  refine fn_mir [] 4 rfl (by decide) (by decide) T.F_p_first_held sc_p_first_held fun cdv Ar outer s H E hr => ?_
  refine ⟨_, _, (pss_cons (ps_if (pt_not (pt_val (pe_callB (k_isi (K := K) rfl) (by rfl) T.m_isinstance (by decide +kernel) (pa_cons (pv 3) (pa_cons (k_ty (t := .tup) (by rfl) T.m_tuple (by decide +kernel)) pa_nil)))))
      (pss_one (ps_ret pe_bl))
      pss_nil)
    (pss_cons (ps_if (PW.pt (pw_and (pt_cmpR (k_eq (K := K) rfl hr.units) (pe_callB (k_len (K := K) rfl) (by rfl) T.m_len (by decide +kernel) (pa_cons (pv 3) pa_nil)) pe_int (nomark _)) (pw_and1 (pt_cmpR (k_eqTh (K := K) rfl hr.units) (pe_ix (k_ix (K := K) rfl) (pv 3) pe_int (fun _ _ => rfl)) pe_str (nomark _)))))
      (pss_one (ps_ret (pe_and (pe_call (ok_p_is_way (P := P) (K := K) T) (hr.mono (by decide)) (by rfl) T.g_p_is_way T.F_p_is_way.kp T.b_p_is_way .nil pass0 (pa_cons (pe_ix (k_ix (K := K) rfl) (pv 3) pe_int (fun _ _ => rfl)) pa_nil)) (pe_one (pe_call (ok_p_is_clear (P := P) (K := K) T) (hr.mono (by decide)) (by rfl) T.g_p_is_clear T.F_p_is_clear.kp T.b_p_is_clear .nil pass0 (pa_cons (pv 0) (pa_cons (pv 1) (pa_cons (pe_ix (k_ix (K := K) rfl) (pv 3) pe_int (fun _ _ => rfl)) (pa_cons (pv 2) pa_nil)))))))))
      pss_nil)
    (pss_cons (ps_if (PW.pt (pw_and (pt_cmpR (k_eq (K := K) rfl hr.units) (pe_callB (k_len (K := K) rfl) (by rfl) T.m_len (by decide +kernel) (pa_cons (pv 3) pa_nil)) pe_int (nomark _)) (pw_and1 (pt_cmpR (k_eqTh (K := K) rfl hr.units) (pe_ix (k_ix (K := K) rfl) (pv 3) pe_int (fun _ _ => rfl)) pe_str (nomark _)))))
      (pss_one (ps_ret (pe_call (ok_p_is_meeting (P := P) (K := K) T) (hr.mono (by decide)) (by rfl) T.g_p_is_meeting T.F_p_is_meeting.kp T.b_p_is_meeting .nil pass0 (pa_cons (pv 0) (pa_cons (pv 1) (pa_cons (pv 2) (pa_cons (pe_ix (k_ix (K := K) rfl) (pv 3) pe_int (fun _ _ => rfl)) (pa_cons (pe_ix (k_ix (K := K) rfl) (pv 3) pe_int (fun _ _ => rfl)) pa_nil))))))))
      pss_nil)
    (pss_one (ps_ret pe_bl))))), by infer_instance, fun ds n Q hl hA => ?_⟩
  obtain ⟨b, c, kp, ks, kt, u, d, rs, rfl, h, hl9, hu, hl2, ⟨h7, two, three⟩, hpw, q1, q2⟩ := hA
  have no : ∀ {p : D}, (∀ ds, p ≠ .tup ds) → ¬ FH b c rs u p := fun hp z => by
    rcases z with ⟨w, e, _⟩ | ⟨x, y, e, _⟩
    · exact hp _ e
    · exact hp _ e
  cases d with
  | ty _ => cases h7
  | cls _ => cases h7
  | ins _ _ _ => cases h7
  | deck => cases h7
  | xcp _ _ _ _ _ => cases h7
  | tup ds =>
    refine aF ?_
    match ds, two, three, q1, q2 with
    | [], _, _, _, q2 => exact aF (aF (aF (aF (q2 fun z => by have := fh_len z; simp at this))))
    | [_], _, _, _, q2 => exact aF (aF (aF (aF (q2 fun z => by have := fh_len z; simp at this))))
    | [a, x], two, _, q1, q2 =>
      obtain ⟨c1, c2⟩ := two a x rfl
      refine aT (eqTh (f := id) c1 lay_clear ?_)
      cases e1 : isNm "clear" a with
      | false => exact aF (aF (aF (q2 fun z => by rw [isNm_iff.mpr (fh_two z).1] at e1; cases e1)))
      | true =>
        obtain rfl := isNm_iff.mp e1
        refine aT ⟨x, rfl, c2, fun hw => aT ?_, fun hw => aF (q2 fun z => by obtain ⟨_, w, e, g, _⟩ := fh_two z; exact hw ⟨w, e, g⟩)⟩
        obtain ⟨w, rfl, hg⟩ := hw
        have hw := ok_pt c2
        refine ⟨b, c, w, u, kp, ks, kt, rfl, h, ⟨hw.1.le (by decide), hw.2.le (by decide)⟩, hu, hl2, fun hc => q1 (.inl ⟨w, rfl, hg, hc⟩), fun hc => q2 fun z => ?_⟩
        obtain ⟨_, w', e, _, hc'⟩ := fh_two z
        exact hc (by rw [pt_inj e]; exact hc')
    | [a, x, y], _, three, q1, q2 =>
      obtain ⟨c1, c2, c3⟩ := three a x y rfl
      refine aF (aF (aT (eqTh (f := id) c1 lay_meets ?_)))
      cases e1 : isNm "meets" a with
      | false => exact aF (q2 fun z => by rw [isNm_iff.mpr (fh_three z).1] at e1; cases e1)
      | true =>
        obtain rfl := isNm_iff.mp e1
        refine aT ?_
        exact ⟨b, c, kp, ks, kt, u, x, y, rs, rfl, h, hl9, hu, by omega, c2, c3, hpw, fun z => q1 (.inr ⟨x, y, rfl, z⟩), fun hc => q2 fun z => hc (fh_three z).2⟩
    | a :: x :: y :: z :: r, _, _, _, q2 =>
      have hr : ((a :: x :: y :: z :: r).length : Int) = (r.length : Int) + 4 := by simp; omega
      refine dIte (fun e => absurd e (by rw [hr]; omega)) fun _ => aF (dIte (fun e => absurd e (by rw [hr]; omega)) fun _ => aF (q2 fun z => by have := fh_len z; simp at this))
  | non => exact aT (q2 (no fun ds e => by cases e))
  | bl b => exact aT (q2 (no fun ds e => by cases e))
  | int i => exact aT (q2 (no fun ds e => by cases e))
  | str z => exact aT (q2 (no fun ds e => by cases e))
  | lst ds => exact aT (q2 (no fun ds e => by cases e))
  | dic ks ds => exact aT (q2 (no fun ds e => by cases e))
/-! CUT -/
/-! ### the law's own looks -/
theorem fq_scale {k m : Nat} {w a b : Int} {q : Rat} (hw : Bd k w) (ha : Bd m a) (hb : Bd m b) (b0 : 0 < b) (e : q = Rat.divInt a b) : Fq (k + m) (fr (w * a) b) ((w : Rat) * q) := by
  refine ⟨w * a, b, rfl, hw.mul ha, hb.le (by omega), b0, ?_⟩
  rw [e, Rat.divInt_eq_div, Rat.divInt_eq_div]
  have : ((w * a : Int) : Rat) = (w : Rat) * (a : Rat) := Rat.intCast_mul w a
  rw [this]
  grind
theorem fq0 : Fq 1 (fr 0 1) 0 := ⟨0, 1, rfl, by unfold Bd; decide, by unfold Bd; decide, by decide, by decide +kernel⟩
def a_l_along : ASp := fun ds n Q => ∃ (w : Pt) (d : D) (x y : Rat) (k : Nat), ds = [pt w, d] ∧ WyS 8000 w ∧ Sq k d x y ∧ k ≤ 4000 ∧ ∀ r, Fq (2 * k + 16001) r ((w.1 : Rat) * x + (w.2 : Rat) * y) → Q r n
theorem ok_l_along (T : Tx K mg A) : FnOk P w K mg base CX0 2 A.f_l_along A.fd_l_along ["_law_way_here", "_law_spot_here"] (spOf K 2 a_l_along) := by
  refine fn_mir [] 2 rfl (by decide) (by decide) T.F_l_along sc_l_along fun cdv Ar outer s H E hr => ?_
  refine ⟨_, _, (pss_one (ps_ret (pe_call (ok_l_plus (P := P) (K := K) T) (hr.mono (by decide)) (by rfl) T.g_l_plus T.F_l_plus.kp T.b_l_plus .nil pass0 (pa_cons (pe_tup (pa_cons (pe_op k_mul (pe_ix (k_ix (K := K) rfl) (pv 0) pe_int (fun _ _ => rfl)) (pe_ix (k_ix (K := K) rfl) (pe_ix (k_ix (K := K) rfl) (pv 1) pe_int (fun _ _ => rfl)) pe_int (fun _ _ => rfl))) (pa_cons (pe_ix (k_ix (K := K) rfl) (pe_ix (k_ix (K := K) rfl) (pv 1) pe_int (fun _ _ => rfl)) pe_int (fun _ _ => rfl)) pa_nil))) (pa_cons (pe_tup (pa_cons (pe_op k_mul (pe_ix (k_ix (K := K) rfl) (pv 0) pe_int (fun _ _ => rfl)) (pe_ix (k_ix (K := K) rfl) (pe_ix (k_ix (K := K) rfl) (pv 1) pe_int (fun _ _ => rfl)) pe_int (fun _ _ => rfl))) (pa_cons (pe_ix (k_ix (K := K) rfl) (pe_ix (k_ix (K := K) rfl) (pv 1) pe_int (fun _ _ => rfl)) pe_int (fun _ _ => rfl)) pa_nil))) pa_nil))))), by infer_instance, fun ds n Q hl hA => ?_⟩
  obtain ⟨w, _, x, y, k, rfl, hw, ⟨u, v, rfl, ⟨a, b, rfl, h1, h2, h3, h4⟩, ⟨c, d, rfl, g1, g2, g3, g4⟩⟩, hk, q⟩ := hA
  refine ⟨mulA hw.1 h1 (by decide) (by omega), mulA hw.2 g1 (by decide) (by omega), ?_⟩
  refine fq_plus (fq_scale hw.1 h1 h2 h3 h4) (fq_scale hw.2 g1 g2 g3 g4) (by omega) (m := 2 * k + 16001) (by omega) fun r hr => q r hr
def a_l_speeding : ASp := fun ds n Q => ∃ (b c : Bw) (w : Pt) (kb mb kc mc : Nat), ds = [b.d, c.d, pt w] ∧ b.ok kb mb ∧ c.ok kc mc ∧ WyS 8000 w ∧ kb + mb + kc + mc ≤ 3000 ∧ ∀ r : Int, (r < 0 ↔ rtQ b c w < 0) → Q (.int r) n
theorem ok_l_speeding (T : Tx K mg A) : FnOk P w K mg base CX0 3 A.f_l_speeding A.fd_l_speeding ["_law_one", "_law_other", "_law_way_here"] (spOf K 3 a_l_speeding) := by
  refine fn_mir [] 4 rfl (by decide) (by decide) T.F_l_speeding sc_l_speeding fun cdv Ar outer s H E hr => ?_
  refine ⟨_, _, (pss_cons (ps_set (i := 3) sc_l_speeding.nd rfl (.inl rfl) (pe_call (ok_l_spot_plus (P := P) (K := K) T) (hr.mono (by decide)) (by rfl) T.g_l_spot_plus T.F_l_spot_plus.kp T.b_l_spot_plus .nil pass0 (pa_cons (pe_ix (k_ix (K := K) rfl) (pv 1) pe_int (fun _ _ => rfl)) (pa_cons (pe_call (ok_l_spot_times (P := P) (K := K) T) (hr.mono (by decide)) (by rfl) T.g_l_spot_times T.F_l_spot_times.kp T.b_l_spot_times .nil pass0 (pa_cons (pe_ix (k_ix (K := K) rfl) (pv 0) pe_int (fun _ _ => rfl)) (pa_cons (pe_tup (pa_cons (pe_un un_neg pe_int) (pa_cons pe_int pa_nil))) pa_nil))) pa_nil))))
    (pss_one (ps_ret (pe_ix (k_ix (K := K) rfl) (pe_call (ok_l_along (P := P) (K := K) T) (hr.mono (by decide)) (by rfl) T.g_l_along T.F_l_along.kp T.b_l_along .nil pass0 (pa_cons (pv 2) (pa_cons (pv 3) pa_nil))) pe_int (fun _ _ => rfl))))), by infer_instance, fun ds n Q hl hA => ?_⟩
  obtain ⟨b, c, w, kb, mb, kc, mc, rfl, hb, hc, hw, hl, q⟩ := hA
  refine ⟨_, _, _, _, _, mb, 1, rfl, sq_spt hb.2.2.2.1 hb.2.2.2.2, fq_m1, by omega, fun s3 h3 => ?_⟩
  refine ⟨_, _, _, _, _, _, mc, mb + 1, rfl, sq_spt hc.2.2.2.1 hc.2.2.2.2, h3, by omega, fun s4 h4 => ?_⟩
  refine ⟨w, _, _, _, _, rfl, hw, h4, by omega, fun r hr => ?_⟩
  obtain ⟨a, e, rfl, _, _, e0, er⟩ := hr
  refine q a ?_
  have h1 := fq_top (k := 0) er e0
  have e0' : (0 : Rat) < (e : Rat) := (Rat.intCast_lt_intCast (a := 0)).mpr e0
  rw [← cast_lt0, h1, rat_neg_iff e0']
  have : (w.1 : Rat) * (c.x + b.x * -1) + (w.2 : Rat) * (c.y + b.y * -1) = rtQ b c w := by
    unfold rtQ
    grind
  rw [this]
theorem any_pts (w : Pt) : ∀ rs : List Pt, anyD (rs.map pt) (pt w) = decide (w ∈ rs)
  | [] => by simp [anyD, pdAll]
  | r :: rs => by
    have ih := any_pts w rs
    show (PyData.eqv (pt r).pd (pt w).pd || anyD (rs.map pt) (pt w)) = _
    rw [ih, pt_eqv]
    by_cases h : r = w
    · subst h
      simp
    · have : w ≠ r := fun z => h z.symm
      simp [h, this]
theorem pts_pld {ps : List Pt} {w : Pt} : PlD (ps.map pt) (pt w) := by
  have h : ∀ d ∈ ps.map pt, Sd 1 d := fun d hd => by
    obtain ⟨p, _, rfl⟩ := List.mem_map.mp hd
    exact Sd.pt (k := 0) p
  exact ⟨rfl, (Sd.all h).1, (Sd.pt (k := 0) w).shaped (by decide), (Sd.lst h).shaped (by decide)⟩
def a_l_meets : ASp := fun ds n Q => ∃ (b c : Bw) (u : Rat) (x y : D) (rs : List Pt) (kb mb kc mc ku : Nat), ds = [b.d, c.d, sh u, x, y] ∧ b.ok kb mb ∧ c.ok kc mc ∧ BdQ ku u ∧ kb + mb + kc + mc ≤ 3000 ∧ ku ≤ 8000 ∧ Ok x ∧ Ok y ∧ PwOk (waysOf b.cs) (waysOf c.cs) rs ∧ (HM b c rs u x y → Q (.bl true) n) ∧ (¬ HM b c rs u x y → Q (.bl false) n)
theorem Meets.after {b c : Bw} {rs : List Pt} {w : Pt} {t : Rat} (h : Meets b c rs w t) : 0 ≤ t := by
  have h1 := h.zero
  have h2 := h.nn
  have h3 := h.fall
  rw [gapQ_lin] at h1
  refine Rat.not_lt.mp fun z => ?_
  have := Rat.mul_pos (show 0 < -(rtQ b c w) by grind) (show 0 < -t by grind)
  grind
theorem meets_of {b c : Bw} {rs : List Pt} {w : Pt} {t : Rat} (hw : w ∈ rs) (h0 : 0 ≤ t) (hz : gapQ b c w t = 0) (h : ∀ v ∈ rs, gapQ b c v t < 0 ∨ (gapQ b c v t = 0 ∧ rtQ b c v < 0)) : Meets b c rs w t := by
  have hf : rtQ b c w < 0 := by
    rcases h w hw with z | z
    · rw [hz] at z
      exact absurd z Rat.lt_irrefl
    · exact z.2
  refine ⟨hw, ?_, hf, hz, h⟩
  rw [gapQ_lin] at hz
  have := Rat.mul_nonneg (show 0 ≤ -(rtQ b c w) by grind) h0
  grind
theorem ok_l_meets (T : Tx K mg A) : FnOk P w K mg base CX0 5 A.f_l_meets A.fd_l_meets ["_law_one", "_law_other", "_law_until_here", "_law_time", "_law_way_here"] (spOf K 5 a_l_meets) := by
  refine fn_mir [] 9 rfl (by decide) (by decide) T.F_l_meets sc_l_meets fun cdv Ar outer s H E hr => ?_
  refine ⟨_, _, (pss_cons (ps_if (PW.pt (pw_or (pt_not (pt_val (pe_call (ok_l_is_share (P := P) (K := K) T) (hr.mono (by decide)) (by rfl) T.g_l_is_share T.F_l_is_share.kp T.b_l_is_share .nil pass0 (pa_cons (pv 3) pa_nil)))) (pw_or (pt_cmpR op_lt (pe_ix (k_ix (K := K) rfl) (pv 3) pe_int (fun _ _ => rfl)) pe_int (nomark _)) (pw_or1 (pt_cmpR op_ge (pe_op k_mul (pe_ix (k_ix (K := K) rfl) (pv 3) pe_int (fun _ _ => rfl)) (pe_ix (k_ix (K := K) rfl) (pv 2) pe_int (fun _ _ => rfl))) (pe_op k_mul (pe_ix (k_ix (K := K) rfl) (pv 2) pe_int (fun _ _ => rfl)) (pe_ix (k_ix (K := K) rfl) (pv 3) pe_int (fun _ _ => rfl))) (nomark _))))))
      (pss_one (ps_ret pe_bl))
      pss_nil)
    (pss_cons (ps_set (i := 5) sc_l_meets.nd rfl (.inl rfl) (pe_call (ok_l_between (P := P) (K := K) T) (hr.mono (by decide)) (by rfl) T.g_l_between T.F_l_between.kp T.b_l_between .nil pass0 (pa_cons (pv 0) (pa_cons (pv 1) (pa_cons (pv 3) pa_nil)))))
    (pss_cons (ps_set (i := 6) sc_l_meets.nd rfl (.inl rfl) (pe_call (ok_l_pair_ways (P := P) (K := K) T) (hr.mono (by decide)) (by rfl) T.g_l_pair_ways T.F_l_pair_ways.kp T.b_l_pair_ways .nil pass0 (pa_cons (pv 0) (pa_cons (pv 1) pa_nil))))
    (pss_cons (ps_if (PW.pt (pw_or (pt_not (pt_val (pe_call (ok_l_is_way (P := P) (K := K) T) (hr.mono (by decide)) (by rfl) T.g_l_is_way T.F_l_is_way.kp T.b_l_is_way .nil pass0 (pa_cons (pv 4) pa_nil)))) (pw_or (pt_cmpR (k_notInD (K := K) rfl (room65 hr)) (pv 4) (pv 6) (by rfl)) (pw_or1 (pt_cmpR (k_ne (K := K) rfl hr.units) (pe_call (ok_l_room (P := P) (K := K) T) (hr.mono (by decide)) (by rfl) T.g_l_room T.F_l_room.kp T.b_l_room .nil pass0 (pa_cons (pv 0) (pa_cons (pv 1) (pa_cons (pv 4) (pa_cons (pv 5) pa_nil))))) pe_int (nomark _))))))
      (pss_one (ps_ret pe_bl))
      pss_nil)
    (pss_cons (ps_for PassesOwn.never rfl (k_iter (K := K) rfl (pv 6)) (pg_name (i := 7) sc_l_meets.nd rfl (.inl rfl))
      (pss_cons (ps_set (i := 8) sc_l_meets.nd rfl (.inl rfl) (pe_call (ok_l_room (P := P) (K := K) T) (hr.mono (by decide)) (by rfl) T.g_l_room T.F_l_room.kp T.b_l_room .nil pass0 (pa_cons (pv 0) (pa_cons (pv 1) (pa_cons (pv 7) (pa_cons (pv 5) pa_nil))))))
    (pss_one (ps_if (PW.pt (pw_or (pt_cmpR op_gt (pv 8) pe_int (nomark _)) (pw_or1 (PW.pt (pw_and (pt_cmpR (k_eq (K := K) rfl hr.units) (pv 8) pe_int (nomark _)) (pw_and1 (pt_cmpR op_ge (pe_call (ok_l_speeding (P := P) (K := K) T) (hr.mono (by decide)) (by rfl) T.g_l_speeding T.F_l_speeding.kp T.b_l_speeding .nil pass0 (pa_cons (pv 0) (pa_cons (pv 1) (pa_cons (pv 7) pa_nil)))) pe_int (nomark _))))))))
      (pss_one (ps_ret pe_bl))
      pss_nil))))
    (pss_one (ps_ret pe_bl))))))), by infer_instance, fun ds n Q hl hA => ?_⟩
  obtain ⟨b, c, u, x, y, rs, kb, mb, kc, mc, ku, rfl, hb, hc, bu, hlim, hku, hx, hy, hpw, q1, q2⟩ := hA
  refine ⟨x, rfl, hx, fun s1 => aF ?_, fun s1 => aT (aT (q2 fun ⟨t, w, e, _⟩ => s1 ⟨t, e⟩))⟩
  obtain ⟨t, rfl⟩ := s1
  have bt := ok_sh hx
  have tn : t.num < 0 ↔ t < 0 := by
    rw [Rat.lt_iff]
    have e1 : (0 : Rat).num = 0 := rfl
    have e2 : ((0 : Rat).den : Int) = 1 := rfl
    rw [e1, e2]
    omega
  refine dIte (fun z => aT (q2 fun ⟨t', w, e, _, hM, _⟩ => ?_)) fun z0 => ?_
  · have := hM.after
    rw [← sh_inj e] at this
    exact absurd (tn.mp z) (Rat.not_lt.mpr this)
  have ht0 : 0 ≤ t := Rat.not_lt.mp fun z => z0 (tn.mpr z)
  refine ⟨mulA bt.1 bu.2 (by decide) (by omega), mulA bu.1 bt.2 (by omega) (by decide), ?_⟩
  refine dIte (fun z => q2 fun ⟨t', w, e, _, _, hlt⟩ => ?_) fun z1 => ?_
  · rw [← sh_inj e] at hlt
    have := (Rat.lt_iff t u).mp hlt
    have z' : u.num * (t.den : Int) ≤ t.num * (u.den : Int) := z
    omega
  have hlt : t < u := (Rat.lt_iff t u).mpr (by
    have z' : ¬ u.num * (t.den : Int) ≤ t.num * (u.den : Int) := z1
    omega)
  refine ⟨b, c, sh t, t, kb, mb, kc, mc, 1920, rfl, hb, hc, fq_sh bt, by omega, fun X Y Z hZ eX eY bX bY bZ => ?_⟩
  refine ⟨b, c, rfl, hb.1, hc.1, fun rs' h0 h40 hws hpw' => ?_⟩
  obtain rfl := hpw.uniq hpw'
  have hZ' : (0 : Rat) < (Z : Rat) := (Rat.intCast_lt_intCast (a := 0)).mpr hZ
  refine ⟨y, rfl, hy, fun s2 => aF ?_, fun s2 => aT (aT (q2 fun ⟨t, w, _, e, hM, _⟩ => s2 ⟨w, e, hpw.one hb.1 hc.1 w hM.mem⟩))⟩
  obtain ⟨w, rfl, hw1⟩ := s2
  have hw0 := ok_pt hy
  have hw : WyS 8000 w := ⟨hw0.1.le (by decide), hw0.2.le (by decide)⟩
  have nope : ¬ Meets b c rs w t → ¬ HM b c rs u (sh t) (pt w) := fun hn ⟨t', w', e1, e2, hM, _⟩ => hn (by rw [sh_inj e1, pt_inj e2]; exact hM)
  refine ⟨_, rfl, pts_pld, ?_⟩
  rw [any_pts]
  refine nIte (fun hnm => aT (q2 (nope fun hM => hnm hM.mem))) fun hmem => ?_
  refine ⟨b, c, w, X, Y, Z, t, _, rfl, hb.1, hc.1, hw, eX, eY, bX, bY, bZ, by omega, fun r hr _ => ?_⟩
  have rz : r = 0 ↔ gapQ b c w t = 0 := by
    constructor
    · intro z
      rw [z] at hr
      rcases Rat.mul_eq_zero.mp hr.symm with z | z
      · rw [z] at hZ'
        exact absurd hZ' Rat.lt_irrefl
      · exact z
    · intro z
      rw [z, Rat.mul_zero] at hr
      exact Rat.intCast_inj.mp (show ((r : Int) : Rat) = ((0 : Int) : Rat) from hr)
  refine nIte (fun hn => q2 (nope fun hM => hn (rz.mpr hM.zero))) fun hr0 => ?_
  have hgz := rz.mp hr0
  refine aFor_ind (fun ds ρ m => m = n ∧ ∃ (us vs : List Pt) (y7 y8 : Option D), rs = us ++ vs ∧ ds = vs.map pt ∧ ρ = [some b.d, some c.d, some (sh u), some (sh t), some (pt w), some (.tup [.int X, .int Y, .int Z]), some (.lst (rs.map pt)), y7, y8] ∧ ∀ v ∈ us, gapQ b c v t < 0 ∨ (gapQ b c v t = 0 ∧ rtQ b c v < 0)) ?_ ?_ ⟨rfl, [], rs, _, _, rfl, rfl, rfl, fun v hv => by cases hv⟩
  · rintro d r' _ m ⟨rfl, us, vs, y7, y8, e0, e, rfl, hus⟩ ih
    cases vs with
    | nil => cases e
    | cons v vs =>
    obtain ⟨rfl, rfl⟩ := List.cons.inj e
    have hv : v ∈ rs := by rw [e0]; exact List.mem_append_right _ List.mem_cons_self
    have hv8 : WyS 8000 v := ⟨(hws v hv).1.le (by decide), (hws v hv).2.le (by decide)⟩
    refine ⟨b, c, v, X, Y, Z, t, _, rfl, hb.1, hc.1, hv8, eX, eY, bX, bY, bZ, by omega, fun s hs _ => ?_⟩
    have sn : s < 0 ↔ gapQ b c v t < 0 := by rw [← cast_lt0, hs, rat_neg_iff hZ']
    have sz : s = 0 ↔ gapQ b c v t = 0 := by
      constructor
      · intro z
        rw [z] at hs
        rcases Rat.mul_eq_zero.mp hs.symm with z | z
        · rw [z] at hZ'
          exact absurd hZ' Rat.lt_irrefl
        · exact z
      · intro z
        rw [z, Rat.mul_zero] at hs
        exact Rat.intCast_inj.mp (show ((s : Int) : Rat) = ((0 : Int) : Rat) from hs)
    have go : (gapQ b c v t < 0 ∨ (gapQ b c v t = 0 ∧ rtQ b c v < 0)) → _ := fun g => ih _ _ ⟨rfl, us ++ [v], vs, some (pt v), some (.int s), by rw [e0]; simp, rfl, rfl, fun z hz => by
      rcases List.mem_append.mp hz with hz | hz
      · exact hus z hz
      · rw [List.mem_singleton.mp hz]
        exact g⟩
    refine dIte (fun z => aT (q2 (nope fun hM => ?_))) fun z1 => dIte (fun z2 => ?_) fun z2 => aF (go (.inl (sn.mp (by omega))))
    · rcases hM.all v hv with g | g
      · have := sn.mpr g
        omega
      · have := sz.mpr g.1
        omega
    · refine ⟨b, c, v, kb, mb, kc, mc, rfl, hb, hc, hv8, hlim, fun k hk => ?_⟩
      refine dIte (fun z3 => q2 (nope fun hM => ?_)) fun z3 => go (.inr ⟨sz.mp z2, hk.mp (by omega)⟩)
      rcases hM.all v hv with g | g
      · have := sn.mpr g
        omega
      · have := hk.mpr g.2
        omega
  · rintro _ m ⟨rfl, us, vs, y7, y8, e0, e, rfl, hus⟩
    cases vs with
    | cons v vs => cases e
    | nil =>
    rw [List.append_nil] at e0
    exact q1 ⟨t, w, rfl, rfl, meets_of hmem ht0 hgz (by rw [e0]; exact hus), hlt⟩
def a_l_due : ASp := fun ds n Q => ∃ (b c : Bw) (u : Rat) (d : D) (rs : List Pt) (kb mb kc mc ku : Nat), ds = [b.d, c.d, sh u, d] ∧ b.ok kb mb ∧ c.ok kc mc ∧ BdQ ku u ∧ kb + mb + kc + mc ≤ 3000 ∧ ku ≤ 8000 ∧ Th d ∧ PwOk (waysOf b.cs) (waysOf c.cs) rs ∧ (FH b c rs u d → Q (.bl true) n) ∧ (¬ FH b c rs u d → Q (.bl false) n)
theorem ok_l_due (T : Tx K mg A) : FnOk P w K mg base CX0 6 A.f_l_due A.fd_l_due ["_law_one", "_law_other", "_law_until_here", "_law_paper"] (spOf K 4 a_l_due) := by
  refine fn_mir [] 6 rfl (by decide) (by decide) T.F_l_due sc_l_due fun cdv Ar outer s H E hr => ?_
  refine ⟨_, _, (pss_cons (ps_if (PW.pt (pw_or (pt_not (pt_val (pe_callB (k_isi (K := K) rfl) (by rfl) T.m_isinstance (by decide +kernel) (pa_cons (pv 3) (pa_cons (k_ty (t := .tup) (by rfl) T.m_tuple (by decide +kernel)) pa_nil))))) (pw_or1 (pt_cmpR (k_notin (K := K) rfl hr.units) (pe_callB (k_len (K := K) rfl) (by rfl) T.m_len (by decide +kernel) (pa_cons (pv 3) pa_nil)) (pe_tup (pa_cons pe_int (pa_cons pe_int pa_nil))) (by rfl)))))
      (pss_one (ps_ret pe_bl))
      pss_nil)
    (pss_cons (ps_if (pt_cmpR (k_eq (K := K) rfl hr.units) (pe_callB (k_len (K := K) rfl) (by rfl) T.m_len (by decide +kernel) (pa_cons (pv 3) pa_nil)) pe_int (nomark _))
      (pss_one (ps_ret (pe_and (pe_cmpR (k_eqTh (K := K) rfl hr.units) (pe_ix (k_ix (K := K) rfl) (pv 3) pe_int (fun _ _ => rfl)) pe_str (nomark _)) (pe_one (pe_call (ok_l_meets (P := P) (K := K) T) (hr.mono (by decide)) (by rfl) T.g_l_meets T.F_l_meets.kp T.b_l_meets .nil pass0 (pa_cons (pv 0) (pa_cons (pv 1) (pa_cons (pv 2) (pa_cons (pe_ix (k_ix (K := K) rfl) (pv 3) pe_int (fun _ _ => rfl)) (pa_cons (pe_ix (k_ix (K := K) rfl) (pv 3) pe_int (fun _ _ => rfl)) pa_nil))))))))))
      pss_nil)
    (pss_cons (ps_if (PW.pt (pw_or (pt_cmpR (k_neTh (K := K) rfl hr.units) (pe_ix (k_ix (K := K) rfl) (pv 3) pe_int (fun _ _ => rfl)) pe_str (nomark _)) (pw_or1 (pt_not (pt_val (pe_call (ok_l_is_way (P := P) (K := K) T) (hr.mono (by decide)) (by rfl) T.g_l_is_way T.F_l_is_way.kp T.b_l_is_way .nil pass0 (pa_cons (pe_ix (k_ix (K := K) rfl) (pv 3) pe_int (fun _ _ => rfl)) pa_nil)))))))
      (pss_one (ps_ret pe_bl))
      pss_nil)
    (pss_cons (ps_set (i := 4) sc_l_due.nd rfl (.inl rfl) (pe_call (ok_l_room (P := P) (K := K) T) (hr.mono (by decide)) (by rfl) T.g_l_room T.F_l_room.kp T.b_l_room .nil pass0 (pa_cons (pv 0) (pa_cons (pv 1) (pa_cons (pe_ix (k_ix (K := K) rfl) (pv 3) pe_int (fun _ _ => rfl)) (pa_cons (pe_call (ok_l_between (P := P) (K := K) T) (hr.mono (by decide)) (by rfl) T.g_l_between T.F_l_between.kp T.b_l_between .nil pass0 (pa_cons (pv 0) (pa_cons (pv 1) (pa_cons (pe_tup (pa_cons pe_int (pa_cons pe_int pa_nil))) pa_nil)))) pa_nil))))))
    (pss_cons (ps_set (i := 5) sc_l_due.nd rfl (.inl rfl) (pe_call (ok_l_room (P := P) (K := K) T) (hr.mono (by decide)) (by rfl) T.g_l_room T.F_l_room.kp T.b_l_room .nil pass0 (pa_cons (pv 0) (pa_cons (pv 1) (pa_cons (pe_ix (k_ix (K := K) rfl) (pv 3) pe_int (fun _ _ => rfl)) (pa_cons (pe_call (ok_l_between (P := P) (K := K) T) (hr.mono (by decide)) (by rfl) T.g_l_between T.F_l_between.kp T.b_l_between .nil pass0 (pa_cons (pv 0) (pa_cons (pv 1) (pa_cons (pv 2) pa_nil)))) pa_nil))))))
    (pss_one (ps_ret (pe_and (pe_cmpR op_ge (pv 4) pe_int (nomark _)) (pe_one (pe_cmpR op_ge (pv 5) pe_int (nomark _))))))))))), by infer_instance, fun ds n Q hl hA => ?_⟩
  obtain ⟨b, c, u, d, rs, kb, mb, kc, mc, ku, rfl, hb, hc, bu, hlim, hku, ⟨h7, two, three⟩, hpw, q1, q2⟩ := hA
  have no : ∀ {p : D}, (∀ ds, p ≠ .tup ds) → ¬ FH b c rs u p := fun hp z => by
    rcases z with ⟨w, e, _⟩ | ⟨x, y, e, _⟩
    · exact hp _ e
    · exact hp _ e
  cases d with
  | ty _ => cases h7
  | cls _ => cases h7
  | ins _ _ _ => cases h7
  | deck => cases h7
  | xcp _ _ _ _ _ => cases h7
  | tup ds =>
    refine aF ?_
    refine ⟨rfl, rfl, ?_⟩
    match ds, two, three, q1, q2 with
    | [], _, _, _, q2 => exact aT (q2 fun z => by have := fh_len z; simp at this)
    | [_], _, _, _, q2 => exact aT (q2 fun z => by have := fh_len z; simp at this)
    | [a, x], two, _, q1, q2 =>
      obtain ⟨c1, c2⟩ := two a x rfl
      refine aF (aF (eqTh (f := not) c1 lay_clear ?_))
      cases e1 : isNm "clear" a with
      | false => exact aT (aT (q2 fun z => by rw [isNm_iff.mpr (fh_two z).1] at e1; cases e1))
      | true =>
        obtain rfl := isNm_iff.mp e1
        refine aF ⟨x, rfl, c2, fun hw => aF ?_, fun hw => aT (q2 fun z => by obtain ⟨_, w, e, g, _⟩ := fh_two z; exact hw ⟨w, e, g⟩)⟩
        obtain ⟨w, rfl, hg⟩ := hw
        have hw0 := ok_pt c2
        have hw : WyS 8000 w := ⟨hw0.1.le (by decide), hw0.2.le (by decide)⟩
        refine ⟨b, c, fr 0 1, 0, kb, mb, kc, mc, 1, rfl, hb, hc, fq0, by omega, fun X Y Z hZ eX eY bX bY bZ => ?_⟩
        refine ⟨b, c, w, X, Y, Z, 0, _, rfl, hb.1, hc.1, hw, eX, eY, bX, bY, bZ, by omega, fun r hr _ => ?_⟩
        refine ⟨b, c, sh u, u, kb, mb, kc, mc, ku, rfl, hb, hc, fq_sh bu, by omega, fun X' Y' Z' hZ' eX' eY' bX' bY' bZ' => ?_⟩
        refine ⟨b, c, w, X', Y', Z', u, _, rfl, hb.1, hc.1, hw, eX', eY', bX', bY', bZ', by omega, fun r' hr' _ => ?_⟩
        have s1 : 0 ≤ r ↔ 0 ≤ gapQ b c w 0 := by rw [← cast_nn, hr, rat_nn_iff ((Rat.intCast_lt_intCast (a := 0)).mpr hZ)]
        have s2 : 0 ≤ r' ↔ 0 ≤ gapQ b c w u := by rw [← cast_nn, hr', rat_nn_iff ((Rat.intCast_lt_intCast (a := 0)).mpr hZ')]
        have back : FH b c rs u (.tup [.str "clear", pt w]) → ClrQ b c w u := fun z => by
          obtain ⟨_, w', e, _, g⟩ := fh_two z
          rw [pt_inj e]
          exact g
        refine dIte (fun h1 => ?_) fun h1 => q2 fun z => h1 (s1.mpr (back z).1)
        show Q (.bl (decide (0 ≤ r'))) n
        by_cases h2 : 0 ≤ r'
        · rw [decide_eq_true h2]
          exact q1 (.inl ⟨w, rfl, hg, s1.mp h1, s2.mp h2⟩)
        · rw [decide_eq_false h2]
          exact q2 fun z => h2 (s2.mpr (back z).2)
    | [a, x, y], _, three, q1, q2 =>
      obtain ⟨c1, c2, c3⟩ := three a x y rfl
      refine aF (aT (eqTh (f := id) c1 lay_meets ?_))
      cases e1 : isNm "meets" a with
      | false => exact aF (q2 fun z => by rw [isNm_iff.mpr (fh_three z).1] at e1; cases e1)
      | true =>
        obtain rfl := isNm_iff.mp e1
        refine aT ?_
        exact ⟨b, c, u, x, y, rs, kb, mb, kc, mc, ku, rfl, hb, hc, bu, hlim, hku, c2, c3, hpw, fun z => q1 (.inr ⟨x, y, rfl, z⟩), fun hc => q2 fun z => hc (fh_three z).2⟩
    | a :: x :: y :: z :: r, _, _, _, q2 =>
      have hany : ([D.int 2, D.int 3].any fun v => eqF v (D.int (((a :: x :: y :: z :: r).length : Nat) : Int))) = false := by
        have h2 : ((2 : Int) == (((a :: x :: y :: z :: r).length : Nat) : Int)) = false := by simp; omega
        have h3 : ((3 : Int) == (((a :: x :: y :: z :: r).length : Nat) : Int)) = false := by simp; omega
        show (((2 : Int) == _) || (((3 : Int) == _) || false)) = false
        rw [h2, h3]
        rfl
      refine (show aIte (not ([D.int 2, D.int 3].any fun v => eqF v (D.int (((a :: x :: y :: z :: r).length : Nat) : Int)))) _ _ from ?_)
      rw [hany]
      exact aT (q2 fun z => by have := fh_len z; simp at this)
  | non => exact aT (aT (q2 (no fun ds e => by cases e)))
  | bl b => exact aT (aT (q2 (no fun ds e => by cases e)))
  | int i => exact aT (aT (q2 (no fun ds e => by cases e)))
  | str z => exact aT (aT (q2 (no fun ds e => by cases e)))
  | lst ds => exact aT (aT (q2 (no fun ds e => by cases e)))
  | dic ks ds => exact aT (aT (q2 (no fun ds e => by cases e)))
/-! CUT -/
theorem fq1 : Fq 1 (fr 1 1) 1 := ⟨1, 1, rfl, by unfold Bd; decide, by unfold Bd; decide, by decide, by decide +kernel⟩
def crD (b c : Bw) (w : Pt) : D := .tup [sh (tmQ b c w), pt w]
def crs' (b c : Bw) (rs : List Pt) : List Pt := rs.filter fun w => decide (rtQ b c w ≠ 0)
def a_l_crossings : ASp := fun ds n Q => ∃ (b c : Bw) (kb mb kc mc : Nat), ds = [b.d, c.d] ∧ b.ok kb mb ∧ c.ok kc mc ∧ kb + mb + kc + mc ≤ 2000 ∧ ∀ rs : List Pt, rs.length ≤ 40 → PwOk (waysOf b.cs) (waysOf c.cs) rs → (∀ w ∈ crs' b c rs, BdQ (4 * (kb + mb + kc + mc) + 100) (tmQ b c w)) → Q (.lst ((crs' b c rs).map (crD b c))) n
theorem tm_div {b c : Bw} {w : Pt} {x y : Rat} (h : x = y) : x = y := h
theorem ok_l_crossings (T : Tx K mg A) : FnOk P w K mg base CX0 5 A.f_l_crossings A.fd_l_crossings ["_law_one", "_law_other"] (spOf K 2 a_l_crossings) := by
  refine fn_mir [2] 9 rfl (by decide) (by decide) T.F_l_crossings sc_l_crossings fun cdv Ar outer s H E hr => ?_
  refine ⟨_, _, (pss_cons (k_own (ps_set (i := 2) sc_l_crossings.nd rfl (.inl rfl) (pe_lst pa_nil)))
    (pss_cons (ps_par (i := 3) (j := 4) (by rfl) sc_l_crossings.nd rfl rfl (by decide) rfl rfl (pa_cons (pe_call (ok_l_between (P := P) (K := K) T) (hr.mono (by decide)) (by rfl) T.g_l_between T.F_l_between.kp T.b_l_between .nil pass0 (pa_cons (pv 0) (pa_cons (pv 1) (pa_cons (pe_tup (pa_cons pe_int (pa_cons pe_int pa_nil))) pa_nil)))) (pa_cons (pe_call (ok_l_between (P := P) (K := K) T) (hr.mono (by decide)) (by rfl) T.g_l_between T.F_l_between.kp T.b_l_between .nil pass0 (pa_cons (pv 0) (pa_cons (pv 1) (pa_cons (pe_tup (pa_cons pe_int (pa_cons pe_int pa_nil))) pa_nil)))) pa_nil)) (by rfl))
    (pss_cons (ps_for PassesOwn.never rfl (k_iter (K := K) rfl (pe_call (ok_l_pair_ways (P := P) (K := K) T) (hr.mono (by decide)) (by rfl) T.g_l_pair_ways T.F_l_pair_ways.kp T.b_l_pair_ways .nil pass0 (pa_cons (pv 0) (pa_cons (pv 1) pa_nil)))) (pg_name (i := 5) sc_l_crossings.nd rfl (.inl rfl))
      (pss_cons (ps_par (i := 6) (j := 7) (by rfl) sc_l_crossings.nd rfl rfl (by decide) rfl rfl (pa_cons (pe_call (ok_l_room (P := P) (K := K) T) (hr.mono (by decide)) (by rfl) T.g_l_room T.F_l_room.kp T.b_l_room .nil pass0 (pa_cons (pv 0) (pa_cons (pv 1) (pa_cons (pv 5) (pa_cons (pv 3) pa_nil))))) (pa_cons (pe_call (ok_l_room (P := P) (K := K) T) (hr.mono (by decide)) (by rfl) T.g_l_room T.F_l_room.kp T.b_l_room .nil pass0 (pa_cons (pv 0) (pa_cons (pv 1) (pa_cons (pv 5) (pa_cons (pv 4) pa_nil))))) pa_nil)) (by rfl))
    (pss_cons (ps_set (i := 8) sc_l_crossings.nd rfl (.inl rfl) (pe_op op_sub (pe_op k_mul (pv 7) (pe_ix (k_ix (K := K) rfl) (pv 3) pe_int (fun _ _ => rfl))) (pe_op k_mul (pv 6) (pe_ix (k_ix (K := K) rfl) (pv 4) pe_int (fun _ _ => rfl)))))
    (pss_cons (ps_if (pt_cmpR op_gt (pv 8) pe_int (nomark _))
      (pss_one (k_app (K := K) rfl (ps_expr (pe_bm PySem.F.plainAttrs_list PySem.F.slot_list_append PySem.F.type_list_append mt_append (pv 2) (pa_cons (pe_tup (pa_cons (pe_call (ok_l_share (P := P) (K := K) T) (hr.mono (by decide)) (by rfl) T.g_l_share T.F_l_share.kp T.b_l_share .nil pass0 (pa_cons (pe_op k_mul (pe_un un_neg (pv 6)) (pe_ix (k_ix (K := K) rfl) (pv 4) pe_int (fun _ _ => rfl))) (pa_cons (pv 8) pa_nil))) (pa_cons (pv 5) pa_nil))) pa_nil)))))
      pss_nil)
    (pss_one (ps_if (pt_cmpR op_lt (pv 8) pe_int (nomark _))
      (pss_one (k_app (K := K) rfl (ps_expr (pe_bm PySem.F.plainAttrs_list PySem.F.slot_list_append PySem.F.type_list_append mt_append (pv 2) (pa_cons (pe_tup (pa_cons (pe_call (ok_l_share (P := P) (K := K) T) (hr.mono (by decide)) (by rfl) T.g_l_share T.F_l_share.kp T.b_l_share .nil pass0 (pa_cons (pe_op k_mul (pv 6) (pe_ix (k_ix (K := K) rfl) (pv 4) pe_int (fun _ _ => rfl))) (pa_cons (pe_un un_neg (pv 8)) pa_nil))) (pa_cons (pv 5) pa_nil))) pa_nil)))))
      pss_nil))))))
    (pss_one (ps_ret (pv 2)))))), by infer_instance, fun ds n Q hl hA => ?_⟩
  obtain ⟨b, c, kb, mb, kc, mc, rfl, hb, hc, hl, q⟩ := hA
  refine ⟨b, c, fr 0 1, 0, kb, mb, kc, mc, 1, rfl, hb, hc, fq0, by omega, fun X Y Z hZ eX eY bX bY bZ => ?_⟩
  refine ⟨b, c, fr 1 1, 1, kb, mb, kc, mc, 1, rfl, hb, hc, fq1, by omega, fun X' Y' Z' hZ' eX' eY' bX' bY' bZ' => ?_⟩
  refine ⟨b, c, rfl, hb.1, hc.1, fun rs h0 h40 hw hpw => ?_⟩
  refine aFor_ind (fun ds ρ m => m = n ∧ ∃ (us vs : List Pt) (y5 y6 y7 y8 : Option D), rs = us ++ vs ∧ ds = vs.map pt ∧ ρ = [some b.d, some c.d, some (.lst ((crs' b c us).map (crD b c))), some (.tup [.int X, .int Y, .int Z]), some (.tup [.int X', .int Y', .int Z']), y5, y6, y7, y8] ∧ ∀ w ∈ crs' b c us, BdQ (4 * (kb + mb + kc + mc) + 100) (tmQ b c w)) ?_ ?_ ⟨rfl, [], rs, none, none, none, none, rfl, rfl, rfl, fun w hw => by cases hw⟩
  · rintro d r _ m ⟨rfl, us, vs, y5, y6, y7, y8, e0, e, rfl, hus⟩ ih
    cases vs with
    | nil => cases e
    | cons v vs =>
    obtain ⟨rfl, rfl⟩ := List.cons.inj e
    have hv : v ∈ rs := by rw [e0]; exact List.mem_append_right _ List.mem_cons_self
    have hw8 : WyS 8000 v := ⟨(hw v hv).1.le (by decide), (hw v hv).2.le (by decide)⟩
    refine ⟨b, c, v, X, Y, Z, 0, _, rfl, hb.1, hc.1, hw8, eX, eY, bX, bY, bZ, by omega, fun g eg bg => ?_⟩
    refine ⟨b, c, v, X', Y', Z', 1, _, rfl, hb.1, hc.1, hw8, eX', eY', bX', bY', bZ', by omega, fun g' eg' bg' => ?_⟩
    have b1 := bg 23 (hw v hv) (by decide)
    have b2 := bg' 23 (hw v hv) (by decide)
    refine ⟨mulA b2 bZ (by omega) (by omega), mulA b1 bZ' (by omega) (by omega), ?_⟩
    have hzp : (0 : Rat) < (Z : Rat) * (Z' : Rat) := Rat.mul_pos ((Rat.intCast_lt_intCast (a := 0)).mpr hZ) ((Rat.intCast_lt_intCast (a := 0)).mpr hZ')
    obtain ⟨G, hG⟩ : ∃ G, g' * Z - g * Z' = G := ⟨_, rfl⟩
    have eG : (G : Rat) = ((Z : Rat) * (Z' : Rat)) * rtQ b c v := by
      rw [← hG, Rat.intCast_sub, Rat.intCast_mul, Rat.intCast_mul, eg, eg', gapQ_lin b c v 1]
      grind
    have bG : Bd (4 * (kb + mb + kc + mc) + 100) G := by
      rw [← hG]
      have e1 := (b2.mul bZ).le (show _ ≤ 4 * (kb + mb + kc + mc) + 99 by omega)
      have e2 := ((b1.mul bZ').neg).le (show _ ≤ 4 * (kb + mb + kc + mc) + 99 by omega)
      exact e1.add e2
    have bN : Bd (4 * (kb + mb + kc + mc) + 100) (g * Z') := (b1.mul bZ').le (by omega)
    have pos : 0 < G ↔ 0 < rtQ b c v := by
      rw [← rat_pos_iff hzp, ← eG]
      exact (Rat.intCast_lt_intCast (a := 0)).symm
    have ngt : G < 0 ↔ rtQ b c v < 0 := by rw [← cast_lt0, eG, rat_neg_iff hzp]
    have hul : us.length ≤ 40 := by
      rw [e0, List.length_append] at h40
      omega
    have hcl : ((crs' b c us).map (crD b c)).length < 1000000 := by
      rw [List.length_map]
      have : (crs' b c us).length ≤ us.length := List.length_filter_le _ _
      omega
    have grow : rtQ b c v ≠ 0 → crs' b c (us ++ [v]) = crs' b c us ++ [v] := fun h => by
      unfold crs'
      rw [List.filter_append]
      congr 1
      exact List.filter_cons_of_pos (decide_eq_true h)
    have same : rtQ b c v = 0 → crs' b c (us ++ [v]) = crs' b c us := fun h => by
      unfold crs'
      rw [List.filter_append, List.filter_cons_of_neg (by simp [h]), List.filter_nil, List.append_nil]
    have eN : ((g * Z' : Int) : Rat) = ((Z : Rat) * (Z' : Rat)) * gapQ b c v 0 := by
      rw [Rat.intCast_mul, eg]
      grind
    have goal : ∀ (a d : Int), rtQ b c v ≠ 0 → 0 < d → Bd (4 * (kb + mb + kc + mc) + 100) a → Bd (4 * (kb + mb + kc + mc) + 100) d → (a : Rat) * rtQ b c v = -(d : Rat) * gapQ b c v 0 → Rat.divInt a d = tmQ b c v ∧ BdQ (4 * (kb + mb + kc + mc) + 100) (tmQ b c v) := fun a d hr hd ba bd e => by
      have e1 : Rat.divInt a d = tmQ b c v := by
        rw [Rat.divInt_eq_div]
        unfold tmQ
        have : (d : Rat) ≠ 0 := fun z => by
          have := Rat.intCast_inj.mp (show (d : Rat) = ((0 : Int) : Rat) from z)
          omega
        grind
      exact ⟨e1, by rw [← e1]; exact divInt_bd hd ba bd⟩
    have hext : rtQ b c v ≠ 0 → BdQ (4 * (kb + mb + kc + mc) + 100) (tmQ b c v) → ∀ w ∈ crs' b c (us ++ [v]), BdQ (4 * (kb + mb + kc + mc) + 100) (tmQ b c w) := fun h hB w hw' => by
      rw [grow h] at hw'
      rcases List.mem_append.mp hw' with z | z
      · exact hus w z
      · rw [List.mem_singleton.mp z]
        exact hB
    refine dIte (fun h1 => ?_) fun h1 => ?_
    · have h1' : 0 < G := by rw [← hG]; exact h1
      have hr : rtQ b c v ≠ 0 := by have := pos.mp h1'; grind
      refine ⟨mulA b1.neg bZ' (by omega) (by omega), ?_⟩
      obtain ⟨g1, g2⟩ := goal (-g * Z') G hr h1' (by rw [Int.neg_mul]; exact bN.neg) bG (by rw [Int.neg_mul, Rat.intCast_neg, eN, eG]; grind)
      rw [hG]
      refine share_ok h1' bG (by omega) ?_
      rw [g1]
      refine ⟨hcl, ?_⟩
      refine dIte (fun h2 => absurd h2 (by have : 0 < g' * Z - g * Z' := h1; omega)) fun _ => ih _ _ ⟨rfl, us ++ [v], vs, some (pt v), some (.int g), some (.int g'), some (.int G), by rw [e0]; simp, rfl, ?_, hext hr g2⟩
      rw [grow hr, List.map_append]
      rfl
    · refine dIte (fun h2 => ?_) fun h2 => ?_
      · have h2' : G < 0 := by rw [← hG]; exact h2
        have hr : rtQ b c v ≠ 0 := by have := ngt.mp h2'; grind
        refine ⟨mulA b1 bZ' (by omega) (by omega), ?_⟩
        obtain ⟨g1, g2⟩ := goal (g * Z') (-G) hr (by omega) bN bG.neg (by rw [Rat.intCast_neg, eN, eG]; grind)
        rw [hG]
        refine share_ok (by omega) bG.neg (by omega) ?_
        rw [g1]
        refine ⟨hcl, ih _ _ ⟨rfl, us ++ [v], vs, some (pt v), some (.int g), some (.int g'), some (.int G), by rw [e0]; simp, rfl, ?_, hext hr g2⟩⟩
        rw [grow hr, List.map_append]
        rfl
      · have h1' : ¬ 0 < G := by rw [← hG]; exact h1
        have h2' : ¬ G < 0 := by rw [← hG]; exact h2
        have hr : rtQ b c v = 0 := by
          have a1 := Rat.not_lt.mp fun z => h1' (pos.mpr z)
          have a2 := Rat.not_lt.mp fun z => h2' (ngt.mpr z)
          grind
        refine ih _ _ ⟨rfl, us ++ [v], vs, some (pt v), some (.int g), some (.int g'), some (.int (g' * Z - g * Z')), by rw [e0]; simp, rfl, ?_, ?_⟩
        · rw [same hr]
          rfl
        · rw [same hr]
          exact hus
  · rintro _ m ⟨rfl, us, vs, y5, y6, y7, y8, e0, e, rfl, hus⟩
    cases vs with
    | cons v vs => cases e
    | nil =>
    rw [List.append_nil] at e0
    subst e0
    exact q rs h40 hpw hus

theorem ratio_bd {n : Nat} {x : Rat} {a b : Int} (hb : b ≠ 0) (e : x * (b : Rat) = (a : Rat)) (ha : Bd n a) (hn : Bd n b) : BdQ n x := by
  have hb' : (b : Rat) ≠ 0 := fun z => hb (Rat.intCast_inj.mp (show _ = ((0 : Int) : Rat) from z))
  rcases Int.lt_trichotomy b 0 with h | h | h
  · have : x = Rat.divInt (-a) (-b) := by
      rw [Rat.divInt_eq_div, Rat.intCast_neg, Rat.intCast_neg]
      grind
    rw [this]
    exact divInt_bd (by omega) ha.neg hn.neg
  · exact absurd h hb
  · have : x = Rat.divInt a b := by
      rw [Rat.divInt_eq_div]
      grind
    rw [this]
    exact divInt_bd h ha hn
theorem tm_tight {b c : Bw} {w : Pt} (hR : Rel b c) (hb : ShOk b.cs) (hc : ShOk c.cs) (hw : WyS 23 w) (h0 : rtQ b c w ≠ 0) : BdQ 1790 (tmQ b c w) := by
  obtain ⟨⟨p1, p2⟩, v1, v2⟩ := hR
  have e0 : gapQ b c w 0 = (w.1 : Rat) * (c.px - b.px) + (w.2 : Rat) * (c.py - b.py) - ((wid b c w : Int) : Rat) := by
    unfold gapQ ofx ofy
    grind
  have bg : Bq 858 811 (gapQ b c w 0) := by
    rw [e0]
    have g1 := ((bq_int hw.1).mul p1.q).add ((bq_int hw.2).mul p2.q) (s := 832) (by decide) (by decide)
    have g2 : Bq 47 1 ((wid b c w : Int) : Rat) := bq_int (wid_bd hb hc hw)
    exact (g1.le (show _ ≤ 833 by decide) (show _ ≤ 810 by decide)).sub g2 (s := 857) (by decide) (by decide)
  have br : Bq 945 922 (rtQ b c w) := by
    unfold rtQ
    have g1 := ((bq_int hw.1).mul v1.q).add ((bq_int hw.2).mul v2.q) (s := 944) (by decide) (by decide)
    exact g1.le (by decide) (by decide)
  unfold tmQ
  generalize gapQ b c w 0 = g at *
  generalize rtQ b c w = r at *
  have n1 := num_eq g
  have n2 := num_eq r
  have rn : r.num ≠ 0 := fun z => h0 (Rat.num_eq_zero.mp z)
  refine (ratio_bd (n := 1790) (a := -(g.num * (r.den : Int))) (b := (g.den : Int) * r.num) (Int.mul_ne_zero (by have := den_pos g; omega) rn) ?_ ((bg.1.mul br.2).neg.le (by decide)) ((bg.2.mul br.1).le (by decide)))
  rw [Rat.intCast_neg, Rat.intCast_mul, Rat.intCast_mul, n1, n2]
  grind
def a_l_upright : ASp := fun ds n Q => ∃ b c : Bw, ds = [b.d, c.d] ∧ b.ok 201 206 ∧ c.ok 256 720 ∧ ∀ w : Pt, WyS 1900 w → Q (pt w) n
theorem ok_l_upright (T : Tx K mg A) : FnOk P w K mg base CX0 3 A.f_l_upright A.fd_l_upright ["_law_one", "_law_other"] (spOf K 2 a_l_upright) := by
  refine fn_mir [] 5 rfl (by decide) (by decide) T.F_l_upright sc_l_upright fun cdv Ar outer s H E hr => ?_
  refine ⟨_, _, (pss_cons (ps_set (i := 2) sc_l_upright.nd rfl (.inl rfl) (pe_call (ok_l_spot_plus (P := P) (K := K) T) (hr.mono (by decide)) (by rfl) T.g_l_spot_plus T.F_l_spot_plus.kp T.b_l_spot_plus .nil pass0 (pa_cons (pe_ix (k_ix (K := K) rfl) (pv 1) pe_int (fun _ _ => rfl)) (pa_cons (pe_call (ok_l_spot_times (P := P) (K := K) T) (hr.mono (by decide)) (by rfl) T.g_l_spot_times T.F_l_spot_times.kp T.b_l_spot_times .nil pass0 (pa_cons (pe_ix (k_ix (K := K) rfl) (pv 0) pe_int (fun _ _ => rfl)) (pa_cons (pe_tup (pa_cons (pe_un un_neg pe_int) (pa_cons pe_int pa_nil))) pa_nil))) pa_nil))))
    (pss_cons (ps_par (i := 3) (j := 4) (by rfl) sc_l_upright.nd rfl rfl (by decide) rfl rfl (pa_cons (pe_op k_mul (pe_un un_neg (pe_ix (k_ix (K := K) rfl) (pe_ix (k_ix (K := K) rfl) (pv 2) pe_int (fun _ _ => rfl)) pe_int (fun _ _ => rfl))) (pe_ix (k_ix (K := K) rfl) (pe_ix (k_ix (K := K) rfl) (pv 2) pe_int (fun _ _ => rfl)) pe_int (fun _ _ => rfl))) (pa_cons (pe_op k_mul (pe_ix (k_ix (K := K) rfl) (pe_ix (k_ix (K := K) rfl) (pv 2) pe_int (fun _ _ => rfl)) pe_int (fun _ _ => rfl)) (pe_ix (k_ix (K := K) rfl) (pe_ix (k_ix (K := K) rfl) (pv 2) pe_int (fun _ _ => rfl)) pe_int (fun _ _ => rfl))) pa_nil)) (by rfl))
    (pss_cons (ps_if (PW.pt (pw_and (pt_cmpR (k_eq (K := K) rfl hr.units) (pv 3) pe_int (nomark _)) (pw_and1 (pt_cmpR (k_eq (K := K) rfl hr.units) (pv 4) pe_int (nomark _)))))
      (pss_one (ps_ret (pe_tup (pa_cons pe_int (pa_cons pe_int pa_nil)))))
      pss_nil)
    (pss_one (ps_ret (pe_call (ok_l_way (P := P) (K := K) T) (hr.mono (by decide)) (by rfl) T.g_l_way T.F_l_way.kp T.b_l_way .nil pass0 (pa_cons (pv 3) (pa_cons (pv 4) pa_nil)))))))), by infer_instance, fun ds n Q hl hA => ?_⟩
  obtain ⟨b, c, rfl, hb, hc, q⟩ := hA
  refine ⟨_, _, _, _, _, 206, 1, rfl, sq_spt hb.2.2.2.1 hb.2.2.2.2, fq_m1, by omega, fun s3 h3 => ?_⟩
  refine ⟨_, _, _, _, _, _, 720, 207, rfl, sq_spt hc.2.2.2.1 hc.2.2.2.2, h3, by omega, fun s4 h4 => ?_⟩
  obtain ⟨u, v, rfl, ⟨a1, b1, rfl, x1, x2, x3, x4⟩, ⟨a2, b2, rfl, y1, y2, y3, y4⟩⟩ := h4
  refine ⟨mulA y1.neg x2 (by decide) (by decide), mulA x1 y2 (by decide) (by decide), ?_⟩
  have k1 : Bd 1856 (-a2 * b1) := (y1.neg.mul x2).le (by decide)
  have k2 : Bd 1856 (a1 * b2) := (x1.mul y2).le (by decide)
  have fin : ¬ (-a2 * b1 = 0 ∧ a1 * b2 = 0) → a_l_way [.int (-a2 * b1), .int (a1 * b2)] n Q := fun h => ⟨_, _, 1856, rfl, h, k1, k2, by decide, fun w _ hw => q w ⟨hw.1.le (by decide), hw.2.le (by decide)⟩⟩
  refine dIte (fun z1 => dIte (fun z2 => q (0, 1) ⟨by unfold Bd; exact Nat.pow_pos (by decide), by unfold Bd; exact Nat.one_lt_two_pow (by decide)⟩) fun z2 => fin fun z => z2 z.2) fun z1 => aF (fin fun z => z1 z.1)
/-! CUT -/
/-- a told paper -/
inductive Pap where
  | clr (w : Pt)
  | mts (t : Rat) (w : Pt)
def Pap.d : Pap → D
  | .clr w => .tup [.str "clear", pt w]
  | .mts t w => .tup [.str "meets", sh t, pt w]
def Pap.way : Pap → Pt
  | .clr w => w
  | .mts _ w => w
def Pap.ok : Pap → Prop
  | .clr w => WyS 1902 w
  | .mts t w => WyS 1902 w ∧ BdQ 1790 t
theorem Pap.wys : ∀ {p : Pap}, p.ok → WyS 1902 p.way
  | .clr _, h => h
  | .mts _ _, h => h.1
theorem l1_of {ds : List D} (h : ∀ d ∈ ds, Rp 0 1920 d) (hl : Nat.ble ds.length 3 = true := by rfl) : Rp 1 5763 (.tup ds) := Rp.tup h (by have := Nat.le_of_ble_eq_true hl; omega)
theorem l1_lst {ds : List D} (h : ∀ d ∈ ds, Rp 0 1920 d) (hl : Nat.ble ds.length 3 = true := by rfl) : Rp 1 5763 (.lst ds) := Rp.lst h (by have := Nat.le_of_ble_eq_true hl; omega)
theorem rp_two {k w : Nat} {a b : D} (h1 : Rp k w a) (h2 : Rp k w b) : ∀ d ∈ [a, b], Rp k w d := fun d hd => by
  simp only [List.mem_cons, List.not_mem_nil, or_false] at hd
  rcases hd with rfl | rfl
  · exact h1
  · exact h2
theorem rp_three {k w : Nat} {a b c : D} (h1 : Rp k w a) (h2 : Rp k w b) (h3 : Rp k w c) : ∀ d ∈ [a, b, c], Rp k w d := fun d hd => by
  simp only [List.mem_cons, List.not_mem_nil, or_false] at hd
  rcases hd with rfl | rfl | rfl
  · exact h1
  · exact h2
  · exact h3
theorem rp_one {k w : Nat} {a : D} (h1 : Rp k w a) : ∀ d ∈ [a], Rp k w d := fun d hd => by
  rw [List.mem_singleton.mp hd]
  exact h1
theorem ok_outer {ds : List D} (h : ∀ d ∈ ds, Rp 1 5763 d) (hl : Nat.ble ds.length 4 = true := by rfl) : Ok (.tup ds) := (Rp.tup (m := 4 * 5764) h (by
  have := Nat.mul_le_mul_right 5764 (Nat.le_of_ble_eq_true hl)
  exact this)).le (by decide) (by decide)
theorem ok_outerL {ds : List D} (h : ∀ d ∈ ds, Rp 1 5763 d) (hl : Nat.ble ds.length 4 = true := by rfl) : Ok (.lst ds) := (Rp.lst (m := 4 * 5764) h (by
  have := Nat.mul_le_mul_right 5764 (Nat.le_of_ble_eq_true hl)
  exact this)).le (by decide) (by decide)
theorem text_int {i : Int} (h : Bd 1919 i) : Rp 0 1920 (.str (Str.ofString (toString i))) := by
  obtain ⟨h1, h2⟩ := int_short h
  refine Rp.str ?_ ?_
  · unfold PyData.canLay0
    show ((Str.ofString (toString i)).cps.all _) = true
    rw [Array.all_eq_true']
    intro c hc
    have hm := Array.mem_toList_iff.mpr hc
    rw [PyProof.Rows.signs_ofString] at hm
    obtain ⟨x, _, rfl⟩ := List.mem_map.mp hm
    refine decide_eq_true ?_
    have hv : x.toNat < 0xD800 ∨ (0xDFFF < x.toNat ∧ x.toNat < 0x110000) := x.valid
    omega
  · show (Str.ofString (toString i)).length ≤ 1920
    have : (Str.ofString (toString i)).length ≤ 600 := h2
    omega
theorem bent_ways {w : Pt} (hw : WyS 1902 w) (r : Int) (h0 : 0 ≤ r) (h1 : r < 10) : ∃ e, atI [D.tup [.int (2 * w.1), .int (2 * w.2)], .tup [.int (-w.1), .int (-w.2)], .lst [.int w.1, .int w.2], .tup [.int (w.1 + 1), .int w.2], .tup [.bl (decide (w.1 = 1)), .int w.2], .tup [.int w.1, .int w.2, .int 1], .tup [.int w.1], .tup [.int w.2, .int w.1], .non, .tup [.int w.1, .str (Str.ofString (toString w.2))]] r = some e ∧ Rp 1 5763 e := by
  have b2 : Bd 2 (2 : Int) := by unfold Bd; decide
  have b1 : Bd 1 (1 : Int) := by unfold Bd; decide
  have p1 : Rp 0 1920 (.int w.1) := Rp.int (hw.1.le (by decide))
  have p2 : Rp 0 1920 (.int w.2) := Rp.int (hw.2.le (by decide))
  obtain rfl | rfl | rfl | rfl | rfl | rfl | rfl | rfl | rfl | rfl : r = 0 ∨ r = 1 ∨ r = 2 ∨ r = 3 ∨ r = 4 ∨ r = 5 ∨ r = 6 ∨ r = 7 ∨ r = 8 ∨ r = 9 := by omega
  · exact ⟨_, rfl, l1_of (rp_two (Rp.int ((b2.mul hw.1).le (by decide))) (Rp.int ((b2.mul hw.2).le (by decide))))⟩
  · exact ⟨_, rfl, l1_of (rp_two (Rp.int (hw.1.neg.le (by decide))) (Rp.int (hw.2.neg.le (by decide))))⟩
  · exact ⟨_, rfl, l1_lst (rp_two p1 p2)⟩
  · exact ⟨_, rfl, l1_of (rp_two (Rp.int ((hw.1.add (b1.le (by decide))).le (by decide))) p2)⟩
  · exact ⟨_, rfl, l1_of (rp_two Rp.bl p2)⟩
  · exact ⟨_, rfl, l1_of (rp_three p1 p2 (Rp.int (b1.le (by decide))))⟩
  · exact ⟨_, rfl, l1_of (rp_one p1)⟩
  · exact ⟨_, rfl, l1_of (rp_two p2 p1)⟩
  · exact ⟨_, rfl, Rp.non⟩
  · exact ⟨_, rfl, l1_of (rp_two p1 (text_int (hw.2.le (by decide))))⟩
theorem bent_times {t : Rat} (ht : BdQ 1790 t) (r : Int) (h0 : 0 ≤ r) (h1 : r < 10) : ∃ e, atI [D.tup [.int (2 * t.num), .int (2 * (t.den : Int))], .tup [.int (t.num + (t.den : Int)), .int (t.den : Int)], .tup [.int (t.num - (t.den : Int)), .int (t.den : Int)], .tup [.int (-t.num), .int (t.den : Int)], .tup [.int (-t.num), .int (-(t.den : Int))], .int (t.num / (t.den : Int)), .lst [.int t.num, .int (t.den : Int)], .tup [.int t.num, .bl (decide ((t.den : Int) = 1))], .non, .tup [.int t.num, .int 0]] r = some e ∧ Rp 1 5763 e := by
  have b2 : Bd 2 (2 : Int) := by unfold Bd; decide
  have p1 : Rp 0 1920 (.int t.num) := Rp.int (ht.1.le (by decide))
  have p2 : Rp 0 1920 (.int (t.den : Int)) := Rp.int (ht.2.le (by decide))
  obtain rfl | rfl | rfl | rfl | rfl | rfl | rfl | rfl | rfl | rfl : r = 0 ∨ r = 1 ∨ r = 2 ∨ r = 3 ∨ r = 4 ∨ r = 5 ∨ r = 6 ∨ r = 7 ∨ r = 8 ∨ r = 9 := by omega
  · exact ⟨_, rfl, l1_of (rp_two (Rp.int ((b2.mul ht.1).le (by decide))) (Rp.int ((b2.mul ht.2).le (by decide))))⟩
  · exact ⟨_, rfl, l1_of (rp_two (Rp.int ((ht.1.add ht.2).le (by decide))) p2)⟩
  · exact ⟨_, rfl, l1_of (rp_two (Rp.int ((ht.1.add ht.2.neg).le (by decide))) p2)⟩
  · exact ⟨_, rfl, l1_of (rp_two (Rp.int (ht.1.neg.le (by decide))) p2)⟩
  · exact ⟨_, rfl, l1_of (rp_two (Rp.int (ht.1.neg.le (by decide))) (Rp.int (ht.2.neg.le (by decide))))⟩
  · refine ⟨_, rfl, (Rp.int (k := 0) (ht.1.of_le ?_ |>.le (by decide))).le (by decide) (by decide)⟩
    exact Int.natAbs_ediv_le_natAbs _ _
  · exact ⟨_, rfl, l1_lst (rp_two p1 p2)⟩
  · exact ⟨_, rfl, l1_of (rp_two p1 Rp.bl)⟩
  · exact ⟨_, rfl, Rp.non⟩
  · exact ⟨_, rfl, l1_of (rp_two p1 (Rp.int ((show Bd 1 (0 : Int) by unfold Bd; decide).le (by decide))))⟩
def a_l_bent : ASp := fun ds n Q => ∃ p : Pap, ds = [.deck, p.d] ∧ p.ok ∧ 5 ≤ n ∧ ∀ (e : D) (n' : Nat), Ok e → n ≤ n' + 4 → Q e n'
theorem rp_four {k w : Nat} {a b c e : D} (h1 : Rp k w a) (h2 : Rp k w b) (h3 : Rp k w c) (h4 : Rp k w e) : ∀ d ∈ [a, b, c, e], Rp k w d := fun d hd => by
  simp only [List.mem_cons, List.not_mem_nil, or_false] at hd
  rcases hd with rfl | rfl | rfl | rfl
  · exact h1
  · exact h2
  · exact h3
  · exact h4
theorem word_ok {z : Str} (h : z = "Clear" ∨ z = "meets" ∨ z = "clear" ∨ z = "") : Rp 1 5763 (.str z) := by
  rcases h with rfl | rfl | rfl | rfl
  · exact Rp.str (by decide +kernel) (by decide +kernel)
  · exact Rp.str (by decide +kernel) (by decide +kernel)
  · exact Rp.str (by decide +kernel) (by decide +kernel)
  · exact Rp.str (by decide +kernel) (by decide +kernel)
theorem words_cut (j : Int) (h0 : 0 ≤ j) (h1 : j < 4) : ∃ z : Str, cutL (cutL [D.str "Clear", D.str "meets", D.str "clear", D.str ""] (some j) none) none (some 1) = [.str z] ∧ Rp 1 5763 (.str z) := by
  obtain rfl | rfl | rfl | rfl : j = 0 ∨ j = 1 ∨ j = 2 ∨ j = 3 := by omega
  · exact ⟨_, rfl, word_ok (.inl rfl)⟩
  · exact ⟨_, rfl, word_ok (.inr (.inl rfl))⟩
  · exact ⟨_, rfl, word_ok (.inr (.inr (.inl rfl)))⟩
  · exact ⟨_, rfl, word_ok (.inr (.inr (.inr rfl)))⟩
theorem words_at (j : Int) (h0 : 0 ≤ j) (h1 : j < 4) : ∃ z : Str, atI [D.str "Clear", D.str "meets", D.str "clear", D.str ""] j = some (.str z) ∧ Rp 1 5763 (.str z) := by
  obtain rfl | rfl | rfl | rfl : j = 0 ∨ j = 1 ∨ j = 2 ∨ j = 3 := by omega
  · exact ⟨_, rfl, word_ok (.inl rfl)⟩
  · exact ⟨_, rfl, word_ok (.inr (.inl rfl))⟩
  · exact ⟨_, rfl, word_ok (.inr (.inr (.inl rfl)))⟩
  · exact ⟨_, rfl, word_ok (.inr (.inr (.inr rfl)))⟩
theorem ok_l_bent (T : Tx K mg A) : FnOk P w K mg base CX0 3 A.f_l_bent A.fd_l_bent ["_law_deck_here", "_law_paper"] (spOf K 2 a_l_bent) := by
  refine fn_mir [] 10 rfl (by decide) (by decide) T.F_l_bent sc_l_bent fun cdv Ar outer s H E hr => ?_
  refine ⟨_, _, (pss_cons (ps_asg (pe_ix (k_ixS (K := K) rfl) (pv 1) (pe_un un_neg pe_int) (fun _ _ => rfl)) (k_gtup (K := K) (m := 2) rfl rfl (pgs_cons (pg_name (i := 2) sc_l_bent.nd rfl (.inl rfl)) (pgs_cons (pg_name (i := 3) sc_l_bent.nd rfl (.inl rfl)) pgs_nil))))
    (pss_cons (ps_set (i := 4) sc_l_bent.nd rfl (.inl rfl) (pe_lst (pa_cons (pe_tup (pa_cons (pe_op k_mul pe_int (pv 2)) (pa_cons (pe_op k_mul pe_int (pv 3)) pa_nil))) (pa_cons (pe_tup (pa_cons (pe_un un_neg (pv 2)) (pa_cons (pe_un un_neg (pv 3)) pa_nil))) (pa_cons (pe_lst (pa_cons (pv 2) (pa_cons (pv 3) pa_nil))) (pa_cons (pe_tup (pa_cons (pe_op (k_add (K := K) rfl) (pv 2) pe_int) (pa_cons (pv 3) pa_nil))) (pa_cons (pe_tup (pa_cons (pe_cmpR (k_eq (K := K) rfl hr.units) (pv 2) pe_int (nomark _)) (pa_cons (pv 3) pa_nil))) (pa_cons (pe_tup (pa_cons (pv 2) (pa_cons (pv 3) (pa_cons pe_int pa_nil)))) (pa_cons (pe_tup (pa_cons (pv 2) pa_nil)) (pa_cons (pe_tup (pa_cons (pv 3) (pa_cons (pv 2) pa_nil))) (pa_cons pe_non (pa_cons (pe_tup (pa_cons (pv 2) (pa_cons (pe_callTy k_str (by rfl) T.m_str (by decide +kernel) (pa_cons (pv 3) pa_nil)) pa_nil))) pa_nil))))))))))))
    (pss_cons (ps_set (i := 5) sc_l_bent.nd rfl (.inl rfl) (pe_ix (k_ixS (K := K) rfl) (pv 4) (pe_call (ok_l_take (P := P) (K := K) T) (hr.mono (by decide)) (by rfl) T.g_l_take T.F_l_take.kp T.b_l_take .nil pass0 (pa_cons (pv 0) (pa_cons (pe_callB (k_len (K := K) rfl) (by rfl) T.m_len (by decide +kernel) (pa_cons (pv 4) pa_nil)) pa_nil))) (fun _ _ => rfl)))
    (pss_cons (ps_set (i := 6) sc_l_bent.nd rfl (.inl rfl) (pe_call (ok_l_take (P := P) (K := K) T) (hr.mono (by decide)) (by rfl) T.g_l_take T.F_l_take.kp T.b_l_take .nil pass0 (pa_cons (pv 0) (pa_cons pe_int pa_nil))))
    (pss_cons (ps_if (pt_cmpR (k_eq (K := K) rfl hr.units) (pv 6) pe_int (nomark _))
      (pss_one (ps_ret (pe_op (k_add (K := K) rfl) (pe_slice (k_sl (K := K) rfl) (pe_slice (k_sl (K := K) rfl) (pe_lst (pa_cons pe_str (pa_cons pe_str (pa_cons pe_str (pa_cons pe_str pa_nil))))) (po_some (pe_call (ok_l_take (P := P) (K := K) T) (hr.mono (by decide)) (by rfl) T.g_l_take T.F_l_take.kp T.b_l_take .nil pass0 (pa_cons (pv 0) (pa_cons pe_int pa_nil)))) po_none) po_none (po_some pe_int)) (pe_callTy (k_list (K := K) rfl) (by rfl) T.m_list (by decide +kernel) (pa_cons (pe_slice (k_sl (K := K) rfl) (pv 1) (po_some pe_int) po_none) pa_nil)))))
      pss_nil)
    (pss_cons (ps_if (pt_cmpR (k_eq (K := K) rfl hr.units) (pv 6) pe_int (nomark _))
      (pss_one (ps_ret (pe_op (k_add (K := K) rfl) (pe_tup (pa_cons (pe_ix (k_ixS (K := K) rfl) (pe_lst (pa_cons pe_str (pa_cons pe_str (pa_cons pe_str (pa_cons pe_str pa_nil))))) (pe_call (ok_l_take (P := P) (K := K) T) (hr.mono (by decide)) (by rfl) T.g_l_take T.F_l_take.kp T.b_l_take .nil pass0 (pa_cons (pv 0) (pa_cons pe_int pa_nil))) (fun _ _ => rfl)) pa_nil)) (pe_slice (k_sl (K := K) rfl) (pv 1) (po_some pe_int) po_none))))
      pss_nil)
    (pss_cons (ps_if (pt_cmpR (k_eq (K := K) rfl hr.units) (pv 6) pe_int (nomark _))
      (pss_one (ps_ret (pe_op (k_add (K := K) rfl) (pv 1) (pe_tup (pa_cons pe_int pa_nil)))))
      pss_nil)
    (pss_cons (ps_if (PW.pt (pw_and (pt_cmpR (k_eq (K := K) rfl hr.units) (pv 6) pe_int (nomark _)) (pw_and1 (pt_cmpR (k_eq (K := K) rfl hr.units) (pe_callB (k_len (K := K) rfl) (by rfl) T.m_len (by decide +kernel) (pa_cons (pv 1) pa_nil)) pe_int (nomark _)))))
      (pss_cons (ps_asg (pe_ix (k_ix (K := K) rfl) (pv 1) pe_int (fun _ _ => rfl)) (k_gtup (K := K) (m := 2) rfl rfl (pgs_cons (pg_name (i := 7) sc_l_bent.nd rfl (.inl rfl)) (pgs_cons (pg_name (i := 8) sc_l_bent.nd rfl (.inl rfl)) pgs_nil))))
    (pss_cons (ps_set (i := 9) sc_l_bent.nd rfl (.inl rfl) (pe_lst (pa_cons (pe_tup (pa_cons (pe_op k_mul pe_int (pv 7)) (pa_cons (pe_op k_mul pe_int (pv 8)) pa_nil))) (pa_cons (pe_tup (pa_cons (pe_op (k_add (K := K) rfl) (pv 7) (pv 8)) (pa_cons (pv 8) pa_nil))) (pa_cons (pe_tup (pa_cons (pe_op op_sub (pv 7) (pv 8)) (pa_cons (pv 8) pa_nil))) (pa_cons (pe_tup (pa_cons (pe_un un_neg (pv 7)) (pa_cons (pv 8) pa_nil))) (pa_cons (pe_tup (pa_cons (pe_un un_neg (pv 7)) (pa_cons (pe_un un_neg (pv 8)) pa_nil))) (pa_cons (pe_op k_fdiv (pv 7) (pv 8)) (pa_cons (pe_lst (pa_cons (pv 7) (pa_cons (pv 8) pa_nil))) (pa_cons (pe_tup (pa_cons (pv 7) (pa_cons (pe_cmpR (k_eq (K := K) rfl hr.units) (pv 8) pe_int (nomark _)) pa_nil))) (pa_cons pe_non (pa_cons (pe_tup (pa_cons (pv 7) (pa_cons pe_int pa_nil))) pa_nil))))))))))))
    (pss_one (ps_ret (pe_tup (pa_cons (pe_ix (k_ix (K := K) rfl) (pv 1) pe_int (fun _ _ => rfl)) (pa_cons (pe_ix (k_ixS (K := K) rfl) (pv 9) (pe_call (ok_l_take (P := P) (K := K) T) (hr.mono (by decide)) (by rfl) T.g_l_take T.F_l_take.kp T.b_l_take .nil pass0 (pa_cons (pv 0) (pa_cons (pe_callB (k_len (K := K) rfl) (by rfl) T.m_len (by decide +kernel) (pa_cons (pv 9) pa_nil)) pa_nil))) (fun _ _ => rfl)) (pa_cons (pe_ix (k_ix (K := K) rfl) (pv 1) pe_int (fun _ _ => rfl)) pa_nil))))))))
      pss_nil)
    (pss_one (ps_ret (pe_op (k_add (K := K) rfl) (pe_slice (k_sl (K := K) rfl) (pv 1) po_none (po_some (pe_un un_neg pe_int))) (pe_tup (pa_cons (pv 5) pa_nil))))))))))))), by infer_instance, fun ds n Q hl hA => ?_⟩
  obtain ⟨p, rfl, hp, hn, q⟩ := hA
  have b2 : Bd 2 (2 : Int) := by unfold Bd; decide
  cases p with
  | clr w =>
    have hw : WyS 1902 w := hp
    have rm : Rp 1 5763 (.str "clear") := word_ok (.inr (.inr (.inl rfl)))
    refine aIx_tup (show atI [D.str "clear", pt w] (-1) = some (pt w) from rfl) ?_
    refine ⟨mulA b2 hw.1 (by decide) (by decide), mulA b2 hw.2 (by decide) (by decide), (int_short (hw.2.le (by decide))).1, ?_⟩
    refine ⟨10, rfl, by decide, by decide, by omega, fun r lr ur => ?_⟩
    obtain ⟨e, hat, he⟩ := bent_ways hw r lr ur
    refine aIx_lst hat ?_
    refine ⟨7, rfl, by decide, by decide, by omega, fun k lk uk => ?_⟩
    have rw1 : Rp 1 5763 (pt w) := l1_of (rp_two (Rp.int (hw.1.le (by decide))) (Rp.int (hw.2.le (by decide))))
    refine dIte (fun _ => ?_) fun _ => dIte (fun _ => ?_) fun _ => dIte (fun _ => ?_) fun _ => ?_
    · refine ⟨4, rfl, by decide, by decide, by omega, fun j lj uj => ?_⟩
      obtain ⟨z, hz, hs⟩ := words_cut j lj uj
      refine ⟨fun z => absurd z.1 (show ¬ HT.sIx 2 0 (some 1) = 0 by decide), ?_⟩
      refine (show aAdd (D.lst (cutL (cutL [D.str "Clear", D.str "meets", D.str "clear", D.str ""] (some j) none) none (some 1))) (D.lst [pt w]) _ Q from ?_)
      rw [hz]
      exact ⟨show 1 + 1 ≤ 1000000 by decide, q _ _ (ok_outerL (rp_two hs rw1)) (by omega)⟩
    · refine ⟨4, rfl, by decide, by decide, by omega, fun j lj uj => ?_⟩
      obtain ⟨z, hz, hs⟩ := words_at j lj uj
      refine aIx_lst hz ?_
      refine ⟨fun z => absurd z.1 (show ¬ HT.sIx 2 0 (some 1) = 0 by decide), List.cons_ne_nil _ _, show 1 + 1 ≤ 1000000 by decide, ?_⟩
      exact q (.tup (D.str z :: [pt w])) _ (ok_outer (rp_two hs rw1)) (by omega)
    · refine ⟨List.cons_ne_nil _ _, show 2 + 1 ≤ 1000000 by decide, ?_⟩
      exact q (.tup [.str "clear", pt w, .int 0]) _ (ok_outer (rp_three rm rw1 (Rp.int (k := 0) (show Bd 1919 (0 : Int) by unfold Bd; exact Nat.pow_pos (by decide)) |>.le (by decide) (by decide)))) (by omega)
    · have fin : ∀ m, n ≤ m + 4 → Q (.tup [.str "clear", e]) m := fun m hm => q _ _ (ok_outer (rp_two rm he)) hm
      refine dIte (fun _ => aF ?_) fun _ => aF ?_
      all_goals
        refine ⟨fun z => absurd z.2 (show ¬ HT.sIx 2 2 (some (-1)) = 2 by decide), List.cons_ne_nil _ _, show 1 + 1 ≤ 1000000 by decide, ?_⟩
        exact fin _ (by omega)
  | mts t w =>
    have hw : WyS 1902 w := hp.1
    have ht : BdQ 1790 t := hp.2
    have rm : Rp 1 5763 (.str "meets") := word_ok (.inr (.inl rfl))
    refine aIx_tup (show atI [D.str "meets", sh t, pt w] (-1) = some (pt w) from rfl) ?_
    refine ⟨mulA b2 hw.1 (by decide) (by decide), mulA b2 hw.2 (by decide) (by decide), (int_short (hw.2.le (by decide))).1, ?_⟩
    refine ⟨10, rfl, by decide, by decide, by omega, fun r lr ur => ?_⟩
    obtain ⟨e, hat, he⟩ := bent_ways hw r lr ur
    refine aIx_lst hat ?_
    refine ⟨7, rfl, by decide, by decide, by omega, fun k lk uk => ?_⟩
    have rw1 : Rp 1 5763 (pt w) := l1_of (rp_two (Rp.int (hw.1.le (by decide))) (Rp.int (hw.2.le (by decide))))
    have rt1 : Rp 1 5763 (sh t) := l1_of (rp_two (Rp.int (ht.1.le (by decide))) (Rp.int (ht.2.le (by decide))))
    refine dIte (fun _ => ?_) fun _ => dIte (fun _ => ?_) fun _ => dIte (fun _ => ?_) fun _ => ?_
    · refine ⟨4, rfl, by decide, by decide, by omega, fun j lj uj => ?_⟩
      obtain ⟨z, hz, hs⟩ := words_cut j lj uj
      refine ⟨fun z => absurd z.1 (show ¬ HT.sIx 3 0 (some 1) = 0 by decide), ?_⟩
      refine (show aAdd (D.lst (cutL (cutL [D.str "Clear", D.str "meets", D.str "clear", D.str ""] (some j) none) none (some 1))) (D.lst [sh t, pt w]) _ Q from ?_)
      rw [hz]
      exact ⟨show 1 + 2 ≤ 1000000 by decide, q _ _ (ok_outerL (rp_three hs rt1 rw1)) (by omega)⟩
    · refine ⟨4, rfl, by decide, by decide, by omega, fun j lj uj => ?_⟩
      obtain ⟨z, hz, hs⟩ := words_at j lj uj
      refine aIx_lst hz ?_
      refine ⟨fun z => absurd z.1 (show ¬ HT.sIx 3 0 (some 1) = 0 by decide), List.cons_ne_nil _ _, show 1 + 2 ≤ 1000000 by decide, ?_⟩
      exact q (.tup (D.str z :: [sh t, pt w])) _ (ok_outer (rp_three hs rt1 rw1)) (by omega)
    · refine ⟨List.cons_ne_nil _ _, show 3 + 1 ≤ 1000000 by decide, ?_⟩
      exact q (.tup [.str "meets", sh t, pt w, .int 0]) _ (ok_outer (rp_four rm rt1 rw1 (Rp.int (k := 0) (show Bd 1919 (0 : Int) by unfold Bd; exact Nat.pow_pos (by decide)) |>.le (by decide) (by decide)))) (by omega)
    · have fin : ∀ m, n ≤ m + 4 → Q (.tup [.str "meets", sh t, e]) m := fun m hm => q _ _ (ok_outer (rp_three rm rt1 he)) hm
      refine dIte (fun _ => aT ?_) fun _ => aF ?_
      · refine ⟨mulA b2 ht.1 (by decide) (by decide), mulA b2 ht.2 (by decide) (by decide), ?_⟩
        refine ⟨divA ht.2 (den_pos t) (by decide), ?_⟩
        refine ⟨10, rfl, by decide, by decide, by omega, fun j lj uj => ?_⟩
        obtain ⟨e', hat', he'⟩ := bent_times ht j lj uj
        refine aIx_lst hat' ?_
        exact q (.tup [.str "meets", e', pt w]) _ (ok_outer (rp_three rm he' rw1)) (by omega)
      · refine ⟨fun z => absurd z.2 (show ¬ HT.sIx 3 3 (some (-1)) = 3 by decide), List.cons_ne_nil _ _, show 2 + 1 ≤ 1000000 by decide, ?_⟩
        exact fin _ (by omega)
/-! CUT -/
/-! ### the papers -/
structure Ppr (d : D) : Prop where
  th : Th d
  rep : ∃ z, RepZ d z
theorem ppr_ok {d : D} (h : Ok d) : Ppr d := ⟨⟨h.k7, fun a x e => by
  subst e
  exact ⟨(h.tup a (by simp)).cmp, h.tup x (by simp)⟩, fun a x y e => by
  subst e
  exact ⟨(h.tup a (by simp)).cmp, h.tup x (by simp), h.tup y (by simp)⟩⟩, _, h.rep⟩
theorem ppr_dic : Ppr (.dic [] []) := ⟨⟨rfl, (fun a x e => by cases e), (fun a x y e => by cases e)⟩, _, .inr (.inl ⟨rfl, rfl⟩)⟩
theorem small {i : Int} (h : i.natAbs < 2 ^ 10) : Rp 0 1920 (.int i) := Rp.int (Bd.le (show Bd 10 i from h) (by decide))
theorem ok_small {i j : Int} (h : i.natAbs < 2 ^ 10) (g : j.natAbs < 2 ^ 10) : Rp 1 5763 (.tup [.int i, .int j]) := l1_of (rp_two (small h) (small g))
theorem ok_l1 {d : D} (h : Rp 1 5763 d) : Ok d := h.le (by decide) (by decide)
theorem ppr_dt : Ppr (.tup [.dic [] [], .tup [.int 0, .int 1], .tup [.int 1, .int 0]]) := ⟨⟨rfl, fun a x e => by
  have := congrArg List.length (D.tup.inj e)
  simp at this, fun a x y e => by
  obtain ⟨e1, e2, e3⟩ := tup3 e
  subst e1 e2 e3
  exact ⟨.inl ⟨_, _, rfl⟩, ok_l1 (ok_small (by decide) (by decide)), ok_l1 (ok_small (by decide) (by decide))⟩⟩, _, .inr (.inr ⟨0, 1, 1, 0, rfl, rfl, by decide +kernel, by rw [sizeLine_eq]; decide +kernel⟩)⟩
theorem word0 {z : Str} (h : z = "meets" ∨ z = "clear") : Rp 0 1920 (.str z) := by
  rcases h with rfl | rfl
  · exact Rp.str (by decide +kernel) (by decide +kernel)
  · exact Rp.str (by decide +kernel) (by decide +kernel)
def thingsA : List D := [.non, .int 3, .str "clear", .tup [], .dic [] [], .tup [.str "clear"], .tup [.str "meets", .tup [.int 0, .int 1]], .lst [.str "clear", .tup [.int 1, .int 0]], .tup [.str "meets", .non, .tup [.int 1, .int 0]]]
def thingsB : List D := [.tup [.str "clear", .non], .tup [.str "clear", .tup [.tup [.int 1, .int 1], .tup [.int 0, .int 1]]], .tup [.str "meets", .tup [.int 0, .int 1], .non], .bl true]
def thingsC : List D := [.tup [.lst [], .tup [.int 1, .int 0]], .tup [.dic [] [], .tup [.int 0, .int 1], .tup [.int 1, .int 0]], .tup [.int 7, .tup [.int 0, .int 1], .tup [.int 1, .int 0]], .tup [.non, .tup [.int 1, .int 0]], .tup [.tup [.str "clear"], .tup [.int 1, .int 0]]]
theorem things_ok : ∀ d ∈ thingsA ++ thingsB ++ thingsC, Ppr d := fun d hd => by
  have wm : Rp 1 5763 (.str "meets") := (word0 (.inl rfl)).le (by decide) (by decide)
  have wc : Rp 1 5763 (.str "clear") := (word0 (.inr rfl)).le (by decide) (by decide)
  have p01 : Rp 1 5763 (.tup [.int 0, .int 1]) := ok_small (by decide) (by decide)
  have p10 : Rp 1 5763 (.tup [.int 1, .int 0]) := ok_small (by decide) (by decide)
  have p11 : Rp 1 5763 (.tup [.int 1, .int 1]) := ok_small (by decide) (by decide)
  have tc : Rp 1 5763 (.tup [.str "clear"]) := l1_of (rp_one (word0 (.inr rfl)))
  have e0 : Rp 1 5763 (.tup []) := Rp.tup (k := 0) (w := 0) (fun d hd => by cases hd) (by decide)
  have l0 : Rp 1 5763 (.lst []) := Rp.lst (k := 0) (w := 0) (fun d hd => by cases hd) (by decide)
  have i3 : Rp 1 5763 (.int 3) := (small (by decide)).le (by decide) (by decide)
  have i7 : Rp 1 5763 (.int 7) := (small (by decide)).le (by decide) (by decide)
  have deep : Ok (.tup [.str "clear", .tup [.tup [.int 1, .int 1], .tup [.int 0, .int 1]]]) := (Rp.tup (k := 2) (w := 11528) (m := 23058) (rp_two (wc.le (by decide) (by decide)) (Rp.tup (k := 1) (w := 5763) (rp_two p11 p01) (by decide))) (by decide)).le (by decide) (by decide)
  simp only [thingsA, thingsB, thingsC, List.cons_append, List.nil_append, List.mem_cons, List.not_mem_nil, or_false] at hd
  rcases hd with rfl | rfl | rfl | rfl | rfl | rfl | rfl | rfl | rfl | rfl | rfl | rfl | rfl | rfl | rfl | rfl | rfl | rfl
  · exact ppr_ok Rp.non
  · exact ppr_ok (ok_l1 i3)
  · exact ppr_ok (ok_l1 wc)
  · exact ppr_ok (ok_l1 e0)
  · exact ppr_dic
  · exact ppr_ok (ok_l1 tc)
  · exact ppr_ok (ok_outer (rp_two wm p01))
  · exact ppr_ok (ok_outerL (rp_two wc p10))
  · exact ppr_ok (ok_outer (rp_three wm Rp.non p10))
  · exact ppr_ok (ok_outer (rp_two wc Rp.non))
  · exact ppr_ok deep
  · exact ppr_ok (ok_outer (rp_three wm p01 Rp.non))
  · exact ppr_ok Rp.bl
  · exact ppr_ok (ok_outer (rp_two l0 p10))
  · exact ppr_dt
  · exact ppr_ok (ok_outer (rp_three i7 p01 p10))
  · exact ppr_ok (ok_outer (rp_two Rp.non p10))
  · exact ppr_ok (ok_outer (rp_two tc p10))
theorem Pap.okd {p : Pap} (h : p.ok) : Ok p.d := by
  cases p with
  | clr w =>
    have hw : WyS 1902 w := h
    exact ok_outer (rp_two ((word0 (.inr rfl)).le (by decide) (by decide)) (l1_of (rp_two (Rp.int (hw.1.le (by decide))) (Rp.int (hw.2.le (by decide))))))
  | mts t w =>
    have hw : WyS 1902 w := h.1
    have ht : BdQ 1790 t := h.2
    exact ok_outer (rp_three ((word0 (.inl rfl)).le (by decide) (by decide)) (l1_of (rp_two (Rp.int (ht.1.le (by decide))) (Rp.int (ht.2.le (by decide))))) (l1_of (rp_two (Rp.int (hw.1.le (by decide))) (Rp.int (hw.2.le (by decide))))))
theorem Two.rel {b c : Bw} (hb : b.ok 201 206) (hc : c.ok 256 720) (hR : Rel b c) : Two 404 460 b c :=
  ⟨hb.1, hc.1, hb.2.1.le (by decide), hb.2.2.1.le (by decide), hb.2.2.2.1.le (by decide), hb.2.2.2.2.le (by decide), hc.2.1.le (by decide), hc.2.2.1.le (by decide), hc.2.2.2.1.le (by decide), hc.2.2.2.2.le (by decide), hR.1.1, hR.1.2, hR.2.1, hR.2.2, by decide⟩
def a_l_papers : ASp := fun ds n Q => ∃ (b c : Bw) (u : Rat), ds = [.deck, b.d, c.d, sh u] ∧ b.ok 201 206 ∧ c.ok 256 720 ∧ Rel b c ∧ BdQ 12 u ∧ 0 ≤ u ∧ 3000 ≤ n ∧ ∀ (L : List D) (n' : Nat), (∀ d ∈ L, Ppr d) → L.length ≤ 500 → Q (.lst L) n'
theorem ok_l_papers (T : Tx K mg A) : FnOk P w K mg base CX0 13 A.f_l_papers A.fd_l_papers ["_law_deck_here", "_law_one", "_law_other", "_law_until_here"] (spOf K 4 a_l_papers) := by
  refine fn_mir [6] 13 rfl (by decide) (by decide) T.F_l_papers sc_l_papers fun cdv Ar outer s H E hr => ?_
  refine ⟨_, _, (pss_cons (ps_asg (pe_call (ok_l_upright (P := P) (K := K) T) (hr.mono (by decide)) (by rfl) T.g_l_upright T.F_l_upright.kp T.b_l_upright .nil pass0 (pa_cons (pv 1) (pa_cons (pv 2) pa_nil))) (k_gtup (K := K) (m := 2) rfl rfl (pgs_cons (pg_name (i := 4) sc_l_papers.nd rfl (.inl rfl)) (pgs_cons (pg_name (i := 5) sc_l_papers.nd rfl (.inl rfl)) pgs_nil))))
    (pss_cons (k_own (ps_set (i := 6) sc_l_papers.nd rfl (.inl rfl) (pe_lst (pa_cons (pe_tup (pa_cons pe_str (pa_cons (pe_tup (pa_cons (pv 4) (pa_cons (pv 5) pa_nil))) pa_nil))) (pa_cons (pe_tup (pa_cons pe_str (pa_cons (pe_tup (pa_cons (pe_un un_neg (pv 4)) (pa_cons (pe_un un_neg (pv 5)) pa_nil))) pa_nil))) pa_nil)))))
    (pss_cons (ps_set (i := 7) sc_l_papers.nd rfl (.inl rfl) (pe_lst (pa_cons pe_non (pa_cons pe_int (pa_cons pe_str (pa_cons (pe_tup pa_nil) (pa_cons pe_dnewK (pa_cons (pe_tup (pa_cons pe_str pa_nil)) (pa_cons (pe_tup (pa_cons pe_str (pa_cons (pe_tup (pa_cons pe_int (pa_cons pe_int pa_nil))) pa_nil))) (pa_cons (pe_lst (pa_cons pe_str (pa_cons (pe_tup (pa_cons pe_int (pa_cons pe_int pa_nil))) pa_nil))) (pa_cons (pe_tup (pa_cons pe_str (pa_cons pe_non (pa_cons (pe_tup (pa_cons pe_int (pa_cons pe_int pa_nil))) pa_nil)))) pa_nil)))))))))))
    (pss_cons (ps_set (i := 7) sc_l_papers.nd rfl (.inl rfl) (pe_op (k_add (K := K) rfl) (pv 7) (pe_lst (pa_cons (pe_tup (pa_cons pe_str (pa_cons pe_non pa_nil))) (pa_cons (pe_tup (pa_cons pe_str (pa_cons (pe_tup (pa_cons (pe_tup (pa_cons pe_int (pa_cons pe_int pa_nil))) (pa_cons (pe_tup (pa_cons pe_int (pa_cons pe_int pa_nil))) pa_nil))) pa_nil))) (pa_cons (pe_tup (pa_cons pe_str (pa_cons (pe_tup (pa_cons pe_int (pa_cons pe_int pa_nil))) (pa_cons pe_non pa_nil)))) (pa_cons pe_bl pa_nil)))))))
    (pss_cons (ps_set (i := 7) sc_l_papers.nd rfl (.inl rfl) (pe_op (k_add (K := K) rfl) (pv 7) (pe_lst (pa_cons (pe_tup (pa_cons (pe_lst pa_nil) (pa_cons (pe_tup (pa_cons pe_int (pa_cons pe_int pa_nil))) pa_nil))) (pa_cons (pe_tup (pa_cons pe_dnewK (pa_cons (pe_tup (pa_cons pe_int (pa_cons pe_int pa_nil))) (pa_cons (pe_tup (pa_cons pe_int (pa_cons pe_int pa_nil))) pa_nil)))) (pa_cons (pe_tup (pa_cons pe_int (pa_cons (pe_tup (pa_cons pe_int (pa_cons pe_int pa_nil))) (pa_cons (pe_tup (pa_cons pe_int (pa_cons pe_int pa_nil))) pa_nil)))) (pa_cons (pe_tup (pa_cons pe_non (pa_cons (pe_tup (pa_cons pe_int (pa_cons pe_int pa_nil))) pa_nil))) (pa_cons (pe_tup (pa_cons (pe_tup (pa_cons pe_str pa_nil)) (pa_cons (pe_tup (pa_cons pe_int (pa_cons pe_int pa_nil))) pa_nil))) pa_nil))))))))
    (pss_cons (ps_if (pt_not (pt_val (pe_call (ok_l_over (P := P) (K := K) T) (hr.mono (by decide)) (by rfl) T.g_l_over T.F_l_over.kp T.b_l_over .nil pass0 (pa_cons (pv 1) (pa_cons (pv 2) (pa_cons (pe_tup (pa_cons pe_int (pa_cons pe_int pa_nil))) pa_nil))))))
      (pss_one (k_app (K := K) rfl (ps_expr (pe_bm PySem.F.plainAttrs_list PySem.F.slot_list_append PySem.F.type_list_append mt_append (pv 6) (pa_cons (pe_call (ok_p_first (P := P) (K := K) T) (hr.mono (by decide)) (by rfl) T.g_p_first T.F_p_first.kp T.b_p_first .nil pass0 (pa_cons (pv 1) (pa_cons (pv 2) (pa_cons (pv 3) pa_nil)))) pa_nil)))))
      pss_nil)
    (pss_cons (ps_set (i := 8) sc_l_papers.nd rfl (.inl rfl) (pe_call (ok_l_pair_ways (P := P) (K := K) T) (hr.mono (by decide)) (by rfl) T.g_l_pair_ways T.F_l_pair_ways.kp T.b_l_pair_ways .nil pass0 (pa_cons (pv 1) (pa_cons (pv 2) pa_nil))))
    (pss_cons (ps_for PassesOwn.never rfl (k_iter (K := K) rfl (pe_call (ok_l_crossings (P := P) (K := K) T) (hr.mono (by decide)) (by rfl) T.g_l_crossings T.F_l_crossings.kp T.b_l_crossings .nil pass0 (pa_cons (pv 1) (pa_cons (pv 2) pa_nil)))) (k_gtup (K := K) (m := 2) rfl rfl (pgs_cons (pg_name (i := 9) sc_l_papers.nd rfl (.inl rfl)) (pgs_cons (pg_name (i := 10) sc_l_papers.nd rfl (.inl rfl)) pgs_nil)))
      (pss_one (k_ownA (K := K) (ps_set (i := 6) sc_l_papers.nd rfl (.inl rfl) (pe_op (k_add (K := K) rfl) (pv 6) (pe_lst (pa_cons (pe_tup (pa_cons pe_str (pa_cons (pv 9) (pa_cons (pv 10) pa_nil)))) (pa_cons (pe_tup (pa_cons pe_str (pa_cons (pv 9) (pa_cons (pe_ix (k_ixS (K := K) rfl) (pv 8) (pe_call (ok_l_take (P := P) (K := K) T) (hr.mono (by decide)) (by rfl) T.g_l_take T.F_l_take.kp T.b_l_take .nil pass0 (pa_cons (pv 0) (pa_cons (pe_callB (k_len (K := K) rfl) (by rfl) T.m_len (by decide +kernel) (pa_cons (pv 8) pa_nil)) pa_nil))) (fun _ _ => rfl)) pa_nil)))) (pa_cons (pe_tup (pa_cons pe_str (pa_cons (pv 10) pa_nil))) pa_nil)))))))))
    (k_openS (pss_cons (ps_setLc (i := 11) (own := [("_law_paper", 12)]) rfl sc_l_papers.nd rfl rfl (sw_true rfl rfl rfl (by decide +kernel)) (k_iter (K := K) rfl (pv 6)) (blkOk_by (own := [("_law_paper", 12)]) (N := ["_law_deck_here", "_law_one", "_law_other", "_law_until_here", "_law_p", "_law_q", "_law_some", "_law_things", "_law_ways_here", "_law_time", "_law_way_here", "_law_bent_here", "_law_paper"]) (sc := defScope s_l_papers) (by decide +kernel)) (fun _ _ _ _ _ => (pg_name (i := 12) sc_l_papers.nd rfl (Or.inl rfl))) (fun _ _ _ _ _ => pts_nil) (fun _ _ _ _ _ => (pe_call (ok_l_bent (P := P) (K := K) T) (hr.mono (by decide)) (by rfl) T.g_l_bent T.F_l_bent.kp T.b_l_bent .nil pass0 (pa_cons (pv 0) (pa_cons (pv 12) pa_nil)))))
    (pss_one (ps_ret (pe_op (k_add (K := K) rfl) (pe_op (k_add (K := K) rfl) (pv 6) (pv 11)) (pe_lst (pa_cons (pe_ix (k_ixS (K := K) rfl) (pv 7) (pe_call (ok_l_take (P := P) (K := K) T) (hr.mono (by decide)) (by rfl) T.g_l_take T.F_l_take.kp T.b_l_take .nil pass0 (pa_cons (pv 0) (pa_cons (pe_callB (k_len (K := K) rfl) (by rfl) T.m_len (by decide +kernel) (pa_cons (pv 7) pa_nil)) pa_nil))) (fun _ _ => rfl)) pa_nil))))))))))))))), by infer_instance, fun ds n Q hl hA => ?_⟩
  obtain ⟨b, c, u, rfl, hb, hc, hR, bu, hu0, hn, q⟩ := hA
  refine ⟨b, c, rfl, hb, hc, fun w hw => ?_⟩
  refine ⟨show 9 + 4 ≤ 1000000 by decide, show 13 + 5 ≤ 1000000 by decide, ?_⟩
  simp only [startA, eSetAll, eSet, List.cons_append, List.nil_append]
  obtain ⟨rs, hpw⟩ : ∃ rs, PwOk (waysOf b.cs) (waysOf c.cs) rs := pw_ex _ _
  have hw2 : WyS 1902 w := ⟨hw.1.le (by decide), hw.2.le (by decide)⟩
  have hnw : WyS 1902 (ngP w) := ng_wys hw2
  have h2 := Two.rel hb hc hR
  have okl_nil : ∀ d ∈ ([] : List D), Ok d := fun d hd => by cases hd
  have ok2 : ∀ p ∈ [Pap.clr w, Pap.clr (ngP w)], p.ok := fun p hp => by
    simp only [List.mem_cons, List.not_mem_nil, or_false] at hp
    rcases hp with rfl | rfl
    · exact hw2
    · exact hnw
  have ok3 : ∀ x : Pap, x.ok → ∀ p ∈ [Pap.clr w, Pap.clr (ngP w), x], p.ok := fun x hx p hp => by
    simp only [List.mem_cons, List.not_mem_nil, or_false] at hp
    rcases hp with rfl | rfl | rfl
    · exact hw2
    · exact hnw
    · exact hx
  refine ⟨b, c, fr 0 1, 0, 201, 206, 256, 720, 1, rs, rfl, hb, hc, fq0, by decide, hpw, fun ho => aF ?_, fun hno => aT ?_⟩
  · skip
    refine ⟨b, c, rfl, hb.1, hc.1, fun ws h0 h40 hws _ => ?_⟩
    simp only [startA, eSetAll, eSet, List.cons_append, List.nil_append]
    refine ⟨b, c, 201, 206, 256, 720, rfl, hb, hc, by decide, fun rs' h40' hpw' _ => ?_⟩
    refine aFor_ind (fun ds ρ m => ∃ (ps : List Pap) (vs : List Pt) (y9 y10 : Option D), ρ = [some .deck, some b.d, some c.d, some (sh u), some (.int w.1), some (.int w.2), some (.lst (ps.map Pap.d)), some (.lst (thingsA ++ thingsB ++ thingsC)), some (.lst (ws.map pt)), y9, y10, none, none] ∧ ds = vs.map (crD b c) ∧ (∀ v ∈ vs, v ∈ rs' ∧ rtQ b c v ≠ 0) ∧ (∀ p ∈ ps, p.ok) ∧ ps.length + 3 * vs.length ≤ 123 ∧ n + vs.length ≤ m + 40) ?_ ?_ ⟨[Pap.clr w, Pap.clr (ngP w)], crs' b c rs', none, none, rfl, rfl, fun v hv => ?_, ok2, ?_, ?_⟩
    · rintro d r _ m ⟨ps, vs, y9, y10, rfl, e, hvs, hps, hl, hm⟩ ih
      cases vs with
      | nil => cases e
      | cons v vs =>
      obtain ⟨rfl, rfl⟩ := List.cons.inj e
      rw [List.length_cons] at hl hm
      obtain ⟨hv, hr⟩ := hvs v List.mem_cons_self
      have hvw := hpw'.wys hb.1 hc.1 v hv
      have hv2 : WyS 1902 v := ⟨hvw.1.le (by decide), hvw.2.le (by decide)⟩
      have ht := tm_tight hR hb.1 hc.1 hvw hr
      have lw : ((ws.map pt).length : Int) = (ws.length : Int) := by rw [List.length_map]
      refine ⟨((ws.map pt).length : Int), rfl, by omega, small_log (by omega) (by omega), by omega, fun i li ui => ?_⟩
      obtain ⟨d1, hd1, hat⟩ := pick_at li ui
      obtain ⟨v2, hv2m, rfl⟩ := List.mem_map.mp hd1
      have hv3 : WyS 1902 v2 := ⟨(hws v2 hv2m).1.le (by decide), (hws v2 hv2m).2.le (by decide)⟩
      refine aIx_lst hat ?_
      refine ⟨by rw [List.length_map]; simp; omega, ih _ _ ⟨ps ++ [.mts (tmQ b c v) v, .mts (tmQ b c v) v2, .clr v], vs, _, _, by rw [List.map_append]; rfl, rfl, fun z hz => hvs z (List.mem_cons_of_mem _ hz), fun p hp => ?_, by rw [List.length_append]; simp; omega, by omega⟩⟩
      rcases List.mem_append.mp hp with hp | hp
      · exact hps p hp
      · simp only [List.mem_cons, List.not_mem_nil, or_false] at hp
        rcases hp with rfl | rfl | rfl
        · exact ⟨hv2, ht⟩
        · exact ⟨hv3, ht⟩
        · exact hv2
    · rintro _ m ⟨ps, vs, y9, y10, rfl, e, hvs, hps, hl, hm⟩
      refine ⟨by rw [List.length_map]; omega, ?_⟩
      refine aLc_ind (fun acc ds j => ∃ us vs : List Pap, ps = us ++ vs ∧ ds = vs.map Pap.d ∧ (∀ d ∈ acc, Ok d) ∧ acc.length = us.length ∧ m ≤ j + 4 * us.length) ?_ ?_ ⟨[], ps, rfl, rfl, okl_nil, rfl, by simp⟩
      · rintro acc d r j ⟨us, vs', e0, e1, ha, hla, hj⟩ ih
        cases vs' with
        | nil => cases e1
        | cons p vs' =>
        obtain ⟨rfl, rfl⟩ := List.cons.inj e1
        have hul : us.length + 1 ≤ ps.length := by rw [e0, List.length_append, List.length_cons]; omega
        refine aT ⟨p, rfl, hps p (by rw [e0]; exact List.mem_append_right _ List.mem_cons_self), by omega, fun e' n' he hn' => ih _ _ ⟨us ++ [p], vs', by rw [e0]; simp, rfl, fun d hd => ?_, by rw [List.length_append, List.length_append, hla]; rfl, by rw [List.length_append]; simp; omega⟩⟩
        rcases List.mem_append.mp hd with hd | hd
        · exact ha d hd
        · rw [List.mem_singleton.mp hd]
          exact he
      · rintro acc j ⟨us, vs', e0, e1, ha, hla, hj⟩
        have hul : us.length ≤ ps.length := by rw [e0, List.length_append]; omega
        refine ⟨by rw [List.length_map]; omega, ?_⟩
        refine ⟨18, rfl, by decide, by decide, by omega, fun i li ui => ?_⟩
        obtain ⟨d1, hd1, hat⟩ := pick_at (xs := thingsA ++ thingsB ++ thingsC) li ui
        refine aIx_lst hat ?_
        refine ⟨by rw [List.length_append, List.length_map]; simp; omega, ?_⟩
        refine q _ _ (fun d hd => ?_) (by rw [List.length_append, List.length_append, List.length_map]; simp; omega)
        rcases List.mem_append.mp hd with hd | hd
        · rcases List.mem_append.mp hd with hd | hd
          · obtain ⟨p, hp, rfl⟩ := List.mem_map.mp hd
            exact ppr_ok (Pap.okd (hps p hp))
          · exact ppr_ok (ha d hd)
        · rw [List.mem_singleton.mp hd]
          exact things_ok d1 hd1
    · have := List.mem_filter.mp hv
      exact ⟨this.1, of_decide_eq_true this.2⟩
    · have : (crs' b c rs').length ≤ rs'.length := List.length_filter_le _ _
      simp
      omega
    · have : (crs' b c rs').length ≤ rs'.length := List.length_filter_le _ _
      omega
  · refine ⟨b, c, 404, 460, 12, u, rfl, h2, by decide, by decide, bu, by decide, hu0, rs, hpw, hno, fun v t hM hlt ht0 hv _ => ⟨show 2 < 1000000 by decide, ?_⟩, fun _ v hC => ⟨show 2 < 1000000 by decide, ?_⟩⟩
    · have hvm := hpw.wys hb.1 hc.1 v hM.mem
      have hv2 : WyS 1902 v := ⟨hv.1.le (by decide), hv.2.le (by decide)⟩
      have htt : BdQ 1790 t := by
        rw [hM.time]
        exact tm_tight hR hb.1 hc.1 hvm (by have := hM.fall; grind)
      have okx : (Pap.mts t v).ok := ⟨hv2, htt⟩
      refine ⟨b, c, rfl, hb.1, hc.1, fun ws h0 h40 hws _ => ?_⟩
      simp only [startA, eSetAll, eSet, List.cons_append, List.nil_append]
      refine ⟨b, c, 201, 206, 256, 720, rfl, hb, hc, by decide, fun rs' h40' hpw' _ => ?_⟩
      refine aFor_ind (fun ds ρ m => ∃ (ps : List Pap) (vs : List Pt) (y9 y10 : Option D), ρ = [some .deck, some b.d, some c.d, some (sh u), some (.int w.1), some (.int w.2), some (.lst (ps.map Pap.d)), some (.lst (thingsA ++ thingsB ++ thingsC)), some (.lst (ws.map pt)), y9, y10, none, none] ∧ ds = vs.map (crD b c) ∧ (∀ v ∈ vs, v ∈ rs' ∧ rtQ b c v ≠ 0) ∧ (∀ p ∈ ps, p.ok) ∧ ps.length + 3 * vs.length ≤ 123 ∧ n + vs.length ≤ m + 40) ?_ ?_ ⟨[Pap.clr w, Pap.clr (ngP w), Pap.mts t v], crs' b c rs', none, none, rfl, rfl, fun v hv => ?_, ok3 _ okx, ?_, ?_⟩
      · rintro d r _ m ⟨ps, vs, y9, y10, rfl, e, hvs, hps, hl, hm⟩ ih
        cases vs with
        | nil => cases e
        | cons v vs =>
        obtain ⟨rfl, rfl⟩ := List.cons.inj e
        rw [List.length_cons] at hl hm
        obtain ⟨hv, hr⟩ := hvs v List.mem_cons_self
        have hvw := hpw'.wys hb.1 hc.1 v hv
        have hv2 : WyS 1902 v := ⟨hvw.1.le (by decide), hvw.2.le (by decide)⟩
        have ht := tm_tight hR hb.1 hc.1 hvw hr
        have lw : ((ws.map pt).length : Int) = (ws.length : Int) := by rw [List.length_map]
        refine ⟨((ws.map pt).length : Int), rfl, by omega, small_log (by omega) (by omega), by omega, fun i li ui => ?_⟩
        obtain ⟨d1, hd1, hat⟩ := pick_at li ui
        obtain ⟨v2, hv2m, rfl⟩ := List.mem_map.mp hd1
        have hv3 : WyS 1902 v2 := ⟨(hws v2 hv2m).1.le (by decide), (hws v2 hv2m).2.le (by decide)⟩
        refine aIx_lst hat ?_
        refine ⟨by rw [List.length_map]; simp; omega, ih _ _ ⟨ps ++ [.mts (tmQ b c v) v, .mts (tmQ b c v) v2, .clr v], vs, _, _, by rw [List.map_append]; rfl, rfl, fun z hz => hvs z (List.mem_cons_of_mem _ hz), fun p hp => ?_, by rw [List.length_append]; simp; omega, by omega⟩⟩
        rcases List.mem_append.mp hp with hp | hp
        · exact hps p hp
        · simp only [List.mem_cons, List.not_mem_nil, or_false] at hp
          rcases hp with rfl | rfl | rfl
          · exact ⟨hv2, ht⟩
          · exact ⟨hv3, ht⟩
          · exact hv2
      · rintro _ m ⟨ps, vs, y9, y10, rfl, e, hvs, hps, hl, hm⟩
        refine ⟨by rw [List.length_map]; omega, ?_⟩
        refine aLc_ind (fun acc ds j => ∃ us vs : List Pap, ps = us ++ vs ∧ ds = vs.map Pap.d ∧ (∀ d ∈ acc, Ok d) ∧ acc.length = us.length ∧ m ≤ j + 4 * us.length) ?_ ?_ ⟨[], ps, rfl, rfl, okl_nil, rfl, by simp⟩
        · rintro acc d r j ⟨us, vs', e0, e1, ha, hla, hj⟩ ih
          cases vs' with
          | nil => cases e1
          | cons p vs' =>
          obtain ⟨rfl, rfl⟩ := List.cons.inj e1
          have hul : us.length + 1 ≤ ps.length := by rw [e0, List.length_append, List.length_cons]; omega
          refine aT ⟨p, rfl, hps p (by rw [e0]; exact List.mem_append_right _ List.mem_cons_self), by omega, fun e' n' he hn' => ih _ _ ⟨us ++ [p], vs', by rw [e0]; simp, rfl, fun d hd => ?_, by rw [List.length_append, List.length_append, hla]; rfl, by rw [List.length_append]; simp; omega⟩⟩
          rcases List.mem_append.mp hd with hd | hd
          · exact ha d hd
          · rw [List.mem_singleton.mp hd]
            exact he
        · rintro acc j ⟨us, vs', e0, e1, ha, hla, hj⟩
          have hul : us.length ≤ ps.length := by rw [e0, List.length_append]; omega
          refine ⟨by rw [List.length_map]; omega, ?_⟩
          refine ⟨18, rfl, by decide, by decide, by omega, fun i li ui => ?_⟩
          obtain ⟨d1, hd1, hat⟩ := pick_at (xs := thingsA ++ thingsB ++ thingsC) li ui
          refine aIx_lst hat ?_
          refine ⟨by rw [List.length_append, List.length_map]; simp; omega, ?_⟩
          refine q _ _ (fun d hd => ?_) (by rw [List.length_append, List.length_append, List.length_map]; simp; omega)
          rcases List.mem_append.mp hd with hd | hd
          · rcases List.mem_append.mp hd with hd | hd
            · obtain ⟨p, hp, rfl⟩ := List.mem_map.mp hd
              exact ppr_ok (Pap.okd (hps p hp))
            · exact ppr_ok (ha d hd)
          · rw [List.mem_singleton.mp hd]
            exact things_ok d1 hd1
      · have := List.mem_filter.mp hv
        exact ⟨this.1, of_decide_eq_true this.2⟩
      · have : (crs' b c rs').length ≤ rs'.length := List.length_filter_le _ _
        simp
        omega
      · have : (crs' b c rs').length ≤ rs'.length := List.length_filter_le _ _
        omega
    · have okx : (Pap.clr v).ok := ⟨hC.wys.1.le (by decide), hC.wys.2.le (by decide)⟩
      refine ⟨b, c, rfl, hb.1, hc.1, fun ws h0 h40 hws _ => ?_⟩
      simp only [startA, eSetAll, eSet, List.cons_append, List.nil_append]
      refine ⟨b, c, 201, 206, 256, 720, rfl, hb, hc, by decide, fun rs' h40' hpw' _ => ?_⟩
      refine aFor_ind (fun ds ρ m => ∃ (ps : List Pap) (vs : List Pt) (y9 y10 : Option D), ρ = [some .deck, some b.d, some c.d, some (sh u), some (.int w.1), some (.int w.2), some (.lst (ps.map Pap.d)), some (.lst (thingsA ++ thingsB ++ thingsC)), some (.lst (ws.map pt)), y9, y10, none, none] ∧ ds = vs.map (crD b c) ∧ (∀ v ∈ vs, v ∈ rs' ∧ rtQ b c v ≠ 0) ∧ (∀ p ∈ ps, p.ok) ∧ ps.length + 3 * vs.length ≤ 123 ∧ n + vs.length ≤ m + 40) ?_ ?_ ⟨[Pap.clr w, Pap.clr (ngP w), Pap.clr v], crs' b c rs', none, none, rfl, rfl, fun v hv => ?_, ok3 _ okx, ?_, ?_⟩
      · rintro d r _ m ⟨ps, vs, y9, y10, rfl, e, hvs, hps, hl, hm⟩ ih
        cases vs with
        | nil => cases e
        | cons v vs =>
        obtain ⟨rfl, rfl⟩ := List.cons.inj e
        rw [List.length_cons] at hl hm
        obtain ⟨hv, hr⟩ := hvs v List.mem_cons_self
        have hvw := hpw'.wys hb.1 hc.1 v hv
        have hv2 : WyS 1902 v := ⟨hvw.1.le (by decide), hvw.2.le (by decide)⟩
        have ht := tm_tight hR hb.1 hc.1 hvw hr
        have lw : ((ws.map pt).length : Int) = (ws.length : Int) := by rw [List.length_map]
        refine ⟨((ws.map pt).length : Int), rfl, by omega, small_log (by omega) (by omega), by omega, fun i li ui => ?_⟩
        obtain ⟨d1, hd1, hat⟩ := pick_at li ui
        obtain ⟨v2, hv2m, rfl⟩ := List.mem_map.mp hd1
        have hv3 : WyS 1902 v2 := ⟨(hws v2 hv2m).1.le (by decide), (hws v2 hv2m).2.le (by decide)⟩
        refine aIx_lst hat ?_
        refine ⟨by rw [List.length_map]; simp; omega, ih _ _ ⟨ps ++ [.mts (tmQ b c v) v, .mts (tmQ b c v) v2, .clr v], vs, _, _, by rw [List.map_append]; rfl, rfl, fun z hz => hvs z (List.mem_cons_of_mem _ hz), fun p hp => ?_, by rw [List.length_append]; simp; omega, by omega⟩⟩
        rcases List.mem_append.mp hp with hp | hp
        · exact hps p hp
        · simp only [List.mem_cons, List.not_mem_nil, or_false] at hp
          rcases hp with rfl | rfl | rfl
          · exact ⟨hv2, ht⟩
          · exact ⟨hv3, ht⟩
          · exact hv2
      · rintro _ m ⟨ps, vs, y9, y10, rfl, e, hvs, hps, hl, hm⟩
        refine ⟨by rw [List.length_map]; omega, ?_⟩
        refine aLc_ind (fun acc ds j => ∃ us vs : List Pap, ps = us ++ vs ∧ ds = vs.map Pap.d ∧ (∀ d ∈ acc, Ok d) ∧ acc.length = us.length ∧ m ≤ j + 4 * us.length) ?_ ?_ ⟨[], ps, rfl, rfl, okl_nil, rfl, by simp⟩
        · rintro acc d r j ⟨us, vs', e0, e1, ha, hla, hj⟩ ih
          cases vs' with
          | nil => cases e1
          | cons p vs' =>
          obtain ⟨rfl, rfl⟩ := List.cons.inj e1
          have hul : us.length + 1 ≤ ps.length := by rw [e0, List.length_append, List.length_cons]; omega
          refine aT ⟨p, rfl, hps p (by rw [e0]; exact List.mem_append_right _ List.mem_cons_self), by omega, fun e' n' he hn' => ih _ _ ⟨us ++ [p], vs', by rw [e0]; simp, rfl, fun d hd => ?_, by rw [List.length_append, List.length_append, hla]; rfl, by rw [List.length_append]; simp; omega⟩⟩
          rcases List.mem_append.mp hd with hd | hd
          · exact ha d hd
          · rw [List.mem_singleton.mp hd]
            exact he
        · rintro acc j ⟨us, vs', e0, e1, ha, hla, hj⟩
          have hul : us.length ≤ ps.length := by rw [e0, List.length_append]; omega
          refine ⟨by rw [List.length_map]; omega, ?_⟩
          refine ⟨18, rfl, by decide, by decide, by omega, fun i li ui => ?_⟩
          obtain ⟨d1, hd1, hat⟩ := pick_at (xs := thingsA ++ thingsB ++ thingsC) li ui
          refine aIx_lst hat ?_
          refine ⟨by rw [List.length_append, List.length_map]; simp; omega, ?_⟩
          refine q _ _ (fun d hd => ?_) (by rw [List.length_append, List.length_append, List.length_map]; simp; omega)
          rcases List.mem_append.mp hd with hd | hd
          · rcases List.mem_append.mp hd with hd | hd
            · obtain ⟨p, hp, rfl⟩ := List.mem_map.mp hd
              exact ppr_ok (Pap.okd (hps p hp))
            · exact ppr_ok (ha d hd)
          · rw [List.mem_singleton.mp hd]
            exact things_ok d1 hd1
      · have := List.mem_filter.mp hv
        exact ⟨this.1, of_decide_eq_true this.2⟩
      · have : (crs' b c rs').length ≤ rs'.length := List.length_filter_le _ _
        simp
        omega
      · have : (crs' b c rs').length ≤ rs'.length := List.length_filter_le _ _
        omega
/-! CUT -/
theorem aNe {b : Bool} {p q : Prop} (h : b = true) (k : q) : aIte (!b) p q := by
  subst h
  exact aF k
theorem ok_law (T : Tx K mg A) : FnG P w K mg base 14 A.f_law A.fd_law ["_law_script"] (sp_law K) := by
  refine law_mirG [] 9 1 rfl (by decide) (by decide) T.F_law sc_law fun cdv Ar outer s H E hr hgd => ?_
  refine ⟨_, _, (pss_cons (ps_set (i := 1) sc_law.nd rfl (.inl rfl) (pe_call (ok_l_deck (P := P) (K := K) T) (hr.mono (by decide)) (by rfl) T.g_l_deck T.F_l_deck.kp T.b_l_deck .nil pass0 (pa_cons (pv 0) pa_nil)))
    (pss_cons (ps_asg (pe_call (ok_l_pair (P := P) (K := K) T) (hr.mono (by decide)) (by rfl) T.g_l_pair T.F_l_pair.kp T.b_l_pair .nil pass0 (pa_cons (pv 1) pa_nil)) (k_gtup (K := K) (m := 3) rfl rfl (pgs_cons (pg_name (i := 2) sc_law.nd rfl (.inl rfl)) (pgs_cons (pg_name (i := 3) sc_law.nd rfl (.inl rfl)) (pgs_cons (pg_name (i := 4) sc_law.nd rfl (.inl rfl)) pgs_nil)))))
    (pss_cons (ps_set (i := 5) sc_law.nd rfl (.inl rfl) (pe_call (ok_l_until (P := P) (K := K) T) (hr.mono (by decide)) (by rfl) T.g_l_until T.F_l_until.kp T.b_l_until .nil pass0 (pa_cons (pv 1) (pa_cons (pv 4) pa_nil))))
    (pss_cons (ps_for PassesOwn.never rfl (k_iter (K := K) rfl (pe_call (ok_l_papers (P := P) (K := K) T) (hr.mono (by decide)) (by rfl) T.g_l_papers T.F_l_papers.kp T.b_l_papers .nil pass0 (pa_cons (pv 1) (pa_cons (pv 2) (pa_cons (pv 3) (pa_cons (pv 5) pa_nil)))))) (pg_name (i := 6) sc_law.nd rfl (.inl rfl))
      (pss_cons (ps_set (i := 7) sc_law.nd rfl (.inl rfl) (pe_callB (call_repT (K := K) rfl hgd (room65 hr)) (by rfl) T.m_repr (by decide +kernel) (pa_cons (pv 6) pa_nil)))
    (pss_cons (ps_set (i := 8) sc_law.nd rfl (.inl rfl) (pe_call (ok_p_first_held (P := P) (K := K) T) (hr.mono (by decide)) (by rfl) T.g_p_first_held T.F_p_first_held.kp T.b_p_first_held .nil pass0 (pa_cons (pv 2) (pa_cons (pv 3) (pa_cons (pv 5) (pa_cons (pv 6) pa_nil))))))
    (pss_one (ps_if (PW.pt (pw_or (pt_not (pt_val (pe_callB (k_isi (K := K) rfl) (by rfl) T.m_isinstance (by decide +kernel) (pa_cons (pv 8) (pa_cons (k_ty (t := .bl) (by rfl) T.m_bool (by decide +kernel)) pa_nil))))) (pw_or (pt_cmpR (k_ne (K := K) rfl hr.units) (pv 8) (pe_call (ok_l_due (P := P) (K := K) T) (hr.mono (by decide)) (by rfl) T.g_l_due T.F_l_due.kp T.b_l_due .nil pass0 (pa_cons (pv 2) (pa_cons (pv 3) (pa_cons (pv 5) (pa_cons (pv 6) pa_nil))))) (nomark _)) (pw_or1 (pt_cmpR (k_ne (K := K) rfl hr.units) (pe_callB (call_repT (K := K) rfl hgd (room65 hr)) (by rfl) T.m_repr (by decide +kernel) (pa_cons (pv 6) pa_nil)) (pv 7) (nomark _))))))
      (pss_one (ps_ret pe_bl))
      pss_nil)))))
    (pss_one (ps_ret pe_bl)))))), by infer_instance, ?_⟩
  refine ⟨rfl, by decide, fun b c t n1 hb hc bt ht0 hR h1 => ?_⟩
  refine ⟨t, rfl, bt, ht0, by omega, fun u n2 bu hu0 h2 => ?_⟩
  refine ⟨b, c, u, rfl, hb, hc, hR, bu, hu0, by omega, fun L n3 hL hLl => ?_⟩
  have h2w := Two.rel hb hc hR
  obtain ⟨rs, hpw⟩ : ∃ rs, PwOk (waysOf b.cs) (waysOf c.cs) rs := pw_ex _ _
  simp only [startA, eSetAll, eSet, List.cons_append, List.nil_append]
  refine aFor_ind (fun ds ρ m => ∃ (y6 y7 y8 : Option D), ρ = [none, some .deck, some b.d, some c.d, some (sh t), some (sh u), y6, y7, y8] ∧ ∀ d ∈ ds, Ppr d) ?_ ?_ ⟨none, none, none, rfl, hL⟩
  · rintro d r _ m ⟨y6, y7, y8, rfl, hds⟩ ih
    have hP := hds d List.mem_cons_self
    obtain ⟨z, hz⟩ := hP.rep
    refine ⟨d, z, rfl, hz, ?_⟩
    refine ⟨b, c, 404, 460, 12, u, d, rs, rfl, h2w, by decide, bu, by decide, hP.th, hpw, fun hF => aF ?_, fun hF => aF ?_⟩
    · refine ⟨b, c, u, d, rs, 201, 206, 256, 720, 12, rfl, hb, hc, bu, by decide, by decide, hP.th, hpw, fun _ => aF ?_, fun hn => absurd hF hn⟩
      refine ⟨d, z, rfl, hz, ?_⟩
      exact aNe (decide_eq_true rfl) (ih _ _ ⟨_, _, _, rfl, fun x hx => hds x (List.mem_cons_of_mem _ hx)⟩)
    · refine ⟨b, c, u, d, rs, 201, 206, 256, 720, 12, rfl, hb, hc, bu, by decide, by decide, hP.th, hpw, fun hn => absurd hn hF, fun _ => aF ?_⟩
      refine ⟨d, z, rfl, hz, ?_⟩
      exact aNe (decide_eq_true rfl) (ih _ _ ⟨_, _, _, rfl, fun x hx => hds x (List.mem_cons_of_mem _ hx)⟩)
  · rintro _ m ⟨y6, y7, y8, rfl, hds⟩
    exact rfl

/-! CUT -/

end
theorem all_mk {l : PySem.W.OpenLaw} {w : World} {K : PySem.W.Frag} {h : Heap} {mg : Str → Option Value} {fa : Addr} (X : K.In h) (G : h.Ns mainGlobals mg) (hfa : mg "law" = some (.ref fa))
    {od0 an0 : Option Addr} {sl0 : Array (Option Value)} {oc0 kV0 dc0 pm0 cd0 ct0 : Value} {f0 : Addr}
    {od1 an1 : Option Addr} {sl1 : Array (Option Value)} {oc1 kV1 dc1 pm1 cd1 ct1 : Value} {f1 : Addr}
    {od2 an2 : Option Addr} {sl2 : Array (Option Value)} {oc2 kV2 dc2 pm2 cd2 ct2 : Value} {f2 : Addr}
    {od3 an3 : Option Addr} {sl3 : Array (Option Value)} {oc3 kV3 dc3 pm3 cd3 ct3 : Value} {f3 : Addr}
    {od4 an4 : Option Addr} {sl4 : Array (Option Value)} {oc4 kV4 dc4 pm4 cd4 ct4 : Value} {f4 : Addr}
    {od6 an6 : Option Addr} {sl6 : Array (Option Value)} {oc6 kV6 dc6 pm6 cd6 ct6 : Value} {f6 : Addr}
    {od7 an7 : Option Addr} {sl7 : Array (Option Value)} {oc7 kV7 dc7 pm7 cd7 ct7 : Value} {f7 : Addr}
    {od8 an8 : Option Addr} {sl8 : Array (Option Value)} {oc8 kV8 dc8 pm8 cd8 ct8 : Value} {f8 : Addr}
    {od9 an9 : Option Addr} {sl9 : Array (Option Value)} {oc9 kV9 dc9 pm9 cd9 ct9 : Value} {f9 : Addr}
    {od10 an10 : Option Addr} {sl10 : Array (Option Value)} {oc10 kV10 dc10 pm10 cd10 ct10 : Value} {f10 : Addr}
    {od11 an11 : Option Addr} {sl11 : Array (Option Value)} {oc11 kV11 dc11 pm11 cd11 ct11 : Value} {f11 : Addr}
    {od12 an12 : Option Addr} {sl12 : Array (Option Value)} {oc12 kV12 dc12 pm12 cd12 ct12 : Value} {f12 : Addr}
    {od13 an13 : Option Addr} {sl13 : Array (Option Value)} {oc13 kV13 dc13 pm13 cd13 ct13 : Value} {f13 : Addr}
    {od14 an14 : Option Addr} {sl14 : Array (Option Value)} {oc14 kV14 dc14 pm14 cd14 ct14 : Value} {f14 : Addr}
    {od15 an15 : Option Addr} {sl15 : Array (Option Value)} {oc15 kV15 dc15 pm15 cd15 ct15 : Value} {f15 : Addr}
    {od16 an16 : Option Addr} {sl16 : Array (Option Value)} {oc16 kV16 dc16 pm16 cd16 ct16 : Value} {f16 : Addr}
    {od17 an17 : Option Addr} {sl17 : Array (Option Value)} {oc17 kV17 dc17 pm17 cd17 ct17 : Value} {f17 : Addr}
    {od18 an18 : Option Addr} {sl18 : Array (Option Value)} {oc18 kV18 dc18 pm18 cd18 ct18 : Value} {f18 : Addr}
    {od19 an19 : Option Addr} {sl19 : Array (Option Value)} {oc19 kV19 dc19 pm19 cd19 ct19 : Value} {f19 : Addr}
    {od20 an20 : Option Addr} {sl20 : Array (Option Value)} {oc20 kV20 dc20 pm20 cd20 ct20 : Value} {f20 : Addr}
    {od21 an21 : Option Addr} {sl21 : Array (Option Value)} {oc21 kV21 dc21 pm21 cd21 ct21 : Value} {f21 : Addr}
    {od22 an22 : Option Addr} {sl22 : Array (Option Value)} {oc22 kV22 dc22 pm22 cd22 ct22 : Value} {f22 : Addr}
    {od23 an23 : Option Addr} {sl23 : Array (Option Value)} {oc23 kV23 dc23 pm23 cd23 ct23 : Value} {f23 : Addr}
    {od24 an24 : Option Addr} {sl24 : Array (Option Value)} {oc24 kV24 dc24 pm24 cd24 ct24 : Value} {f24 : Addr}
    {od25 an25 : Option Addr} {sl25 : Array (Option Value)} {oc25 kV25 dc25 pm25 cd25 ct25 : Value} {f25 : Addr}
    {od26 an26 : Option Addr} {sl26 : Array (Option Value)} {oc26 kV26 dc26 pm26 cd26 ct26 : Value} {f26 : Addr}
    {od28 an28 : Option Addr} {sl28 : Array (Option Value)} {oc28 kV28 dc28 pm28 cd28 ct28 : Value} {f28 : Addr}
    {od29 an29 : Option Addr} {sl29 : Array (Option Value)} {oc29 kV29 dc29 pm29 cd29 ct29 : Value} {f29 : Addr}
    {od30 an30 : Option Addr} {sl30 : Array (Option Value)} {oc30 kV30 dc30 pm30 cd30 ct30 : Value} {f30 : Addr}
    {od31 an31 : Option Addr} {sl31 : Array (Option Value)} {oc31 kV31 dc31 pm31 cd31 ct31 : Value} {f31 : Addr}
    {od32 an32 : Option Addr} {sl32 : Array (Option Value)} {oc32 kV32 dc32 pm32 cd32 ct32 : Value} {f32 : Addr}
    {od33 an33 : Option Addr} {sl33 : Array (Option Value)} {oc33 kV33 dc33 pm33 cd33 ct33 : Value} {f33 : Addr}
    {od34 an34 : Option Addr} {sl34 : Array (Option Value)} {oc34 kV34 dc34 pm34 cd34 ct34 : Value} {f34 : Addr}
    {od35 an35 : Option Addr} {sl35 : Array (Option Value)} {oc35 kV35 dc35 pm35 cd35 ct35 : Value} {f35 : Addr}
    {od36 an36 : Option Addr} {sl36 : Array (Option Value)} {oc36 kV36 dc36 pm36 cd36 ct36 : Value} {f36 : Addr}
    {od37 an37 : Option Addr} {sl37 : Array (Option Value)} {oc37 kV37 dc37 pm37 cd37 ct37 : Value} {f37 : Addr}
    {od38 an38 : Option Addr} {sl38 : Array (Option Value)} {oc38 kV38 dc38 pm38 cd38 ct38 : Value} {f38 : Addr}
    {od39 an39 : Option Addr} {sl39 : Array (Option Value)} {oc39 kV39 dc39 pm39 cd39 ct39 : Value} {f39 : Addr}
    {od40 an40 : Option Addr} {sl40 : Array (Option Value)} {oc40 kV40 dc40 pm40 cd40 ct40 : Value} {f40 : Addr}
    {od41 an41 : Option Addr} {sl41 : Array (Option Value)} {oc41 kV41 dc41 pm41 cd41 ct41 : Value} {f41 : Addr}
    {od42 an42 : Option Addr} {sl42 : Array (Option Value)} {oc42 kV42 dc42 pm42 cd42 ct42 : Value} {f42 : Addr}
    {od43 an43 : Option Addr} {sl43 : Array (Option Value)} {oc43 kV43 dc43 pm43 cd43 ct43 : Value} {f43 : Addr}
    {od44 an44 : Option Addr} {sl44 : Array (Option Value)} {oc44 kV44 dc44 pm44 cd44 ct44 : Value} {f44 : Addr}
    {od45 an45 : Option Addr} {sl45 : Array (Option Value)} {oc45 kV45 dc45 pm45 cd45 ct45 : Value} {f45 : Addr}
    {od46 an46 : Option Addr} {sl46 : Array (Option Value)} {oc46 kV46 dc46 pm46 cd46 ct46 : Value} {f46 : Addr}
    {od47 an47 : Option Addr} {sl47 : Array (Option Value)} {oc47 kV47 dc47 pm47 cd47 ct47 : Value} {f47 : Addr}
    {od48 an48 : Option Addr} {sl48 : Array (Option Value)} {oc48 kV48 dc48 pm48 cd48 ct48 : Value} {f48 : Addr}
    {od49 an49 : Option Addr} {sl49 : Array (Option Value)} {oc49 kV49 dc49 pm49 cd49 ct49 : Value} {f49 : Addr}
    {od50 an50 : Option Addr} {sl50 : Array (Option Value)} {oc50 kV50 dc50 pm50 cd50 ct50 : Value} {f50 : Addr}
    {od51 an51 : Option Addr} {sl51 : Array (Option Value)} {oc51 kV51 dc51 pm51 cd51 ct51 : Value} {f51 : Addr}
    {od52 an52 : Option Addr} {sl52 : Array (Option Value)} {oc52 kV52 dc52 pm52 cd52 ct52 : Value} {f52 : Addr}
    {od53 an53 : Option Addr} {sl53 : Array (Option Value)} {oc53 kV53 dc53 pm53 cd53 ct53 : Value} {f53 : Addr}
    {od54 an54 : Option Addr} {sl54 : Array (Option Value)} {oc54 kV54 dc54 pm54 cd54 ct54 : Value} {f54 : Addr}
    {od55 an55 : Option Addr} {sl55 : Array (Option Value)} {oc55 kV55 dc55 pm55 cd55 ct55 : Value} {f55 : Addr}
    {od56 an56 : Option Addr} {sl56 : Array (Option Value)} {oc56 kV56 dc56 pm56 cd56 ct56 : Value} {f56 : Addr}
    {od57 an57 : Option Addr} {sl57 : Array (Option Value)} {oc57 kV57 dc57 pm57 cd57 ct57 : Value} {f57 : Addr}
    {od58 an58 : Option Addr} {sl58 : Array (Option Value)} {oc58 kV58 dc58 pm58 cd58 ct58 : Value} {f58 : Addr}
    {od59 an59 : Option Addr} {sl59 : Array (Option Value)} {oc59 kV59 dc59 pm59 cd59 ct59 : Value} {f59 : Addr}
    {od60 an60 : Option Addr} {sl60 : Array (Option Value)} {oc60 kV60 dc60 pm60 cd60 ct60 : Value} {f60 : Addr}
    {od61 an61 : Option Addr} {sl61 : Array (Option Value)} {oc61 kV61 dc61 pm61 cd61 ct61 : Value} {f61 : Addr}
    {od62 an62 : Option Addr} {sl62 : Array (Option Value)} {oc62 kV62 dc62 pm62 cd62 ct62 : Value} {f62 : Addr}
    {od63 an63 : Option Addr} {sl63 : Array (Option Value)} {oc63 kV63 dc63 pm63 cd63 ct63 : Value} {f63 : Addr}
    {od64 an64 : Option Addr} {sl64 : Array (Option Value)} {oc64 kV64 dc64 pm64 cd64 ct64 : Value} {f64 : Addr}
    {od65 an65 : Option Addr} {sl65 : Array (Option Value)} {oc65 kV65 dc65 pm65 cd65 ct65 : Value} {f65 : Addr}
    {od66 an66 : Option Addr} {sl66 : Array (Option Value)} {oc66 kV66 dc66 pm66 cd66 ct66 : Value} {f66 : Addr}
    {od67 an67 : Option Addr} {sl67 : Array (Option Value)} {oc67 kV67 dc67 pm67 cd67 ct67 : Value} {f67 : Addr}
    {od68 an68 : Option Addr} {sl68 : Array (Option Value)} {oc68 kV68 dc68 pm68 cd68 ct68 : Value} {f68 : Addr}
    {od69 an69 : Option Addr} {sl69 : Array (Option Value)} {oc69 kV69 dc69 pm69 cd69 ct69 : Value} {f69 : Addr}
    {od70 an70 : Option Addr} {sl70 : Array (Option Value)} {oc70 kV70 dc70 pm70 cd70 ct70 : Value} {f70 : Addr}
    {od71 an71 : Option Addr} {sl71 : Array (Option Value)} {oc71 kV71 dc71 pm71 cd71 ct71 : Value} {f71 : Addr}
    {od72 an72 : Option Addr} {sl72 : Array (Option Value)} {oc72 kV72 dc72 pm72 cd72 ct72 : Value} {f72 : Addr}
    {od73 an73 : Option Addr} {sl73 : Array (Option Value)} {oc73 kV73 dc73 pm73 cd73 ct73 : Value} {f73 : Addr}
    {od74 an74 : Option Addr} {sl74 : Array (Option Value)} {oc74 kV74 dc74 pm74 cd74 ct74 : Value} {f74 : Addr}
    {od75 an75 : Option Addr} {sl75 : Array (Option Value)} {oc75 kV75 dc75 pm75 cd75 ct75 : Value} {f75 : Addr}
    {od76 an76 : Option Addr} {sl76 : Array (Option Value)} {oc76 kV76 dc76 pm76 cd76 ct76 : Value} {f76 : Addr}
    {od77 an77 : Option Addr} {sl77 : Array (Option Value)} {oc77 kV77 dc77 pm77 cd77 ct77 : Value} {f77 : Addr}
    {od78 an78 : Option Addr} {sl78 : Array (Option Value)} {oc78 kV78 dc78 pm78 cd78 ct78 : Value} {f78 : Addr}
    {od79 an79 : Option Addr} {sl79 : Array (Option Value)} {oc79 kV79 dc79 pm79 cd79 ct79 : Value} {f79 : Addr}
    {c_BodyError : Addr}
    {c_NoShare : Addr}
    {c_NoWay : Addr}
    {c_Over : Addr}
    {k_LEADING : Tok}
    {k_LENGTHY : Tok}
    {n_NOUGHT : Addr} {on_NOUGHT : Option Addr} {nn_NOUGHT : Nat} {sn_NOUGHT : Array (Option Value)} {tn0_NOUGHT tn1_NOUGHT : Tok}
    {odL_gap anL_gap odT_gap : Option Addr} {slL_gap slT_gap : Array (Option Value)} {ocL_gap kvL_gap dcL_gap pmL_gap cdL_gap ctL_gap : Value} {fL_gap dL_gap : Addr} {nT_gap : Nat}
    {odL_share anL_share odT_share : Option Addr} {slL_share slT_share : Array (Option Value)} {ocL_share kvL_share dcL_share pmL_share cdL_share ctL_share : Value} {fL_share dL_share : Addr} {nT_share : Nat}
    {tT_share : Tok}
    (a0 : PySem.W.nsIn K mainGlobals "is_whole" = some (some (.ref f0))) (l0 : K.lookup f0 = some ⟨oc0, od0, .func (PySem.W.fnOf "is_whole" "is_whole" (defArgs s_p_is_whole) (defBody s_p_is_whole) (defScope s_p_is_whole) .none kV0 dc0 pm0 an0 cd0 ct0), sl0⟩) (c0 : PySem.W.codeIn K cd0 "is_whole" = true) (k0 : PySem.W.keepIn K (.ref f0) = true)
    (a1 : PySem.W.nsIn K mainGlobals "divided" = some (some (.ref f1))) (l1 : K.lookup f1 = some ⟨oc1, od1, .func (PySem.W.fnOf "divided" "divided" (defArgs s_p_divided) (defBody s_p_divided) (defScope s_p_divided) .none kV1 dc1 pm1 an1 cd1 ct1), sl1⟩) (c1 : PySem.W.codeIn K cd1 "divided" = true) (k1 : PySem.W.keepIn K (.ref f1) = true)
    (a2 : PySem.W.nsIn K mainGlobals "shortened" = some (some (.ref f2))) (l2 : K.lookup f2 = some ⟨oc2, od2, .func (PySem.W.fnOf "shortened" "shortened" (defArgs s_p_shortened) (defBody s_p_shortened) (defScope s_p_shortened) .none kV2 dc2 pm2 an2 cd2 ct2), sl2⟩) (c2 : PySem.W.codeIn K cd2 "shortened" = true) (k2 : PySem.W.keepIn K (.ref f2) = true)
    (a3 : PySem.W.nsIn K mainGlobals "common_divisor" = some (some (.ref f3))) (l3 : K.lookup f3 = some ⟨oc3, od3, .func (PySem.W.fnOf "common_divisor" "common_divisor" (defArgs s_p_common_divisor) (defBody s_p_common_divisor) (defScope s_p_common_divisor) .none kV3 dc3 pm3 an3 cd3 ct3), sl3⟩) (c3 : PySem.W.codeIn K cd3 "common_divisor" = true) (k3 : PySem.W.keepIn K (.ref f3) = true)
    (a4 : PySem.W.nsIn K mainGlobals "is_share" = some (some (.ref f4))) (l4 : K.lookup f4 = some ⟨oc4, od4, .func (PySem.W.fnOf "is_share" "is_share" (defArgs s_p_is_share) (defBody s_p_is_share) (defScope s_p_is_share) .none kV4 dc4 pm4 an4 cd4 ct4), sl4⟩) (c4 : PySem.W.codeIn K cd4 "is_share" = true) (k4 : PySem.W.keepIn K (.ref f4) = true)
    (a6 : PySem.W.nsIn K mainGlobals "plus" = some (some (.ref f6))) (l6 : K.lookup f6 = some ⟨oc6, od6, .func (PySem.W.fnOf "plus" "plus" (defArgs s_p_plus) (defBody s_p_plus) (defScope s_p_plus) .none kV6 dc6 pm6 an6 cd6 ct6), sl6⟩) (c6 : PySem.W.codeIn K cd6 "plus" = true) (k6 : PySem.W.keepIn K (.ref f6) = true)
    (a7 : PySem.W.nsIn K mainGlobals "minus" = some (some (.ref f7))) (l7 : K.lookup f7 = some ⟨oc7, od7, .func (PySem.W.fnOf "minus" "minus" (defArgs s_p_minus) (defBody s_p_minus) (defScope s_p_minus) .none kV7 dc7 pm7 an7 cd7 ct7), sl7⟩) (c7 : PySem.W.codeIn K cd7 "minus" = true) (k7 : PySem.W.keepIn K (.ref f7) = true)
    (a8 : PySem.W.nsIn K mainGlobals "times" = some (some (.ref f8))) (l8 : K.lookup f8 = some ⟨oc8, od8, .func (PySem.W.fnOf "times" "times" (defArgs s_p_times) (defBody s_p_times) (defScope s_p_times) .none kV8 dc8 pm8 an8 cd8 ct8), sl8⟩) (c8 : PySem.W.codeIn K cd8 "times" = true) (k8 : PySem.W.keepIn K (.ref f8) = true)
    (a9 : PySem.W.nsIn K mainGlobals "order" = some (some (.ref f9))) (l9 : K.lookup f9 = some ⟨oc9, od9, .func (PySem.W.fnOf "order" "order" (defArgs s_p_order) (defBody s_p_order) (defScope s_p_order) .none kV9 dc9 pm9 an9 cd9 ct9), sl9⟩) (c9 : PySem.W.codeIn K cd9 "order" = true) (k9 : PySem.W.keepIn K (.ref f9) = true)
    (a10 : PySem.W.nsIn K mainGlobals "on_one_bottom" = some (some (.ref f10))) (l10 : K.lookup f10 = some ⟨oc10, od10, .func (PySem.W.fnOf "on_one_bottom" "on_one_bottom" (defArgs s_p_on_one_bottom) (defBody s_p_on_one_bottom) (defScope s_p_on_one_bottom) .none kV10 dc10 pm10 an10 cd10 ct10), sl10⟩) (c10 : PySem.W.codeIn K cd10 "on_one_bottom" = true) (k10 : PySem.W.keepIn K (.ref f10) = true)
    (a11 : PySem.W.nsIn K mainGlobals "is_way" = some (some (.ref f11))) (l11 : K.lookup f11 = some ⟨oc11, od11, .func (PySem.W.fnOf "is_way" "is_way" (defArgs s_p_is_way) (defBody s_p_is_way) (defScope s_p_is_way) .none kV11 dc11 pm11 an11 cd11 ct11), sl11⟩) (c11 : PySem.W.codeIn K cd11 "is_way" = true) (k11 : PySem.W.keepIn K (.ref f11) = true)
    (a12 : PySem.W.nsIn K mainGlobals "way_of" = some (some (.ref f12))) (l12 : K.lookup f12 = some ⟨oc12, od12, .func (PySem.W.fnOf "way_of" "way_of" (defArgs s_p_way_of) (defBody s_p_way_of) (defScope s_p_way_of) .none kV12 dc12 pm12 an12 cd12 ct12), sl12⟩) (c12 : PySem.W.codeIn K cd12 "way_of" = true) (k12 : PySem.W.keepIn K (.ref f12) = true)
    (a13 : PySem.W.nsIn K mainGlobals "along" = some (some (.ref f13))) (l13 : K.lookup f13 = some ⟨oc13, od13, .func (PySem.W.fnOf "along" "along" (defArgs s_p_along) (defBody s_p_along) (defScope s_p_along) .none kV13 dc13 pm13 an13 cd13 ct13), sl13⟩) (c13 : PySem.W.codeIn K cd13 "along" = true) (k13 : PySem.W.keepIn K (.ref f13) = true)
    (a14 : PySem.W.nsIn K mainGlobals "spot_plus" = some (some (.ref f14))) (l14 : K.lookup f14 = some ⟨oc14, od14, .func (PySem.W.fnOf "spot_plus" "spot_plus" (defArgs s_p_spot_plus) (defBody s_p_spot_plus) (defScope s_p_spot_plus) .none kV14 dc14 pm14 an14 cd14 ct14), sl14⟩) (c14 : PySem.W.codeIn K cd14 "spot_plus" = true) (k14 : PySem.W.keepIn K (.ref f14) = true)
    (a15 : PySem.W.nsIn K mainGlobals "spot_minus" = some (some (.ref f15))) (l15 : K.lookup f15 = some ⟨oc15, od15, .func (PySem.W.fnOf "spot_minus" "spot_minus" (defArgs s_p_spot_minus) (defBody s_p_spot_minus) (defScope s_p_spot_minus) .none kV15 dc15 pm15 an15 cd15 ct15), sl15⟩) (c15 : PySem.W.codeIn K cd15 "spot_minus" = true) (k15 : PySem.W.keepIn K (.ref f15) = true)
    (a16 : PySem.W.nsIn K mainGlobals "spot_times" = some (some (.ref f16))) (l16 : K.lookup f16 = some ⟨oc16, od16, .func (PySem.W.fnOf "spot_times" "spot_times" (defArgs s_p_spot_times) (defBody s_p_spot_times) (defScope s_p_spot_times) .none kV16 dc16 pm16 an16 cd16 ct16), sl16⟩) (c16 : PySem.W.codeIn K cd16 "spot_times" = true) (k16 : PySem.W.keepIn K (.ref f16) = true)
    (a17 : PySem.W.nsIn K mainGlobals "side_ends" = some (some (.ref f17))) (l17 : K.lookup f17 = some ⟨oc17, od17, .func (PySem.W.fnOf "side_ends" "side_ends" (defArgs s_p_side_ends) (defBody s_p_side_ends) (defScope s_p_side_ends) .none kV17 dc17 pm17 an17 cd17 ct17), sl17⟩) (c17 : PySem.W.codeIn K cd17 "side_ends" = true) (k17 : PySem.W.keepIn K (.ref f17) = true)
    (a18 : PySem.W.nsIn K mainGlobals "outwards" = some (some (.ref f18))) (l18 : K.lookup f18 = some ⟨oc18, od18, .func (PySem.W.fnOf "outwards" "outwards" (defArgs s_p_outwards) (defBody s_p_outwards) (defScope s_p_outwards) .none kV18 dc18 pm18 an18 cd18 ct18), sl18⟩) (c18 : PySem.W.codeIn K cd18 "outwards" = true) (k18 : PySem.W.keepIn K (.ref f18) = true)
    (a19 : PySem.W.nsIn K mainGlobals "sides" = some (some (.ref f19))) (l19 : K.lookup f19 = some ⟨oc19, od19, .func (PySem.W.fnOf "sides" "sides" (defArgs s_p_sides) (defBody s_p_sides) (defScope s_p_sides) .none kV19 dc19 pm19 an19 cd19 ct19), sl19⟩) (c19 : PySem.W.codeIn K cd19 "sides" = true) (k19 : PySem.W.keepIn K (.ref f19) = true)
    (a20 : PySem.W.nsIn K mainGlobals "reach" = some (some (.ref f20))) (l20 : K.lookup f20 = some ⟨oc20, od20, .func (PySem.W.fnOf "reach" "reach" (defArgs s_p_reach) (defBody s_p_reach) (defScope s_p_reach) .none kV20 dc20 pm20 an20 cd20 ct20), sl20⟩) (c20 : PySem.W.codeIn K cd20 "reach" = true) (k20 : PySem.W.keepIn K (.ref f20) = true)
    (a21 : PySem.W.nsIn K mainGlobals "turned" = some (some (.ref f21))) (l21 : K.lookup f21 = some ⟨oc21, od21, .func (PySem.W.fnOf "turned" "turned" (defArgs s_p_turned) (defBody s_p_turned) (defScope s_p_turned) .none kV21 dc21 pm21 an21 cd21 ct21), sl21⟩) (c21 : PySem.W.codeIn K cd21 "turned" = true) (k21 : PySem.W.keepIn K (.ref f21) = true)
    (a22 : PySem.W.nsIn K mainGlobals "pair_ways" = some (some (.ref f22))) (l22 : K.lookup f22 = some ⟨oc22, od22, .func (PySem.W.fnOf "pair_ways" "pair_ways" (defArgs s_p_pair_ways) (defBody s_p_pair_ways) (defScope s_p_pair_ways) .none kV22 dc22 pm22 an22 cd22 ct22), sl22⟩) (c22 : PySem.W.codeIn K cd22 "pair_ways" = true) (k22 : PySem.W.keepIn K (.ref f22) = true)
    (a23 : PySem.W.nsIn K mainGlobals "width" = some (some (.ref f23))) (l23 : K.lookup f23 = some ⟨oc23, od23, .func (PySem.W.fnOf "width" "width" (defArgs s_p_width) (defBody s_p_width) (defScope s_p_width) .none kV23 dc23 pm23 an23 cd23 ct23), sl23⟩) (c23 : PySem.W.codeIn K cd23 "width" = true) (k23 : PySem.W.keepIn K (.ref f23) = true)
    (a24 : PySem.W.nsIn K mainGlobals "place_apart" = some (some (.ref f24))) (l24 : K.lookup f24 = some ⟨oc24, od24, .func (PySem.W.fnOf "place_apart" "place_apart" (defArgs s_p_place_apart) (defBody s_p_place_apart) (defScope s_p_place_apart) .none kV24 dc24 pm24 an24 cd24 ct24), sl24⟩) (c24 : PySem.W.codeIn K cd24 "place_apart" = true) (k24 : PySem.W.keepIn K (.ref f24) = true)
    (a25 : PySem.W.nsIn K mainGlobals "speed_apart" = some (some (.ref f25))) (l25 : K.lookup f25 = some ⟨oc25, od25, .func (PySem.W.fnOf "speed_apart" "speed_apart" (defArgs s_p_speed_apart) (defBody s_p_speed_apart) (defScope s_p_speed_apart) .none kV25 dc25 pm25 an25 cd25 ct25), sl25⟩) (c25 : PySem.W.codeIn K cd25 "speed_apart" = true) (k25 : PySem.W.keepIn K (.ref f25) = true)
    (a26 : PySem.W.nsIn K mainGlobals "offset" = some (some (.ref f26))) (l26 : K.lookup f26 = some ⟨oc26, od26, .func (PySem.W.fnOf "offset" "offset" (defArgs s_p_offset) (defBody s_p_offset) (defScope s_p_offset) .none kV26 dc26 pm26 an26 cd26 ct26), sl26⟩) (c26 : PySem.W.codeIn K cd26 "offset" = true) (k26 : PySem.W.keepIn K (.ref f26) = true)
    (a28 : PySem.W.nsIn K mainGlobals "courses" = some (some (.ref f28))) (l28 : K.lookup f28 = some ⟨oc28, od28, .func (PySem.W.fnOf "courses" "courses" (defArgs s_p_courses) (defBody s_p_courses) (defScope s_p_courses) .none kV28 dc28 pm28 an28 cd28 ct28), sl28⟩) (c28 : PySem.W.codeIn K cd28 "courses" = true) (k28 : PySem.W.keepIn K (.ref f28) = true)
    (a29 : PySem.W.nsIn K mainGlobals "height" = some (some (.ref f29))) (l29 : K.lookup f29 = some ⟨oc29, od29, .func (PySem.W.fnOf "height" "height" (defArgs s_p_height) (defBody s_p_height) (defScope s_p_height) .none kV29 dc29 pm29 an29 cd29 ct29), sl29⟩) (c29 : PySem.W.codeIn K cd29 "height" = true) (k29 : PySem.W.keepIn K (.ref f29) = true)
    (a30 : PySem.W.nsIn K mainGlobals "time_of" = some (some (.ref f30))) (l30 : K.lookup f30 = some ⟨oc30, od30, .func (PySem.W.fnOf "time_of" "time_of" (defArgs s_p_time_of) (defBody s_p_time_of) (defScope s_p_time_of) .none kV30 dc30 pm30 an30 cd30 ct30), sl30⟩) (c30 : PySem.W.codeIn K cd30 "time_of" = true) (k30 : PySem.W.keepIn K (.ref f30) = true)
    (a31 : PySem.W.nsIn K mainGlobals "meets_along" = some (some (.ref f31))) (l31 : K.lookup f31 = some ⟨oc31, od31, .func (PySem.W.fnOf "meets_along" "meets_along" (defArgs s_p_meets_along) (defBody s_p_meets_along) (defScope s_p_meets_along) .none kV31 dc31 pm31 an31 cd31 ct31), sl31⟩) (c31 : PySem.W.codeIn K cd31 "meets_along" = true) (k31 : PySem.W.keepIn K (.ref f31) = true)
    (a32 : PySem.W.nsIn K mainGlobals "meeting_courses" = some (some (.ref f32))) (l32 : K.lookup f32 = some ⟨oc32, od32, .func (PySem.W.fnOf "meeting_courses" "meeting_courses" (defArgs s_p_meeting_courses) (defBody s_p_meeting_courses) (defScope s_p_meeting_courses) .none kV32 dc32 pm32 an32 cd32 ct32), sl32⟩) (c32 : PySem.W.codeIn K cd32 "meeting_courses" = true) (k32 : PySem.W.keepIn K (.ref f32) = true)
    (a33 : PySem.W.nsIn K mainGlobals "upright_ways" = some (some (.ref f33))) (l33 : K.lookup f33 = some ⟨oc33, od33, .func (PySem.W.fnOf "upright_ways" "upright_ways" (defArgs s_p_upright_ways) (defBody s_p_upright_ways) (defScope s_p_upright_ways) .none kV33 dc33 pm33 an33 cd33 ct33), sl33⟩) (c33 : PySem.W.codeIn K cd33 "upright_ways" = true) (k33 : PySem.W.keepIn K (.ref f33) = true)
    (a34 : PySem.W.nsIn K mainGlobals "is_clear" = some (some (.ref f34))) (l34 : K.lookup f34 = some ⟨oc34, od34, .func (PySem.W.fnOf "is_clear" "is_clear" (defArgs s_p_is_clear) (defBody s_p_is_clear) (defScope s_p_is_clear) .none kV34 dc34 pm34 an34 cd34 ct34), sl34⟩) (c34 : PySem.W.codeIn K cd34 "is_clear" = true) (k34 : PySem.W.keepIn K (.ref f34) = true)
    (a35 : PySem.W.nsIn K mainGlobals "clear_way" = some (some (.ref f35))) (l35 : K.lookup f35 = some ⟨oc35, od35, .func (PySem.W.fnOf "clear_way" "clear_way" (defArgs s_p_clear_way) (defBody s_p_clear_way) (defScope s_p_clear_way) .none kV35 dc35 pm35 an35 cd35 ct35), sl35⟩) (c35 : PySem.W.codeIn K cd35 "clear_way" = true) (k35 : PySem.W.keepIn K (.ref f35) = true)
    (a36 : PySem.W.nsIn K mainGlobals "first" = some (some (.ref f36))) (l36 : K.lookup f36 = some ⟨oc36, od36, .func (PySem.W.fnOf "first" "first" (defArgs s_p_first) (defBody s_p_first) (defScope s_p_first) .none kV36 dc36 pm36 an36 cd36 ct36), sl36⟩) (c36 : PySem.W.codeIn K cd36 "first" = true) (k36 : PySem.W.keepIn K (.ref f36) = true)
    (a37 : PySem.W.nsIn K mainGlobals "is_meeting" = some (some (.ref f37))) (l37 : K.lookup f37 = some ⟨oc37, od37, .func (PySem.W.fnOf "is_meeting" "is_meeting" (defArgs s_p_is_meeting) (defBody s_p_is_meeting) (defScope s_p_is_meeting) .none kV37 dc37 pm37 an37 cd37 ct37), sl37⟩) (c37 : PySem.W.codeIn K cd37 "is_meeting" = true) (k37 : PySem.W.keepIn K (.ref f37) = true)
    (a38 : PySem.W.nsIn K mainGlobals "first_held" = some (some (.ref f38))) (l38 : K.lookup f38 = some ⟨oc38, od38, .func (PySem.W.fnOf "first_held" "first_held" (defArgs s_p_first_held) (defBody s_p_first_held) (defScope s_p_first_held) .none kV38 dc38 pm38 an38 cd38 ct38), sl38⟩) (c38 : PySem.W.codeIn K cd38 "first_held" = true) (k38 : PySem.W.keepIn K (.ref f38) = true)
    (a39 : PySem.W.nsIn K mainGlobals "_law_cell" = some (some (.ref f39))) (l39 : K.lookup f39 = some ⟨oc39, od39, .func (PySem.W.fnOf "_law_cell" "_law_cell" (defArgs s_l_cell) (defBody s_l_cell) (defScope s_l_cell) .none kV39 dc39 pm39 an39 cd39 ct39), sl39⟩) (c39 : PySem.W.codeIn K cd39 "_law_cell" = true) (k39 : PySem.W.keepIn K (.ref f39) = true)
    (a40 : PySem.W.nsIn K mainGlobals "_law_deck" = some (some (.ref f40))) (l40 : K.lookup f40 = some ⟨oc40, od40, .func (PySem.W.fnOf "_law_deck" "_law_deck" (defArgs s_l_deck) (defBody s_l_deck) (defScope s_l_deck) .none kV40 dc40 pm40 an40 cd40 ct40), sl40⟩) (c40 : PySem.W.codeIn K cd40 "_law_deck" = true) (k40 : PySem.W.keepIn K (.ref f40) = true)
    (a41 : PySem.W.nsIn K mainGlobals "_law_take" = some (some (.ref f41))) (l41 : K.lookup f41 = some ⟨oc41, od41, .func (PySem.W.fnOf "_law_take" "_law_take" (defArgs s_l_take) (defBody s_l_take) (defScope s_l_take) .none kV41 dc41 pm41 an41 cd41 ct41), sl41⟩) (c41 : PySem.W.codeIn K cd41 "_law_take" = true) (k41 : PySem.W.keepIn K (.ref f41) = true)
    (a42 : PySem.W.nsIn K mainGlobals "_law_long" = some (some (.ref f42))) (l42 : K.lookup f42 = some ⟨oc42, od42, .func (PySem.W.fnOf "_law_long" "_law_long" (defArgs s_l_long) (defBody s_l_long) (defScope s_l_long) .none kV42 dc42 pm42 an42 cd42 ct42), sl42⟩) (c42 : PySem.W.codeIn K cd42 "_law_long" = true) (k42 : PySem.W.keepIn K (.ref f42) = true)
    (a43 : PySem.W.nsIn K mainGlobals "_law_gcd" = some (some (.ref f43))) (l43 : K.lookup f43 = some ⟨oc43, od43, .func (PySem.W.fnOf "_law_gcd" "_law_gcd" (defArgs s_l_gcd) (defBody s_l_gcd) (defScope s_l_gcd) .none kV43 dc43 pm43 an43 cd43 ct43), sl43⟩) (c43 : PySem.W.codeIn K cd43 "_law_gcd" = true) (k43 : PySem.W.keepIn K (.ref f43) = true)
    (a44 : PySem.W.nsIn K mainGlobals "_law_share" = some (some (.ref f44))) (l44 : K.lookup f44 = some ⟨oc44, od44, .func (PySem.W.fnOf "_law_share" "_law_share" (defArgs s_l_share) (defBody s_l_share) (defScope s_l_share) .none kV44 dc44 pm44 an44 cd44 ct44), sl44⟩) (c44 : PySem.W.codeIn K cd44 "_law_share" = true) (k44 : PySem.W.keepIn K (.ref f44) = true)
    (a45 : PySem.W.nsIn K mainGlobals "_law_plus" = some (some (.ref f45))) (l45 : K.lookup f45 = some ⟨oc45, od45, .func (PySem.W.fnOf "_law_plus" "_law_plus" (defArgs s_l_plus) (defBody s_l_plus) (defScope s_l_plus) .none kV45 dc45 pm45 an45 cd45 ct45), sl45⟩) (c45 : PySem.W.codeIn K cd45 "_law_plus" = true) (k45 : PySem.W.keepIn K (.ref f45) = true)
    (a46 : PySem.W.nsIn K mainGlobals "_law_times" = some (some (.ref f46))) (l46 : K.lookup f46 = some ⟨oc46, od46, .func (PySem.W.fnOf "_law_times" "_law_times" (defArgs s_l_times) (defBody s_l_times) (defScope s_l_times) .none kV46 dc46 pm46 an46 cd46 ct46), sl46⟩) (c46 : PySem.W.codeIn K cd46 "_law_times" = true) (k46 : PySem.W.keepIn K (.ref f46) = true)
    (a47 : PySem.W.nsIn K mainGlobals "_law_along" = some (some (.ref f47))) (l47 : K.lookup f47 = some ⟨oc47, od47, .func (PySem.W.fnOf "_law_along" "_law_along" (defArgs s_l_along) (defBody s_l_along) (defScope s_l_along) .none kV47 dc47 pm47 an47 cd47 ct47), sl47⟩) (c47 : PySem.W.codeIn K cd47 "_law_along" = true) (k47 : PySem.W.keepIn K (.ref f47) = true)
    (a48 : PySem.W.nsIn K mainGlobals "_law_spot" = some (some (.ref f48))) (l48 : K.lookup f48 = some ⟨oc48, od48, .func (PySem.W.fnOf "_law_spot" "_law_spot" (defArgs s_l_spot) (defBody s_l_spot) (defScope s_l_spot) .none kV48 dc48 pm48 an48 cd48 ct48), sl48⟩) (c48 : PySem.W.codeIn K cd48 "_law_spot" = true) (k48 : PySem.W.keepIn K (.ref f48) = true)
    (a49 : PySem.W.nsIn K mainGlobals "_law_spot_plus" = some (some (.ref f49))) (l49 : K.lookup f49 = some ⟨oc49, od49, .func (PySem.W.fnOf "_law_spot_plus" "_law_spot_plus" (defArgs s_l_spot_plus) (defBody s_l_spot_plus) (defScope s_l_spot_plus) .none kV49 dc49 pm49 an49 cd49 ct49), sl49⟩) (c49 : PySem.W.codeIn K cd49 "_law_spot_plus" = true) (k49 : PySem.W.keepIn K (.ref f49) = true)
    (a50 : PySem.W.nsIn K mainGlobals "_law_spot_times" = some (some (.ref f50))) (l50 : K.lookup f50 = some ⟨oc50, od50, .func (PySem.W.fnOf "_law_spot_times" "_law_spot_times" (defArgs s_l_spot_times) (defBody s_l_spot_times) (defScope s_l_spot_times) .none kV50 dc50 pm50 an50 cd50 ct50), sl50⟩) (c50 : PySem.W.codeIn K cd50 "_law_spot_times" = true) (k50 : PySem.W.keepIn K (.ref f50) = true)
    (a51 : PySem.W.nsIn K mainGlobals "_law_left" = some (some (.ref f51))) (l51 : K.lookup f51 = some ⟨oc51, od51, .func (PySem.W.fnOf "_law_left" "_law_left" (defArgs s_l_left) (defBody s_l_left) (defScope s_l_left) .none kV51 dc51 pm51 an51 cd51 ct51), sl51⟩) (c51 : PySem.W.codeIn K cd51 "_law_left" = true) (k51 : PySem.W.keepIn K (.ref f51) = true)
    (a52 : PySem.W.nsIn K mainGlobals "_law_half" = some (some (.ref f52))) (l52 : K.lookup f52 = some ⟨oc52, od52, .func (PySem.W.fnOf "_law_half" "_law_half" (defArgs s_l_half) (defBody s_l_half) (defScope s_l_half) .none kV52 dc52 pm52 an52 cd52 ct52), sl52⟩) (c52 : PySem.W.codeIn K cd52 "_law_half" = true) (k52 : PySem.W.keepIn K (.ref f52) = true)
    (a53 : PySem.W.nsIn K mainGlobals "_law_number" = some (some (.ref f53))) (l53 : K.lookup f53 = some ⟨oc53, od53, .func (PySem.W.fnOf "_law_number" "_law_number" (defArgs s_l_number) (defBody s_l_number) (defScope s_l_number) .none kV53 dc53 pm53 an53 cd53 ct53), sl53⟩) (c53 : PySem.W.codeIn K cd53 "_law_number" = true) (k53 : PySem.W.keepIn K (.ref f53) = true)
    (a54 : PySem.W.nsIn K mainGlobals "_law_eight" = some (some (.ref f54))) (l54 : K.lookup f54 = some ⟨oc54, od54, .func (PySem.W.fnOf "_law_eight" "_law_eight" (defArgs s_l_eight) (defBody s_l_eight) (defScope s_l_eight) .none kV54 dc54 pm54 an54 cd54 ct54), sl54⟩) (c54 : PySem.W.codeIn K cd54 "_law_eight" = true) (k54 : PySem.W.keepIn K (.ref f54) = true)
    (a55 : PySem.W.nsIn K mainGlobals "_law_shape" = some (some (.ref f55))) (l55 : K.lookup f55 = some ⟨oc55, od55, .func (PySem.W.fnOf "_law_shape" "_law_shape" (defArgs s_l_shape) (defBody s_l_shape) (defScope s_l_shape) .none kV55 dc55 pm55 an55 cd55 ct55), sl55⟩) (c55 : PySem.W.codeIn K cd55 "_law_shape" = true) (k55 : PySem.W.keepIn K (.ref f55) = true)
    (a56 : PySem.W.nsIn K mainGlobals "_law_ways" = some (some (.ref f56))) (l56 : K.lookup f56 = some ⟨oc56, od56, .func (PySem.W.fnOf "_law_ways" "_law_ways" (defArgs s_l_ways) (defBody s_l_ways) (defScope s_l_ways) .none kV56 dc56 pm56 an56 cd56 ct56), sl56⟩) (c56 : PySem.W.codeIn K cd56 "_law_ways" = true) (k56 : PySem.W.keepIn K (.ref f56) = true)
    (a57 : PySem.W.nsIn K mainGlobals "_law_way" = some (some (.ref f57))) (l57 : K.lookup f57 = some ⟨oc57, od57, .func (PySem.W.fnOf "_law_way" "_law_way" (defArgs s_l_way) (defBody s_l_way) (defScope s_l_way) .none kV57 dc57 pm57 an57 cd57 ct57), sl57⟩) (c57 : PySem.W.codeIn K cd57 "_law_way" = true) (k57 : PySem.W.keepIn K (.ref f57) = true)
    (a58 : PySem.W.nsIn K mainGlobals "_law_pair_ways" = some (some (.ref f58))) (l58 : K.lookup f58 = some ⟨oc58, od58, .func (PySem.W.fnOf "_law_pair_ways" "_law_pair_ways" (defArgs s_l_pair_ways) (defBody s_l_pair_ways) (defScope s_l_pair_ways) .none kV58 dc58 pm58 an58 cd58 ct58), sl58⟩) (c58 : PySem.W.codeIn K cd58 "_law_pair_ways" = true) (k58 : PySem.W.keepIn K (.ref f58) = true)
    (a59 : PySem.W.nsIn K mainGlobals "_law_reach" = some (some (.ref f59))) (l59 : K.lookup f59 = some ⟨oc59, od59, .func (PySem.W.fnOf "_law_reach" "_law_reach" (defArgs s_l_reach) (defBody s_l_reach) (defScope s_l_reach) .none kV59 dc59 pm59 an59 cd59 ct59), sl59⟩) (c59 : PySem.W.codeIn K cd59 "_law_reach" = true) (k59 : PySem.W.keepIn K (.ref f59) = true)
    (a60 : PySem.W.nsIn K mainGlobals "_law_between" = some (some (.ref f60))) (l60 : K.lookup f60 = some ⟨oc60, od60, .func (PySem.W.fnOf "_law_between" "_law_between" (defArgs s_l_between) (defBody s_l_between) (defScope s_l_between) .none kV60 dc60 pm60 an60 cd60 ct60), sl60⟩) (c60 : PySem.W.codeIn K cd60 "_law_between" = true) (k60 : PySem.W.keepIn K (.ref f60) = true)
    (a61 : PySem.W.nsIn K mainGlobals "_law_room" = some (some (.ref f61))) (l61 : K.lookup f61 = some ⟨oc61, od61, .func (PySem.W.fnOf "_law_room" "_law_room" (defArgs s_l_room) (defBody s_l_room) (defScope s_l_room) .none kV61 dc61 pm61 an61 cd61 ct61), sl61⟩) (c61 : PySem.W.codeIn K cd61 "_law_room" = true) (k61 : PySem.W.keepIn K (.ref f61) = true)
    (a62 : PySem.W.nsIn K mainGlobals "_law_rooms" = some (some (.ref f62))) (l62 : K.lookup f62 = some ⟨oc62, od62, .func (PySem.W.fnOf "_law_rooms" "_law_rooms" (defArgs s_l_rooms) (defBody s_l_rooms) (defScope s_l_rooms) .none kV62 dc62 pm62 an62 cd62 ct62), sl62⟩) (c62 : PySem.W.codeIn K cd62 "_law_rooms" = true) (k62 : PySem.W.keepIn K (.ref f62) = true)
    (a63 : PySem.W.nsIn K mainGlobals "_law_over" = some (some (.ref f63))) (l63 : K.lookup f63 = some ⟨oc63, od63, .func (PySem.W.fnOf "_law_over" "_law_over" (defArgs s_l_over) (defBody s_l_over) (defScope s_l_over) .none kV63 dc63 pm63 an63 cd63 ct63), sl63⟩) (c63 : PySem.W.codeIn K cd63 "_law_over" = true) (k63 : PySem.W.keepIn K (.ref f63) = true)
    (a64 : PySem.W.nsIn K mainGlobals "_law_speeding" = some (some (.ref f64))) (l64 : K.lookup f64 = some ⟨oc64, od64, .func (PySem.W.fnOf "_law_speeding" "_law_speeding" (defArgs s_l_speeding) (defBody s_l_speeding) (defScope s_l_speeding) .none kV64 dc64 pm64 an64 cd64 ct64), sl64⟩) (c64 : PySem.W.codeIn K cd64 "_law_speeding" = true) (k64 : PySem.W.keepIn K (.ref f64) = true)
    (a65 : PySem.W.nsIn K mainGlobals "_law_names" = some (some (.ref f65))) (l65 : K.lookup f65 = some ⟨oc65, od65, .func (PySem.W.fnOf "_law_names" "_law_names" (defArgs s_l_names) (defBody s_l_names) (defScope s_l_names) .none kV65 dc65 pm65 an65 cd65 ct65), sl65⟩) (c65 : PySem.W.codeIn K cd65 "_law_names" = true) (k65 : PySem.W.keepIn K (.ref f65) = true)
    (a66 : PySem.W.nsIn K mainGlobals "_law_drawn" = some (some (.ref f66))) (l66 : K.lookup f66 = some ⟨oc66, od66, .func (PySem.W.fnOf "_law_drawn" "_law_drawn" (defArgs s_l_drawn) (defBody s_l_drawn) (defScope s_l_drawn) .none kV66 dc66 pm66 an66 cd66 ct66), sl66⟩) (c66 : PySem.W.codeIn K cd66 "_law_drawn" = true) (k66 : PySem.W.keepIn K (.ref f66) = true)
    (a67 : PySem.W.nsIn K mainGlobals "_law_row" = some (some (.ref f67))) (l67 : K.lookup f67 = some ⟨oc67, od67, .func (PySem.W.fnOf "_law_row" "_law_row" (defArgs s_l_row) (defBody s_l_row) (defScope s_l_row) .none kV67 dc67 pm67 an67 cd67 ct67), sl67⟩) (c67 : PySem.W.codeIn K cd67 "_law_row" = true) (k67 : PySem.W.keepIn K (.ref f67) = true)
    (a68 : PySem.W.nsIn K mainGlobals "_law_pair" = some (some (.ref f68))) (l68 : K.lookup f68 = some ⟨oc68, od68, .func (PySem.W.fnOf "_law_pair" "_law_pair" (defArgs s_l_pair) (defBody s_l_pair) (defScope s_l_pair) .none kV68 dc68 pm68 an68 cd68 ct68), sl68⟩) (c68 : PySem.W.codeIn K cd68 "_law_pair" = true) (k68 : PySem.W.keepIn K (.ref f68) = true)
    (a69 : PySem.W.nsIn K mainGlobals "_law_until" = some (some (.ref f69))) (l69 : K.lookup f69 = some ⟨oc69, od69, .func (PySem.W.fnOf "_law_until" "_law_until" (defArgs s_l_until) (defBody s_l_until) (defScope s_l_until) .none kV69 dc69 pm69 an69 cd69 ct69), sl69⟩) (c69 : PySem.W.codeIn K cd69 "_law_until" = true) (k69 : PySem.W.keepIn K (.ref f69) = true)
    (a70 : PySem.W.nsIn K mainGlobals "_law_is_whole" = some (some (.ref f70))) (l70 : K.lookup f70 = some ⟨oc70, od70, .func (PySem.W.fnOf "_law_is_whole" "_law_is_whole" (defArgs s_l_is_whole) (defBody s_l_is_whole) (defScope s_l_is_whole) .none kV70 dc70 pm70 an70 cd70 ct70), sl70⟩) (c70 : PySem.W.codeIn K cd70 "_law_is_whole" = true) (k70 : PySem.W.keepIn K (.ref f70) = true)
    (a71 : PySem.W.nsIn K mainGlobals "_law_is_share" = some (some (.ref f71))) (l71 : K.lookup f71 = some ⟨oc71, od71, .func (PySem.W.fnOf "_law_is_share" "_law_is_share" (defArgs s_l_is_share) (defBody s_l_is_share) (defScope s_l_is_share) .none kV71 dc71 pm71 an71 cd71 ct71), sl71⟩) (c71 : PySem.W.codeIn K cd71 "_law_is_share" = true) (k71 : PySem.W.keepIn K (.ref f71) = true)
    (a72 : PySem.W.nsIn K mainGlobals "_law_is_way" = some (some (.ref f72))) (l72 : K.lookup f72 = some ⟨oc72, od72, .func (PySem.W.fnOf "_law_is_way" "_law_is_way" (defArgs s_l_is_way) (defBody s_l_is_way) (defScope s_l_is_way) .none kV72 dc72 pm72 an72 cd72 ct72), sl72⟩) (c72 : PySem.W.codeIn K cd72 "_law_is_way" = true) (k72 : PySem.W.keepIn K (.ref f72) = true)
    (a73 : PySem.W.nsIn K mainGlobals "_law_meets" = some (some (.ref f73))) (l73 : K.lookup f73 = some ⟨oc73, od73, .func (PySem.W.fnOf "_law_meets" "_law_meets" (defArgs s_l_meets) (defBody s_l_meets) (defScope s_l_meets) .none kV73 dc73 pm73 an73 cd73 ct73), sl73⟩) (c73 : PySem.W.codeIn K cd73 "_law_meets" = true) (k73 : PySem.W.keepIn K (.ref f73) = true)
    (a74 : PySem.W.nsIn K mainGlobals "_law_due" = some (some (.ref f74))) (l74 : K.lookup f74 = some ⟨oc74, od74, .func (PySem.W.fnOf "_law_due" "_law_due" (defArgs s_l_due) (defBody s_l_due) (defScope s_l_due) .none kV74 dc74 pm74 an74 cd74 ct74), sl74⟩) (c74 : PySem.W.codeIn K cd74 "_law_due" = true) (k74 : PySem.W.keepIn K (.ref f74) = true)
    (a75 : PySem.W.nsIn K mainGlobals "_law_crossings" = some (some (.ref f75))) (l75 : K.lookup f75 = some ⟨oc75, od75, .func (PySem.W.fnOf "_law_crossings" "_law_crossings" (defArgs s_l_crossings) (defBody s_l_crossings) (defScope s_l_crossings) .none kV75 dc75 pm75 an75 cd75 ct75), sl75⟩) (c75 : PySem.W.codeIn K cd75 "_law_crossings" = true) (k75 : PySem.W.keepIn K (.ref f75) = true)
    (a76 : PySem.W.nsIn K mainGlobals "_law_upright" = some (some (.ref f76))) (l76 : K.lookup f76 = some ⟨oc76, od76, .func (PySem.W.fnOf "_law_upright" "_law_upright" (defArgs s_l_upright) (defBody s_l_upright) (defScope s_l_upright) .none kV76 dc76 pm76 an76 cd76 ct76), sl76⟩) (c76 : PySem.W.codeIn K cd76 "_law_upright" = true) (k76 : PySem.W.keepIn K (.ref f76) = true)
    (a77 : PySem.W.nsIn K mainGlobals "_law_bent" = some (some (.ref f77))) (l77 : K.lookup f77 = some ⟨oc77, od77, .func (PySem.W.fnOf "_law_bent" "_law_bent" (defArgs s_l_bent) (defBody s_l_bent) (defScope s_l_bent) .none kV77 dc77 pm77 an77 cd77 ct77), sl77⟩) (c77 : PySem.W.codeIn K cd77 "_law_bent" = true) (k77 : PySem.W.keepIn K (.ref f77) = true)
    (a78 : PySem.W.nsIn K mainGlobals "_law_papers" = some (some (.ref f78))) (l78 : K.lookup f78 = some ⟨oc78, od78, .func (PySem.W.fnOf "_law_papers" "_law_papers" (defArgs s_l_papers) (defBody s_l_papers) (defScope s_l_papers) .none kV78 dc78 pm78 an78 cd78 ct78), sl78⟩) (c78 : PySem.W.codeIn K cd78 "_law_papers" = true) (k78 : PySem.W.keepIn K (.ref f78) = true)
    (a79 : PySem.W.nsIn K mainGlobals "law" = some (some (.ref f79))) (l79 : K.lookup f79 = some ⟨oc79, od79, .func (PySem.W.fnOf "law" "law" (defArgs s_law) (defBody s_law) (defScope s_law) .none kV79 dc79 pm79 an79 cd79 ct79), sl79⟩) (c79 : PySem.W.codeIn K cd79 "law" = true) (k79 : PySem.W.keepIn K (.ref f79) = true)
    (z_abs : PySem.W.nsIn K mainGlobals "abs" = some none)
    (z_all : PySem.W.nsIn K mainGlobals "all" = some none)
    (z_bool : PySem.W.nsIn K mainGlobals "bool" = some none)
    (z_enumerate : PySem.W.nsIn K mainGlobals "enumerate" = some none)
    (z_int : PySem.W.nsIn K mainGlobals "int" = some none)
    (z_isinstance : PySem.W.nsIn K mainGlobals "isinstance" = some none)
    (z_len : PySem.W.nsIn K mainGlobals "len" = some none)
    (z_list : PySem.W.nsIn K mainGlobals "list" = some none)
    (z_max : PySem.W.nsIn K mainGlobals "max" = some none)
    (z_min : PySem.W.nsIn K mainGlobals "min" = some none)
    (z_range : PySem.W.nsIn K mainGlobals "range" = some none)
    (z_repr : PySem.W.nsIn K mainGlobals "repr" = some none)
    (z_set : PySem.W.nsIn K mainGlobals "set" = some none)
    (z_sorted : PySem.W.nsIn K mainGlobals "sorted" = some none)
    (z_str : PySem.W.nsIn K mainGlobals "str" = some none)
    (z_tuple : PySem.W.nsIn K mainGlobals "tuple" = some none)
    (z_zip : PySem.W.nsIn K mainGlobals "zip" = some none)
    (ac_BodyError : PySem.W.nsIn K mainGlobals "BodyError" = some (some (.ref c_BodyError)))
    (ac_NoShare : PySem.W.nsIn K mainGlobals "NoShare" = some (some (.ref c_NoShare)))
    (ac_NoWay : PySem.W.nsIn K mainGlobals "NoWay" = some (some (.ref c_NoWay)))
    (ac_Over : PySem.W.nsIn K mainGlobals "Over" = some (some (.ref c_Over)))
    (an_LEADING : PySem.W.nsIn K mainGlobals "LEADING" = some (some (.int 120 k_LEADING)))
    (an_LENGTHY : PySem.W.nsIn K mainGlobals "LENGTHY" = some (some (.int 4000 k_LENGTHY)))
    (an_NOUGHT : PySem.W.nsIn K mainGlobals "NOUGHT" = some (some (.ref n_NOUGHT)))
    (ln_NOUGHT : K.lookup n_NOUGHT = some ⟨.type "tuple", on_NOUGHT, .seq #[.int 0 tn0_NOUGHT, .int 1 tn1_NOUGHT] nn_NOUGHT, sn_NOUGHT⟩)
    (aL_gap : PySem.W.nsIn K mainGlobals "gap" = some (some (.ref fL_gap)))
    (lL_gap : K.lookup fL_gap = some ⟨ocL_gap, odL_gap, .func (PySem.W.fnOf "gap" "gap" (defArgs s_p_gap) (defBody s_p_gap) (defScope s_p_gap) (.ref dL_gap) kvL_gap dcL_gap pmL_gap anL_gap cdL_gap ctL_gap), slL_gap⟩)
    (cL_gap : PySem.W.codeIn K cdL_gap "gap" = true)
    (kL_gap : PySem.W.keepIn K (.ref fL_gap) = true)
    (lT_gap : K.lookup dL_gap = some ⟨.type "tuple", odT_gap, .seq #[.ref n_NOUGHT] nT_gap, slT_gap⟩)
    (aL_share : PySem.W.nsIn K mainGlobals "share" = some (some (.ref fL_share)))
    (lL_share : K.lookup fL_share = some ⟨ocL_share, odL_share, .func (PySem.W.fnOf "share" "share" (defArgs s_p_share) (defBody s_p_share) (defScope s_p_share) (.ref dL_share) kvL_share dcL_share pmL_share anL_share cdL_share ctL_share), slL_share⟩)
    (cL_share : PySem.W.codeIn K cdL_share "share" = true)
    (kL_share : PySem.W.keepIn K (.ref fL_share) = true)
    (lT_share : K.lookup dL_share = some ⟨.type "tuple", odT_share, .seq #[.int 1 tT_share] nT_share, slT_share⟩)
    : ∃ fd : FuncData, (∀ (s : Shared) (v : Value), BindsTo s fd ⟨[v], []⟩ [("_law_script", v)]) ∧ ∀ base : Heap, K.In base → base.Ns mainGlobals mg → FnG l.prog w K mg base 14 fa fd ["_law_script"] (sp_law K) := by
  have e := hfa.symm.trans (PySem.W.mg_of X G a79)
  cases e
  have FL_gap : FunD K "gap" "gap" (defArgs s_p_gap) (defBody s_p_gap) (defScope s_p_gap) [.ref n_NOUGHT] [] fL_gap (PySem.W.fnOf "gap" "gap" (defArgs s_p_gap) (defBody s_p_gap) (defScope s_p_gap) (.ref dL_gap) kvL_gap dcL_gap pmL_gap anL_gap cdL_gap ctL_gap) := ⟨⟨ocL_gap, odL_gap, .ref dL_gap, kvL_gap, dcL_gap, pmL_gap, anL_gap, cdL_gap, ctL_gap, slL_gap, rfl, lL_gap, cL_gap, .inr ⟨(fun z => nomatch z), dL_gap, _, [.ref n_NOUGHT], nT_gap, rfl, lT_gap, rfl, .cons rfl .nil⟩, .inl rfl⟩, kL_gap⟩
  have hb1_gap : Binds K (PySem.W.fnOf "gap" "gap" (defArgs s_p_gap) (defBody s_p_gap) (defScope s_p_gap) (.ref dL_gap) kvL_gap dcL_gap pmL_gap anL_gap cdL_gap ctL_gap) ["one", "other", "way", "after"] [Value.ref n_NOUGHT] := by obtain ⟨ds1, hv1, hb1⟩ := FL_gap.binds1 (ps := ["one", "other", "way", "after"]) 3 0 (fun z => nomatch z) rfl (fun T kV doc pm an cdv ct us its hu hi => match us, its, hu, hi with | [_, _, _], [_], _, _ => ⟨_, rfl, rfl⟩); cases hv1 with | cons h1 h2 => cases h2; cases h1; exact hb1
  have hb2_gap : Binds K (PySem.W.fnOf "gap" "gap" (defArgs s_p_gap) (defBody s_p_gap) (defScope s_p_gap) (.ref dL_gap) kvL_gap dcL_gap pmL_gap anL_gap cdL_gap ctL_gap) ["one", "other", "way", "after"] [] := by obtain ⟨ds2, hv2, hb2⟩ := FL_gap.binds1 (ps := ["one", "other", "way", "after"]) 4 1 (fun z => nomatch z) rfl (fun T kV doc pm an cdv ct us its hu hi => match us, its, hu, hi with | [_, _, _, _], [_], _, _ => ⟨_, rfl, rfl⟩); cases hv2; exact hb2
  have FL_share : FunD K "share" "share" (defArgs s_p_share) (defBody s_p_share) (defScope s_p_share) [.int 1] [] fL_share (PySem.W.fnOf "share" "share" (defArgs s_p_share) (defBody s_p_share) (defScope s_p_share) (.ref dL_share) kvL_share dcL_share pmL_share anL_share cdL_share ctL_share) := ⟨⟨ocL_share, odL_share, .ref dL_share, kvL_share, dcL_share, pmL_share, anL_share, cdL_share, ctL_share, slL_share, rfl, lL_share, cL_share, .inr ⟨(fun z => nomatch z), dL_share, _, [.int 1 tT_share], nT_share, rfl, lT_share, rfl, .cons ⟨_, rfl⟩ .nil⟩, .inl rfl⟩, kL_share⟩
  have hb2_share : Binds K (PySem.W.fnOf "share" "share" (defArgs s_p_share) (defBody s_p_share) (defScope s_p_share) (.ref dL_share) kvL_share dcL_share pmL_share anL_share cdL_share ctL_share) ["top", "bottom"] [] := by obtain ⟨ds2, hv2, hb2⟩ := FL_share.binds1 (ps := ["top", "bottom"]) 2 1 (fun z => nomatch z) rfl (fun T kV doc pm an cdv ct us its hu hi => match us, its, hu, hi with | [_, _], [_], _, _ => ⟨_, rfl, rfl⟩); cases hv2; exact hb2
  let A0 : Ad := { f_p_is_whole := f0, fd_p_is_whole := PySem.W.fnOf "is_whole" "is_whole" (defArgs s_p_is_whole) (defBody s_p_is_whole) (defScope s_p_is_whole) .none kV0 dc0 pm0 an0 cd0 ct0, f_p_divided := f1, fd_p_divided := PySem.W.fnOf "divided" "divided" (defArgs s_p_divided) (defBody s_p_divided) (defScope s_p_divided) .none kV1 dc1 pm1 an1 cd1 ct1, f_p_shortened := f2, fd_p_shortened := PySem.W.fnOf "shortened" "shortened" (defArgs s_p_shortened) (defBody s_p_shortened) (defScope s_p_shortened) .none kV2 dc2 pm2 an2 cd2 ct2, f_p_common_divisor := f3, fd_p_common_divisor := PySem.W.fnOf "common_divisor" "common_divisor" (defArgs s_p_common_divisor) (defBody s_p_common_divisor) (defScope s_p_common_divisor) .none kV3 dc3 pm3 an3 cd3 ct3, f_p_is_share := f4, fd_p_is_share := PySem.W.fnOf "is_share" "is_share" (defArgs s_p_is_share) (defBody s_p_is_share) (defScope s_p_is_share) .none kV4 dc4 pm4 an4 cd4 ct4, f_p_plus := f6, fd_p_plus := PySem.W.fnOf "plus" "plus" (defArgs s_p_plus) (defBody s_p_plus) (defScope s_p_plus) .none kV6 dc6 pm6 an6 cd6 ct6, f_p_minus := f7, fd_p_minus := PySem.W.fnOf "minus" "minus" (defArgs s_p_minus) (defBody s_p_minus) (defScope s_p_minus) .none kV7 dc7 pm7 an7 cd7 ct7, f_p_times := f8, fd_p_times := PySem.W.fnOf "times" "times" (defArgs s_p_times) (defBody s_p_times) (defScope s_p_times) .none kV8 dc8 pm8 an8 cd8 ct8, f_p_order := f9, fd_p_order := PySem.W.fnOf "order" "order" (defArgs s_p_order) (defBody s_p_order) (defScope s_p_order) .none kV9 dc9 pm9 an9 cd9 ct9, f_p_on_one_bottom := f10, fd_p_on_one_bottom := PySem.W.fnOf "on_one_bottom" "on_one_bottom" (defArgs s_p_on_one_bottom) (defBody s_p_on_one_bottom) (defScope s_p_on_one_bottom) .none kV10 dc10 pm10 an10 cd10 ct10, f_p_is_way := f11, fd_p_is_way := PySem.W.fnOf "is_way" "is_way" (defArgs s_p_is_way) (defBody s_p_is_way) (defScope s_p_is_way) .none kV11 dc11 pm11 an11 cd11 ct11, f_p_way_of := f12, fd_p_way_of := PySem.W.fnOf "way_of" "way_of" (defArgs s_p_way_of) (defBody s_p_way_of) (defScope s_p_way_of) .none kV12 dc12 pm12 an12 cd12 ct12, f_p_along := f13, fd_p_along := PySem.W.fnOf "along" "along" (defArgs s_p_along) (defBody s_p_along) (defScope s_p_along) .none kV13 dc13 pm13 an13 cd13 ct13, f_p_spot_plus := f14, fd_p_spot_plus := PySem.W.fnOf "spot_plus" "spot_plus" (defArgs s_p_spot_plus) (defBody s_p_spot_plus) (defScope s_p_spot_plus) .none kV14 dc14 pm14 an14 cd14 ct14, f_p_spot_minus := f15, fd_p_spot_minus := PySem.W.fnOf "spot_minus" "spot_minus" (defArgs s_p_spot_minus) (defBody s_p_spot_minus) (defScope s_p_spot_minus) .none kV15 dc15 pm15 an15 cd15 ct15, f_p_spot_times := f16, fd_p_spot_times := PySem.W.fnOf "spot_times" "spot_times" (defArgs s_p_spot_times) (defBody s_p_spot_times) (defScope s_p_spot_times) .none kV16 dc16 pm16 an16 cd16 ct16, f_p_side_ends := f17, fd_p_side_ends := PySem.W.fnOf "side_ends" "side_ends" (defArgs s_p_side_ends) (defBody s_p_side_ends) (defScope s_p_side_ends) .none kV17 dc17 pm17 an17 cd17 ct17, f_p_outwards := f18, fd_p_outwards := PySem.W.fnOf "outwards" "outwards" (defArgs s_p_outwards) (defBody s_p_outwards) (defScope s_p_outwards) .none kV18 dc18 pm18 an18 cd18 ct18, f_p_sides := f19, fd_p_sides := PySem.W.fnOf "sides" "sides" (defArgs s_p_sides) (defBody s_p_sides) (defScope s_p_sides) .none kV19 dc19 pm19 an19 cd19 ct19, f_p_reach := f20, fd_p_reach := PySem.W.fnOf "reach" "reach" (defArgs s_p_reach) (defBody s_p_reach) (defScope s_p_reach) .none kV20 dc20 pm20 an20 cd20 ct20, f_p_turned := f21, fd_p_turned := PySem.W.fnOf "turned" "turned" (defArgs s_p_turned) (defBody s_p_turned) (defScope s_p_turned) .none kV21 dc21 pm21 an21 cd21 ct21, f_p_pair_ways := f22, fd_p_pair_ways := PySem.W.fnOf "pair_ways" "pair_ways" (defArgs s_p_pair_ways) (defBody s_p_pair_ways) (defScope s_p_pair_ways) .none kV22 dc22 pm22 an22 cd22 ct22, f_p_width := f23, fd_p_width := PySem.W.fnOf "width" "width" (defArgs s_p_width) (defBody s_p_width) (defScope s_p_width) .none kV23 dc23 pm23 an23 cd23 ct23, f_p_place_apart := f24, fd_p_place_apart := PySem.W.fnOf "place_apart" "place_apart" (defArgs s_p_place_apart) (defBody s_p_place_apart) (defScope s_p_place_apart) .none kV24 dc24 pm24 an24 cd24 ct24, f_p_speed_apart := f25, fd_p_speed_apart := PySem.W.fnOf "speed_apart" "speed_apart" (defArgs s_p_speed_apart) (defBody s_p_speed_apart) (defScope s_p_speed_apart) .none kV25 dc25 pm25 an25 cd25 ct25, f_p_offset := f26, fd_p_offset := PySem.W.fnOf "offset" "offset" (defArgs s_p_offset) (defBody s_p_offset) (defScope s_p_offset) .none kV26 dc26 pm26 an26 cd26 ct26, f_p_courses := f28, fd_p_courses := PySem.W.fnOf "courses" "courses" (defArgs s_p_courses) (defBody s_p_courses) (defScope s_p_courses) .none kV28 dc28 pm28 an28 cd28 ct28, f_p_height := f29, fd_p_height := PySem.W.fnOf "height" "height" (defArgs s_p_height) (defBody s_p_height) (defScope s_p_height) .none kV29 dc29 pm29 an29 cd29 ct29, f_p_time_of := f30, fd_p_time_of := PySem.W.fnOf "time_of" "time_of" (defArgs s_p_time_of) (defBody s_p_time_of) (defScope s_p_time_of) .none kV30 dc30 pm30 an30 cd30 ct30, f_p_meets_along := f31, fd_p_meets_along := PySem.W.fnOf "meets_along" "meets_along" (defArgs s_p_meets_along) (defBody s_p_meets_along) (defScope s_p_meets_along) .none kV31 dc31 pm31 an31 cd31 ct31, f_p_meeting_courses := f32, fd_p_meeting_courses := PySem.W.fnOf "meeting_courses" "meeting_courses" (defArgs s_p_meeting_courses) (defBody s_p_meeting_courses) (defScope s_p_meeting_courses) .none kV32 dc32 pm32 an32 cd32 ct32, f_p_upright_ways := f33, fd_p_upright_ways := PySem.W.fnOf "upright_ways" "upright_ways" (defArgs s_p_upright_ways) (defBody s_p_upright_ways) (defScope s_p_upright_ways) .none kV33 dc33 pm33 an33 cd33 ct33, f_p_is_clear := f34, fd_p_is_clear := PySem.W.fnOf "is_clear" "is_clear" (defArgs s_p_is_clear) (defBody s_p_is_clear) (defScope s_p_is_clear) .none kV34 dc34 pm34 an34 cd34 ct34, f_p_clear_way := f35, fd_p_clear_way := PySem.W.fnOf "clear_way" "clear_way" (defArgs s_p_clear_way) (defBody s_p_clear_way) (defScope s_p_clear_way) .none kV35 dc35 pm35 an35 cd35 ct35, f_p_first := f36, fd_p_first := PySem.W.fnOf "first" "first" (defArgs s_p_first) (defBody s_p_first) (defScope s_p_first) .none kV36 dc36 pm36 an36 cd36 ct36, f_p_is_meeting := f37, fd_p_is_meeting := PySem.W.fnOf "is_meeting" "is_meeting" (defArgs s_p_is_meeting) (defBody s_p_is_meeting) (defScope s_p_is_meeting) .none kV37 dc37 pm37 an37 cd37 ct37, f_p_first_held := f38, fd_p_first_held := PySem.W.fnOf "first_held" "first_held" (defArgs s_p_first_held) (defBody s_p_first_held) (defScope s_p_first_held) .none kV38 dc38 pm38 an38 cd38 ct38, f_l_cell := f39, fd_l_cell := PySem.W.fnOf "_law_cell" "_law_cell" (defArgs s_l_cell) (defBody s_l_cell) (defScope s_l_cell) .none kV39 dc39 pm39 an39 cd39 ct39, f_l_deck := f40, fd_l_deck := PySem.W.fnOf "_law_deck" "_law_deck" (defArgs s_l_deck) (defBody s_l_deck) (defScope s_l_deck) .none kV40 dc40 pm40 an40 cd40 ct40, f_l_take := f41, fd_l_take := PySem.W.fnOf "_law_take" "_law_take" (defArgs s_l_take) (defBody s_l_take) (defScope s_l_take) .none kV41 dc41 pm41 an41 cd41 ct41, f_l_long := f42, fd_l_long := PySem.W.fnOf "_law_long" "_law_long" (defArgs s_l_long) (defBody s_l_long) (defScope s_l_long) .none kV42 dc42 pm42 an42 cd42 ct42, f_l_gcd := f43, fd_l_gcd := PySem.W.fnOf "_law_gcd" "_law_gcd" (defArgs s_l_gcd) (defBody s_l_gcd) (defScope s_l_gcd) .none kV43 dc43 pm43 an43 cd43 ct43, f_l_share := f44, fd_l_share := PySem.W.fnOf "_law_share" "_law_share" (defArgs s_l_share) (defBody s_l_share) (defScope s_l_share) .none kV44 dc44 pm44 an44 cd44 ct44, f_l_plus := f45, fd_l_plus := PySem.W.fnOf "_law_plus" "_law_plus" (defArgs s_l_plus) (defBody s_l_plus) (defScope s_l_plus) .none kV45 dc45 pm45 an45 cd45 ct45, f_l_times := f46, fd_l_times := PySem.W.fnOf "_law_times" "_law_times" (defArgs s_l_times) (defBody s_l_times) (defScope s_l_times) .none kV46 dc46 pm46 an46 cd46 ct46, f_l_along := f47, fd_l_along := PySem.W.fnOf "_law_along" "_law_along" (defArgs s_l_along) (defBody s_l_along) (defScope s_l_along) .none kV47 dc47 pm47 an47 cd47 ct47, f_l_spot := f48, fd_l_spot := PySem.W.fnOf "_law_spot" "_law_spot" (defArgs s_l_spot) (defBody s_l_spot) (defScope s_l_spot) .none kV48 dc48 pm48 an48 cd48 ct48, f_l_spot_plus := f49, fd_l_spot_plus := PySem.W.fnOf "_law_spot_plus" "_law_spot_plus" (defArgs s_l_spot_plus) (defBody s_l_spot_plus) (defScope s_l_spot_plus) .none kV49 dc49 pm49 an49 cd49 ct49, f_l_spot_times := f50, fd_l_spot_times := PySem.W.fnOf "_law_spot_times" "_law_spot_times" (defArgs s_l_spot_times) (defBody s_l_spot_times) (defScope s_l_spot_times) .none kV50 dc50 pm50 an50 cd50 ct50, f_l_left := f51, fd_l_left := PySem.W.fnOf "_law_left" "_law_left" (defArgs s_l_left) (defBody s_l_left) (defScope s_l_left) .none kV51 dc51 pm51 an51 cd51 ct51, f_l_half := f52, fd_l_half := PySem.W.fnOf "_law_half" "_law_half" (defArgs s_l_half) (defBody s_l_half) (defScope s_l_half) .none kV52 dc52 pm52 an52 cd52 ct52, f_l_number := f53, fd_l_number := PySem.W.fnOf "_law_number" "_law_number" (defArgs s_l_number) (defBody s_l_number) (defScope s_l_number) .none kV53 dc53 pm53 an53 cd53 ct53, f_l_eight := f54, fd_l_eight := PySem.W.fnOf "_law_eight" "_law_eight" (defArgs s_l_eight) (defBody s_l_eight) (defScope s_l_eight) .none kV54 dc54 pm54 an54 cd54 ct54, f_l_shape := f55, fd_l_shape := PySem.W.fnOf "_law_shape" "_law_shape" (defArgs s_l_shape) (defBody s_l_shape) (defScope s_l_shape) .none kV55 dc55 pm55 an55 cd55 ct55, f_l_ways := f56, fd_l_ways := PySem.W.fnOf "_law_ways" "_law_ways" (defArgs s_l_ways) (defBody s_l_ways) (defScope s_l_ways) .none kV56 dc56 pm56 an56 cd56 ct56, f_l_way := f57, fd_l_way := PySem.W.fnOf "_law_way" "_law_way" (defArgs s_l_way) (defBody s_l_way) (defScope s_l_way) .none kV57 dc57 pm57 an57 cd57 ct57, f_l_pair_ways := f58, fd_l_pair_ways := PySem.W.fnOf "_law_pair_ways" "_law_pair_ways" (defArgs s_l_pair_ways) (defBody s_l_pair_ways) (defScope s_l_pair_ways) .none kV58 dc58 pm58 an58 cd58 ct58, f_l_reach := f59, fd_l_reach := PySem.W.fnOf "_law_reach" "_law_reach" (defArgs s_l_reach) (defBody s_l_reach) (defScope s_l_reach) .none kV59 dc59 pm59 an59 cd59 ct59, f_l_between := f60, fd_l_between := PySem.W.fnOf "_law_between" "_law_between" (defArgs s_l_between) (defBody s_l_between) (defScope s_l_between) .none kV60 dc60 pm60 an60 cd60 ct60, f_l_room := f61, fd_l_room := PySem.W.fnOf "_law_room" "_law_room" (defArgs s_l_room) (defBody s_l_room) (defScope s_l_room) .none kV61 dc61 pm61 an61 cd61 ct61, f_l_rooms := f62, fd_l_rooms := PySem.W.fnOf "_law_rooms" "_law_rooms" (defArgs s_l_rooms) (defBody s_l_rooms) (defScope s_l_rooms) .none kV62 dc62 pm62 an62 cd62 ct62, f_l_over := f63, fd_l_over := PySem.W.fnOf "_law_over" "_law_over" (defArgs s_l_over) (defBody s_l_over) (defScope s_l_over) .none kV63 dc63 pm63 an63 cd63 ct63, f_l_speeding := f64, fd_l_speeding := PySem.W.fnOf "_law_speeding" "_law_speeding" (defArgs s_l_speeding) (defBody s_l_speeding) (defScope s_l_speeding) .none kV64 dc64 pm64 an64 cd64 ct64, f_l_names := f65, fd_l_names := PySem.W.fnOf "_law_names" "_law_names" (defArgs s_l_names) (defBody s_l_names) (defScope s_l_names) .none kV65 dc65 pm65 an65 cd65 ct65, f_l_drawn := f66, fd_l_drawn := PySem.W.fnOf "_law_drawn" "_law_drawn" (defArgs s_l_drawn) (defBody s_l_drawn) (defScope s_l_drawn) .none kV66 dc66 pm66 an66 cd66 ct66, f_l_row := f67, fd_l_row := PySem.W.fnOf "_law_row" "_law_row" (defArgs s_l_row) (defBody s_l_row) (defScope s_l_row) .none kV67 dc67 pm67 an67 cd67 ct67, f_l_pair := f68, fd_l_pair := PySem.W.fnOf "_law_pair" "_law_pair" (defArgs s_l_pair) (defBody s_l_pair) (defScope s_l_pair) .none kV68 dc68 pm68 an68 cd68 ct68, f_l_until := f69, fd_l_until := PySem.W.fnOf "_law_until" "_law_until" (defArgs s_l_until) (defBody s_l_until) (defScope s_l_until) .none kV69 dc69 pm69 an69 cd69 ct69, f_l_is_whole := f70, fd_l_is_whole := PySem.W.fnOf "_law_is_whole" "_law_is_whole" (defArgs s_l_is_whole) (defBody s_l_is_whole) (defScope s_l_is_whole) .none kV70 dc70 pm70 an70 cd70 ct70, f_l_is_share := f71, fd_l_is_share := PySem.W.fnOf "_law_is_share" "_law_is_share" (defArgs s_l_is_share) (defBody s_l_is_share) (defScope s_l_is_share) .none kV71 dc71 pm71 an71 cd71 ct71, f_l_is_way := f72, fd_l_is_way := PySem.W.fnOf "_law_is_way" "_law_is_way" (defArgs s_l_is_way) (defBody s_l_is_way) (defScope s_l_is_way) .none kV72 dc72 pm72 an72 cd72 ct72, f_l_meets := f73, fd_l_meets := PySem.W.fnOf "_law_meets" "_law_meets" (defArgs s_l_meets) (defBody s_l_meets) (defScope s_l_meets) .none kV73 dc73 pm73 an73 cd73 ct73, f_l_due := f74, fd_l_due := PySem.W.fnOf "_law_due" "_law_due" (defArgs s_l_due) (defBody s_l_due) (defScope s_l_due) .none kV74 dc74 pm74 an74 cd74 ct74, f_l_crossings := f75, fd_l_crossings := PySem.W.fnOf "_law_crossings" "_law_crossings" (defArgs s_l_crossings) (defBody s_l_crossings) (defScope s_l_crossings) .none kV75 dc75 pm75 an75 cd75 ct75, f_l_upright := f76, fd_l_upright := PySem.W.fnOf "_law_upright" "_law_upright" (defArgs s_l_upright) (defBody s_l_upright) (defScope s_l_upright) .none kV76 dc76 pm76 an76 cd76 ct76, f_l_bent := f77, fd_l_bent := PySem.W.fnOf "_law_bent" "_law_bent" (defArgs s_l_bent) (defBody s_l_bent) (defScope s_l_bent) .none kV77 dc77 pm77 an77 cd77 ct77, f_l_papers := f78, fd_l_papers := PySem.W.fnOf "_law_papers" "_law_papers" (defArgs s_l_papers) (defBody s_l_papers) (defScope s_l_papers) .none kV78 dc78 pm78 an78 cd78 ct78, f_law := fa, fd_law := PySem.W.fnOf "law" "law" (defArgs s_law) (defBody s_law) (defScope s_law) .none kV79 dc79 pm79 an79 cd79 ct79, c_BodyError := c_BodyError, c_NoShare := c_NoShare, c_NoWay := c_NoWay, c_Over := c_Over, k_LEADING := k_LEADING, k_LENGTHY := k_LENGTHY, n_NOUGHT := n_NOUGHT, f_p_gap := fL_gap, fd_p_gap := (PySem.W.fnOf "gap" "gap" (defArgs s_p_gap) (defBody s_p_gap) (defScope s_p_gap) (.ref dL_gap) kvL_gap dcL_gap pmL_gap anL_gap cdL_gap ctL_gap), f_p_share := fL_share, fd_p_share := (PySem.W.fnOf "share" "share" (defArgs s_p_share) (defBody s_p_share) (defScope s_p_share) (.ref dL_share) kvL_share dcL_share pmL_share anL_share cdL_share ctL_share) }
  have T : Tx K mg A0 := { F_p_is_whole := fun_mk (st := s_p_is_whole) l0 c0 k0, b_p_is_whole := (fun_mk (st := s_p_is_whole) l0 c0 k0).binds (ps := ["thing"]) fun _ _ _ _ _ _ us hl => match us, hl with | [_], _ => rfl, g_p_is_whole := PySem.W.mg_of X G a0, F_p_divided := fun_mk (st := s_p_divided) l1 c1 k1, b_p_divided := (fun_mk (st := s_p_divided) l1 c1 k1).binds (ps := ["one", "other"]) fun _ _ _ _ _ _ us hl => match us, hl with | [_, _], _ => rfl, g_p_divided := PySem.W.mg_of X G a1, F_p_shortened := fun_mk (st := s_p_shortened) l2 c2 k2, b_p_shortened := (fun_mk (st := s_p_shortened) l2 c2 k2).binds (ps := ["one", "other"]) fun _ _ _ _ _ _ us hl => match us, hl with | [_, _], _ => rfl, g_p_shortened := PySem.W.mg_of X G a2, F_p_common_divisor := fun_mk (st := s_p_common_divisor) l3 c3 k3, b_p_common_divisor := (fun_mk (st := s_p_common_divisor) l3 c3 k3).binds (ps := ["one", "other"]) fun _ _ _ _ _ _ us hl => match us, hl with | [_, _], _ => rfl, g_p_common_divisor := PySem.W.mg_of X G a3, F_p_is_share := fun_mk (st := s_p_is_share) l4 c4 k4, b_p_is_share := (fun_mk (st := s_p_is_share) l4 c4 k4).binds (ps := ["thing"]) fun _ _ _ _ _ _ us hl => match us, hl with | [_], _ => rfl, g_p_is_share := PySem.W.mg_of X G a4, F_p_plus := fun_mk (st := s_p_plus) l6 c6 k6, b_p_plus := (fun_mk (st := s_p_plus) l6 c6 k6).binds (ps := ["one", "other"]) fun _ _ _ _ _ _ us hl => match us, hl with | [_, _], _ => rfl, g_p_plus := PySem.W.mg_of X G a6, F_p_minus := fun_mk (st := s_p_minus) l7 c7 k7, b_p_minus := (fun_mk (st := s_p_minus) l7 c7 k7).binds (ps := ["one", "other"]) fun _ _ _ _ _ _ us hl => match us, hl with | [_, _], _ => rfl, g_p_minus := PySem.W.mg_of X G a7, F_p_times := fun_mk (st := s_p_times) l8 c8 k8, b_p_times := (fun_mk (st := s_p_times) l8 c8 k8).binds (ps := ["one", "other"]) fun _ _ _ _ _ _ us hl => match us, hl with | [_, _], _ => rfl, g_p_times := PySem.W.mg_of X G a8, F_p_order := fun_mk (st := s_p_order) l9 c9 k9, b_p_order := (fun_mk (st := s_p_order) l9 c9 k9).binds (ps := ["one", "other"]) fun _ _ _ _ _ _ us hl => match us, hl with | [_, _], _ => rfl, g_p_order := PySem.W.mg_of X G a9, F_p_on_one_bottom := fun_mk (st := s_p_on_one_bottom) l10 c10 k10, b_p_on_one_bottom := (fun_mk (st := s_p_on_one_bottom) l10 c10 k10).binds (ps := ["shares"]) fun _ _ _ _ _ _ us hl => match us, hl with | [_], _ => rfl, g_p_on_one_bottom := PySem.W.mg_of X G a10, F_p_is_way := fun_mk (st := s_p_is_way) l11 c11 k11, b_p_is_way := (fun_mk (st := s_p_is_way) l11 c11 k11).binds (ps := ["thing"]) fun _ _ _ _ _ _ us hl => match us, hl with | [_], _ => rfl, g_p_is_way := PySem.W.mg_of X G a11, F_p_way_of := fun_mk (st := s_p_way_of) l12 c12 k12, b_p_way_of := (fun_mk (st := s_p_way_of) l12 c12 k12).binds (ps := ["p", "q"]) fun _ _ _ _ _ _ us hl => match us, hl with | [_, _], _ => rfl, g_p_way_of := PySem.W.mg_of X G a12, F_p_along := fun_mk (st := s_p_along) l13 c13 k13, b_p_along := (fun_mk (st := s_p_along) l13 c13 k13).binds (ps := ["way", "spot"]) fun _ _ _ _ _ _ us hl => match us, hl with | [_, _], _ => rfl, g_p_along := PySem.W.mg_of X G a13, F_p_spot_plus := fun_mk (st := s_p_spot_plus) l14 c14 k14, b_p_spot_plus := (fun_mk (st := s_p_spot_plus) l14 c14 k14).binds (ps := ["one", "other"]) fun _ _ _ _ _ _ us hl => match us, hl with | [_, _], _ => rfl, g_p_spot_plus := PySem.W.mg_of X G a14, F_p_spot_minus := fun_mk (st := s_p_spot_minus) l15 c15 k15, b_p_spot_minus := (fun_mk (st := s_p_spot_minus) l15 c15 k15).binds (ps := ["one", "other"]) fun _ _ _ _ _ _ us hl => match us, hl with | [_, _], _ => rfl, g_p_spot_minus := PySem.W.mg_of X G a15, F_p_spot_times := fun_mk (st := s_p_spot_times) l16 c16 k16, b_p_spot_times := (fun_mk (st := s_p_spot_times) l16 c16 k16).binds (ps := ["spot", "share"]) fun _ _ _ _ _ _ us hl => match us, hl with | [_, _], _ => rfl, g_p_spot_times := PySem.W.mg_of X G a16, F_p_side_ends := fun_mk (st := s_p_side_ends) l17 c17 k17, b_p_side_ends := (fun_mk (st := s_p_side_ends) l17 c17 k17).binds (ps := ["corners"]) fun _ _ _ _ _ _ us hl => match us, hl with | [_], _ => rfl, g_p_side_ends := PySem.W.mg_of X G a17, F_p_outwards := fun_mk (st := s_p_outwards) l18 c18 k18, b_p_outwards := (fun_mk (st := s_p_outwards) l18 c18 k18).binds (ps := ["start", "end"]) fun _ _ _ _ _ _ us hl => match us, hl with | [_, _], _ => rfl, g_p_outwards := PySem.W.mg_of X G a18, F_p_sides := fun_mk (st := s_p_sides) l19 c19 k19, b_p_sides := (fun_mk (st := s_p_sides) l19 c19 k19).binds (ps := ["shape"]) fun _ _ _ _ _ _ us hl => match us, hl with | [_], _ => rfl, g_p_sides := PySem.W.mg_of X G a19, F_p_reach := fun_mk (st := s_p_reach) l20 c20 k20, b_p_reach := (fun_mk (st := s_p_reach) l20 c20 k20).binds (ps := ["shape", "way"]) fun _ _ _ _ _ _ us hl => match us, hl with | [_, _], _ => rfl, g_p_reach := PySem.W.mg_of X G a20, F_p_turned := fun_mk (st := s_p_turned) l21 c21 k21, b_p_turned := (fun_mk (st := s_p_turned) l21 c21 k21).binds (ps := ["way"]) fun _ _ _ _ _ _ us hl => match us, hl with | [_], _ => rfl, g_p_turned := PySem.W.mg_of X G a21, F_p_pair_ways := fun_mk (st := s_p_pair_ways) l22 c22 k22, b_p_pair_ways := (fun_mk (st := s_p_pair_ways) l22 c22 k22).binds (ps := ["one", "other"]) fun _ _ _ _ _ _ us hl => match us, hl with | [_, _], _ => rfl, g_p_pair_ways := PySem.W.mg_of X G a22, F_p_width := fun_mk (st := s_p_width) l23 c23 k23, b_p_width := (fun_mk (st := s_p_width) l23 c23 k23).binds (ps := ["one", "other", "way"]) fun _ _ _ _ _ _ us hl => match us, hl with | [_, _, _], _ => rfl, g_p_width := PySem.W.mg_of X G a23, F_p_place_apart := fun_mk (st := s_p_place_apart) l24 c24 k24, b_p_place_apart := (fun_mk (st := s_p_place_apart) l24 c24 k24).binds (ps := ["one", "other"]) fun _ _ _ _ _ _ us hl => match us, hl with | [_, _], _ => rfl, g_p_place_apart := PySem.W.mg_of X G a24, F_p_speed_apart := fun_mk (st := s_p_speed_apart) l25 c25 k25, b_p_speed_apart := (fun_mk (st := s_p_speed_apart) l25 c25 k25).binds (ps := ["one", "other"]) fun _ _ _ _ _ _ us hl => match us, hl with | [_, _], _ => rfl, g_p_speed_apart := PySem.W.mg_of X G a25, F_p_offset := fun_mk (st := s_p_offset) l26 c26 k26, b_p_offset := (fun_mk (st := s_p_offset) l26 c26 k26).binds (ps := ["one", "other", "after"]) fun _ _ _ _ _ _ us hl => match us, hl with | [_, _, _], _ => rfl, g_p_offset := PySem.W.mg_of X G a26, F_p_courses := fun_mk (st := s_p_courses) l28 c28 k28, b_p_courses := (fun_mk (st := s_p_courses) l28 c28 k28).binds (ps := ["one", "other"]) fun _ _ _ _ _ _ us hl => match us, hl with | [_, _], _ => rfl, g_p_courses := PySem.W.mg_of X G a28, F_p_height := fun_mk (st := s_p_height) l29 c29 k29, b_p_height := (fun_mk (st := s_p_height) l29 c29 k29).binds (ps := ["course", "time"]) fun _ _ _ _ _ _ us hl => match us, hl with | [_, _], _ => rfl, g_p_height := PySem.W.mg_of X G a29, F_p_time_of := fun_mk (st := s_p_time_of) l30 c30 k30, b_p_time_of := (fun_mk (st := s_p_time_of) l30 c30 k30).binds (ps := ["course"]) fun _ _ _ _ _ _ us hl => match us, hl with | [_], _ => rfl, g_p_time_of := PySem.W.mg_of X G a30, F_p_meets_along := fun_mk (st := s_p_meets_along) l31 c31 k31, b_p_meets_along := (fun_mk (st := s_p_meets_along) l31 c31 k31).binds (ps := ["course", "all_courses"]) fun _ _ _ _ _ _ us hl => match us, hl with | [_, _], _ => rfl, g_p_meets_along := PySem.W.mg_of X G a31, F_p_meeting_courses := fun_mk (st := s_p_meeting_courses) l32 c32 k32, b_p_meeting_courses := (fun_mk (st := s_p_meeting_courses) l32 c32 k32).binds (ps := ["all_courses", "until"]) fun _ _ _ _ _ _ us hl => match us, hl with | [_, _], _ => rfl, g_p_meeting_courses := PySem.W.mg_of X G a32, F_p_upright_ways := fun_mk (st := s_p_upright_ways) l33 c33 k33, b_p_upright_ways := (fun_mk (st := s_p_upright_ways) l33 c33 k33).binds (ps := ["one", "other"]) fun _ _ _ _ _ _ us hl => match us, hl with | [_, _], _ => rfl, g_p_upright_ways := PySem.W.mg_of X G a33, F_p_is_clear := fun_mk (st := s_p_is_clear) l34 c34 k34, b_p_is_clear := (fun_mk (st := s_p_is_clear) l34 c34 k34).binds (ps := ["one", "other", "way", "until"]) fun _ _ _ _ _ _ us hl => match us, hl with | [_, _, _, _], _ => rfl, g_p_is_clear := PySem.W.mg_of X G a34, F_p_clear_way := fun_mk (st := s_p_clear_way) l35 c35 k35, b_p_clear_way := (fun_mk (st := s_p_clear_way) l35 c35 k35).binds (ps := ["one", "other", "until", "all_courses"]) fun _ _ _ _ _ _ us hl => match us, hl with | [_, _, _, _], _ => rfl, g_p_clear_way := PySem.W.mg_of X G a35, F_p_first := fun_mk (st := s_p_first) l36 c36 k36, b_p_first := (fun_mk (st := s_p_first) l36 c36 k36).binds (ps := ["one", "other", "until"]) fun _ _ _ _ _ _ us hl => match us, hl with | [_, _, _], _ => rfl, g_p_first := PySem.W.mg_of X G a36, F_p_is_meeting := fun_mk (st := s_p_is_meeting) l37 c37 k37, b_p_is_meeting := (fun_mk (st := s_p_is_meeting) l37 c37 k37).binds (ps := ["one", "other", "until", "time", "way"]) fun _ _ _ _ _ _ us hl => match us, hl with | [_, _, _, _, _], _ => rfl, g_p_is_meeting := PySem.W.mg_of X G a37, F_p_first_held := fun_mk (st := s_p_first_held) l38 c38 k38, b_p_first_held := (fun_mk (st := s_p_first_held) l38 c38 k38).binds (ps := ["one", "other", "until", "paper"]) fun _ _ _ _ _ _ us hl => match us, hl with | [_, _, _, _], _ => rfl, g_p_first_held := PySem.W.mg_of X G a38, F_l_cell := fun_mk (st := s_l_cell) l39 c39 k39, b_l_cell := (fun_mk (st := s_l_cell) l39 c39 k39).binds (ps := ["_law_script", "_law_k"]) fun _ _ _ _ _ _ us hl => match us, hl with | [_, _], _ => rfl, g_l_cell := PySem.W.mg_of X G a39, F_l_deck := fun_mk (st := s_l_deck) l40 c40 k40, b_l_deck := (fun_mk (st := s_l_deck) l40 c40 k40).binds (ps := ["_law_script"]) fun _ _ _ _ _ _ us hl => match us, hl with | [_], _ => rfl, g_l_deck := PySem.W.mg_of X G a40, F_l_take := fun_mk (st := s_l_take) l41 c41 k41, b_l_take := (fun_mk (st := s_l_take) l41 c41 k41).binds (ps := ["_law_deck_here", "_law_many"]) fun _ _ _ _ _ _ us hl => match us, hl with | [_, _], _ => rfl, g_l_take := PySem.W.mg_of X G a41, F_l_long := fun_mk (st := s_l_long) l42 c42 k42, b_l_long := (fun_mk (st := s_l_long) l42 c42 k42).binds (ps := ["_law_deck_here", "_law_many"]) fun _ _ _ _ _ _ us hl => match us, hl with | [_, _], _ => rfl, g_l_long := PySem.W.mg_of X G a42, F_l_gcd := fun_mk (st := s_l_gcd) l43 c43 k43, b_l_gcd := (fun_mk (st := s_l_gcd) l43 c43 k43).binds (ps := ["_law_one", "_law_other"]) fun _ _ _ _ _ _ us hl => match us, hl with | [_, _], _ => rfl, g_l_gcd := PySem.W.mg_of X G a43, F_l_share := fun_mk (st := s_l_share) l44 c44 k44, b_l_share := (fun_mk (st := s_l_share) l44 c44 k44).binds (ps := ["_law_top", "_law_bottom"]) fun _ _ _ _ _ _ us hl => match us, hl with | [_, _], _ => rfl, g_l_share := PySem.W.mg_of X G a44, F_l_plus := fun_mk (st := s_l_plus) l45 c45 k45, b_l_plus := (fun_mk (st := s_l_plus) l45 c45 k45).binds (ps := ["_law_one", "_law_other"]) fun _ _ _ _ _ _ us hl => match us, hl with | [_, _], _ => rfl, g_l_plus := PySem.W.mg_of X G a45, F_l_times := fun_mk (st := s_l_times) l46 c46 k46, b_l_times := (fun_mk (st := s_l_times) l46 c46 k46).binds (ps := ["_law_one", "_law_other"]) fun _ _ _ _ _ _ us hl => match us, hl with | [_, _], _ => rfl, g_l_times := PySem.W.mg_of X G a46, F_l_along := fun_mk (st := s_l_along) l47 c47 k47, b_l_along := (fun_mk (st := s_l_along) l47 c47 k47).binds (ps := ["_law_way_here", "_law_spot_here"]) fun _ _ _ _ _ _ us hl => match us, hl with | [_, _], _ => rfl, g_l_along := PySem.W.mg_of X G a47, F_l_spot := fun_mk (st := s_l_spot) l48 c48 k48, b_l_spot := (fun_mk (st := s_l_spot) l48 c48 k48).binds (ps := ["_law_spot_here"]) fun _ _ _ _ _ _ us hl => match us, hl with | [_], _ => rfl, g_l_spot := PySem.W.mg_of X G a48, F_l_spot_plus := fun_mk (st := s_l_spot_plus) l49 c49 k49, b_l_spot_plus := (fun_mk (st := s_l_spot_plus) l49 c49 k49).binds (ps := ["_law_one", "_law_other"]) fun _ _ _ _ _ _ us hl => match us, hl with | [_, _], _ => rfl, g_l_spot_plus := PySem.W.mg_of X G a49, F_l_spot_times := fun_mk (st := s_l_spot_times) l50 c50 k50, b_l_spot_times := (fun_mk (st := s_l_spot_times) l50 c50 k50).binds (ps := ["_law_spot_here", "_law_size"]) fun _ _ _ _ _ _ us hl => match us, hl with | [_, _], _ => rfl, g_l_spot_times := PySem.W.mg_of X G a50, F_l_left := fun_mk (st := s_l_left) l51 c51 k51, b_l_left := (fun_mk (st := s_l_left) l51 c51 k51).binds (ps := ["_law_a", "_law_b", "_law_c"]) fun _ _ _ _ _ _ us hl => match us, hl with | [_, _, _], _ => rfl, g_l_left := PySem.W.mg_of X G a51, F_l_half := fun_mk (st := s_l_half) l52 c52 k52, b_l_half := (fun_mk (st := s_l_half) l52 c52 k52).binds (ps := ["_law_points"]) fun _ _ _ _ _ _ us hl => match us, hl with | [_], _ => rfl, g_l_half := PySem.W.mg_of X G a52, F_l_number := fun_mk (st := s_l_number) l53 c53 k53, b_l_number := (fun_mk (st := s_l_number) l53 c53 k53).binds (ps := ["_law_deck_here", "_law_span"]) fun _ _ _ _ _ _ us hl => match us, hl with | [_, _], _ => rfl, g_l_number := PySem.W.mg_of X G a53, F_l_eight := fun_mk (st := s_l_eight) l54 c54 k54, b_l_eight := (fun_mk (st := s_l_eight) l54 c54 k54).binds (ps := ["_law_deck_here", "_law_most"]) fun _ _ _ _ _ _ us hl => match us, hl with | [_, _], _ => rfl, g_l_eight := PySem.W.mg_of X G a54, F_l_shape := fun_mk (st := s_l_shape) l55 c55 k55, b_l_shape := (fun_mk (st := s_l_shape) l55 c55 k55).binds (ps := ["_law_deck_here", "_law_span"]) fun _ _ _ _ _ _ us hl => match us, hl with | [_, _], _ => rfl, g_l_shape := PySem.W.mg_of X G a55, F_l_ways := fun_mk (st := s_l_ways) l56 c56 k56, b_l_ways := (fun_mk (st := s_l_ways) l56 c56 k56).binds (ps := ["_law_shape_here"]) fun _ _ _ _ _ _ us hl => match us, hl with | [_], _ => rfl, g_l_ways := PySem.W.mg_of X G a56, F_l_way := fun_mk (st := s_l_way) l57 c57 k57, b_l_way := (fun_mk (st := s_l_way) l57 c57 k57).binds (ps := ["_law_p", "_law_q"]) fun _ _ _ _ _ _ us hl => match us, hl with | [_, _], _ => rfl, g_l_way := PySem.W.mg_of X G a57, F_l_pair_ways := fun_mk (st := s_l_pair_ways) l58 c58 k58, b_l_pair_ways := (fun_mk (st := s_l_pair_ways) l58 c58 k58).binds (ps := ["_law_one", "_law_other"]) fun _ _ _ _ _ _ us hl => match us, hl with | [_, _], _ => rfl, g_l_pair_ways := PySem.W.mg_of X G a58, F_l_reach := fun_mk (st := s_l_reach) l59 c59 k59, b_l_reach := (fun_mk (st := s_l_reach) l59 c59 k59).binds (ps := ["_law_shape_here", "_law_way_here"]) fun _ _ _ _ _ _ us hl => match us, hl with | [_, _], _ => rfl, g_l_reach := PySem.W.mg_of X G a59, F_l_between := fun_mk (st := s_l_between) l60 c60 k60, b_l_between := (fun_mk (st := s_l_between) l60 c60 k60).binds (ps := ["_law_one", "_law_other", "_law_after"]) fun _ _ _ _ _ _ us hl => match us, hl with | [_, _, _], _ => rfl, g_l_between := PySem.W.mg_of X G a60, F_l_room := fun_mk (st := s_l_room) l61 c61 k61, b_l_room := (fun_mk (st := s_l_room) l61 c61 k61).binds (ps := ["_law_one", "_law_other", "_law_way_here", "_law_gone"]) fun _ _ _ _ _ _ us hl => match us, hl with | [_, _, _, _], _ => rfl, g_l_room := PySem.W.mg_of X G a61, F_l_rooms := fun_mk (st := s_l_rooms) l62 c62 k62, b_l_rooms := (fun_mk (st := s_l_rooms) l62 c62 k62).binds (ps := ["_law_one", "_law_other", "_law_after"]) fun _ _ _ _ _ _ us hl => match us, hl with | [_, _, _], _ => rfl, g_l_rooms := PySem.W.mg_of X G a62, F_l_over := fun_mk (st := s_l_over) l63 c63 k63, b_l_over := (fun_mk (st := s_l_over) l63 c63 k63).binds (ps := ["_law_one", "_law_other", "_law_after"]) fun _ _ _ _ _ _ us hl => match us, hl with | [_, _, _], _ => rfl, g_l_over := PySem.W.mg_of X G a63, F_l_speeding := fun_mk (st := s_l_speeding) l64 c64 k64, b_l_speeding := (fun_mk (st := s_l_speeding) l64 c64 k64).binds (ps := ["_law_one", "_law_other", "_law_way_here"]) fun _ _ _ _ _ _ us hl => match us, hl with | [_, _, _], _ => rfl, g_l_speeding := PySem.W.mg_of X G a64, F_l_names := fun_mk (st := s_l_names) l65 c65 k65, b_l_names := (fun_mk (st := s_l_names) l65 c65 k65).binds (ps := ["_law_deck_here"]) fun _ _ _ _ _ _ us hl => match us, hl with | [_], _ => rfl, g_l_names := PySem.W.mg_of X G a65, F_l_drawn := fun_mk (st := s_l_drawn) l66 c66 k66, b_l_drawn := (fun_mk (st := s_l_drawn) l66 c66 k66).binds (ps := ["_law_deck_here", "_law_size"]) fun _ _ _ _ _ _ us hl => match us, hl with | [_, _], _ => rfl, g_l_drawn := PySem.W.mg_of X G a66, F_l_row := fun_mk (st := s_l_row) l67 c67 k67, b_l_row := (fun_mk (st := s_l_row) l67 c67 k67).binds (ps := ["_law_deck_here", "_law_name", "_law_span", "_law_size", "_law_is_free"]) fun _ _ _ _ _ _ us hl => match us, hl with | [_, _, _, _, _], _ => rfl, g_l_row := PySem.W.mg_of X G a67, F_l_pair := fun_mk (st := s_l_pair) l68 c68 k68, b_l_pair := (fun_mk (st := s_l_pair) l68 c68 k68).binds (ps := ["_law_deck_here"]) fun _ _ _ _ _ _ us hl => match us, hl with | [_], _ => rfl, g_l_pair := PySem.W.mg_of X G a68, F_l_until := fun_mk (st := s_l_until) l69 c69 k69, b_l_until := (fun_mk (st := s_l_until) l69 c69 k69).binds (ps := ["_law_deck_here", "_law_when"]) fun _ _ _ _ _ _ us hl => match us, hl with | [_, _], _ => rfl, g_l_until := PySem.W.mg_of X G a69, F_l_is_whole := fun_mk (st := s_l_is_whole) l70 c70 k70, b_l_is_whole := (fun_mk (st := s_l_is_whole) l70 c70 k70).binds (ps := ["_law_thing"]) fun _ _ _ _ _ _ us hl => match us, hl with | [_], _ => rfl, g_l_is_whole := PySem.W.mg_of X G a70, F_l_is_share := fun_mk (st := s_l_is_share) l71 c71 k71, b_l_is_share := (fun_mk (st := s_l_is_share) l71 c71 k71).binds (ps := ["_law_thing"]) fun _ _ _ _ _ _ us hl => match us, hl with | [_], _ => rfl, g_l_is_share := PySem.W.mg_of X G a71, F_l_is_way := fun_mk (st := s_l_is_way) l72 c72 k72, b_l_is_way := (fun_mk (st := s_l_is_way) l72 c72 k72).binds (ps := ["_law_thing"]) fun _ _ _ _ _ _ us hl => match us, hl with | [_], _ => rfl, g_l_is_way := PySem.W.mg_of X G a72, F_l_meets := fun_mk (st := s_l_meets) l73 c73 k73, b_l_meets := (fun_mk (st := s_l_meets) l73 c73 k73).binds (ps := ["_law_one", "_law_other", "_law_until_here", "_law_time", "_law_way_here"]) fun _ _ _ _ _ _ us hl => match us, hl with | [_, _, _, _, _], _ => rfl, g_l_meets := PySem.W.mg_of X G a73, F_l_due := fun_mk (st := s_l_due) l74 c74 k74, b_l_due := (fun_mk (st := s_l_due) l74 c74 k74).binds (ps := ["_law_one", "_law_other", "_law_until_here", "_law_paper"]) fun _ _ _ _ _ _ us hl => match us, hl with | [_, _, _, _], _ => rfl, g_l_due := PySem.W.mg_of X G a74, F_l_crossings := fun_mk (st := s_l_crossings) l75 c75 k75, b_l_crossings := (fun_mk (st := s_l_crossings) l75 c75 k75).binds (ps := ["_law_one", "_law_other"]) fun _ _ _ _ _ _ us hl => match us, hl with | [_, _], _ => rfl, g_l_crossings := PySem.W.mg_of X G a75, F_l_upright := fun_mk (st := s_l_upright) l76 c76 k76, b_l_upright := (fun_mk (st := s_l_upright) l76 c76 k76).binds (ps := ["_law_one", "_law_other"]) fun _ _ _ _ _ _ us hl => match us, hl with | [_, _], _ => rfl, g_l_upright := PySem.W.mg_of X G a76, F_l_bent := fun_mk (st := s_l_bent) l77 c77 k77, b_l_bent := (fun_mk (st := s_l_bent) l77 c77 k77).binds (ps := ["_law_deck_here", "_law_paper"]) fun _ _ _ _ _ _ us hl => match us, hl with | [_, _], _ => rfl, g_l_bent := PySem.W.mg_of X G a77, F_l_papers := fun_mk (st := s_l_papers) l78 c78 k78, b_l_papers := (fun_mk (st := s_l_papers) l78 c78 k78).binds (ps := ["_law_deck_here", "_law_one", "_law_other", "_law_until_here"]) fun _ _ _ _ _ _ us hl => match us, hl with | [_, _, _, _], _ => rfl, g_l_papers := PySem.W.mg_of X G a78, F_law := fun_mk (st := s_law) l79 c79 k79, b_law := (fun_mk (st := s_law) l79 c79 k79).binds (ps := ["_law_script"]) fun _ _ _ _ _ _ us hl => match us, hl with | [_], _ => rfl, g_law := PySem.W.mg_of X G a79, m_abs := PySem.W.mg_none_of X G z_abs, m_all := PySem.W.mg_none_of X G z_all, m_bool := PySem.W.mg_none_of X G z_bool, m_enumerate := PySem.W.mg_none_of X G z_enumerate, m_int := PySem.W.mg_none_of X G z_int, m_isinstance := PySem.W.mg_none_of X G z_isinstance, m_len := PySem.W.mg_none_of X G z_len, m_list := PySem.W.mg_none_of X G z_list, m_max := PySem.W.mg_none_of X G z_max, m_min := PySem.W.mg_none_of X G z_min, m_range := PySem.W.mg_none_of X G z_range, m_repr := PySem.W.mg_none_of X G z_repr, m_set := PySem.W.mg_none_of X G z_set, m_sorted := PySem.W.mg_none_of X G z_sorted, m_str := PySem.W.mg_none_of X G z_str, m_tuple := PySem.W.mg_none_of X G z_tuple, m_zip := PySem.W.mg_none_of X G z_zip, g_BodyError := PySem.W.mg_of X G ac_BodyError, g_NoShare := PySem.W.mg_of X G ac_NoShare, g_NoWay := PySem.W.mg_of X G ac_NoWay, g_Over := PySem.W.mg_of X G ac_Over, g_LEADING := PySem.W.mg_of X G an_LEADING, g_LENGTHY := PySem.W.mg_of X G an_LENGTHY, g_NOUGHT := PySem.W.mg_of X G an_NOUGHT, t_NOUGHT := fun H => .inr ⟨_, _, _, ln_NOUGHT, rfl, rfl, size63 (show 2 ≤ 1000 by decide), (.cons ⟨_, rfl⟩ (.cons ⟨_, rfl⟩ .nil))⟩, g_p_gap := PySem.W.mg_of X G aL_gap, F_p_gap := FL_gap, b_p_gap := hb2_gap, b1_p_gap := hb1_gap, g_p_share := PySem.W.mg_of X G aL_share, F_p_share := FL_share, b_p_share := hb2_share }
  exact ⟨PySem.W.fnOf "law" "law" (defArgs s_law) (defBody s_law) (defScope s_law) .none kV79 dc79 pm79 an79 cd79 ct79, fun s v => .of_eq rfl, fun base _ _ => ok_law (A := A0) T⟩
end R
open PySem PySem.W PyProof.Rows
set_option maxRecDepth 100000 in
set_option maxHeartbeats 0 in
theorem PySem.Challenge.cw_restbodies_k21_first_held_holds : PySem.Challenge.rw_restbodies_k21_first_held.Holds := by
  w_on; o_law; k_head; (case hw => w_witness2)
  k_fill
  refine R.walkG (l := PySem.Challenge.rw_restbodies_k21_first_held) (n := 63) (k := 14) (x := "_law_script") (sp := fun w => R.sp_law _) rfl (by decide) rfl ⟨rfl, by decide, by decide⟩ (fun w h Y => PySem.W.kIn_of Y) ?F (fun _ _ a ns hl hO hS => ⟨a, ns, rfl, hO, hS, hl, fun _ => rfl⟩)
  case F =>
    intro w mg fa h KX G hmg
    refine' R.all_mk KX G hmg ?a0 ?l0 ?c0 ?k0 ?a1 ?l1 ?c1 ?k1 ?a2 ?l2 ?c2 ?k2 ?a3 ?l3 ?c3 ?k3 ?a4 ?l4 ?c4 ?k4 ?a6 ?l6 ?c6 ?k6 ?a7 ?l7 ?c7 ?k7 ?a8 ?l8 ?c8 ?k8 ?a9 ?l9 ?c9 ?k9 ?a10 ?l10 ?c10 ?k10 ?a11 ?l11 ?c11 ?k11 ?a12 ?l12 ?c12 ?k12 ?a13 ?l13 ?c13 ?k13 ?a14 ?l14 ?c14 ?k14 ?a15 ?l15 ?c15 ?k15 ?a16 ?l16 ?c16 ?k16 ?a17 ?l17 ?c17 ?k17 ?a18 ?l18 ?c18 ?k18 ?a19 ?l19 ?c19 ?k19 ?a20 ?l20 ?c20 ?k20 ?a21 ?l21 ?c21 ?k21 ?a22 ?l22 ?c22 ?k22 ?a23 ?l23 ?c23 ?k23 ?a24 ?l24 ?c24 ?k24 ?a25 ?l25 ?c25 ?k25 ?a26 ?l26 ?c26 ?k26 ?a28 ?l28 ?c28 ?k28 ?a29 ?l29 ?c29 ?k29 ?a30 ?l30 ?c30 ?k30 ?a31 ?l31 ?c31 ?k31 ?a32 ?l32 ?c32 ?k32 ?a33 ?l33 ?c33 ?k33 ?a34 ?l34 ?c34 ?k34 ?a35 ?l35 ?c35 ?k35 ?a36 ?l36 ?c36 ?k36 ?a37 ?l37 ?c37 ?k37 ?a38 ?l38 ?c38 ?k38 ?a39 ?l39 ?c39 ?k39 ?a40 ?l40 ?c40 ?k40 ?a41 ?l41 ?c41 ?k41 ?a42 ?l42 ?c42 ?k42 ?a43 ?l43 ?c43 ?k43 ?a44 ?l44 ?c44 ?k44 ?a45 ?l45 ?c45 ?k45 ?a46 ?l46 ?c46 ?k46 ?a47 ?l47 ?c47 ?k47 ?a48 ?l48 ?c48 ?k48 ?a49 ?l49 ?c49 ?k49 ?a50 ?l50 ?c50 ?k50 ?a51 ?l51 ?c51 ?k51 ?a52 ?l52 ?c52 ?k52 ?a53 ?l53 ?c53 ?k53 ?a54 ?l54 ?c54 ?k54 ?a55 ?l55 ?c55 ?k55 ?a56 ?l56 ?c56 ?k56 ?a57 ?l57 ?c57 ?k57 ?a58 ?l58 ?c58 ?k58 ?a59 ?l59 ?c59 ?k59 ?a60 ?l60 ?c60 ?k60 ?a61 ?l61 ?c61 ?k61 ?a62 ?l62 ?c62 ?k62 ?a63 ?l63 ?c63 ?k63 ?a64 ?l64 ?c64 ?k64 ?a65 ?l65 ?c65 ?k65 ?a66 ?l66 ?c66 ?k66 ?a67 ?l67 ?c67 ?k67 ?a68 ?l68 ?c68 ?k68 ?a69 ?l69 ?c69 ?k69 ?a70 ?l70 ?c70 ?k70 ?a71 ?l71 ?c71 ?k71 ?a72 ?l72 ?c72 ?k72 ?a73 ?l73 ?c73 ?k73 ?a74 ?l74 ?c74 ?k74 ?a75 ?l75 ?c75 ?k75 ?a76 ?l76 ?c76 ?k76 ?a77 ?l77 ?c77 ?k77 ?a78 ?l78 ?c78 ?k78 ?a79 ?l79 ?c79 ?k79 ?z_abs ?z_all ?z_bool ?z_enumerate ?z_int ?z_isinstance ?z_len ?z_list ?z_max ?z_min ?z_range ?z_repr ?z_set ?z_sorted ?z_str ?z_tuple ?z_zip ?ac_BodyError ?ac_NoShare ?ac_NoWay ?ac_Over ?an_LEADING ?an_LENGTHY ?an_NOUGHT ?ln_NOUGHT ?aL_gap ?lL_gap ?cL_gap ?kL_gap ?lT_gap ?aL_share ?lL_share ?cL_share ?kL_share ?lT_share
    (case a0 => k_is)
    (case l0 => k_is)
    (case c0 => k_is)
    (case k0 => k_is)
    (case a1 => k_is)
    (case l1 => k_is)
    (case c1 => k_is)
    (case k1 => k_is)
    (case a2 => k_is)
    (case l2 => k_is)
    (case c2 => k_is)
    (case k2 => k_is)
    (case a3 => k_is)
    (case l3 => k_is)
    (case c3 => k_is)
    (case k3 => k_is)
    (case a4 => k_is)
    (case l4 => k_is)
    (case c4 => k_is)
    (case k4 => k_is)
    (case a6 => k_is)
    (case l6 => k_is)
    (case c6 => k_is)
    (case k6 => k_is)
    (case a7 => k_is)
    (case l7 => k_is)
    (case c7 => k_is)
    (case k7 => k_is)
    (case a8 => k_is)
    (case l8 => k_is)
    (case c8 => k_is)
    (case k8 => k_is)
    (case a9 => k_is)
    (case l9 => k_is)
    (case c9 => k_is)
    (case k9 => k_is)
    (case a10 => k_is)
    (case l10 => k_is)
    (case c10 => k_is)
    (case k10 => k_is)
    (case a11 => k_is)
    (case l11 => k_is)
    (case c11 => k_is)
    (case k11 => k_is)
    (case a12 => k_is)
    (case l12 => k_is)
    (case c12 => k_is)
    (case k12 => k_is)
    (case a13 => k_is)
    (case l13 => k_is)
    (case c13 => k_is)
    (case k13 => k_is)
    (case a14 => k_is)
    (case l14 => k_is)
    (case c14 => k_is)
    (case k14 => k_is)
    (case a15 => k_is)
    (case l15 => k_is)
    (case c15 => k_is)
    (case k15 => k_is)
    (case a16 => k_is)
    (case l16 => k_is)
    (case c16 => k_is)
    (case k16 => k_is)
    (case a17 => k_is)
    (case l17 => k_is)
    (case c17 => k_is)
    (case k17 => k_is)
    (case a18 => k_is)
    (case l18 => k_is)
    (case c18 => k_is)
    (case k18 => k_is)
    (case a19 => k_is)
    (case l19 => k_is)
    (case c19 => k_is)
    (case k19 => k_is)
    (case a20 => k_is)
    (case l20 => k_is)
    (case c20 => k_is)
    (case k20 => k_is)
    (case a21 => k_is)
    (case l21 => k_is)
    (case c21 => k_is)
    (case k21 => k_is)
    (case a22 => k_is)
    (case l22 => k_is)
    (case c22 => k_is)
    (case k22 => k_is)
    (case a23 => k_is)
    (case l23 => k_is)
    (case c23 => k_is)
    (case k23 => k_is)
    (case a24 => k_is)
    (case l24 => k_is)
    (case c24 => k_is)
    (case k24 => k_is)
    (case a25 => k_is)
    (case l25 => k_is)
    (case c25 => k_is)
    (case k25 => k_is)
    (case a26 => k_is)
    (case l26 => k_is)
    (case c26 => k_is)
    (case k26 => k_is)
    (case a28 => k_is)
    (case l28 => k_is)
    (case c28 => k_is)
    (case k28 => k_is)
    (case a29 => k_is)
    (case l29 => k_is)
    (case c29 => k_is)
    (case k29 => k_is)
    (case a30 => k_is)
    (case l30 => k_is)
    (case c30 => k_is)
    (case k30 => k_is)
    (case a31 => k_is)
    (case l31 => k_is)
    (case c31 => k_is)
    (case k31 => k_is)
    (case a32 => k_is)
    (case l32 => k_is)
    (case c32 => k_is)
    (case k32 => k_is)
    (case a33 => k_is)
    (case l33 => k_is)
    (case c33 => k_is)
    (case k33 => k_is)
    (case a34 => k_is)
    (case l34 => k_is)
    (case c34 => k_is)
    (case k34 => k_is)
    (case a35 => k_is)
    (case l35 => k_is)
    (case c35 => k_is)
    (case k35 => k_is)
    (case a36 => k_is)
    (case l36 => k_is)
    (case c36 => k_is)
    (case k36 => k_is)
    (case a37 => k_is)
    (case l37 => k_is)
    (case c37 => k_is)
    (case k37 => k_is)
    (case a38 => k_is)
    (case l38 => k_is)
    (case c38 => k_is)
    (case k38 => k_is)
    (case a39 => k_is)
    (case l39 => k_is)
    (case c39 => k_is)
    (case k39 => k_is)
    (case a40 => k_is)
    (case l40 => k_is)
    (case c40 => k_is)
    (case k40 => k_is)
    (case a41 => k_is)
    (case l41 => k_is)
    (case c41 => k_is)
    (case k41 => k_is)
    (case a42 => k_is)
    (case l42 => k_is)
    (case c42 => k_is)
    (case k42 => k_is)
    (case a43 => k_is)
    (case l43 => k_is)
    (case c43 => k_is)
    (case k43 => k_is)
    (case a44 => k_is)
    (case l44 => k_is)
    (case c44 => k_is)
    (case k44 => k_is)
    (case a45 => k_is)
    (case l45 => k_is)
    (case c45 => k_is)
    (case k45 => k_is)
    (case a46 => k_is)
    (case l46 => k_is)
    (case c46 => k_is)
    (case k46 => k_is)
    (case a47 => k_is)
    (case l47 => k_is)
    (case c47 => k_is)
    (case k47 => k_is)
    (case a48 => k_is)
    (case l48 => k_is)
    (case c48 => k_is)
    (case k48 => k_is)
    (case a49 => k_is)
    (case l49 => k_is)
    (case c49 => k_is)
    (case k49 => k_is)
    (case a50 => k_is)
    (case l50 => k_is)
    (case c50 => k_is)
    (case k50 => k_is)
    (case a51 => k_is)
    (case l51 => k_is)
    (case c51 => k_is)
    (case k51 => k_is)
    (case a52 => k_is)
    (case l52 => k_is)
    (case c52 => k_is)
    (case k52 => k_is)
    (case a53 => k_is)
    (case l53 => k_is)
    (case c53 => k_is)
    (case k53 => k_is)
    (case a54 => k_is)
    (case l54 => k_is)
    (case c54 => k_is)
    (case k54 => k_is)
    (case a55 => k_is)
    (case l55 => k_is)
    (case c55 => k_is)
    (case k55 => k_is)
    (case a56 => k_is)
    (case l56 => k_is)
    (case c56 => k_is)
    (case k56 => k_is)
    (case a57 => k_is)
    (case l57 => k_is)
    (case c57 => k_is)
    (case k57 => k_is)
    (case a58 => k_is)
    (case l58 => k_is)
    (case c58 => k_is)
    (case k58 => k_is)
    (case a59 => k_is)
    (case l59 => k_is)
    (case c59 => k_is)
    (case k59 => k_is)
    (case a60 => k_is)
    (case l60 => k_is)
    (case c60 => k_is)
    (case k60 => k_is)
    (case a61 => k_is)
    (case l61 => k_is)
    (case c61 => k_is)
    (case k61 => k_is)
    (case a62 => k_is)
    (case l62 => k_is)
    (case c62 => k_is)
    (case k62 => k_is)
    (case a63 => k_is)
    (case l63 => k_is)
    (case c63 => k_is)
    (case k63 => k_is)
    (case a64 => k_is)
    (case l64 => k_is)
    (case c64 => k_is)
    (case k64 => k_is)
    (case a65 => k_is)
    (case l65 => k_is)
    (case c65 => k_is)
    (case k65 => k_is)
    (case a66 => k_is)
    (case l66 => k_is)
    (case c66 => k_is)
    (case k66 => k_is)
    (case a67 => k_is)
    (case l67 => k_is)
    (case c67 => k_is)
    (case k67 => k_is)
    (case a68 => k_is)
    (case l68 => k_is)
    (case c68 => k_is)
    (case k68 => k_is)
    (case a69 => k_is)
    (case l69 => k_is)
    (case c69 => k_is)
    (case k69 => k_is)
    (case a70 => k_is)
    (case l70 => k_is)
    (case c70 => k_is)
    (case k70 => k_is)
    (case a71 => k_is)
    (case l71 => k_is)
    (case c71 => k_is)
    (case k71 => k_is)
    (case a72 => k_is)
    (case l72 => k_is)
    (case c72 => k_is)
    (case k72 => k_is)
    (case a73 => k_is)
    (case l73 => k_is)
    (case c73 => k_is)
    (case k73 => k_is)
    (case a74 => k_is)
    (case l74 => k_is)
    (case c74 => k_is)
    (case k74 => k_is)
    (case a75 => k_is)
    (case l75 => k_is)
    (case c75 => k_is)
    (case k75 => k_is)
    (case a76 => k_is)
    (case l76 => k_is)
    (case c76 => k_is)
    (case k76 => k_is)
    (case a77 => k_is)
    (case l77 => k_is)
    (case c77 => k_is)
    (case k77 => k_is)
    (case a78 => k_is)
    (case l78 => k_is)
    (case c78 => k_is)
    (case k78 => k_is)
    (case a79 => k_is)
    (case l79 => k_is)
    (case c79 => k_is)
    (case k79 => k_is)
    (case z_abs => k_is)
    (case z_all => k_is)
    (case z_bool => k_is)
    (case z_enumerate => k_is)
    (case z_int => k_is)
    (case z_isinstance => k_is)
    (case z_len => k_is)
    (case z_list => k_is)
    (case z_max => k_is)
    (case z_min => k_is)
    (case z_range => k_is)
    (case z_repr => k_is)
    (case z_set => k_is)
    (case z_sorted => k_is)
    (case z_str => k_is)
    (case z_tuple => k_is)
    (case z_zip => k_is)
    (case ac_BodyError => k_is)
    (case ac_NoShare => k_is)
    (case ac_NoWay => k_is)
    (case ac_Over => k_is)
    (case an_LEADING => k_is)
    (case an_LENGTHY => k_is)
    (case an_NOUGHT => k_is)
    (case ln_NOUGHT => k_is)
    (case aL_gap => k_is)
    (case lL_gap => k_is)
    (case cL_gap => k_is)
    (case kL_gap => k_is)
    (case lT_gap => k_is)
    (case aL_share => k_is)
    (case lL_share => k_is)
    (case cL_share => k_is)
    (case kL_share => k_is)
    (case lT_share => k_is)
