import PyProof.Rows.All
import Wide.All
import OpenK.AllK
import Wide.FinOn
import HandS.ForMost
import HandS.Wide
import HandS.IsInst
import HandS.Defaults
import HandS.WideBits

import HandS.ForExc
import HandS.ExcIs
import HandS.Style
import HandS.Sort
import HandS.SortRule
import HandS.Zip
import HandS.Iter
import HandS.Deep
import HandS.TupSets
import HandS.TupLe
import HandS.TupAny
import PySem.Challenge.RW_restbodies_k08_whole_shapes
set_option Elab.async false
set_option linter.all false
set_option maxRecDepth 100000
set_option maxHeartbeats 2000000
set_option synthInstance.maxSize 100000
set_option synthInstance.maxHeartbeats 2000000
namespace R
open PySem PySem.Spec PyProof.Rows L2
/-! ### the text -/
def topS (i : Nat) : Stmt := PySem.Challenge.pw_restbodies_k08_whole_shapes.main.body.getD i (.Pass ⟨0, 0, 0, 0⟩)
abbrev s_p_is_whole : Stmt := topS 9
theorem sc_p_is_whole : FnScope ["thing"] ["thing"] (defScope s_p_is_whole) := ⟨rfl, rfl, rfl, by decide +kernel, rfl, by decide +kernel, by decide +kernel⟩
abbrev s_p_in_reach : Stmt := topS 10
theorem sc_p_in_reach : FnScope ["thing"] ["thing"] (defScope s_p_in_reach) := ⟨rfl, rfl, rfl, by decide +kernel, rfl, by decide +kernel, by decide +kernel⟩
abbrev s_p_divided : Stmt := topS 11
theorem sc_p_divided : FnScope ["one", "other", "shift", "x", "y", "a", "b", "c", "d", "many"] ["one", "other"] (defScope s_p_divided) := ⟨rfl, rfl, rfl, by decide +kernel, rfl, by decide +kernel, by decide +kernel⟩
abbrev s_p_shortened : Stmt := topS 12
theorem sc_p_shortened : FnScope ["one", "other", "a", "b", "c", "d", "low", "high"] ["one", "other"] (defScope s_p_shortened) := ⟨rfl, rfl, rfl, by decide +kernel, rfl, by decide +kernel, by decide +kernel⟩
abbrev s_p_common_divisor : Stmt := topS 13
theorem sc_p_common_divisor : FnScope ["one", "other"] ["one", "other"] (defScope s_p_common_divisor) := ⟨rfl, rfl, rfl, by decide +kernel, rfl, by decide +kernel, by decide +kernel⟩
abbrev s_p_plus : Stmt := topS 15
theorem sc_p_plus : FnScope ["one", "other", "top", "bottom", "more", "part", "divisor", "total", "again"] ["one", "other"] (defScope s_p_plus) := ⟨rfl, rfl, rfl, by decide +kernel, rfl, by decide +kernel, by decide +kernel⟩
abbrev s_p_minus : Stmt := topS 16
theorem sc_p_minus : FnScope ["one", "other", "top", "bottom"] ["one", "other"] (defScope s_p_minus) := ⟨rfl, rfl, rfl, by decide +kernel, rfl, by decide +kernel, by decide +kernel⟩
abbrev s_p_times : Stmt := topS 17
theorem sc_p_times : FnScope ["one", "other", "top", "bottom", "more", "part", "divisor", "again"] ["one", "other"] (defScope s_p_times) := ⟨rfl, rfl, rfl, by decide +kernel, rfl, by decide +kernel, by decide +kernel⟩
abbrev s_p_order : Stmt := topS 18
theorem sc_p_order : FnScope ["one", "other", "left", "right"] ["one", "other"] (defScope s_p_order) := ⟨rfl, rfl, rfl, by decide +kernel, rfl, by decide +kernel, by decide +kernel⟩
abbrev s_p_way_of : Stmt := topS 20
theorem sc_p_way_of : FnScope ["p", "q", "divisor"] ["p", "q"] (defScope s_p_way_of) := ⟨rfl, rfl, rfl, by decide +kernel, rfl, by decide +kernel, by decide +kernel⟩
abbrev s_p_along : Stmt := topS 21
theorem sc_p_along : FnScope ["way", "spot", "p", "q", "x", "y"] ["way", "spot"] (defScope s_p_along) := ⟨rfl, rfl, rfl, by decide +kernel, rfl, by decide +kernel, by decide +kernel⟩
abbrev s_p_spot_minus : Stmt := topS 22
theorem sc_p_spot_minus : FnScope ["one", "other"] ["one", "other"] (defScope s_p_spot_minus) := ⟨rfl, rfl, rfl, by decide +kernel, rfl, by decide +kernel, by decide +kernel⟩
abbrev s_p_look_corner : Stmt := topS 24
theorem sc_p_look_corner : FnScope ["thing", "x", "y"] ["thing"] (defScope s_p_look_corner) := ⟨rfl, rfl, rfl, by decide +kernel, rfl, by decide +kernel, by decide +kernel⟩
abbrev s_p_side_ends : Stmt := topS 25
theorem sc_p_side_ends : FnScope ["corners"] ["corners"] (defScope s_p_side_ends) := ⟨rfl, rfl, rfl, by decide +kernel, rfl, by decide +kernel, by decide +kernel⟩
abbrev s_p_is_left : Stmt := topS 26
theorem sc_p_is_left : FnScope ["start", "end", "corner", "a", "b", "c", "d", "x", "y"] ["start", "end", "corner"] (defScope s_p_is_left) := ⟨rfl, rfl, rfl, by decide +kernel, rfl, by decide +kernel, by decide +kernel⟩
abbrev s_p_is_side : Stmt := topS 27
theorem sc_p_is_side : FnScope ["corners", "start", "end", "corner"] ["corners", "start", "end"] (defScope s_p_is_side) := ⟨rfl, rfl, rfl, by decide +kernel, rfl, by decide +kernel, by decide +kernel⟩
abbrev s_p_look_shape : Stmt := topS 28
theorem sc_p_look_shape : FnScope ["thing", "corners", "first", "corner", "start", "end"] ["thing"] (defScope s_p_look_shape) := ⟨rfl, rfl, rfl, by decide +kernel, rfl, by decide +kernel, by decide +kernel⟩
abbrev s_p_outwards : Stmt := topS 29
theorem sc_p_outwards : FnScope ["start", "end", "a", "b", "c", "d"] ["start", "end"] (defScope s_p_outwards) := ⟨rfl, rfl, rfl, by decide +kernel, rfl, by decide +kernel, by decide +kernel⟩
abbrev s_p_sides : Stmt := topS 30
theorem sc_p_sides : FnScope ["shape", "start", "end"] ["shape"] (defScope s_p_sides) := ⟨rfl, rfl, rfl, by decide +kernel, rfl, by decide +kernel, by decide +kernel⟩
abbrev s_p_reach : Stmt := topS 31
theorem sc_p_reach : FnScope ["shape", "way", "p", "q", "x", "y"] ["shape", "way"] (defScope s_p_reach) := ⟨rfl, rfl, rfl, by decide +kernel, rfl, by decide +kernel, by decide +kernel⟩
abbrev s_p_within : Stmt := topS 32
theorem sc_p_within : FnScope ["shape", "place", "spot", "seen", "way"] ["shape", "place", "spot"] (defScope s_p_within) := ⟨rfl, rfl, rfl, by decide +kernel, rfl, by decide +kernel, by decide +kernel⟩
abbrev s_l_cell : Stmt := topS 34
theorem sc_l_cell : FnScope ["_law_script", "_law_k"] ["_law_script", "_law_k"] (defScope s_l_cell) := ⟨rfl, rfl, rfl, by decide +kernel, rfl, by decide +kernel, by decide +kernel⟩
abbrev s_l_mixed : Stmt := topS 35
theorem sc_l_mixed : FnScope ["_law_script", "_law_k", "_law_many", "_law_number"] ["_law_script", "_law_k", "_law_many"] (defScope s_l_mixed) := ⟨rfl, rfl, rfl, by decide +kernel, rfl, by decide +kernel, by decide +kernel⟩
abbrev s_l_deck : Stmt := topS 36
theorem sc_l_deck : FnScope ["_law_script", "_law_cell_here"] ["_law_script"] (defScope s_l_deck) := ⟨rfl, rfl, rfl, by decide +kernel, rfl, by decide +kernel, by decide +kernel⟩
abbrev s_l_take : Stmt := topS 37
theorem sc_l_take : FnScope ["_law_deck_here", "_law_many", "_law_cell_here"] ["_law_deck_here", "_law_many"] (defScope s_l_take) := ⟨rfl, rfl, rfl, by decide +kernel, rfl, by decide +kernel, by decide +kernel⟩
abbrev s_l_gcd : Stmt := topS 38
theorem sc_l_gcd : FnScope ["_law_one", "_law_other", "_law_rest"] ["_law_one", "_law_other"] (defScope s_l_gcd) := ⟨rfl, rfl, rfl, by decide +kernel, rfl, by decide +kernel, by decide +kernel⟩
abbrev s_l_share : Stmt := topS 39
theorem sc_l_share : FnScope ["_law_top", "_law_bottom", "_law_found"] ["_law_top", "_law_bottom"] (defScope s_l_share) := ⟨rfl, rfl, rfl, by decide +kernel, rfl, by decide +kernel, by decide +kernel⟩
abbrev s_l_left : Stmt := topS 40
theorem sc_l_left : FnScope ["_law_a", "_law_b", "_law_c"] ["_law_a", "_law_b", "_law_c"] (defScope s_l_left) := ⟨rfl, rfl, rfl, by decide +kernel, rfl, by decide +kernel, by decide +kernel⟩
abbrev s_l_half : Stmt := topS 41
theorem sc_l_half : FnScope ["_law_points", "_law_found", "_law_point_here"] ["_law_points"] (defScope s_l_half) := ⟨rfl, rfl, rfl, by decide +kernel, rfl, by decide +kernel, by decide +kernel⟩
abbrev s_l_hull : Stmt := topS 42
theorem sc_l_hull : FnScope ["_law_points", "_law_rows", "_law_found"] ["_law_points"] (defScope s_l_hull) := ⟨rfl, rfl, rfl, by decide +kernel, rfl, by decide +kernel, by decide +kernel⟩
abbrev s_l_shape : Stmt := topS 43
theorem sc_l_shape : FnScope ["_law_deck_here", "_law_kind", "_law_span", "_law_wide", "_law_high", "_law_points", "_law_turn", "_law_k"] ["_law_deck_here"] (defScope s_l_shape) := ⟨rfl, rfl, rfl, by decide +kernel, rfl, by decide +kernel, by decide +kernel⟩
abbrev s_l_way : Stmt := topS 44
theorem sc_l_way : FnScope ["_law_deck_here", "_law_p", "_law_q", "_law_part"] ["_law_deck_here"] (defScope s_l_way) := ⟨rfl, rfl, rfl, by decide +kernel, rfl, by decide +kernel, by decide +kernel⟩
abbrev s_l_is_way : Stmt := topS 45
theorem sc_l_is_way : FnScope ["_law_thing", "_law_number"] ["_law_thing"] (defScope s_l_is_way) := ⟨rfl, rfl, rfl, by decide +kernel, rfl, by decide +kernel, by decide +kernel⟩
abbrev s_l_far : Stmt := topS 46
theorem sc_l_far : FnScope ["_law_shape_here", "_law_way_here", "_law_found", "_law_rows", "_law_corner"] ["_law_shape_here", "_law_way_here"] (defScope s_l_far) := ⟨rfl, rfl, rfl, by decide +kernel, rfl, by decide +kernel, by decide +kernel⟩
abbrev s_l_ways_right : Stmt := topS 47
theorem sc_l_ways_right : FnScope ["_law_shape_here", "_law_ways", "_law_x", "_law_y", "_law_k", "_law_way_here", "_law_after", "_law_rows", "_law_p", "_law_q", "_law_times_so"] ["_law_shape_here", "_law_ways"] (defScope s_l_ways_right) := ⟨rfl, rfl, rfl, by decide +kernel, rfl, by decide +kernel, by decide +kernel⟩
abbrev s_l_point : Stmt := topS 48
theorem sc_l_point : FnScope ["_law_deck_here", "_law_shape_here", "_law_many", "_law_at_here", "_law_ring", "_law_a", "_law_b", "_law_c", "_law_one", "_law_two", "_law_rest"] ["_law_deck_here", "_law_shape_here"] (defScope s_l_point) := ⟨rfl, rfl, rfl, by decide +kernel, rfl, by decide +kernel, by decide +kernel⟩
abbrev s_l_at : Stmt := topS 49
theorem sc_l_at : FnScope ["_law_point_here", "_law_place", "_law_found", "_law_number", "_law_part"] ["_law_point_here", "_law_place"] (defScope s_l_at) := ⟨rfl, rfl, rfl, by decide +kernel, rfl, by decide +kernel, by decide +kernel⟩
abbrev s_l_below : Stmt := topS 50
theorem sc_l_below : FnScope ["_law_shape_here", "_law_ways", "_law_point_here", "_law_way_here"] ["_law_shape_here", "_law_ways", "_law_point_here"] (defScope s_l_below) := ⟨rfl, rfl, rfl, by decide +kernel, rfl, by decide +kernel, by decide +kernel⟩
abbrev s_l_spots_right : Stmt := topS 51
theorem sc_l_spots_right : FnScope ["_law_deck_here", "_law_shape_here", "_law_place", "_law_ways", "_law_many", "_law_way_here", "_law_inside", "_law_turn", "_law_point_here", "_law_found", "_law_one", "_law_other"] ["_law_deck_here", "_law_shape_here", "_law_place", "_law_ways", "_law_many"] (defScope s_l_spots_right) := ⟨rfl, rfl, rfl, by decide +kernel, rfl, by decide +kernel, by decide +kernel⟩
abbrev s_law : Stmt := topS 52
theorem sc_law : FnScope ["_law_script", "_law_deck_here", "_law_turn", "_law_shape_here", "_law_place", "_law_part", "_law_at_here", "_law_told", "_law_ways", "_law_many"] ["_law_script"] (defScope s_law) := ⟨rfl, rfl, rfl, by decide +kernel, rfl, by decide +kernel, by decide +kernel⟩
/-! ### heaps -/
theorem upd_some {H : Hp} {p x : Addr} {o u : HO} (hp : H p = none) (h : H x = some u) : (upd H p o) x = some u := by
  rw [upd_ne (ne_of_none h hp)]
  exact h
theorem same_upd {H : Hp} {p : Addr} {o : HO} (h : H p = none) : Same H (upd H p o) := fun b x e => upd_some h e
theorem alloc {H G : Hp} {p : Addr} {o : HO} (e : upd H p o = G) (hp : H p = none) : Same H G ∧ G p = some o := by
  subst e
  exact ⟨same_upd hp, upd_same⟩
theorem Same.seqT {K : PySem.W.Frag} {H H' : Hp} {a : Addr} {xs : List V} (e : Same H H') (h : SqT K H a xs) : SqT K H' a xs := by
  rcases h with (h | ⟨o, h⟩) | h
  · exact .inl (.inl (e _ _ h))
  · exact .inl (.inr ⟨o, e _ _ h⟩)
  · exact .inr h
/-- all but what stands at d and b is as it was -/
def Kp (d b : Addr) (H H' : Hp) : Prop := ∀ x o, x ≠ d → x ≠ b → H x = some o → H' x = some o
theorem Kp.refl {d b : Addr} {H : Hp} : Kp d b H H := fun _ _ _ _ h => h
theorem Kp.trans {d b : Addr} {H H1 H2 : Hp} (u : Kp d b H H1) (v : Kp d b H1 H2) : Kp d b H H2 := fun x o h1 h2 h => v x o h1 h2 (u x o h1 h2 h)
theorem Kp.same {d b : Addr} {H H' : Hp} (s : Same H H') : Kp d b H H' := fun x o _ _ h => s x o h
theorem Kp.free {d b : Addr} {H H' : Hp} (u : Kp d b H H') {x : Addr} (hd : H d ≠ none) (hb : H b ≠ none) (h : H' x = none) (h1 : H' d ≠ none) (h2 : H' b ≠ none) : H x = none := by
  cases e : H x with
  | none => rfl
  | some o =>
    by_cases e1 : x = d
    · subst e1; exact absurd h h1
    by_cases e2 : x = b
    · subst e2; exact absurd h h2
    rw [u x o e1 e2 e] at h
    cases h
/-- the law's script -/
def Sc (K : PySem.W.Frag) (H : Hp) (s : Addr) (ns : List Int) : Prop := (∃ o, H s = some (.frz o (.lst (ns.map V.int)))) ∨ ∀ H', SqL K H' s (ns.map V.int)
theorem Sc.seq {K : PySem.W.Frag} {H : Hp} {s : Addr} {ns : List Int} (h : Sc K H s ns) : SqL K H s (ns.map V.int) := by
  rcases h with ⟨o, h⟩ | h
  · exact .inl (.inr ⟨o, h⟩)
  · exact h H
theorem Sc.mk {K : PySem.W.Frag} {H : Hp} {s : Addr} {ns : List Int} (hO : Only H) (h : SqL K H s (ns.map V.int)) : Sc K H s ns := by
  rcases h with (h | ⟨o, h⟩) | h
  · rcases hO s with e | ⟨o, xs, e⟩
    · rw [e] at h; cases h
    · rw [e] at h; cases h
  · exact .inl ⟨o, h⟩
  · exact .inr fun H' => .inr h
theorem Sc.upd {K : PySem.W.Frag} {H : Hp} {s b : Addr} {ns : List Int} {u : HO} (h : Sc K H s ns) (hb : H b = none ∨ ∃ xs, H b = some (.lst xs)) : Sc K (upd H b u) s ns := by
  rcases h with ⟨o, h⟩ | h
  · refine .inl ⟨o, ?_⟩
    have n : s ≠ b := fun e => by
      subst e
      rcases hb with e | ⟨xs, e⟩ <;> rw [e] at h <;> cases h
    rw [upd_ne n]
    exact h
  · exact .inr h
theorem Sc.keep {K : PySem.W.Frag} {H H' : Hp} {s : Addr} {ns : List Int} (h : Sc K H s ns) (k : Same H H') : Sc K H' s ns := by
  rcases h with ⟨o, h⟩ | h
  · exact .inl ⟨o, k _ _ h⟩
  · exact .inr h
/-- the deck at d, its cells at b, drawn at most c times -/
structure Deck (K : PySem.W.Frag) (H : Hp) (d b : Addr) (c : Int) : Prop where
  ex : ∃ (s : Addr) (ns cs : List Int) (i k : Int), H d = some (.lst [.ref s, .ref b, .int i, .int k]) ∧ H b = some (.lst (cs.map V.int)) ∧ Sc K H s ns ∧ 0 ≤ i ∧ 0 ≤ k ∧ k ≤ c
  ne : b ≠ d
theorem Deck.keep {K : PySem.W.Frag} {H H' : Hp} {d b : Addr} {c : Int} (D : Deck K H d b c) (k : Same H H') : Deck K H' d b c := by
  obtain ⟨⟨s, ns, cs, i, j, h1, h2, h3, h4⟩, n⟩ := D
  exact ⟨⟨s, ns, cs, i, j, k _ _ h1, k _ _ h2, h3.keep k, h4⟩, n⟩
theorem Deck.le {K : PySem.W.Frag} {H : Hp} {d b : Addr} {c c' : Int} (D : Deck K H d b c) (h : c ≤ c') : Deck K H d b c' := by
  obtain ⟨⟨s, ns, cs, i, j, h1, h2, h3, h4, h5, h6⟩, n⟩ := D
  exact ⟨⟨s, ns, cs, i, j, h1, h2, h3, h4, h5, by omega⟩, n⟩
/-- an object beside the deck stands -/
theorem Deck.tup {K : PySem.W.Frag} {H H' : Hp} {d b x : Addr} {c : Int} {xs : List V} (D : Deck K H d b c) (k : Kp d b H H') (h : H x = some (.tup xs)) : H' x = some (.tup xs) := by
  obtain ⟨⟨s, ns, cs, i, j, h1, h2, _⟩, n⟩ := D
  exact k x _ (fun e => by rw [e, h1] at h; cases h) (fun e => by rw [e, h2] at h; cases h) h
theorem Deck.seqT {K : PySem.W.Frag} {H H' : Hp} {d b x : Addr} {c : Int} {xs : List V} (D : Deck K H d b c) (k : Kp d b H H') (h : SqT K H x xs) : SqT K H' x xs := by
  obtain ⟨⟨s, ns, cs, i, j, h1, h2, _⟩, n⟩ := D
  rcases h with (h | ⟨o, h⟩) | h
  · exact .inl (.inl (k x _ (fun e => by rw [e, h1] at h; cases h) (fun e => by rw [e, h2] at h; cases h) h))
  · exact .inl (.inr ⟨o, k x _ (fun e => by rw [e, h1] at h; cases h) (fun e => by rw [e, h2] at h; cases h) h⟩)
  · exact .inr h
theorem Deck.hd {K : PySem.W.Frag} {H : Hp} {d b : Addr} {c : Int} (D : Deck K H d b c) : H d ≠ none := by
  obtain ⟨⟨s, ns, cs, i, j, h1, _⟩, n⟩ := D
  rw [h1]; exact fun e => nomatch e
theorem Deck.hb {K : PySem.W.Frag} {H : Hp} {d b : Addr} {c : Int} (D : Deck K H d b c) : H b ≠ none := by
  obtain ⟨⟨s, ns, cs, i, j, _, h1, _⟩, n⟩ := D
  rw [h1]; exact fun e => nomatch e
theorem Deck.free {K : PySem.W.Frag} {H H' : Hp} {d b x : Addr} {c c' : Int} (D : Deck K H d b c) (D' : Deck K H' d b c') (k : Kp d b H H') (h : H' x = none) : H x = none := k.free D.hd D.hb h D'.hd D'.hb
theorem Deck.ne_d {K : PySem.W.Frag} {H : Hp} {d b x : Addr} {c : Int} (D : Deck K H d b c) (h : H x = none) : x ≠ d := fun e => D.hd (e ▸ h)
theorem Deck.ne_b {K : PySem.W.Frag} {H : Hp} {d b x : Addr} {c : Int} (D : Deck K H d b c) (h : H x = none) : x ≠ b := fun e => D.hb (e ▸ h)
/-! ### numbers -/
theorem log2_lt {n k : Nat} (h : n < 2 ^ k) (h0 : 0 < k) : n.log2 < k := PySem.Flt.log2_lt_of h0 h
theorem size63 {n : Nat} (h : n ≤ 1000) : n ≤ sizeLine := Nat.le_of_lt (small1000 h)
theorem abs_nn (i : Int) : 0 ≤ (if i < 0 then -i else i) := by
  split <;> omega
theorem abs_nat (i : Int) : (if i < 0 then -i else i) = (i.natAbs : Int) := by
  split <;> omega
/-! ### the facts of the text -/
structure Ad where
  f_p_is_whole : Addr
  fd_p_is_whole : FuncData
  f_p_in_reach : Addr
  fd_p_in_reach : FuncData
  f_p_divided : Addr
  fd_p_divided : FuncData
  f_p_shortened : Addr
  fd_p_shortened : FuncData
  f_p_common_divisor : Addr
  fd_p_common_divisor : FuncData
  f_p_plus : Addr
  fd_p_plus : FuncData
  f_p_minus : Addr
  fd_p_minus : FuncData
  f_p_times : Addr
  fd_p_times : FuncData
  f_p_order : Addr
  fd_p_order : FuncData
  f_p_way_of : Addr
  fd_p_way_of : FuncData
  f_p_along : Addr
  fd_p_along : FuncData
  f_p_spot_minus : Addr
  fd_p_spot_minus : FuncData
  f_p_look_corner : Addr
  fd_p_look_corner : FuncData
  f_p_side_ends : Addr
  fd_p_side_ends : FuncData
  f_p_is_left : Addr
  fd_p_is_left : FuncData
  f_p_is_side : Addr
  fd_p_is_side : FuncData
  f_p_look_shape : Addr
  fd_p_look_shape : FuncData
  f_p_outwards : Addr
  fd_p_outwards : FuncData
  f_p_sides : Addr
  fd_p_sides : FuncData
  f_p_reach : Addr
  fd_p_reach : FuncData
  f_p_within : Addr
  fd_p_within : FuncData
  f_l_cell : Addr
  fd_l_cell : FuncData
  f_l_mixed : Addr
  fd_l_mixed : FuncData
  f_l_deck : Addr
  fd_l_deck : FuncData
  f_l_take : Addr
  fd_l_take : FuncData
  f_l_gcd : Addr
  fd_l_gcd : FuncData
  f_l_share : Addr
  fd_l_share : FuncData
  f_l_left : Addr
  fd_l_left : FuncData
  f_l_half : Addr
  fd_l_half : FuncData
  f_l_hull : Addr
  fd_l_hull : FuncData
  f_l_shape : Addr
  fd_l_shape : FuncData
  f_l_way : Addr
  fd_l_way : FuncData
  f_l_is_way : Addr
  fd_l_is_way : FuncData
  f_l_far : Addr
  fd_l_far : FuncData
  f_l_ways_right : Addr
  fd_l_ways_right : FuncData
  f_l_point : Addr
  fd_l_point : FuncData
  f_l_at : Addr
  fd_l_at : FuncData
  f_l_below : Addr
  fd_l_below : FuncData
  f_l_spots_right : Addr
  fd_l_spots_right : FuncData
  f_law : Addr
  fd_law : FuncData
  c_BodyError : Addr
  c_NoWay : Addr
  c_BadShape : Addr
  k_REACH : Tok
  k_LENGTHY : Tok
  k_CORNERS : Tok
  k_LEADING : Tok
structure Tx (K : PySem.W.Frag) (mg : Str → Option Value) (A : Ad) : Prop where
  F_p_is_whole : Fun K "is_whole" "is_whole" s_p_is_whole A.f_p_is_whole A.fd_p_is_whole
  b_p_is_whole : Binds K A.fd_p_is_whole ["thing"] []
  g_p_is_whole : mg "is_whole" = some (.ref A.f_p_is_whole)
  F_p_in_reach : Fun K "in_reach" "in_reach" s_p_in_reach A.f_p_in_reach A.fd_p_in_reach
  b_p_in_reach : Binds K A.fd_p_in_reach ["thing"] []
  g_p_in_reach : mg "in_reach" = some (.ref A.f_p_in_reach)
  F_p_divided : Fun K "divided" "divided" s_p_divided A.f_p_divided A.fd_p_divided
  b_p_divided : Binds K A.fd_p_divided ["one", "other"] []
  g_p_divided : mg "divided" = some (.ref A.f_p_divided)
  F_p_shortened : Fun K "shortened" "shortened" s_p_shortened A.f_p_shortened A.fd_p_shortened
  b_p_shortened : Binds K A.fd_p_shortened ["one", "other"] []
  g_p_shortened : mg "shortened" = some (.ref A.f_p_shortened)
  F_p_common_divisor : Fun K "common_divisor" "common_divisor" s_p_common_divisor A.f_p_common_divisor A.fd_p_common_divisor
  b_p_common_divisor : Binds K A.fd_p_common_divisor ["one", "other"] []
  g_p_common_divisor : mg "common_divisor" = some (.ref A.f_p_common_divisor)
  F_p_plus : Fun K "plus" "plus" s_p_plus A.f_p_plus A.fd_p_plus
  b_p_plus : Binds K A.fd_p_plus ["one", "other"] []
  g_p_plus : mg "plus" = some (.ref A.f_p_plus)
  F_p_minus : Fun K "minus" "minus" s_p_minus A.f_p_minus A.fd_p_minus
  b_p_minus : Binds K A.fd_p_minus ["one", "other"] []
  g_p_minus : mg "minus" = some (.ref A.f_p_minus)
  F_p_times : Fun K "times" "times" s_p_times A.f_p_times A.fd_p_times
  b_p_times : Binds K A.fd_p_times ["one", "other"] []
  g_p_times : mg "times" = some (.ref A.f_p_times)
  F_p_order : Fun K "order" "order" s_p_order A.f_p_order A.fd_p_order
  b_p_order : Binds K A.fd_p_order ["one", "other"] []
  g_p_order : mg "order" = some (.ref A.f_p_order)
  F_p_way_of : Fun K "way_of" "way_of" s_p_way_of A.f_p_way_of A.fd_p_way_of
  b_p_way_of : Binds K A.fd_p_way_of ["p", "q"] []
  g_p_way_of : mg "way_of" = some (.ref A.f_p_way_of)
  F_p_along : Fun K "along" "along" s_p_along A.f_p_along A.fd_p_along
  b_p_along : Binds K A.fd_p_along ["way", "spot"] []
  g_p_along : mg "along" = some (.ref A.f_p_along)
  F_p_spot_minus : Fun K "spot_minus" "spot_minus" s_p_spot_minus A.f_p_spot_minus A.fd_p_spot_minus
  b_p_spot_minus : Binds K A.fd_p_spot_minus ["one", "other"] []
  g_p_spot_minus : mg "spot_minus" = some (.ref A.f_p_spot_minus)
  F_p_look_corner : Fun K "look_corner" "look_corner" s_p_look_corner A.f_p_look_corner A.fd_p_look_corner
  b_p_look_corner : Binds K A.fd_p_look_corner ["thing"] []
  g_p_look_corner : mg "look_corner" = some (.ref A.f_p_look_corner)
  F_p_side_ends : Fun K "side_ends" "side_ends" s_p_side_ends A.f_p_side_ends A.fd_p_side_ends
  b_p_side_ends : Binds K A.fd_p_side_ends ["corners"] []
  g_p_side_ends : mg "side_ends" = some (.ref A.f_p_side_ends)
  F_p_is_left : Fun K "is_left" "is_left" s_p_is_left A.f_p_is_left A.fd_p_is_left
  b_p_is_left : Binds K A.fd_p_is_left ["start", "end", "corner"] []
  g_p_is_left : mg "is_left" = some (.ref A.f_p_is_left)
  F_p_is_side : Fun K "is_side" "is_side" s_p_is_side A.f_p_is_side A.fd_p_is_side
  b_p_is_side : Binds K A.fd_p_is_side ["corners", "start", "end"] []
  g_p_is_side : mg "is_side" = some (.ref A.f_p_is_side)
  F_p_look_shape : Fun K "look_shape" "look_shape" s_p_look_shape A.f_p_look_shape A.fd_p_look_shape
  b_p_look_shape : Binds K A.fd_p_look_shape ["thing"] []
  g_p_look_shape : mg "look_shape" = some (.ref A.f_p_look_shape)
  F_p_outwards : Fun K "outwards" "outwards" s_p_outwards A.f_p_outwards A.fd_p_outwards
  b_p_outwards : Binds K A.fd_p_outwards ["start", "end"] []
  g_p_outwards : mg "outwards" = some (.ref A.f_p_outwards)
  F_p_sides : Fun K "sides" "sides" s_p_sides A.f_p_sides A.fd_p_sides
  b_p_sides : Binds K A.fd_p_sides ["shape"] []
  g_p_sides : mg "sides" = some (.ref A.f_p_sides)
  F_p_reach : Fun K "reach" "reach" s_p_reach A.f_p_reach A.fd_p_reach
  b_p_reach : Binds K A.fd_p_reach ["shape", "way"] []
  g_p_reach : mg "reach" = some (.ref A.f_p_reach)
  F_p_within : Fun K "within" "within" s_p_within A.f_p_within A.fd_p_within
  b_p_within : Binds K A.fd_p_within ["shape", "place", "spot"] []
  g_p_within : mg "within" = some (.ref A.f_p_within)
  F_l_cell : Fun K "_law_cell" "_law_cell" s_l_cell A.f_l_cell A.fd_l_cell
  b_l_cell : Binds K A.fd_l_cell ["_law_script", "_law_k"] []
  g_l_cell : mg "_law_cell" = some (.ref A.f_l_cell)
  F_l_mixed : Fun K "_law_mixed" "_law_mixed" s_l_mixed A.f_l_mixed A.fd_l_mixed
  b_l_mixed : Binds K A.fd_l_mixed ["_law_script", "_law_k", "_law_many"] []
  g_l_mixed : mg "_law_mixed" = some (.ref A.f_l_mixed)
  F_l_deck : Fun K "_law_deck" "_law_deck" s_l_deck A.f_l_deck A.fd_l_deck
  b_l_deck : Binds K A.fd_l_deck ["_law_script"] []
  g_l_deck : mg "_law_deck" = some (.ref A.f_l_deck)
  F_l_take : Fun K "_law_take" "_law_take" s_l_take A.f_l_take A.fd_l_take
  b_l_take : Binds K A.fd_l_take ["_law_deck_here", "_law_many"] []
  g_l_take : mg "_law_take" = some (.ref A.f_l_take)
  F_l_gcd : Fun K "_law_gcd" "_law_gcd" s_l_gcd A.f_l_gcd A.fd_l_gcd
  b_l_gcd : Binds K A.fd_l_gcd ["_law_one", "_law_other"] []
  g_l_gcd : mg "_law_gcd" = some (.ref A.f_l_gcd)
  F_l_share : Fun K "_law_share" "_law_share" s_l_share A.f_l_share A.fd_l_share
  b_l_share : Binds K A.fd_l_share ["_law_top", "_law_bottom"] []
  g_l_share : mg "_law_share" = some (.ref A.f_l_share)
  F_l_left : Fun K "_law_left" "_law_left" s_l_left A.f_l_left A.fd_l_left
  b_l_left : Binds K A.fd_l_left ["_law_a", "_law_b", "_law_c"] []
  g_l_left : mg "_law_left" = some (.ref A.f_l_left)
  F_l_half : Fun K "_law_half" "_law_half" s_l_half A.f_l_half A.fd_l_half
  b_l_half : Binds K A.fd_l_half ["_law_points"] []
  g_l_half : mg "_law_half" = some (.ref A.f_l_half)
  F_l_hull : Fun K "_law_hull" "_law_hull" s_l_hull A.f_l_hull A.fd_l_hull
  b_l_hull : Binds K A.fd_l_hull ["_law_points"] []
  g_l_hull : mg "_law_hull" = some (.ref A.f_l_hull)
  F_l_shape : Fun K "_law_shape" "_law_shape" s_l_shape A.f_l_shape A.fd_l_shape
  b_l_shape : Binds K A.fd_l_shape ["_law_deck_here"] []
  g_l_shape : mg "_law_shape" = some (.ref A.f_l_shape)
  F_l_way : Fun K "_law_way" "_law_way" s_l_way A.f_l_way A.fd_l_way
  b_l_way : Binds K A.fd_l_way ["_law_deck_here"] []
  g_l_way : mg "_law_way" = some (.ref A.f_l_way)
  F_l_is_way : Fun K "_law_is_way" "_law_is_way" s_l_is_way A.f_l_is_way A.fd_l_is_way
  b_l_is_way : Binds K A.fd_l_is_way ["_law_thing"] []
  g_l_is_way : mg "_law_is_way" = some (.ref A.f_l_is_way)
  F_l_far : Fun K "_law_far" "_law_far" s_l_far A.f_l_far A.fd_l_far
  b_l_far : Binds K A.fd_l_far ["_law_shape_here", "_law_way_here"] []
  g_l_far : mg "_law_far" = some (.ref A.f_l_far)
  F_l_ways_right : Fun K "_law_ways_right" "_law_ways_right" s_l_ways_right A.f_l_ways_right A.fd_l_ways_right
  b_l_ways_right : Binds K A.fd_l_ways_right ["_law_shape_here", "_law_ways"] []
  g_l_ways_right : mg "_law_ways_right" = some (.ref A.f_l_ways_right)
  F_l_point : Fun K "_law_point" "_law_point" s_l_point A.f_l_point A.fd_l_point
  b_l_point : Binds K A.fd_l_point ["_law_deck_here", "_law_shape_here"] []
  g_l_point : mg "_law_point" = some (.ref A.f_l_point)
  F_l_at : Fun K "_law_at" "_law_at" s_l_at A.f_l_at A.fd_l_at
  b_l_at : Binds K A.fd_l_at ["_law_point_here", "_law_place"] []
  g_l_at : mg "_law_at" = some (.ref A.f_l_at)
  F_l_below : Fun K "_law_below" "_law_below" s_l_below A.f_l_below A.fd_l_below
  b_l_below : Binds K A.fd_l_below ["_law_shape_here", "_law_ways", "_law_point_here"] []
  g_l_below : mg "_law_below" = some (.ref A.f_l_below)
  F_l_spots_right : Fun K "_law_spots_right" "_law_spots_right" s_l_spots_right A.f_l_spots_right A.fd_l_spots_right
  b_l_spots_right : Binds K A.fd_l_spots_right ["_law_deck_here", "_law_shape_here", "_law_place", "_law_ways", "_law_many"] []
  g_l_spots_right : mg "_law_spots_right" = some (.ref A.f_l_spots_right)
  F_law : Fun K "law" "law" s_law A.f_law A.fd_law
  b_law : Binds K A.fd_law ["_law_script"] []
  g_law : mg "law" = some (.ref A.f_law)
  m_abs : mg "abs" = none
  m_all : mg "all" = none
  m_bool : mg "bool" = none
  m_enumerate : mg "enumerate" = none
  m_int : mg "int" = none
  m_isinstance : mg "isinstance" = none
  m_len : mg "len" = none
  m_list : mg "list" = none
  m_max : mg "max" = none
  m_min : mg "min" = none
  m_range : mg "range" = none
  m_sorted : mg "sorted" = none
  m_tuple : mg "tuple" = none
  m_zip : mg "zip" = none
  g_REACH : mg "REACH" = some (.int 1000000 A.k_REACH)
  g_LENGTHY : mg "LENGTHY" = some (.int 4000 A.k_LENGTHY)
  g_CORNERS : mg "CORNERS" = some (.int 8 A.k_CORNERS)
  g_LEADING : mg "LEADING" = some (.int 120 A.k_LEADING)
  g_BodyError : mg "BodyError" = some (.ref A.c_BodyError)
  g_NoWay : mg "NoWay" = some (.ref A.c_NoWay)
  g_BadShape : mg "BadShape" = some (.ref A.c_BadShape)
section
variable {P : Program} {w : World} {K : PySem.W.Frag} {mg : Str → Option Value} {base : Heap} {A : Ad}
theorem ixN_nat {n j : Nat} (h : j < n) : ixN n (j : Int) = some j := by
  unfold ixN
  rw [if_pos (by omega), if_pos (by omega)]
  rfl
theorem ty_tup {H : Hp} {a : Addr} {xs : List V} (h : SqT K H a xs) : TyX K H (.ref a) (.type "tuple") := by
  rcases h with (h | ⟨o, h⟩) | ⟨o, its, n, h, hc, _⟩
  · exact .base (.tup h)
  · exact .fTuple h
  · exact .kTuple h hc

/-! ### a cell of the script -/
def sp_l_cell (K : PySem.W.Frag) : Sp := fun vs H Q _ => ∃ (s : Addr) (ns : List Int) (k : Int), vs = [.ref s, .int k] ∧ SqL K H s (ns.map V.int) ∧ 0 ≤ k ∧ k ≤ 1000000 ∧ ∀ r, 0 ≤ r → Q (.int r) H
theorem ok_l_cell (T : Tx K mg A) : FnOk P w K mg base CX0 1 A.f_l_cell A.fd_l_cell ["_law_script", "_law_k"] (sp_l_cell K) := by
  refine T.F_l_cell.ok sc_l_cell (fun vs H Q E h => ?_) (fun cdv Ar outer s H vs Q E hr h => ?_)
  · obtain ⟨s, ns, k, rfl, _⟩ := h
    rfl
  · obtain ⟨s, ns, k, rfl, hS, h0, h1, q⟩ := h
    refine ⟨_, (pss_cons (ps_if (pt_cmpR op_eq (pe_callB call_len_seq (by rfl) T.m_len (by decide +kernel) (pa_cons (pv 0) pa_nil)) pe_int (nomark _))
      (pss_one (ps_ret (pe_op op_add (pe_op op_mul pe_int (pv 1)) pe_int)))
      pss_nil)
    (pss_one (ps_ret (pe_callB call_abs (by rfl) T.m_abs (by decide +kernel) (pa_cons (pe_ix ix_list (pv 0) (pe_op op_mod (pv 1) (pe_callB call_len_seq (by rfl) T.m_len (by decide +kernel) (pa_cons (pv 0) pa_nil))) (fun _ _ => rfl)) pa_nil))))), ?_⟩
    refine ⟨.ref s, rfl, s, ns.map V.int, rfl, .inl hS, rfl, _, rfl, ite2 (fun e => ?_) (fun e => ?_)⟩
    · exact ⟨_, rfl, 7, k, rfl, rfl, .inl (by decide), _, _, rfl, rfl, q _ (by omega)⟩
    · have hl : ns.length ≠ 0 := fun z => e (decide_eq_true (by rw [List.length_map, z]; rfl))
      have hp : (0 : Int) < ((ns.map V.int).length : Int) := by
        rw [List.length_map]
        omega
      have hm0 : 0 ≤ k % ((ns.map V.int).length : Int) := Int.emod_nonneg _ (by omega)
      have hm1 : k % ((ns.map V.int).length : Int) < ((ns.map V.int).length : Int) := Int.emod_lt_of_pos _ hp
      obtain ⟨j, hj⟩ : ∃ j : Nat, (j : Int) = k % ((ns.map V.int).length : Int) := ⟨_, Int.toNat_of_nonneg hm0⟩
      have hj2 : j < ns.length := by
        rw [List.length_map] at hj hm1
        omega
      have ha : atI (ns.map V.int) (k % ((ns.map V.int).length : Int)) = some (.int ns[j]) := by
        rw [← hj]
        exact atI_nat (by rw [List.getElem?_map, List.getElem?_eq_getElem hj2]; rfl)
      exact ⟨_, rfl, _, rfl, _, rfl, s, _, rfl, .inl hS, k, _, rfl, rfl, hp, s, _, _, _, rfl, rfl, hS, ha, _, rfl, q _ (abs_nn _)⟩
/-! ### a mixed number -/
def sp_l_mixed (K : PySem.W.Frag) : Sp := fun vs H Q _ => ∃ (s : Addr) (ns : List Int) (k m : Int), vs = [.ref s, .int k, .int m] ∧ SqL K H s (ns.map V.int) ∧ 0 ≤ k ∧ k ≤ 1000000 ∧ 0 < m ∧ ∀ r, 0 ≤ r → r < m → Q (.int r) H
theorem mixed_bound {r k : Int} (h0 : 0 ≤ r) (h1 : r < 1000003) (k0 : 0 ≤ k) (k1 : k ≤ 1000000) : ((r + 5) * (k + 2) + 7919 * k).natAbs < 2 ^ 64 := by
  have e1 : (r + 5) * (k + 2) ≤ 1000008 * 1000002 := Int.mul_le_mul (by omega) (by omega) (by omega) (by omega)
  have e0 : 0 ≤ (r + 5) * (k + 2) := Int.mul_nonneg (by omega) (by omega)
  omega
theorem ok_l_mixed (T : Tx K mg A) : FnOk P w K mg base CX0 2 A.f_l_mixed A.fd_l_mixed ["_law_script", "_law_k", "_law_many"] (sp_l_mixed K) := by
  refine T.F_l_mixed.ok sc_l_mixed (fun vs H Q E h => ?_) (fun cdv Ar outer s H vs Q E hr h => ?_)
  · obtain ⟨s, ns, k, m, rfl, _⟩ := h
    rfl
  · obtain ⟨s, ns, k, m, rfl, hS, h0, h1, hm, q⟩ := h
    refine ⟨_, (pss_cons (ps_set (i := 3) sc_l_mixed.nd rfl (.inl rfl) (pe_op op_mod (pe_op op_pow (pe_op op_add (pe_op op_mul (pe_op op_add (pe_op op_mod (pe_call (ok_l_cell T) (hr.mono (by decide)) (by rfl) T.g_l_cell T.F_l_cell.kp T.b_l_cell .nil pass0 (pa_cons (pv 0) (pa_cons (pv 1) pa_nil))) pe_int) pe_int) (pe_op op_add (pv 1) pe_int)) (pe_op op_mul pe_int (pv 1))) pe_int) pe_int))
    (pss_one (ps_ret (pe_op op_mod (pe_op op_fdivW (pv 3) pe_int) (pv 2))))), ?_⟩
    refine ⟨_, rfl, _, rfl, s, ns, k, rfl, hS, h0, h1, fun r hr0 => ?_⟩
    have c0 : 0 ≤ r % 1000003 := Int.emod_nonneg _ (by decide)
    have c1 : r % 1000003 < 1000003 := Int.emod_lt_of_pos _ (by decide)
    refine ⟨r, 1000003, rfl, rfl, (show (0 : Int) < 1000003 by decide), _, _, rfl, rfl, _, rfl, _, _, rfl, rfl, _, _, rfl, rfl, ?_, _, rfl, _, _, rfl, rfl, .inl (by decide), _, _, rfl, rfl, _, _, rfl, rfl, ⟨by decide, by decide, ?_⟩, _, _, rfl, rfl, (show (0 : Int) < 2147483647 by decide), ?_⟩
    · exact .inl ⟨by omega, by omega⟩
    · exact mixed_bound c0 c1 h0 h1
    · refine ⟨_, rfl, _, _, rfl, rfl, ⟨by decide, by decide⟩, _, rfl, _, _, rfl, rfl, hm, ?_⟩
      exact q _ (Int.emod_nonneg _ (by omega)) (Int.emod_lt_of_pos _ hm)
/-! ### the deck is made -/
def sp_l_deck (K : PySem.W.Frag) : Sp := fun vs H Q _ => ∃ (s : Addr) (ns : List Int), vs = [.ref s] ∧ Sc K H s ns ∧ ns.length ≤ 63 ∧ ∀ H' d b, H d = none → H b = none → Deck K H' d b 0 → Same H H' → Q (.ref d) H'
theorem ok_l_deck (T : Tx K mg A) : FnOk P w K mg base CX0 1 A.f_l_deck A.fd_l_deck ["_law_script"] (sp_l_deck K) := by
  refine T.F_l_deck.ok sc_l_deck (fun vs H Q E h => ?_) (fun cdv Ar outer s H vs Q E hr h => ?_)
  · obtain ⟨s, ns, rfl, _⟩ := h
    rfl
  · obtain ⟨s, ns, rfl, hS, hlen, q⟩ := h
    refine ⟨_, (pss_one (ps_ret (pe_lst (pa_cons (pv 0) (pa_cons (pe_lc (own := [("_law_cell_here", 1)]) rfl sc_l_deck.nd (pi_list (pv 0)) (blkOk_by (own := [("_law_cell_here", 1)]) (N := ["_law_script", "_law_cell_here"]) (sc := defScope s_l_deck) (by decide +kernel)) (fun _ _ _ _ _ => (pg_name (i := 1) sc_l_deck.nd rfl (Or.inl rfl))) (fun _ _ _ _ _ => (pts_one (pt_cmpR op_ge (pe_callB call_abs (by rfl) T.m_abs (by decide +kernel) (pa_cons (pv 1) pa_nil)) (pe_op op_pow pe_int pe_int) (nomark _)))) (fun _ _ _ _ _ => (pe_callB call_abs (by rfl) T.m_abs (by decide +kernel) (pa_cons (pv 1) pa_nil)))) (pa_cons pe_int (pa_cons pe_int pa_nil))))))), ?_⟩
    refine ⟨_, rfl, _, rfl, s, rfl, ⟨_, hS.seq⟩, fun D hD => lc_list (K := K) (a := s) (xs := ns.map V.int) (fun i H' => ∃ cs : List Int, Same H H' ∧ Sc K H' s ns ∧ H' D = some (.lst (cs.map V.int)) ∧ cs.length ≤ i) ?_ ?_ ?_ ?_⟩
    · exact ⟨[], same_upd hD, hS.upd (.inl hD), upd_same, Nat.le_refl _⟩
    · rintro i H' _ ⟨cs, _, h, _⟩
      exact h.seq
    · rintro i x H' hx ⟨cs, sm, hs, hd, hc⟩
      obtain ⟨n, rfl⟩ : ∃ n : Int, x = .int n := by
        rw [List.getElem?_map] at hx
        cases e : ns[i]? with
        | none => rw [e] at hx; cases hx
        | some n => rw [e] at hx; exact ⟨n, (Option.some.inj hx).symm⟩
      have hi : i < ns.length := by
        have := (List.getElem?_eq_some_iff.mp hx).1
        rw [List.length_map] at this
        exact this
      refine ⟨rfl, _, rfl, n, rfl, 10, 18, rfl, rfl, ⟨by decide, by decide, by decide⟩, _, _, rfl, rfl, _, rfl, ite2 (fun e => ?_) (fun e => ?_)⟩
      · refine ⟨_, rfl, n, rfl, cs.map V.int, hd, small1000 (by rw [List.length_map]; omega), cs ++ [(if n < 0 then -n else n)], ?_, ?_, ?_, ?_⟩
        · exact fun x o h => by
            rw [upd_ne (ne_of_none h hD)]
            exact sm _ _ h
        · exact hs.upd (.inr ⟨_, hd⟩)
        · rw [upd_same, List.map_append]
          rfl
        · rw [List.length_append]
          exact Nat.succ_le_succ hc
      · exact ⟨cs, sm, hs, hd, Nat.le_succ_of_le hc⟩
    · rintro H' ⟨cs, sm, hs, hd, hc⟩
      refine ⟨size63 (show 4 ≤ 1000 by decide), fun d hn => ?_⟩
      have ne : D ≠ d := ne_of_none hd hn
      refine q _ d D (sm.free hn) hD ⟨⟨s, ns, cs, 0, 0, upd_same, ?_, hs.upd (.inl hn), by omega, by omega, by omega⟩, ne⟩ (sm.trans (same_upd hn))
      rw [upd_ne ne]
      exact hd
/-! ### a number is taken -/
def sp_l_take (K : PySem.W.Frag) : Sp := fun vs H Q _ => ∃ (d b : Addr) (c m : Int), vs = [.ref d, .int m] ∧ Deck K H d b c ∧ c < 1000000 ∧ 0 < m ∧ m.natAbs.log2 < 9000 ∧ ∀ H' r, Deck K H' d b (c + 1) → Kp d b H H' → 0 ≤ r → r < m → Q (.int r) H'
theorem ok0_l_take (T : Tx K mg A) : FnOk P w K mg base CX0 3 A.f_l_take A.fd_l_take ["_law_deck_here", "_law_many"] (sp_l_take K) := by
  refine T.F_l_take.ok sc_l_take (fun vs H Q E h => ?_) (fun cdv Ar outer s H vs Q E hr h => ?_)
  · obtain ⟨d, b, c, m, rfl, _⟩ := h
    rfl
  · obtain ⟨d, b, c, m, rfl, ⟨⟨s, ns, cs, i0, k, hd, hb, hS, hi0, hk0, hk1⟩, ne⟩, hc, hm, hm2, q⟩ := h
    refine ⟨_, (pss_cons (ps_while PassesOwn.never (pt_cmpR op_lt (pe_ix ix_list (pv 0) pe_int (fun _ _ => rfl)) (pe_callB call_len_seq (by rfl) T.m_len (by decide +kernel) (pa_cons (pe_ix ix_list (pv 0) pe_int (fun _ _ => rfl)) pa_nil)) (nomark _))
      (pss_cons (ps_set (i := 2) sc_l_take.nd rfl (.inl rfl) (pe_ix ix_list (pe_ix ix_list (pv 0) pe_int (fun _ _ => rfl)) (pe_ix ix_list (pv 0) pe_int (fun _ _ => rfl)) (fun _ _ => rfl)))
    (pss_cons (ps_if (pt_cmpR op_gt (pv 2) pe_int (nomark _))
      (pss_cons (ps_asg (pe_op op_fdivW (pv 2) (pv 1)) (pg_sub (pe_ix ix_list (pv 0) pe_int (fun _ _ => rfl)) (pe_ix ix_list (pv 0) pe_int (fun _ _ => rfl)) set_list))
    (pss_one (ps_ret (pe_op op_mod (pv 2) (pv 1)))))
      pss_nil)
    (pss_one (ps_asg (pe_op op_add (pe_ix ix_list (pv 0) pe_int (fun _ _ => rfl)) pe_int) (pg_sub (pv 0) pe_int set_list))))))
    (pss_cons (ps_asg (pe_op op_add (pe_ix ix_list (pv 0) pe_int (fun _ _ => rfl)) pe_int) (pg_sub (pv 0) pe_int set_list))
    (pss_one (ps_ret (pe_call (ok_l_mixed T) (hr.mono (by decide)) (by rfl) T.g_l_mixed T.F_l_mixed.kp T.b_l_mixed .nil pass0 (pa_cons (pe_ix ix_list (pv 0) pe_int (fun _ _ => rfl)) (pa_cons (pe_ix ix_list (pv 0) pe_int (fun _ _ => rfl)) (pa_cons (pv 1) pa_nil)))))))), ?_⟩
    refine ⟨fun n σ H' => ∃ (y : Option V) (i : Int), σ = [some (.ref d), some (.int m), y] ∧ 0 ≤ i ∧ n = cs.length - i.toNat ∧ H' d = some (.lst [.ref s, .ref b, .int i, .int k]) ∧ H' b = some (.lst (cs.map V.int)) ∧ Sc K H' s ns ∧ Kp d b H H', ⟨_, none, i0, rfl, hi0, rfl, hd, hb, hS, Kp.refl⟩, fun n σ H' hW => ?_⟩
    obtain ⟨y, i, rfl, hi, hn, hd', hb', hS', kp⟩ := hW
    refine ⟨_, rfl, d, _, 2, .int i, rfl, rfl, SqL.of hd', rfl, _, rfl, d, _, 1, .ref b, rfl, rfl, SqL.of hd', rfl, b, _, rfl, .inl (SqL.of hb'), i, _, rfl, rfl, _, rfl, ite2 (fun e => ?_) (fun e => ?_)⟩
    · -- a turn
      have hlt : i < ((cs.map V.int).length : Int) := of_decide_eq_true e
      rw [List.length_map] at hlt
      obtain ⟨j, rfl⟩ : ∃ j : Nat, i = (j : Int) := ⟨_, (Int.toNat_of_nonneg hi).symm⟩
      have hj : j < cs.length := by omega
      have ha : atI (cs.map V.int) (j : Int) = some (.int cs[j]) := atI_nat (by rw [List.getElem?_map, List.getElem?_eq_getElem hj]; rfl)
      refine ⟨fun σ' H'' => ∃ (y : Option V), σ' = [some (.ref d), some (.int m), y] ∧ H'' d = some (.lst [.ref s, .ref b, .int ((j : Int) + 1), .int k]) ∧ H'' b = some (.lst (cs.map V.int)) ∧ Sc K H'' s ns ∧ Kp d b H H'', ?_, ?_⟩
      · rintro σ' H'' ⟨y, e1, e2, e3, e4, e5⟩
        exact ⟨cs.length - ((j : Int) + 1).toNat, by omega, y, _, e1, by omega, rfl, e2, e3, e4, e5⟩
      · refine ⟨_, rfl, d, _, 1, .ref b, rfl, rfl, SqL.of hd', rfl, _, rfl, d, _, 2, .int (j : Int), rfl, rfl, SqL.of hd', rfl, b, _, (j : Int), .int cs[j], rfl, rfl, SqL.of hb', ha, ?_⟩
        refine ⟨_, rfl, cs[j], 0, rfl, rfl, _, rfl, ite2 (fun e2 => ?_) (fun e2 => ?_)⟩
        · -- the cell is drawn from
          refine ⟨_, rfl, _, rfl, cs[j], m, rfl, rfl, ⟨hm, hm2⟩, _, rfl, d, _, 1, .ref b, rfl, rfl, SqL.of hd', rfl, _, rfl, d, _, 2, .int (j : Int), rfl, rfl, SqL.of hd', rfl, b, _, (j : Int), j, rfl, rfl, hb', ?_, ?_⟩
          · exact ixN_nat (by rw [List.length_map]; exact hj)
          · refine ⟨_, rfl, _, rfl, cs[j], m, rfl, rfl, hm, ?_⟩
            refine q _ _ ⟨⟨s, ns, cs.set j (cs[j] / m), (j : Int), k, ?_, ?_, hS'.upd (.inr ⟨_, hb'⟩), by omega, hk0, by omega⟩, ne⟩ ?_ (Int.emod_nonneg _ (by omega)) (Int.emod_lt_of_pos _ hm)
            · rw [upd_ne (Ne.symm ne)]
              exact hd'
            · rw [upd_same, List.map_set]
            · intro x o h1 h2 h
              rw [upd_ne h2]
              exact kp x o h1 h2 h
        · -- the next cell
          refine ⟨_, rfl, d, _, 2, .int (j : Int), rfl, rfl, SqL.of hd', rfl, _, _, rfl, rfl, _, rfl, d, _, 2, 2, rfl, rfl, hd', rfl, ?_⟩
          refine ⟨_, rfl, ?_, ?_, hS'.upd (.inr ⟨_, hd'⟩), ?_⟩
          · rw [upd_same]; rfl
          · rw [upd_ne ne]; exact hb'
          · intro x o h1 h2 h
            rw [upd_ne h1]
            exact kp x o h1 h2 h
    · -- no cell is left
      refine ⟨_, rfl, d, _, 3, .int k, rfl, rfl, SqL.of hd', rfl, _, _, rfl, rfl, _, rfl, d, _, 3, 3, rfl, rfl, hd', rfl, ?_⟩
      have hd2 : (upd H' d (.lst ([V.ref s, V.ref b, V.int i, V.int k].set 3 (V.int (k + 1))))) d = some (.lst [.ref s, .ref b, .int i, .int (k + 1)]) := upd_same
      have hS2 : Sc K (upd H' d (.lst ([V.ref s, V.ref b, V.int i, V.int k].set 3 (V.int (k + 1))))) s ns := hS'.upd (.inr ⟨_, hd'⟩)
      refine ⟨_, rfl, d, _, 0, .ref s, rfl, rfl, SqL.of hd2, rfl, _, rfl, d, _, 3, .int (k + 1), rfl, rfl, SqL.of hd2, rfl, _, rfl, s, ns, k + 1, m, rfl, hS2.seq, by omega, by omega, hm, fun r h0 h1 => ?_⟩
      refine q _ r ⟨⟨s, ns, cs, i, k + 1, hd2, ?_, hS2, hi, by omega, by omega⟩, ne⟩ ?_ h0 h1
      · rw [upd_ne ne]; exact hb'
      · intro x o h1 h2 h
        rw [upd_ne h1]
        exact kp x o h1 h2 h

/-! ### divisors -/
def gcdI (a b : Int) : Int := ((Nat.gcd a.natAbs b.natAbs : Nat) : Int)
/-- a share's two numbers -/
def IsSh (t u : Int) : Prop := 1 ≤ u ∧ gcdI t u = 1
instance (t u : Int) : Decidable (IsSh t u) := inferInstanceAs (Decidable (_ ∧ _))
theorem gcdI_nn (a b : Int) : 0 ≤ gcdI a b := Int.natCast_nonneg _
theorem gcdI_pos {a b : Int} (h : b ≠ 0) : 0 < gcdI a b := by
  have : 0 < Nat.gcd a.natAbs b.natAbs := Nat.gcd_pos_of_pos_right _ (by omega)
  unfold gcdI
  omega
theorem gcdI_neg_l (a b : Int) : gcdI (-a) b = gcdI a b := by
  unfold gcdI
  rw [Int.natAbs_neg]
theorem gcdI_neg_r (a b : Int) : gcdI a (-b) = gcdI a b := by
  unfold gcdI
  rw [Int.natAbs_neg]
theorem gcdI_dvd_l (a b : Int) : gcdI a b ∣ a := by
  unfold gcdI
  exact Int.ofNat_dvd_left.mpr (Nat.gcd_dvd_left _ _)
theorem gcdI_dvd_r (a b : Int) : gcdI a b ∣ b := by
  unfold gcdI
  exact Int.ofNat_dvd_left.mpr (Nat.gcd_dvd_right _ _)
/-- a share is told by what it is worth -/
theorem share_uniq {t u t' u' : Int} (h : IsSh t u) (h' : IsSh t' u') (e : t * u' = t' * u) : t = t' ∧ u = u' := by
  obtain ⟨u1, g1⟩ := h
  obtain ⟨u2, g2⟩ := h'
  have c1 : Nat.gcd t.natAbs u.natAbs = 1 := by unfold gcdI at g1; omega
  have c2 : Nat.gcd t'.natAbs u'.natAbs = 1 := by unfold gcdI at g2; omega
  have en : t.natAbs * u'.natAbs = t'.natAbs * u.natAbs := by
    rw [← Int.natAbs_mul, ← Int.natAbs_mul, e]
  have d1 : u.natAbs ∣ u'.natAbs := (Nat.Coprime.symm c1).dvd_of_dvd_mul_left (by rw [en]; exact Nat.dvd_mul_left _ _)
  have d2 : u'.natAbs ∣ u.natAbs := (Nat.Coprime.symm c2).dvd_of_dvd_mul_left (by rw [← en]; exact Nat.dvd_mul_left _ _)
  have eu : u = u' := by
    have := Nat.dvd_antisymm d1 d2
    omega
  subst eu
  exact ⟨Int.eq_of_mul_eq_mul_right (by omega) e, rfl⟩
theorem dvd_le_natAbs {g a : Int} (h : g ∣ a) (ha : a ≠ 0) : g.natAbs ≤ a.natAbs := Nat.le_of_dvd (by omega) (Int.natAbs_dvd_natAbs.mpr h)
theorem div_natAbs_le {a g : Int} (hg : 0 < g) (h : g ∣ a) : (a / g).natAbs ≤ a.natAbs := by
  obtain ⟨q, rfl⟩ := h
  rw [Int.mul_ediv_cancel_left _ (by omega), Int.natAbs_mul]
  exact Nat.le_mul_of_pos_left _ (by omega)
/-- a over b (b above nought) in lowest terms -/
theorem low_is {a b : Int} (hb : 0 < b) : IsSh (a / gcdI a b) (b / gcdI a b) ∧ (a / gcdI a b) * b = (b / gcdI a b) * a ∧ (a / gcdI a b).natAbs ≤ a.natAbs ∧ (b / gcdI a b).natAbs ≤ b.natAbs := by
  have hg : 0 < gcdI a b := gcdI_pos (by omega)
  have d1 := gcdI_dvd_l a b
  have d2 := gcdI_dvd_r a b
  refine ⟨⟨?_, ?_⟩, ?_, div_natAbs_le hg d1, div_natAbs_le hg d2⟩
  · have : 0 < b / gcdI a b := Int.ediv_pos_of_pos_of_dvd hb (by omega) d2
    omega
  · unfold gcdI at hg d1 d2 ⊢
    have e1 : (a / ((Nat.gcd a.natAbs b.natAbs : Nat) : Int)).natAbs = a.natAbs / Nat.gcd a.natAbs b.natAbs := by
      rw [Int.natAbs_ediv_of_dvd d1]
      rfl
    have e2 : (b / ((Nat.gcd a.natAbs b.natAbs : Nat) : Int)).natAbs = b.natAbs / Nat.gcd a.natAbs b.natAbs := by
      rw [Int.natAbs_ediv_of_dvd d2]
      rfl
    rw [e1, e2, Nat.gcd_div_gcd_div_gcd_of_pos_right (by omega)]
    rfl
  · obtain ⟨x, hx⟩ := d1
    obtain ⟨y, hy⟩ := d2
    have q1 : a / gcdI a b = x := (Int.eq_ediv_of_mul_eq_right (by omega) hx.symm).symm
    have q2 : b / gcdI a b = y := (Int.eq_ediv_of_mul_eq_right (by omega) hy.symm).symm
    rw [q1, q2]
    conv => lhs; rw [hy]
    conv => rhs; rw [hx]
    rw [Int.mul_left_comm, Int.mul_left_comm y, Int.mul_comm x y]
theorem log_le {m n k : Nat} (h : m ≤ n) (hn : n < 2 ^ k) (h0 : 0 < k) : m.log2 < k := log2_lt (Nat.lt_of_le_of_lt h hn) h0
/-! ### the law's gcd -/

/-! ### the law's own share -/
def Bd (n : Nat) (x : Int) : Prop := x.natAbs < 2 ^ n
theorem Bd.le {n m : Nat} {x : Int} (h : Bd n x) (l : n ≤ m) : Bd m x := Nat.lt_of_lt_of_le h (Nat.pow_le_pow_right (by decide) l)
theorem Bd.mul {n m : Nat} {x y : Int} (h : Bd n x) (g : Bd m y) : Bd (n + m) (x * y) := wide_lt h g
theorem Bd.of_le {n : Nat} {x y : Int} (h : Bd n x) (l : y.natAbs ≤ x.natAbs) : Bd n y := Nat.lt_of_le_of_lt l h
theorem Bd.neg {n : Nat} {x : Int} (h : Bd n x) : Bd n (-x) := by
  unfold Bd
  rw [Int.natAbs_neg]
  exact h
theorem Bd.add {n : Nat} {x y : Int} (h : Bd n x) (g : Bd n y) : Bd (n + 1) (x + y) := by
  unfold Bd at *
  rw [Nat.pow_succ]
  omega
theorem Bd.mulW {n m : Nat} {x y : Int} (h : Bd n x) (g : Bd m y) (hn : n ≤ 400000) (hm : m ≤ 400000) : CMulW x y := wide_mul (a := n + 1) (b := m + 1) (h.le (Nat.le_succ _)) (g.le (Nat.le_succ _)) (by omega) (by omega) (by omega)
theorem Bd.divW {n : Nat} {x y : Int} (h : Bd n y) (h0 : 0 < y) (hn : n < 9000) : CDivW x y := wide_div (b := n + 1) h0 (h.le (Nat.le_succ _)) (by omega) (by omega)
theorem gcdI_bd {n : Nat} {a b : Int} (h : Bd n b) (hb : b ≠ 0) : Bd n (gcdI a b) := h.of_le (by
  unfold gcdI
  exact Nat.le_of_dvd (by omega) (Nat.gcd_dvd_right _ _))

/-! ### fractions -/
theorem isSh_q (q : Rat) : IsSh q.num q.den := by
  refine ⟨by have := q.den_pos; omega, ?_⟩
  unfold gcdI
  rw [Int.natAbs_natCast]
  exact congrArg Int.ofNat q.reduced
theorem divInt_cross {a b : Int} (hb : b ≠ 0) : a * ((Rat.divInt a b).den : Int) = (Rat.divInt a b).num * b := by
  have h : Rat.divInt a b = Rat.divInt (Rat.divInt a b).num ((Rat.divInt a b).den : Int) := (Rat.num_divInt_den _).symm
  exact (Rat.divInt_eq_divInt_iff hb (by have := (Rat.divInt a b).den_pos; omega)).mp h
theorem rep_of {t u : Int} {q : Rat} (h : IsSh t u) (e : t * (q.den : Int) = q.num * u) : t = q.num ∧ u = (q.den : Int) := share_uniq h (isSh_q q) e
theorem rep_divInt {t u a b : Int} (h : IsSh t u) (hb : b ≠ 0) (e : t * b = u * a) : t = (Rat.divInt a b).num ∧ u = ((Rat.divInt a b).den : Int) := by
  have hu : u ≠ 0 := by have := h.1; omega
  have eq : Rat.divInt t u = Rat.divInt a b := (Rat.divInt_eq_divInt_iff hu hb).mpr (by rw [e, Int.mul_comm])
  rw [← eq]
  exact rep_of h (divInt_cross hu)
theorem low_bd {t u a b : Int} (h : IsSh t u) (hb : 0 < b) (e : t * b = u * a) : t.natAbs ≤ a.natAbs ∧ u.natAbs ≤ b.natAbs := by
  obtain ⟨h1, h2, h3, h4⟩ := low_is (a := a) (b := b) hb
  have hu : u ≠ 0 := by have := h.1; omega
  have e1 := rep_divInt h (by omega) e
  have e2 := rep_divInt h1 (by omega) h2
  rw [e1.1, e1.2, ← e2.1, ← e2.2]
  exact ⟨h3, h4⟩
def BdQ (n : Nat) (q : Rat) : Prop := Bd n q.num ∧ Bd n (q.den : Int)
theorem BdQ.le {n m : Nat} {q : Rat} (h : BdQ n q) (l : n ≤ m) : BdQ m q := ⟨h.1.le l, h.2.le l⟩
theorem divInt_bd {a b : Int} {n : Nat} (hb : 0 < b) (ha : Bd n a) (hn : Bd n b) : BdQ n (Rat.divInt a b) := by
  have h := low_bd (isSh_q (Rat.divInt a b)) hb (by rw [← divInt_cross (by omega), Int.mul_comm])
  exact ⟨ha.of_le h.1, hn.of_le h.2⟩
theorem den_pos (q : Rat) : (0 : Int) < (q.den : Int) := by have := q.den_pos; omega
theorem add_divInt (p q : Rat) : p + q = Rat.divInt (p.num * q.den + q.num * p.den) (p.den * q.den) := by
  have h := Rat.divInt_add_divInt p.num q.num (d₁ := p.den) (d₂ := q.den) (by have := den_pos p; omega) (by have := den_pos q; omega)
  rw [Rat.num_divInt_den, Rat.num_divInt_den] at h
  exact h
theorem mul_divInt (p q : Rat) : p * q = Rat.divInt (p.num * q.num) (p.den * q.den) := by
  have h := Rat.divInt_mul_divInt p.num q.num (d₁ := p.den) (d₂ := q.den)
  rw [Rat.num_divInt_den, Rat.num_divInt_den] at h
  exact h
theorem BdQ.add {n m : Nat} {p q : Rat} (h : BdQ n p) (g : BdQ m q) : BdQ (n + m + 1) (p + q) := by
  rw [add_divInt]
  refine divInt_bd (Int.mul_pos (den_pos p) (den_pos q)) ?_ ((h.2.mul g.2).le (Nat.le_succ _))
  exact (h.1.mul g.2).add ((g.1.mul h.2).le (by omega))
theorem BdQ.mul {n m : Nat} {p q : Rat} (h : BdQ n p) (g : BdQ m q) : BdQ (n + m) (p * q) := by
  rw [mul_divInt]
  exact divInt_bd (Int.mul_pos (den_pos p) (den_pos q)) (h.1.mul g.1) (h.2.mul g.2)
theorem BdQ.neg {n : Nat} {q : Rat} (h : BdQ n q) : BdQ n (-q) := by
  refine ⟨?_, h.2⟩
  rw [Rat.neg_num]
  exact h.1.neg
theorem BdQ.sub {n m : Nat} {p q : Rat} (h : BdQ n p) (g : BdQ m q) : BdQ (n + m + 1) (p - q) := by
  rw [Rat.sub_eq_add_neg]
  exact h.add g.neg
theorem neg_num (q : Rat) : (-q).num = -q.num := Rat.neg_num q
theorem neg_den (q : Rat) : (-q).den = q.den := rfl
/-- one over a fraction -/
theorem inv_rep {q : Rat} (h : 0 < q.num) : (q⁻¹).num = q.den ∧ ((q⁻¹).den : Int) = q.num := by
  have hs := isSh_q q
  have e := rep_divInt (t := (q.den : Int)) (u := q.num) (a := (q.den : Int)) (b := q.num) ⟨by omega, by
    have := hs.2
    unfold gcdI at this ⊢
    rw [Nat.gcd_comm]
    exact this⟩ (by omega) (Int.mul_comm _ _)
  rw [Rat.inv_def]
  exact ⟨e.1.symm, e.2.symm⟩
theorem inv_rep_neg {q : Rat} (h : q.num < 0) : (q⁻¹).num = -(q.den : Int) ∧ ((q⁻¹).den : Int) = -q.num := by
  have hs := isSh_q q
  have e := rep_divInt (t := -(q.den : Int)) (u := -q.num) (a := (q.den : Int)) (b := q.num) ⟨by omega, by
    rw [gcdI_neg_l, gcdI_neg_r]
    have := hs.2
    unfold gcdI at this ⊢
    rw [Nat.gcd_comm]
    exact this⟩ (by omega) (by rw [Int.neg_mul, Int.neg_mul, Int.mul_comm])
  rw [Rat.inv_def]
  exact ⟨e.1.symm, e.2.symm⟩
/-! ### divisors, further -/
theorem cop_iff {a b : Int} : gcdI a b = 1 ↔ ∀ k : Nat, (k : Int) ∣ a → (k : Int) ∣ b → k = 1 := by
  constructor
  · intro h k h1 h2
    have h3 : k ∣ Nat.gcd a.natAbs b.natAbs := Nat.dvd_gcd (Int.ofNat_dvd_left.mp h1) (Int.ofNat_dvd_left.mp h2)
    have h4 : Nat.gcd a.natAbs b.natAbs = 1 := by unfold gcdI at h; omega
    rw [h4] at h3
    exact Nat.dvd_one.mp h3
  · intro h
    have := h (Nat.gcd a.natAbs b.natAbs) (gcdI_dvd_l a b) (gcdI_dvd_r a b)
    unfold gcdI
    rw [this]
    rfl
theorem cop_comm {a b : Int} (h : gcdI a b = 1) : gcdI b a = 1 := cop_iff.mpr fun k h1 h2 => cop_iff.mp h k h2 h1
theorem cop_dvd_l {a a' b : Int} (h : gcdI a b = 1) (d : a' ∣ a) : gcdI a' b = 1 := cop_iff.mpr fun k h1 h2 => cop_iff.mp h k (Int.dvd_trans h1 d) h2
theorem cop_dvd_r {a b b' : Int} (h : gcdI a b = 1) (d : b' ∣ b) : gcdI a b' = 1 := cop_iff.mpr fun k h1 h2 => cop_iff.mp h k h1 (Int.dvd_trans h2 d)
theorem cop_mul_r {a b c : Int} (h : gcdI a b = 1) (g : gcdI a c = 1) : gcdI a (b * c) = 1 := by
  unfold gcdI at *
  rw [Int.natAbs_mul]
  have h1 : Nat.Coprime a.natAbs b.natAbs := by unfold Nat.Coprime; omega
  have h2 : Nat.Coprime a.natAbs c.natAbs := by unfold Nat.Coprime; omega
  have h3 : Nat.Coprime a.natAbs (b.natAbs * c.natAbs) := Nat.Coprime.mul_right h1 h2
  unfold Nat.Coprime at h3
  omega
theorem cop_mul_l {a b c : Int} (h : gcdI a c = 1) (g : gcdI b c = 1) : gcdI (a * b) c = 1 := cop_comm (cop_mul_r (cop_comm h) (cop_comm g))
theorem cop_add {x y a : Int} (h : gcdI x a = 1) (d : a ∣ y) : gcdI (x + y) a = 1 := cop_iff.mpr fun k h1 h2 => cop_iff.mp h k ((Int.dvd_add_left (Int.dvd_trans h2 d)).mp h1) h2
theorem cop_div {a b : Int} (h : b ≠ 0) : gcdI (a / gcdI a b) (b / gcdI a b) = 1 := by
  rcases Int.lt_or_gt_of_ne h with h | h
  · have := (low_is (a := a) (b := -b) (by omega)).1.2
    rw [gcdI_neg_r, Int.neg_ediv_of_dvd (gcdI_dvd_r a b), gcdI_neg_r] at this
    exact this
  · exact (low_is h).1.2
theorem div_mul {g a : Int} (h : g ∣ a) : g * (a / g) = a := Int.mul_ediv_cancel' h
theorem div_dvd {g a : Int} (h : g ∣ a) : a / g ∣ a := ⟨g, by rw [Int.mul_comm]; exact (div_mul h).symm⟩
/-! ### sums and products of shares, as the program reckons them -/
theorem plus_one {t u t' u' : Int} (h : IsSh t u) (h' : IsSh t' u') (e : gcdI u u' = 1) : IsSh (t * u' + t' * u) (u * u') := by
  have hu : 0 < u * u' := Int.mul_pos (by have := h.1; omega) (by have := h'.1; omega)
  refine ⟨by omega, cop_mul_r ?_ ?_⟩
  · exact cop_add (cop_mul_l h.2 (cop_comm e)) (Int.dvd_mul_left ..)
  · rw [Int.add_comm]
    exact cop_add (cop_mul_l h'.2 e) (Int.dvd_mul_left ..)
theorem plus_two {t u t' u' d tot g : Int} (h : IsSh t u) (h' : IsSh t' u') (ed : gcdI u u' = d) (et : t * (u' / d) + t' * (u / d) = tot) (eg : gcdI tot d = g) :
    IsSh (tot / g) (u / d * (u' / g)) ∧ (tot / g) * (u * u') = (u / d * (u' / g)) * (t * u' + t' * u) := by
  have hu1 := h.1
  have hu2 := h'.1
  have d0 : 0 < d := by rw [← ed]; exact gcdI_pos (by omega)
  have g0 : 0 < g := by rw [← eg]; exact gcdI_pos (by omega)
  have da : d ∣ u := by rw [← ed]; exact gcdI_dvd_l _ _
  have db : d ∣ u' := by rw [← ed]; exact gcdI_dvd_r _ _
  have gt : g ∣ tot := by rw [← eg]; exact gcdI_dvd_l _ _
  have gd : g ∣ d := by rw [← eg]; exact gcdI_dvd_r _ _
  have hab : gcdI (u / d) (u' / d) = 1 := by rw [← ed]; exact cop_div (by omega)
  have hgd : gcdI (tot / g) (d / g) = 1 := by rw [← eg]; exact cop_div (by omega)
  obtain ⟨a, rfl⟩ := da
  obtain ⟨b, rfl⟩ := db
  obtain ⟨e, rfl⟩ := gd
  obtain ⟨f, rfl⟩ := gt
  have g1 : g ≠ 0 := by omega
  have d1 : g * e ≠ 0 := by omega
  rw [Int.mul_ediv_cancel_left _ d1] at et hab ⊢
  rw [Int.mul_ediv_cancel_left _ d1] at et hab
  rw [Int.mul_ediv_cancel_left _ g1] at hgd ⊢
  rw [Int.mul_ediv_cancel_left _ g1] at hgd
  have eb : g * e * b / g = e * b := by rw [Int.mul_assoc, Int.mul_ediv_cancel_left _ g1]
  rw [eb]
  have e0 : 0 < e := by
    rcases Int.lt_trichotomy e 0 with z | z | z
    · have := Int.mul_neg_of_pos_of_neg g0 z
      omega
    · rw [z] at d0; simp at d0
    · exact z
  have a0 : 0 < a := Int.pos_of_mul_pos_right (a := g * e) (by omega) d0
  have b0 : 0 < b := Int.pos_of_mul_pos_right (a := g * e) (by omega) d0
  have c1 : gcdI f a = 1 := by
    refine cop_dvd_l (a := g * f) ?_ (Int.dvd_mul_left ..)
    rw [← et]
    exact cop_add (cop_mul_l (cop_dvd_r h.2 (Int.dvd_mul_left ..)) (cop_comm hab)) (Int.dvd_mul_left ..)
  have c2 : gcdI f b = 1 := by
    refine cop_dvd_l (a := g * f) ?_ (Int.dvd_mul_left ..)
    rw [← et, Int.add_comm]
    exact cop_add (cop_mul_l (cop_dvd_r h'.2 (Int.dvd_mul_left ..)) hab) (Int.dvd_mul_left ..)
  refine ⟨⟨?_, cop_mul_r c1 (cop_mul_r hgd c2)⟩, ?_⟩
  · have := Int.mul_pos a0 (Int.mul_pos e0 b0)
    omega
  · have : a * (e * b) * (t * (g * e * b) + t' * (g * e * a)) = a * (e * b) * (g * e) * (t * b + t' * a) := by grind
    rw [this, et]
    grind
theorem times_one {t u t' u' d e : Int} (h : IsSh t u) (h' : IsSh t' u') (ed : gcdI t u' = d) (ee : gcdI t' u = e) :
    IsSh ((t / d) * (t' / e)) ((u / e) * (u' / d)) ∧ ((t / d) * (t' / e)) * (u * u') = ((u / e) * (u' / d)) * (t * t') := by
  have hu1 := h.1
  have hu2 := h'.1
  have d0 : 0 < d := by rw [← ed]; exact gcdI_pos (by omega)
  have e0 : 0 < e := by rw [← ee]; exact gcdI_pos (by omega)
  have d1 : d ∣ t := by rw [← ed]; exact gcdI_dvd_l _ _
  have d2 : d ∣ u' := by rw [← ed]; exact gcdI_dvd_r _ _
  have d3 : e ∣ t' := by rw [← ee]; exact gcdI_dvd_l _ _
  have d4 : e ∣ u := by rw [← ee]; exact gcdI_dvd_r _ _
  have c1 : gcdI (t / d) (u' / d) = 1 := by rw [← ed]; exact cop_div (by omega)
  have c2 : gcdI (t' / e) (u / e) = 1 := by rw [← ee]; exact cop_div (by omega)
  have c3 : gcdI (t / d) (u / e) = 1 := cop_dvd_l (cop_dvd_r h.2 (div_dvd d4)) (div_dvd d1)
  have c4 : gcdI (t' / e) (u' / d) = 1 := cop_dvd_l (cop_dvd_r h'.2 (div_dvd d2)) (div_dvd d3)
  refine ⟨⟨?_, cop_mul_l (cop_mul_r c3 c1) (cop_mul_r c2 c4)⟩, ?_⟩
  · have := Int.mul_pos (Int.ediv_pos_of_pos_of_dvd (show 0 < u by omega) (by omega) d4) (Int.ediv_pos_of_pos_of_dvd (show 0 < u' by omega) (by omega) d2)
    omega
  · have m1 := div_mul d1
    have m2 := div_mul d2
    have m3 := div_mul d3
    have m4 := div_mul d4
    generalize t / d = x at *
    generalize u' / d = y at *
    generalize t' / e = v at *
    generalize u / e = z at *
    subst m1 m2 m3 m4
    grind
theorem gcdI_bd2 {n : Nat} {p q : Int} (h : Bd n p) (g : Bd n q) (h0 : ¬ (p = 0 ∧ q = 0)) : Bd n (gcdI p q) := by
  by_cases hq : q = 0
  · have hp : p ≠ 0 := fun z => h0 ⟨z, hq⟩
    refine h.of_le ?_
    unfold gcdI
    exact Nat.le_of_dvd (by omega) (Nat.gcd_dvd_left _ _)
  · exact gcdI_bd g hq
theorem gcdI_comm (p q : Int) : gcdI p q = gcdI q p := by
  unfold gcdI
  rw [Nat.gcd_comm]
theorem gcdI_pos2 {p q : Int} (h0 : ¬ (p = 0 ∧ q = 0)) : 0 < gcdI p q := by
  by_cases hq : q = 0
  · rw [gcdI_comm]
    exact gcdI_pos fun z => h0 ⟨z, hq⟩
  · exact gcdI_pos hq
theorem cop_div2 {p q : Int} (h0 : ¬ (p = 0 ∧ q = 0)) : gcdI (p / gcdI p q) (q / gcdI p q) = 1 := by
  by_cases hq : q = 0
  · have hp : p ≠ 0 := fun z => h0 ⟨z, hq⟩
    rw [gcdI_comm p q]
    exact cop_comm (cop_div hp)
  · exact cop_div hq
/-- a fraction by what it is worth -/
theorem eq_divInt {q : Rat} {a b : Int} (hb : b ≠ 0) (h : q * (b : Rat) = (a : Rat)) : q = Rat.divInt a b := by
  rw [Rat.divInt_eq_div, ← h]
  have : (b : Rat) ≠ 0 := fun z => hb (by exact_mod_cast z)
  grind
theorem num_eq (x : Rat) : (x.num : Rat) = x * ((x.den : Int) : Rat) := by
  have h : (((x.den : Int)) : Rat) ≠ 0 := fun z => by
    have hp := den_pos x
    have : ((x.den : Int)) = 0 := by exact_mod_cast z
    omega
  have e := Rat.num_divInt_den x
  rw [Rat.divInt_eq_div] at e
  have e2 := Rat.div_mul_cancel (a := (x.num : Rat)) h
  rw [e] at e2
  exact e2.symm

end
/-! ### the greatest and the least of things that lie in the heap -/
namespace MM
open PySem PySem.Spec
section
variable {prog : Program} {w : PySem.World} {A : Around} {R : Result → Shared → Prop} {I : Addr} {fp wr : List Addr} {n : Nat} {P : Nat → Value → Prop} {St : Nat → Heap → Prop}
/-- two of them compared, over a heap that G speaks of -/
def CmpH (G : Heap → Prop) (prog : Program) (w : PySem.World) (A : Around) (op : CmpOp) (P : Nat → Value → Prop) (bt : Nat → Nat → Bool) : Prop :=
  ∀ i j u v (z : Shared) (Q : Value → Shared → Prop) (E : Value → Shared → Prop), G z.heap → P i u → P j v → Q (.bool (bt i j)) z → wpAny (model prog w) A (richCompare op u v) Q E z

theorem max_go (Wk : Walks prog w A.in1 I fp wr n P St) {bt : Nat → Nat → Bool} {G : Heap → Prop} (hc : CmpH G prog w A.in1 .Gt P bt) {S : Addr} (nf : S ∉ fp)
    (hG : ∀ h h' : Heap, G h → (∀ b o, b ∉ wr → b ≠ S → h.get? b = some o → h'.get? b = some o) → G h') :
    ∀ (k j : Nat) (z : Shared) (v : Value) (c : Nat), n - (j + 1) = k → j + 1 ≤ n → St (j + 1) z.heap → G z.heap → P (argBest bt j) v →
    z.heap.get? S = some ⟨.type "list", none, .seq #[v, v] c, #[]⟩ →
    (∀ u h' tk, P (argBest bt (n - 1)) u → (∀ b o, b ∉ wr → b ≠ S → z.heap.get? b = some o → h'.get? b = some o) → R (.ok (.ret u)) { z with heap := h', toks := tk }) →
    codeAny (model prog w) A (.builtin "max.loop" ⟨[.ref I, .none, .ref S], []⟩) R z
  | 0, j, z, v, c, hk, hj, st, g, pv, hS, hR => by
    have nw : S ∉ wr := fun x => nf (Wk.sub _ x)
    have ej : j + 1 = n := by omega
    refine codeAny_builtin F.entry_max_loop ?_
    rw [Around.under_plainId F.plain_max_loop _]
    refine wpAny_bind (wpAny_seqItems hS rfl ?_)
    refine wpAny_bind (wpAny_tryCatch (Wk.done z _ _ (ej ▸ st) fun g1 tk kp => wpAny_bind ?_))
    have hS1 := kp S _ nw hS
    refine wpAny_updateSeq hS1 rfl (wpAny_bind (wpAny_letGo (wpAny_pure (hR v _ tk (by rw [← ej]; exact pv) fun b o h1 h2 e => ?_))))
    rw [Heap.get?_update_other _ _ (Ne.symm h2)]
    exact kp b o h1 e
  | k + 1, j, z, v, c, hk, hj, st, g, pv, hS, hR => by
    have nw : S ∉ wr := fun x => nf (Wk.sub _ x)
    have lt : j + 1 < n := by omega
    have hnm : (toString "max" ++ toString ".loop" : String) = "max.loop" := by decide
    refine codeAny_builtin F.entry_max_loop ?_
    rw [Around.under_plainId F.plain_max_loop _]
    refine wpAny_bind (wpAny_seqItems hS rfl ?_)
    refine wpAny_bind (wpAny_tryCatch (Wk.item (j + 1) z _ _ lt st fun u g1 tk pu st1 kp => ?_))
    have hS1 := kp S _ nw hS
    have G1 := hG _ g1 g fun b o h1 _ e => kp b o h1 e
    show wpAny (model prog w) A.in1 (tryCatch (holding [u, u] (richCompare .Gt u v >>= _)) _ >>= _) _ _ _
    refine wpAny_bind (wpAny_tryCatch (wpAny_holding (wpAny_bind (hc (j + 1) (argBest bt j) u v _ _ _ G1 pu pv ?_))))
    refine wpAny_bind (wpAny_holding (wpAny_truthy_bool (wpAny_bind (wpAny_letGo (wpAny_pure ?_)))))
    cases eb : bt (j + 1) (argBest bt j) with
    | true =>
      rw [if_pos rfl]
      refine wpAny_bind (wpAny_updateSeq hS1 rfl (wpAny_bind (wpAny_letGo ?_)))
      rw [hnm]
      have oth : ∀ (f : Obj → Obj) (b : Addr) (o : Obj), b ≠ S → g1.get? b = some o → (g1.update S f).get? b = some o := fun f b o h2 e => by
        rw [Heap.get?_update_other _ _ (Ne.symm h2)]
        exact e
      refine wpAny_pure ⟨plainId_quiet F.plain_max_loop _, max_go Wk hc nf hG k (j + 1) _ u _ (by omega) lt (Wk.frame _ _ _ st1 fun b hb o e => oth _ b o (fun x => nf (x ▸ hb)) e) (hG _ _ G1 fun b o _ h2 e => oth _ b o h2 e) (by simp only [argBest, eb, if_true]; exact pu) (Heap.get?_update_self _ hS1 rfl) fun u' g2 tk2 p2 kp2 => ?_⟩
      exact hR u' g2 tk2 p2 fun b o h1 h2 e => kp2 b o h1 h2 (oth _ b o h2 (kp b o h1 e))
    | false =>
      rw [if_neg Bool.false_ne_true]
      refine wpAny_bind (wpAny_letGo ?_)
      rw [hnm]
      refine wpAny_pure ⟨plainId_quiet F.plain_max_loop _, max_go Wk hc nf hG k (j + 1) _ v c (by omega) lt st1 G1 (by simp only [argBest, eb, Bool.false_eq_true, if_false]; exact pv) hS1 fun u' g2 tk2 p2 kp2 => ?_⟩
      exact hR u' g2 tk2 p2 fun b o h1 h2 e => kp2 b o h1 h2 (kp b o h1 e)
theorem max_first (Wk : Walks prog w A.in1 I fp wr n P St) {bt : Nat → Nat → Bool} {G : Heap → Prop} (hc : CmpH G prog w A.in1 .Gt P bt) {S : Addr} (nf : S ∉ fp)
    (hG : ∀ h h' : Heap, G h → (∀ b o, b ∉ wr → b ≠ S → h.get? b = some o → h'.get? b = some o) → G h') (n0 : 0 < n) {z : Shared} {c : Nat} (st : St 0 z.heap) (g : G z.heap)
    (hS : z.heap.get? S = some ⟨.type "list", none, .seq #[] c, #[]⟩)
    (hR : ∀ u h' tk, P (argBest bt (n - 1)) u → (∀ b o, b ∉ wr → b ≠ S → z.heap.get? b = some o → h'.get? b = some o) → R (.ok (.ret u)) { z with heap := h', toks := tk }) :
    codeAny (model prog w) A (.builtin "max.loop" ⟨[.ref I, .none, .ref S], []⟩) R z := by
  have nw : S ∉ wr := fun x => nf (Wk.sub _ x)
  have hnm : (toString "max" ++ toString ".loop" : String) = "max.loop" := by decide
  refine codeAny_builtin F.entry_max_loop ?_
  rw [Around.under_plainId F.plain_max_loop _]
  refine wpAny_bind (wpAny_seqItems hS rfl ?_)
  refine wpAny_bind (wpAny_tryCatch (Wk.item 0 z _ _ n0 st fun u g1 tk pu st1 kp => ?_))
  have hS1 := kp S _ nw hS
  have G1 := hG _ g1 g fun b o h1 _ e => kp b o h1 e
  have oth : ∀ (f : Obj → Obj) (b : Addr) (o : Obj), b ≠ S → g1.get? b = some o → (g1.update S f).get? b = some o := fun f b o h2 e => by
    rw [Heap.get?_update_other _ _ (Ne.symm h2)]
    exact e
  show wpAny (model prog w) A.in1 (updateSeq S (fun _ => #[u, u]) >>= _) _ _ _
  refine wpAny_bind (wpAny_updateSeq hS1 rfl ?_)
  rw [hnm]
  refine wpAny_pure ⟨plainId_quiet F.plain_max_loop _, max_go Wk hc nf hG _ 0 _ u _ rfl n0 (Wk.frame _ _ _ st1 fun b hb o e => oth _ b o (fun x => nf (x ▸ hb)) e) (hG _ _ G1 fun b o _ h2 e => oth _ b o h2 e) pu (Heap.get?_update_self _ hS1 rfl) fun u' g2 tk2 p2 kp2 => ?_⟩
  exact hR u' g2 tk2 p2 fun b o h1 h2 e => kp2 b o h1 h2 (oth _ b o h2 (kp b o h1 e))
theorem max_call {l : Addr} {its : Array Value} {bt : Nat → Nat → Bool} {G : Heap → Prop} {Q : Value → Shared → Prop} {E : Value → Shared → Prop} {z : Shared} (hh : A.handled = none) (hl : z.heap.IsList l its) (n0 : 0 < its.size) (g : G z.heap)
    (hG : ∀ h h' : Heap, G h → (∀ b o, b < z.heap.objs.size → h.get? b = some o → h'.get? b = some o) → G h')
    (hc : CmpH G prog w A.in1 .Gt (fun i v => its[i]? = some v) bt)
    (hQ : ∀ u h' tk, its[argBest bt (its.size - 1)]? = some u → (∀ b o, z.heap.get? b = some o → h'.get? b = some o) → Q u { z with heap := h', toks := tk }) :
    wpAny (model prog w) A (call (.builtin "max") [.ref l]) Q E z := by
  have hnm : (toString "max" ++ toString ".loop" : String) = "max.loop" := by decide
  refine call_function_tree F.kind_max F.plain_max F.entry_max (F.args_max1 _) ?_
  refine wpAny_bind (wpAny_of_eq (show Builtin.Builtins.bindParams "max" ["key", "default"] 0 ⟨[], []⟩ = pure [none, none] from rfl) (wpAny_bind (wpAny_pure ?_)))
  have llt : l < z.heap.objs.size := by obtain ⟨_, e, _⟩ := hl; exact Heap.lt_size e
  refine wpAny_bind (wpAny_pyIter_list hl (wpAny_bind (wpAny_newObj_type ?_)))
  rw [hnm]
  obtain ⟨z1, ez1⟩ : ∃ z1, z.heap.push ⟨.type "list_iterator", none, .fields #[.ref l, .int 0 0], #[]⟩ = z1 := ⟨_, rfl⟩
  have sz1 : z1.objs.size = z.heap.objs.size + 1 := by rw [← ez1, Heap.size_push]
  have k1 : ∀ b o, z.heap.get? b = some o → z1.get? b = some o := fun b o e => by rw [← ez1]; exact Heap.get?_push_of_some _ e
  have hne : l ≠ z.heap.objs.size := Nat.ne_of_lt llt
  have hl1 : z1.IsList l its := by rw [← ez1]; exact hl.push _
  have it1 : z1.IsListIter z.heap.objs.size l 0 := by rw [← ez1]; exact ⟨_, Heap.get?_push_size _ rfl, rfl, rfl⟩
  refine wpAny_pure ⟨plainId_quiet F.plain_max_loop _, ?_⟩
  have fpl : ∀ b ∈ [z.heap.objs.size, l], b < z1.objs.size := fun b hb => by
    simp only [List.mem_cons, List.not_mem_nil, or_false] at hb
    rw [sz1]
    rcases hb with x | x
    · rw [x]
      exact Nat.lt_succ_self _
    · rw [x]
      exact Nat.lt_succ_of_lt llt
  have neS : ∀ b : Addr, b < z.heap.objs.size → b ≠ z1.objs.size := fun b lb x => by
    rw [x, sz1] at lb
    exact Nat.not_succ_lt_self lb
  have Wk := Walks.list (prog := prog) (w := w) (A := A.in1) hh z.heap.objs.size l hne its
  have G0 := hG _ z1 g fun b o _ e => k1 b o e
  have pz : z.heap.push ⟨.type "list_iterator", none, .fields #[.ref l, .int 0 0], #[]⟩ = z1 := ez1
  show codeAny (model prog w) A (.builtin "max.loop" ⟨[.ref z.heap.objs.size, .none, .ref (z.heap.push ⟨.type "list_iterator", none, .fields #[.ref l, .int 0 0], #[]⟩).objs.size], []⟩) _ { z with heap := (z.heap.push ⟨.type "list_iterator", none, .fields #[.ref l, .int 0 0], #[]⟩).push ⟨.type "list", none, .seq #[] 0, #[]⟩ }
  rw [pz]
  have k2 : ∀ b o, z1.get? b = some o → (z1.push ⟨.type "list", none, .seq #[] 0, #[]⟩).get? b = some o := fun b o e => Heap.get?_push_of_some _ e
  refine max_first (S := z1.objs.size) Wk hc (fun m => Nat.lt_irrefl _ (fpl _ m)) (fun h h' gh kp => hG h h' gh fun b o lb e => kp b o (fun m => ?_) (neS b lb) e) n0 ?_ (hG _ _ G0 fun b o _ e => k2 b o e) (Heap.get?_push_size _ rfl) fun u h' tk pu kp => hQ u h' tk pu fun b o e => kp b o (fun m => ?_) (neS b (Heap.lt_size e)) (k2 b o (k1 b o e))
  · rw [List.mem_singleton.mp m] at lb
    exact Nat.lt_irrefl _ lb
  · obtain ⟨h1, h2⟩ := (show z1.IsListIter z.heap.objs.size l 0 ∧ z1.IsList l its from ⟨it1, hl1⟩)
    exact ⟨h1.at fun o e => k2 _ o e, h2.push _⟩
  · have := Heap.lt_size e
    rw [List.mem_singleton.mp m] at this
    exact Nat.lt_irrefl _ this

theorem min_go (Wk : Walks prog w A.in1 I fp wr n P St) {bt : Nat → Nat → Bool} {G : Heap → Prop} (hc : CmpH G prog w A.in1 .Lt P bt) {S : Addr} (nf : S ∉ fp)
    (hG : ∀ h h' : Heap, G h → (∀ b o, b ∉ wr → b ≠ S → h.get? b = some o → h'.get? b = some o) → G h') :
    ∀ (k j : Nat) (z : Shared) (v : Value) (c : Nat), n - (j + 1) = k → j + 1 ≤ n → St (j + 1) z.heap → G z.heap → P (argBest bt j) v →
    z.heap.get? S = some ⟨.type "list", none, .seq #[v, v] c, #[]⟩ →
    (∀ u h' tk, P (argBest bt (n - 1)) u → (∀ b o, b ∉ wr → b ≠ S → z.heap.get? b = some o → h'.get? b = some o) → R (.ok (.ret u)) { z with heap := h', toks := tk }) →
    codeAny (model prog w) A (.builtin "min.loop" ⟨[.ref I, .none, .ref S], []⟩) R z
  | 0, j, z, v, c, hk, hj, st, g, pv, hS, hR => by
    have nw : S ∉ wr := fun x => nf (Wk.sub _ x)
    have ej : j + 1 = n := by omega
    refine codeAny_builtin F.entry_min_loop ?_
    rw [Around.under_plainId F.plain_min_loop _]
    refine wpAny_bind (wpAny_seqItems hS rfl ?_)
    refine wpAny_bind (wpAny_tryCatch (Wk.done z _ _ (ej ▸ st) fun g1 tk kp => wpAny_bind ?_))
    have hS1 := kp S _ nw hS
    refine wpAny_updateSeq hS1 rfl (wpAny_bind (wpAny_letGo (wpAny_pure (hR v _ tk (by rw [← ej]; exact pv) fun b o h1 h2 e => ?_))))
    rw [Heap.get?_update_other _ _ (Ne.symm h2)]
    exact kp b o h1 e
  | k + 1, j, z, v, c, hk, hj, st, g, pv, hS, hR => by
    have nw : S ∉ wr := fun x => nf (Wk.sub _ x)
    have lt : j + 1 < n := by omega
    have hnm : (toString "min" ++ toString ".loop" : String) = "min.loop" := by decide
    refine codeAny_builtin F.entry_min_loop ?_
    rw [Around.under_plainId F.plain_min_loop _]
    refine wpAny_bind (wpAny_seqItems hS rfl ?_)
    refine wpAny_bind (wpAny_tryCatch (Wk.item (j + 1) z _ _ lt st fun u g1 tk pu st1 kp => ?_))
    have hS1 := kp S _ nw hS
    have G1 := hG _ g1 g fun b o h1 _ e => kp b o h1 e
    show wpAny (model prog w) A.in1 (tryCatch (holding [u, u] (richCompare .Lt u v >>= _)) _ >>= _) _ _ _
    refine wpAny_bind (wpAny_tryCatch (wpAny_holding (wpAny_bind (hc (j + 1) (argBest bt j) u v _ _ _ G1 pu pv ?_))))
    refine wpAny_bind (wpAny_holding (wpAny_truthy_bool (wpAny_bind (wpAny_letGo (wpAny_pure ?_)))))
    cases eb : bt (j + 1) (argBest bt j) with
    | true =>
      rw [if_pos rfl]
      refine wpAny_bind (wpAny_updateSeq hS1 rfl (wpAny_bind (wpAny_letGo ?_)))
      rw [hnm]
      have oth : ∀ (f : Obj → Obj) (b : Addr) (o : Obj), b ≠ S → g1.get? b = some o → (g1.update S f).get? b = some o := fun f b o h2 e => by
        rw [Heap.get?_update_other _ _ (Ne.symm h2)]
        exact e
      refine wpAny_pure ⟨plainId_quiet F.plain_min_loop _, min_go Wk hc nf hG k (j + 1) _ u _ (by omega) lt (Wk.frame _ _ _ st1 fun b hb o e => oth _ b o (fun x => nf (x ▸ hb)) e) (hG _ _ G1 fun b o _ h2 e => oth _ b o h2 e) (by simp only [argBest, eb, if_true]; exact pu) (Heap.get?_update_self _ hS1 rfl) fun u' g2 tk2 p2 kp2 => ?_⟩
      exact hR u' g2 tk2 p2 fun b o h1 h2 e => kp2 b o h1 h2 (oth _ b o h2 (kp b o h1 e))
    | false =>
      rw [if_neg Bool.false_ne_true]
      refine wpAny_bind (wpAny_letGo ?_)
      rw [hnm]
      refine wpAny_pure ⟨plainId_quiet F.plain_min_loop _, min_go Wk hc nf hG k (j + 1) _ v c (by omega) lt st1 G1 (by simp only [argBest, eb, Bool.false_eq_true, if_false]; exact pv) hS1 fun u' g2 tk2 p2 kp2 => ?_⟩
      exact hR u' g2 tk2 p2 fun b o h1 h2 e => kp2 b o h1 h2 (kp b o h1 e)
theorem min_first (Wk : Walks prog w A.in1 I fp wr n P St) {bt : Nat → Nat → Bool} {G : Heap → Prop} (hc : CmpH G prog w A.in1 .Lt P bt) {S : Addr} (nf : S ∉ fp)
    (hG : ∀ h h' : Heap, G h → (∀ b o, b ∉ wr → b ≠ S → h.get? b = some o → h'.get? b = some o) → G h') (n0 : 0 < n) {z : Shared} {c : Nat} (st : St 0 z.heap) (g : G z.heap)
    (hS : z.heap.get? S = some ⟨.type "list", none, .seq #[] c, #[]⟩)
    (hR : ∀ u h' tk, P (argBest bt (n - 1)) u → (∀ b o, b ∉ wr → b ≠ S → z.heap.get? b = some o → h'.get? b = some o) → R (.ok (.ret u)) { z with heap := h', toks := tk }) :
    codeAny (model prog w) A (.builtin "min.loop" ⟨[.ref I, .none, .ref S], []⟩) R z := by
  have nw : S ∉ wr := fun x => nf (Wk.sub _ x)
  have hnm : (toString "min" ++ toString ".loop" : String) = "min.loop" := by decide
  refine codeAny_builtin F.entry_min_loop ?_
  rw [Around.under_plainId F.plain_min_loop _]
  refine wpAny_bind (wpAny_seqItems hS rfl ?_)
  refine wpAny_bind (wpAny_tryCatch (Wk.item 0 z _ _ n0 st fun u g1 tk pu st1 kp => ?_))
  have hS1 := kp S _ nw hS
  have G1 := hG _ g1 g fun b o h1 _ e => kp b o h1 e
  have oth : ∀ (f : Obj → Obj) (b : Addr) (o : Obj), b ≠ S → g1.get? b = some o → (g1.update S f).get? b = some o := fun f b o h2 e => by
    rw [Heap.get?_update_other _ _ (Ne.symm h2)]
    exact e
  show wpAny (model prog w) A.in1 (updateSeq S (fun _ => #[u, u]) >>= _) _ _ _
  refine wpAny_bind (wpAny_updateSeq hS1 rfl ?_)
  rw [hnm]
  refine wpAny_pure ⟨plainId_quiet F.plain_min_loop _, min_go Wk hc nf hG _ 0 _ u _ rfl n0 (Wk.frame _ _ _ st1 fun b hb o e => oth _ b o (fun x => nf (x ▸ hb)) e) (hG _ _ G1 fun b o _ h2 e => oth _ b o h2 e) pu (Heap.get?_update_self _ hS1 rfl) fun u' g2 tk2 p2 kp2 => ?_⟩
  exact hR u' g2 tk2 p2 fun b o h1 h2 e => kp2 b o h1 h2 (oth _ b o h2 (kp b o h1 e))
theorem min_call {l : Addr} {its : Array Value} {bt : Nat → Nat → Bool} {G : Heap → Prop} {Q : Value → Shared → Prop} {E : Value → Shared → Prop} {z : Shared} (hh : A.handled = none) (hl : z.heap.IsList l its) (n0 : 0 < its.size) (g : G z.heap)
    (hG : ∀ h h' : Heap, G h → (∀ b o, b < z.heap.objs.size → h.get? b = some o → h'.get? b = some o) → G h')
    (hc : CmpH G prog w A.in1 .Lt (fun i v => its[i]? = some v) bt)
    (hQ : ∀ u h' tk, its[argBest bt (its.size - 1)]? = some u → (∀ b o, z.heap.get? b = some o → h'.get? b = some o) → Q u { z with heap := h', toks := tk }) :
    wpAny (model prog w) A (call (.builtin "min") [.ref l]) Q E z := by
  have hnm : (toString "min" ++ toString ".loop" : String) = "min.loop" := by decide
  refine call_function_tree F.kind_min F.plain_min F.entry_min (F.args_min1 _) ?_
  refine wpAny_bind (wpAny_of_eq (show Builtin.Builtins.bindParams "min" ["key", "default"] 0 ⟨[], []⟩ = pure [none, none] from rfl) (wpAny_bind (wpAny_pure ?_)))
  have llt : l < z.heap.objs.size := by obtain ⟨_, e, _⟩ := hl; exact Heap.lt_size e
  refine wpAny_bind (wpAny_pyIter_list hl (wpAny_bind (wpAny_newObj_type ?_)))
  rw [hnm]
  obtain ⟨z1, ez1⟩ : ∃ z1, z.heap.push ⟨.type "list_iterator", none, .fields #[.ref l, .int 0 0], #[]⟩ = z1 := ⟨_, rfl⟩
  have sz1 : z1.objs.size = z.heap.objs.size + 1 := by rw [← ez1, Heap.size_push]
  have k1 : ∀ b o, z.heap.get? b = some o → z1.get? b = some o := fun b o e => by rw [← ez1]; exact Heap.get?_push_of_some _ e
  have hne : l ≠ z.heap.objs.size := Nat.ne_of_lt llt
  have hl1 : z1.IsList l its := by rw [← ez1]; exact hl.push _
  have it1 : z1.IsListIter z.heap.objs.size l 0 := by rw [← ez1]; exact ⟨_, Heap.get?_push_size _ rfl, rfl, rfl⟩
  refine wpAny_pure ⟨plainId_quiet F.plain_min_loop _, ?_⟩
  have fpl : ∀ b ∈ [z.heap.objs.size, l], b < z1.objs.size := fun b hb => by
    simp only [List.mem_cons, List.not_mem_nil, or_false] at hb
    rw [sz1]
    rcases hb with x | x
    · rw [x]
      exact Nat.lt_succ_self _
    · rw [x]
      exact Nat.lt_succ_of_lt llt
  have neS : ∀ b : Addr, b < z.heap.objs.size → b ≠ z1.objs.size := fun b lb x => by
    rw [x, sz1] at lb
    exact Nat.not_succ_lt_self lb
  have Wk := Walks.list (prog := prog) (w := w) (A := A.in1) hh z.heap.objs.size l hne its
  have G0 := hG _ z1 g fun b o _ e => k1 b o e
  have pz : z.heap.push ⟨.type "list_iterator", none, .fields #[.ref l, .int 0 0], #[]⟩ = z1 := ez1
  show codeAny (model prog w) A (.builtin "min.loop" ⟨[.ref z.heap.objs.size, .none, .ref (z.heap.push ⟨.type "list_iterator", none, .fields #[.ref l, .int 0 0], #[]⟩).objs.size], []⟩) _ { z with heap := (z.heap.push ⟨.type "list_iterator", none, .fields #[.ref l, .int 0 0], #[]⟩).push ⟨.type "list", none, .seq #[] 0, #[]⟩ }
  rw [pz]
  have k2 : ∀ b o, z1.get? b = some o → (z1.push ⟨.type "list", none, .seq #[] 0, #[]⟩).get? b = some o := fun b o e => Heap.get?_push_of_some _ e
  refine min_first (S := z1.objs.size) Wk hc (fun m => Nat.lt_irrefl _ (fpl _ m)) (fun h h' gh kp => hG h h' gh fun b o lb e => kp b o (fun m => ?_) (neS b lb) e) n0 ?_ (hG _ _ G0 fun b o _ e => k2 b o e) (Heap.get?_push_size _ rfl) fun u h' tk pu kp => hQ u h' tk pu fun b o e => kp b o (fun m => ?_) (neS b (Heap.lt_size e)) (k2 b o (k1 b o e))
  · rw [List.mem_singleton.mp m] at lb
    exact Nat.lt_irrefl _ lb
  · obtain ⟨h1, h2⟩ := (show z1.IsListIter z.heap.objs.size l 0 ∧ z1.IsList l its from ⟨it1, hl1⟩)
    exact ⟨h1.at fun o e => k2 _ o e, h2.push _⟩
  · have := Heap.lt_size e
    rw [List.mem_singleton.mp m] at this
    exact Nat.lt_irrefl _ this
end
end MM

/-! ### tuples of numbers, and of such tuples, by their order -/
namespace MM
open PySem PySem.Spec PySem.SeqAt Ob
inductive KT where
  | n (i : Int)
  | t (l : List KT)
def KAt (h : Heap) : Nat → Value → KT → Prop
  | _, v, .n i => ∃ tk, v = .int i tk
  | 0, _, .t _ => False
  | d + 1, v, .t l => ∃ a items, v = .ref a ∧ h.IsTuple a items ∧ items.size = l.length ∧ ∀ (j : Nat) u x, items[j]? = some u → l[j]? = some x → KAt h d u x
def eqL (f : KT → KT → Bool) : List KT → List KT → Bool
  | [], [] => true
  | x :: xs, y :: ys => f x y && eqL f xs ys
  | _, _ => false
def ltL (e f : KT → KT → Bool) : List KT → List KT → Bool
  | x :: xs, y :: ys => if e x y = true then ltL e f xs ys else f x y
  | _, _ => false
def eqK : Nat → KT → KT → Bool
  | _, .n i, .n j => i == j
  | d + 1, .t a, .t b => eqL (eqK d) a b
  | _, _, _ => false
def ltK : Nat → KT → KT → Bool
  | _, .n i, .n j => decide (i < j)
  | d + 1, .t a, .t b => ltL (eqK d) (ltK d) a b
  | _, _, _ => false
def shp : Nat → KT → KT → Prop
  | _, .n _, .n _ => True
  | d + 1, .t a, .t b => a.length = b.length ∧ ∀ (j : Nat) x y, a[j]? = some x → b[j]? = some y → shp d x y
  | _, _, _ => False
def z0 : KT := .n 0
theorem eqL_range (f : KT → KT → Bool) : ∀ a b : List KT, a.length = b.length → ((List.range a.length).all fun j => f (a.getD j z0) (b.getD j z0)) = eqL f a b
  | [], [], _ => rfl
  | x :: xs, y :: ys, h => by
    have ih := eqL_range f xs ys (by simpa using h)
    rw [List.length_cons, List.range_succ_eq_map, List.all_cons, List.all_map]
    show (f x y && (List.range xs.length).all fun j => f (xs.getD j z0) (ys.getD j z0)) = _
    rw [ih]
    rfl
theorem lex_ltL (e f : KT → KT → Bool) : ∀ (a b : List KT) (i : Nat) (E F : Nat → Bool), a.length = b.length → (∀ j, E (i + j) = e (a.getD j z0) (b.getD j z0)) → (∀ j, F (i + j) = f (a.getD j z0) (b.getD j z0)) → lexAt E F false i a.length = ltL e f a b
  | [], [], _, _, _, _, _, _ => rfl
  | x :: xs, y :: ys, i, E, F, h, hE, hF => by
    have h0 : E i = e x y := hE 0
    have h1 : F i = f x y := hF 0
    have ih := lex_ltL e f xs ys (i + 1) E F (by simpa using h) (fun j => by rw [show i + 1 + j = i + (j + 1) by omega]; exact hE (j + 1)) fun j => by rw [show i + 1 + j = i + (j + 1) by omega]; exact hF (j + 1)
    show (if E i = true then lexAt E F false (i + 1) xs.length else F i) = if e x y = true then ltL e f xs ys else f x y
    rw [h0, h1, ih]
theorem eqL_all {f : KT → KT → Bool} : ∀ {a b : List KT}, a.length = b.length → (∀ (j : Nat) x y, a[j]? = some x → b[j]? = some y → f x y = true) → eqL f a b = true
  | [], [], _, _ => rfl
  | x :: xs, y :: ys, h, g => by
    show (f x y && eqL f xs ys) = true
    rw [g 0 x y rfl rfl, eqL_all (by simpa using h) fun j u v hu hv => g (j + 1) u v hu hv]
    rfl
theorem eqL_symm {f g : KT → KT → Bool} (h : ∀ x y, f x y = g y x) : ∀ a b : List KT, eqL f a b = eqL g b a
  | [], [] => rfl
  | [], _ :: _ => rfl
  | _ :: _, [] => rfl
  | x :: xs, y :: ys => by
    show (f x y && eqL f xs ys) = (g y x && eqL g ys xs)
    rw [h, eqL_symm h xs ys]
theorem eqK_symm : ∀ (d : Nat) (x y : KT), eqK d x y = eqK d y x
  | d, .n i, .n j => by
    have e : ∀ i j : Int, eqK d (.n i) (.n j) = (i == j) := fun i j => by cases d <;> rfl
    rw [e, e]
    exact Bool.beq_comm
  | 0, .n _, .t _ => rfl
  | 0, .t _, .n _ => rfl
  | 0, .t _, .t _ => rfl
  | d + 1, .n _, .t _ => rfl
  | d + 1, .t _, .n _ => rfl
  | d + 1, .t a, .t b => eqL_symm (eqK_symm d) a b
theorem kat_same {h : Heap} : ∀ (d : Nat) (u : Value) (x y : KT), KAt h d u x → KAt h d u y → eqK d x y = true
  | d, u, .n i, .n j, hx, hy => by
    have e : ∀ d, eqK d (.n i) (.n j) = (i == j) := fun d => by cases d <;> rfl
    rw [e]
    cases d <;> (obtain ⟨_, rfl⟩ := hx; obtain ⟨_, q⟩ := hy; cases q; simp)
  | 0, u, .t _, _, hx, _ => hx.elim
  | 0, u, _, .t _, _, hy => by cases hy
  | d + 1, u, .n i, .t b, hx, hy => by
    obtain ⟨_, rfl⟩ := hx
    obtain ⟨_, _, q, _⟩ := hy
    cases q
  | d + 1, u, .t a, .n j, hx, hy => by
    obtain ⟨_, rfl⟩ := hy
    obtain ⟨_, _, q, _⟩ := hx
    cases q
  | d + 1, u, .t a, .t b, hx, hy => by
    obtain ⟨p, its, rfl, ⟨o, ho, _, n, hd⟩, hl, hi⟩ := hx
    obtain ⟨p', its', q, ⟨o', ho', _, n', hd'⟩, hl', hi'⟩ := hy
    cases q
    rw [ho] at ho'
    cases ho'
    rw [hd] at hd'
    have e : its = its' := by injection hd'
    subst e
    refine eqL_all (hl.symm.trans hl') fun j x y hx hy => ?_
    have hj : j < its.size := by
      rw [hl]
      exact (List.getElem?_eq_some_iff.mp hx).1
    exact kat_same d its[j] x y (hi j _ x (Array.getElem?_eq_getElem hj) hx) (hi' j _ y (Array.getElem?_eq_getElem hj) hy)
theorem cmpK : ∀ (d : Nat) (x y : KT) (u v : Value) (A : Around) (s : Shared), KAt s.heap d u x → KAt s.heap d v y → shp d x y → A.units + d < cLine →
    EqAt A s u v (eqK d x y) ∧ RcOp .Gt A s u v (ltK d y x) ∧ RcOp .Lt A s u v (ltK d x y)
  | d, .n i, .n j, u, v, A, s, hx, hy, _, _ => by
    have e1 : eqK d (.n i) (.n j) = (i == j) := by cases d <;> rfl
    have e2 : ltK d (.n j) (.n i) = decide (j < i) := by cases d <;> rfl
    have e3 : ltK d (.n i) (.n j) = decide (i < j) := by cases d <;> rfl
    rw [e1, e2, e3]
    obtain ⟨t, rfl⟩ : ∃ t, u = .int i t := by cases d <;> exact hx
    obtain ⟨t', rfl⟩ : ∃ t', v = .int j t' := by cases d <;> exact hy
    exact ⟨EqAt.int_int i t j t', RcOp.gt_int i j t t', RcOp.lt_int i j t t'⟩
  | 0, .t _, _, _, _, _, _, hx, _, _, _ => hx.elim
  | 0, .n _, .t _, _, _, _, _, _, hy, _, _ => by cases hy
  | d + 1, .n _, .t _, _, _, _, _, _, _, hs, _ => hs.elim
  | d + 1, .t _, .n _, _, _, _, _, _, _, hs, _ => hs.elim
  | d + 1, .t a, .t b, u, v, A, s, hx, hy, hs, hu => by
    have hx0 := hx
    have hy0 := hy
    obtain ⟨p, its, rfl, hp, hl, hi⟩ := hx
    obtain ⟨q, its', rfl, hq, hl', hi'⟩ := hy
    obtain ⟨hlen, hsh⟩ := hs
    have hsz : its.size = its'.size := by rw [hl, hl', hlen]
    have item : ∀ j (h1 : j < its.size) (h2 : j < its'.size), EqAt A.in1 s its[j] its'[j] (eqK d (a.getD j z0) (b.getD j z0)) ∧ RcOp .Gt A.in1 s its[j] its'[j] (ltK d (b.getD j z0) (a.getD j z0)) ∧ RcOp .Lt A.in1 s its[j] its'[j] (ltK d (a.getD j z0) (b.getD j z0)) := fun j h1 h2 => by
      have ja : j < a.length := by rw [← hl]; exact h1
      have jb : j < b.length := by rw [← hl']; exact h2
      have ea : a.getD j z0 = a[j] := by rw [List.getD_eq_getElem?_getD, List.getElem?_eq_getElem ja]; rfl
      have eb : b.getD j z0 = b[j] := by rw [List.getD_eq_getElem?_getD, List.getElem?_eq_getElem jb]; rfl
      rw [ea, eb]
      exact cmpK d a[j] b[j] its[j] its'[j] A.in1 s (hi j _ _ (Array.getElem?_eq_getElem h1) (List.getElem?_eq_getElem ja)) (hi' j _ _ (Array.getElem?_eq_getElem h2) (List.getElem?_eq_getElem jb)) (hsh j _ _ (List.getElem?_eq_getElem ja) (List.getElem?_eq_getElem jb)) (by show A.units + 1 + d < cLine; omega)
    have hu0 : A.units < cLine := by omega
    have hmin : min its.size its'.size = a.length := by rw [← hsz, Nat.min_self, hl]
    refine ⟨?_, ?_, ?_⟩
    · by_cases hne : p = q
      · subst hne
        rw [kat_same (d + 1) (.ref p) (.t a) (.t b) hx0 hy0]
        exact EqAt.same _
      · have h := RcAt.tuples (A := A) (e := fun j => eqK d (a.getD j z0) (b.getD j z0)) hp hq hu0 fun j h1 h2 => (item j h1 h2).1
        rw [hmin, eqL_range (eqK d) a b hlen, hsz, beq_self_eq_true, Bool.and_true] at h
        exact EqAt.of_refs hne h
    · have h := RcOp.tuples_gt (A := A) (e := fun j => eqK d (a.getD j z0) (b.getD j z0)) (r := fun j => ltK d (b.getD j z0) (a.getD j z0)) hp hq hu0 (fun j h1 h2 => (item j h1 h2).1) fun j h1 h2 _ => (item j h1 h2).2.1
      have hz : decide (its.size > its'.size) = false := decide_eq_false (by omega)
      have hsym : ∀ j, eqK d (a.getD j z0) (b.getD j z0) = eqK d (b.getD j z0) (a.getD j z0) := fun j => eqK_symm d _ _
      rw [hmin, hz, hlen, lex_ltL (eqK d) (ltK d) b a 0 _ _ hlen.symm (fun j => by rw [Nat.zero_add]; exact hsym j) fun j => by rw [Nat.zero_add]] at h
      exact h
    · have h := RcOp.tuples_lt (A := A) (e := fun j => eqK d (a.getD j z0) (b.getD j z0)) (r := fun j => ltK d (a.getD j z0) (b.getD j z0)) hp hq hu0 (fun j h1 h2 => (item j h1 h2).1) fun j h1 h2 _ => (item j h1 h2).2.2
      have hz : decide (its.size < its'.size) = false := decide_eq_false (by omega)
      rw [hmin, hz, lex_ltL (eqK d) (ltK d) a b 0 _ _ hlen (fun j => by rw [Nat.zero_add]) fun j => by rw [Nat.zero_add]] at h
      exact h
end MM

/-! ### the order is one -/
namespace MM
open PySem
structure Ord (e f : KT → KT → Bool) : Prop where
  es : ∀ x y, e x y = true → e y x = true
  et : ∀ x y z, e x y = true → e y z = true → e x z = true
  ft : ∀ x y z, f x y = true → f y z = true → f x z = true
  c1 : ∀ x y z, e x y = true → f y z = true → f x z = true
  c2 : ∀ x y z, f x y = true → e y z = true → f x z = true
  ir : ∀ x, f x x = false
theorem Ord.ne {e f : KT → KT → Bool} (o : Ord e f) {x y : KT} (h : f x y = true) : e x y = false := by
  cases q : e x y with
  | false => rfl
  | true =>
    have := o.c2 x y x h (o.es x y q)
    rw [o.ir] at this
    cases this
theorem eqL_cons {f : KT → KT → Bool} {x y : KT} {xs ys : List KT} : eqL f (x :: xs) (y :: ys) = true ↔ f x y = true ∧ eqL f xs ys = true := by
  show (f x y && eqL f xs ys) = true ↔ _
  rw [Bool.and_eq_true]
theorem ltL_eq {e f : KT → KT → Bool} {x y : KT} {xs ys : List KT} (h : e x y = true) : ltL e f (x :: xs) (y :: ys) = ltL e f xs ys := if_pos h
theorem ltL_ne {e f : KT → KT → Bool} {x y : KT} {xs ys : List KT} (h : e x y = false) : ltL e f (x :: xs) (y :: ys) = f x y := if_neg (by rw [h]; exact Bool.false_ne_true)
theorem eqL_s {e f : KT → KT → Bool} (o : Ord e f) : ∀ a b : List KT, eqL e a b = true → eqL e b a = true
  | [], [], h => h
  | x :: xs, y :: ys, h => by
    obtain ⟨h1, h2⟩ := eqL_cons.mp h
    exact eqL_cons.mpr ⟨o.es x y h1, eqL_s o xs ys h2⟩
  | [], _ :: _, h => h
  | _ :: _, [], h => h
theorem eqL_t {e f : KT → KT → Bool} (o : Ord e f) : ∀ a b c : List KT, eqL e a b = true → eqL e b c = true → eqL e a c = true
  | [], [], _, _, h => h
  | x :: xs, y :: ys, z :: zs, h, g => by
    obtain ⟨h1, h2⟩ := eqL_cons.mp h
    obtain ⟨g1, g2⟩ := eqL_cons.mp g
    exact eqL_cons.mpr ⟨o.et x y z h1 g1, eqL_t o xs ys zs h2 g2⟩
  | _ :: _, _ :: _, [], _, g => by cases g
  | [], _ :: _, _, h, _ => by cases h
  | _ :: _, [], _, h, _ => by cases h
theorem ltL_t {e f : KT → KT → Bool} (o : Ord e f) : ∀ a b c : List KT, ltL e f a b = true → ltL e f b c = true → ltL e f a c = true
  | [], _, _, h, _ => by cases h
  | _ :: _, [], _, h, _ => by cases h
  | _ :: _, _ :: _, [], _, g => by cases g
  | x :: xs, y :: ys, z :: zs, h, g => by
    cases p : e x y with
    | true =>
      rw [ltL_eq p] at h
      cases q : e y z with
      | true =>
        rw [ltL_eq q] at g
        rw [ltL_eq (o.et x y z p q)]
        exact ltL_t o xs ys zs h g
      | false =>
        rw [ltL_ne q] at g
        have k := o.c1 x y z p g
        rw [ltL_ne (o.ne k)]
        exact k
    | false =>
      rw [ltL_ne p] at h
      cases q : e y z with
      | true =>
        have k := o.c2 x y z h q
        rw [ltL_ne (o.ne k)]
        exact k
      | false =>
        rw [ltL_ne q] at g
        have k := o.ft x y z h g
        rw [ltL_ne (o.ne k)]
        exact k
theorem ltL_1 {e f : KT → KT → Bool} (o : Ord e f) : ∀ a b c : List KT, eqL e a b = true → ltL e f b c = true → ltL e f a c = true
  | _, [], _, _, g => by cases g
  | [], _ :: _, _, h, _ => by cases h
  | _ :: _, _ :: _, [], _, g => by cases g
  | x :: xs, y :: ys, z :: zs, h, g => by
    obtain ⟨h1, h2⟩ := eqL_cons.mp h
    cases q : e y z with
    | true =>
      rw [ltL_eq q] at g
      rw [ltL_eq (o.et x y z h1 q)]
      exact ltL_1 o xs ys zs h2 g
    | false =>
      rw [ltL_ne q] at g
      have k := o.c1 x y z h1 g
      rw [ltL_ne (o.ne k)]
      exact k
theorem ltL_2 {e f : KT → KT → Bool} (o : Ord e f) : ∀ a b c : List KT, ltL e f a b = true → eqL e b c = true → ltL e f a c = true
  | [], _, _, h, _ => by cases h
  | _ :: _, [], _, h, _ => by cases h
  | _ :: _, _ :: _, [], _, g => by cases g
  | x :: xs, y :: ys, z :: zs, h, g => by
    obtain ⟨g1, g2⟩ := eqL_cons.mp g
    cases p : e x y with
    | true =>
      rw [ltL_eq p] at h
      rw [ltL_eq (o.et x y z p g1)]
      exact ltL_2 o xs ys zs h g2
    | false =>
      rw [ltL_ne p] at h
      have k := o.c2 x y z h g1
      rw [ltL_ne (o.ne k)]
      exact k
theorem ltL_i {e f : KT → KT → Bool} (o : Ord e f) : ∀ a : List KT, ltL e f a a = false
  | [] => rfl
  | x :: xs => by
    cases p : e x x with
    | true => rw [ltL_eq p]; exact ltL_i o xs
    | false => rw [ltL_ne p]; exact o.ir x
theorem eqK_n (d : Nat) (i j : Int) : eqK d (.n i) (.n j) = (i == j) := by cases d <;> rfl
theorem ltK_n (d : Nat) (i j : Int) : ltK d (.n i) (.n j) = decide (i < j) := by cases d <;> rfl
theorem eqK_nt (d : Nat) (i : Int) (l : List KT) : eqK d (.n i) (.t l) = false := by cases d <;> rfl
theorem eqK_tn (d : Nat) (i : Int) (l : List KT) : eqK d (.t l) (.n i) = false := by cases d <;> rfl
theorem ltK_nt (d : Nat) (i : Int) (l : List KT) : ltK d (.n i) (.t l) = false := by cases d <;> rfl
theorem ltK_tn (d : Nat) (i : Int) (l : List KT) : ltK d (.t l) (.n i) = false := by cases d <;> rfl
theorem ord_of {e f : KT → KT → Bool} (en : ∀ i j, e (.n i) (.n j) = (i == j)) (fn : ∀ i j, f (.n i) (.n j) = decide (i < j)) (e1 : ∀ i l, e (.n i) (.t l) = false) (e2 : ∀ i l, e (.t l) (.n i) = false) (f1 : ∀ i l, f (.n i) (.t l) = false) (f2 : ∀ i l, f (.t l) (.n i) = false)
    (ht : (∀ a b, e (.t a) (.t b) = true → e (.t b) (.t a) = true) ∧ (∀ a b c, e (.t a) (.t b) = true → e (.t b) (.t c) = true → e (.t a) (.t c) = true) ∧ (∀ a b c, f (.t a) (.t b) = true → f (.t b) (.t c) = true → f (.t a) (.t c) = true) ∧ (∀ a b c, e (.t a) (.t b) = true → f (.t b) (.t c) = true → f (.t a) (.t c) = true) ∧ (∀ a b c, f (.t a) (.t b) = true → e (.t b) (.t c) = true → f (.t a) (.t c) = true) ∧ ∀ a, f (.t a) (.t a) = false) : Ord e f := by
  obtain ⟨t1, t2, t3, t4, t5, t6⟩ := ht
  refine ⟨?_, ?_, ?_, ?_, ?_, ?_⟩
  · intro x y h
    cases x <;> cases y <;> simp_all
  · intro x y z h g
    cases x <;> cases y <;> cases z <;> first | exact t2 _ _ _ h g | (simp_all; done)
  · intro x y z h g
    cases x <;> cases y <;> cases z <;> first | exact t3 _ _ _ h g | (simp_all; done) | (simp_all; omega)
  · intro x y z h g
    cases x <;> cases y <;> cases z <;> first | exact t4 _ _ _ h g | (simp_all; done)
  · intro x y z h g
    cases x <;> cases y <;> cases z <;> first | exact t5 _ _ _ h g | (simp_all; done)
  · intro x
    cases x <;> simp_all
theorem ordK : ∀ d : Nat, Ord (eqK d) (ltK d)
  | 0 => ord_of (eqK_n 0) (ltK_n 0) (eqK_nt 0) (eqK_tn 0) (ltK_nt 0) (ltK_tn 0) ⟨fun _ _ h => (by cases h), fun _ _ _ h => (by cases h), fun _ _ _ h => (by cases h), fun _ _ _ h => (by cases h), fun _ _ _ h => (by cases h), fun _ => rfl⟩
  | d + 1 => ord_of (eqK_n _) (ltK_n _) (eqK_nt _) (eqK_tn _) (ltK_nt _) (ltK_tn _) ⟨eqL_s (ordK d), eqL_t (ordK d), ltL_t (ordK d), ltL_1 (ordK d), ltL_2 (ordK d), ltL_i (ordK d)⟩
theorem best_is {bt : Nat → Nat → Bool} (ir : ∀ i, bt i i = false) (tr : ∀ i j k, bt i j = true → bt j k = true → bt i k = true) : ∀ k, argBest bt k ≤ k ∧ ∀ i, i ≤ k → bt i (argBest bt k) = false
  | 0 => ⟨Nat.le_refl _, fun i hi => by
    have : i = 0 := by omega
    subst this
    exact ir 0⟩
  | k + 1 => by
    obtain ⟨h1, h2⟩ := best_is ir tr k
    simp only [argBest]
    cases q : bt (k + 1) (argBest bt k) with
    | true =>
      refine ⟨Nat.le_refl _, fun i hi => ?_⟩
      rw [if_pos rfl]
      rcases Nat.lt_or_ge i (k + 1) with l | l
      · cases z : bt i (k + 1) with
        | false => rfl
        | true =>
          have := tr i (k + 1) _ z q
          rw [h2 i (by omega)] at this
          cases this
      · have : i = k + 1 := by omega
        subst this
        exact ir _
    | false =>
      rw [if_neg Bool.false_ne_true]
      refine ⟨by omega, fun i hi => ?_⟩
      rcases Nat.lt_or_ge i (k + 1) with l | l
      · exact h2 i (by omega)
      · have : i = k + 1 := by omega
        subst this
        exact q
end MM

section
variable {K : PySem.W.Frag}
/-! ### max and min of a list of tuples, as rules -/
section
open MM
theorem vals_get : ∀ {vs : List V} {us : List Value} {i : Nat} {u : Value}, Vals vs us → us[i]? = some u → ∃ v, vs[i]? = some v ∧ RelV v u
  | _, _, _, _, .nil, h => by cases h
  | _, _, 0, _, .cons r t, h => by cases h; exact ⟨_, rfl, r⟩
  | _, _, i + 1, _, .cons r t, h => vals_get (i := i) t h
def VAt (K : PySem.W.Frag) (H : Hp) : Nat → V → KT → Prop
  | _, v, .n i => v = .int i
  | 0, _, .t _ => False
  | d + 1, v, .t l => ∃ a xs, v = .ref a ∧ SqT K H a xs ∧ xs.length = l.length ∧ ∀ (j : Nat) x k, xs[j]? = some x → l[j]? = some k → VAt K H d x k
theorem vat_kat {X : Cx} {pins : List (Addr × Obj)} {σ : L2.St} {H : Hp} {s : Shared} (I : Inv X pins σ H s) : ∀ (d : Nat) (v : V) (u : Value) (k : KT), VAt X.K H d v k → RelV v u → KAt s.heap d u k
  | d, v, u, .n i, h, r => by
    have e : v = .int i := by cases d <;> exact h
    subst e
    obtain ⟨t, rfl⟩ := r
    cases d <;> exact ⟨t, rfl⟩
  | 0, _, _, .t _, h, _ => h.elim
  | d + 1, v, u, .t l, h, r => by
    obtain ⟨a, xs, rfl, hs, hl, hi⟩ := h
    obtain rfl : u = Value.ref a := r
    obtain ⟨its, rv, ht, _⟩ := I.tuple hs
    refine ⟨a, its.toArray, rfl, ht, by rw [← hl, rv.length]; simp, fun j w k hw hk => ?_⟩
    rw [List.getElem?_toArray] at hw
    obtain ⟨x, hx, rx⟩ := vals_get rv hw
    exact vat_kat I d x w k (hi j x k hx hk) rx
theorem kat_mono {h h' : Heap} (kp : ∀ b o, h.get? b = some o → h'.get? b = some o) : ∀ (d : Nat) (u : Value) (k : KT), KAt h d u k → KAt h' d u k
  | d, u, .n i, g => by cases d <;> exact g
  | 0, _, .t _, g => g.elim
  | d + 1, u, .t l, g => by
    obtain ⟨a, its, e, ⟨o, ho, hc, n, hd⟩, hl, hi⟩ := g
    exact ⟨a, its, e, ⟨o, kp a o ho, hc, n, hd⟩, hl, fun j w k hw hk => kat_mono kp d w k (hi j w k hw hk)⟩
def rBestT (sgn : Bool) (K : PySem.W.Frag) : List V → Hp → VK → Prop := fun vs H Q => ∃ (a : Addr) (us : List V) (ks : List KT) (d : Nat), vs = [.ref a] ∧ SqL K H a us ∧ us ≠ [] ∧ d ≤ 60 ∧ us.length = ks.length ∧ (∀ (i : Nat) u k, us[i]? = some u → ks[i]? = some k → VAt K H d u k) ∧ (∀ k ∈ ks, ∀ k' ∈ ks, shp d k k') ∧
  ∀ (i : Nat) u k, us[i]? = some u → ks[i]? = some k → (∀ k' ∈ ks, (if sgn then ltK d k k' else ltK d k' k) = false) → Q u H
theorem k_bestT {X : Cx} (hK : X.K = K) (hc : X.calm = true) (hu : X.A.units + 64 < cLine) : CallR X (.builtin "max") (rBestT true K) ∧ CallR X (.builtin "min") (rBestT false K) := by
  subst hK
  constructor
  all_goals
    intro pins s σ H vs vals Q I r h
    obtain ⟨a, us, ks, d, rfl, hs, hne, hd, hl, hv, hsh, q⟩ := h
    obtain ⟨its, rv, pl, _⟩ := I.list hs
    rw [Vals.ref1 r]
    have hlen : its.length = ks.length := by rw [← hl, rv.length]
    have key : ∀ (i : Nat) u, its[i]? = some u → KAt s.heap d u (ks.getD i z0) := fun i u hiu => by
      obtain ⟨v, hv', rl⟩ := vals_get rv hiu
      have hi : i < ks.length := by rw [← hlen]; exact (List.getElem?_eq_some_iff.mp hiu).1
      rw [List.getD_eq_getElem?_getD, List.getElem?_eq_getElem hi]
      exact vat_kat I d v u _ (hv i v _ hv' (List.getElem?_eq_getElem hi)) rl
    have kmem : ∀ i, i < ks.length → ks.getD i z0 ∈ ks := fun i hi => by
      rw [List.getD_eq_getElem?_getD, List.getElem?_eq_getElem hi]
      exact List.getElem_mem hi
    have n0 : 0 < its.toArray.size := by
      rw [List.size_toArray, rv.length.symm]
      exact List.length_pos_iff.mpr hne
    have ilt : ∀ (i : Nat) u, its.toArray[i]? = some u → its[i]? = some u ∧ i < ks.length := fun i u h => by
      rw [List.getElem?_toArray] at h
      exact ⟨h, by rw [← hlen]; exact (List.getElem?_eq_some_iff.mp h).1⟩
    have fin : ∀ (bt : Nat → Nat → Bool) (u : Value) (h' : Heap) (tk : Nat), (∀ i, bt i i = false) → (∀ i j k, bt i j = true → bt j k = true → bt i k = true) → its.toArray[argBest bt (its.toArray.size - 1)]? = some u → (∀ b o, s.heap.get? b = some o → h'.get? b = some o) →
        ∃ v i, us[i]? = some v ∧ RelV v u ∧ i = argBest bt (its.toArray.size - 1) ∧ i < ks.length ∧ ∀ j, j < ks.length → bt j i = false := fun bt u h' tk ir tr hb hk => by
      obtain ⟨hb', hlt⟩ := ilt _ _ hb
      obtain ⟨v, hv', rl⟩ := vals_get rv hb'
      refine ⟨v, _, hv', rl, rfl, hlt, fun j hj => ?_⟩
      refine (best_is ir tr (its.toArray.size - 1)).2 j ?_
      rw [List.size_toArray, hlen]
      omega
    have ord := ordK d
  · refine max_call (G := fun h => ∀ b o, s.heap.get? b = some o → h.get? b = some o) (bt := fun i j => ltK d (ks.getD j z0) (ks.getD i z0)) (I.ok.hd hc) pl.isList n0 (fun _ _ h => h) (fun h h' g kp b o e => kp b o (Heap.lt_size e) (g b o e)) ?_ ?_
    · intro i j u v z Q' E' g hi hj hq
      obtain ⟨hi', il⟩ := ilt i u hi
      obtain ⟨hj', jl⟩ := ilt j v hj
      exact (cmpK d _ _ u v X.A.in1 z (kat_mono g d u _ (key i u hi')) (kat_mono g d v _ (key j v hj')) (hsh _ (kmem i il) _ (kmem j jl)) (by show X.A.units + 1 + d < cLine; omega)).2.1 X.prog X.w E' Q' hq
    · intro u h' tk hb hk
      obtain ⟨v, i, hvi, rl, _, il, hno⟩ := fin (fun i j => ltK d (ks.getD j z0) (ks.getD i z0)) u h' tk (fun i => ord.ir _) (fun i j k h1 h2 => ord.ft _ _ _ h2 h1) hb hk
      refine ⟨v, H, I.kept hk, rl, q i v _ hvi (List.getElem?_eq_getElem il) fun k' hk' => ?_⟩
      obtain ⟨j, hj, rfl⟩ := List.mem_iff_getElem.mp hk'
      have := hno j hj
      rw [if_pos rfl]
      rw [List.getD_eq_getElem?_getD, List.getElem?_eq_getElem il, List.getD_eq_getElem?_getD, List.getElem?_eq_getElem hj] at this
      exact this
  · refine min_call (G := fun h => ∀ b o, s.heap.get? b = some o → h.get? b = some o) (bt := fun i j => ltK d (ks.getD i z0) (ks.getD j z0)) (I.ok.hd hc) pl.isList n0 (fun _ _ h => h) (fun h h' g kp b o e => kp b o (Heap.lt_size e) (g b o e)) ?_ ?_
    · intro i j u v z Q' E' g hi hj hq
      obtain ⟨hi', il⟩ := ilt i u hi
      obtain ⟨hj', jl⟩ := ilt j v hj
      exact (cmpK d _ _ u v X.A.in1 z (kat_mono g d u _ (key i u hi')) (kat_mono g d v _ (key j v hj')) (hsh _ (kmem i il) _ (kmem j jl)) (by show X.A.units + 1 + d < cLine; omega)).2.2 X.prog X.w E' Q' hq
    · intro u h' tk hb hk
      obtain ⟨v, i, hvi, rl, _, il, hno⟩ := fin (fun i j => ltK d (ks.getD i z0) (ks.getD j z0)) u h' tk (fun i => ord.ir _) (fun i j k h1 h2 => ord.ft _ _ _ h1 h2) hb hk
      refine ⟨v, H, I.kept hk, rl, q i v _ hvi (List.getElem?_eq_getElem il) fun k' hk' => ?_⟩
      obtain ⟨j, hj, rfl⟩ := List.mem_iff_getElem.mp hk'
      have := hno j hj
      rw [if_neg Bool.false_ne_true]
      rw [List.getD_eq_getElem?_getD, List.getElem?_eq_getElem hj, List.getD_eq_getElem?_getD, List.getElem?_eq_getElem il] at this
      exact this
end

end
/-! ### the mirror: things without a heap -/
inductive Ty where
  | non | bl | int | str | tup | lst | dic | verr
def Ty.nm : Ty → String
  | .non => "NoneType" | .bl => "bool" | .int => "int" | .str => "str" | .tup => "tuple" | .lst => "list" | .dic => "dict" | .verr => "ValueError"
inductive D where
  | non | bl (b : Bool) | int (i : Int) | str (x : Str) | ty (t : Ty) | cls (a : Addr) | tup (ds : List D) | lst (ds : List D) | dic (ks : List Key) (ds : List D) | ins (C : Addr) (ns : List Str) (ds : List D) | deck | xcp (a C : Addr) (d : Option Addr) (ns : List Str) (ds : List D)
  | scr (ns : List Int)
/-- the world: the law's deck and its cells, lists that are being built -/
structure Wd where
  dk : Option (Addr × Addr)
  own : List (Addr × HO)
def Wd.rs (W : Wd) (a : Addr) : Prop := (∃ d b, W.dk = some (d, b) ∧ (a = d ∨ a = b)) ∨ a ∈ W.own.map (·.1)
def Mt : HO → Prop
  | .lst _ => True
  | .dK _ => True
  | _ => False
structure Wd.ok (K : PySem.W.Frag) (W : Wd) (n : Nat) (H : Hp) : Prop where
  deck : ∀ d b, W.dk = some (d, b) → ∃ c : Int, Deck K H d b c ∧ c + n ≤ 900000
  owns : ∀ p ∈ W.own, H p.1 = some p.2 ∧ Mt p.2
  dis : ∀ d b, W.dk = some (d, b) → ∀ p ∈ W.own, p.1 ≠ d ∧ p.1 ≠ b
def Wd.le (W : Wd) (H H' : Hp) : Prop := ∀ a o, ¬ W.rs a → H a = some o → H' a = some o
theorem Wd.le_refl {W : Wd} {H : Hp} : W.le H H := fun _ _ _ h => h
theorem Wd.le.trans {W : Wd} {H H1 H2 : Hp} (u : W.le H H1) (v : W.le H1 H2) : W.le H H2 := fun a o n h => v a o n (u a o n h)
theorem Wd.le_same {W : Wd} {H H' : Hp} (s : Same H H') : W.le H H' := fun a o _ h => s a o h
theorem Wd.ok.same {K : PySem.W.Frag} {W : Wd} {n : Nat} {H H' : Hp} (o : W.ok K n H) (s : Same H H') : W.ok K n H' :=
  ⟨fun d b e => let ⟨c, h, l⟩ := o.deck d b e; ⟨c, h.keep s, l⟩, fun p hp => ⟨s _ _ (o.owns p hp).1, (o.owns p hp).2⟩, o.dis⟩
theorem Wd.ok.le {K : PySem.W.Frag} {W : Wd} {n m : Nat} {H : Hp} (o : W.ok K n H) (l : m ≤ n) : W.ok K m H :=
  ⟨fun d b e => let ⟨c, h, l'⟩ := o.deck d b e; ⟨c, h, by omega⟩, o.owns, o.dis⟩
theorem Wd.ok.lst {K : PySem.W.Frag} {W : Wd} {n : Nat} {H : Hp} (o : W.ok K n H) {a : Addr} (r : W.rs a) : ∃ ob, H a = some ob ∧ Mt ob := by
  rcases r with ⟨d, b, e, h⟩ | h
  · obtain ⟨c, ⟨⟨s, ns, cs, i, k, h1, h2, _⟩, _⟩, _⟩ := o.deck d b e
    rcases h with rfl | rfl
    · exact ⟨_, h1, trivial⟩
    · exact ⟨_, h2, trivial⟩
  · obtain ⟨p, hp, rfl⟩ := List.mem_map.mp h
    exact ⟨_, o.owns p hp⟩
theorem Wd.ok.fresh {K : PySem.W.Frag} {W : Wd} {n : Nat} {H : Hp} (o : W.ok K n H) {a : Addr} (h : H a = none) : ¬ W.rs a := fun r => by
  obtain ⟨xs, e, _⟩ := o.lst r
  rw [e] at h
  cases h
mutual
inductive At (K : PySem.W.Frag) (W : Wd) (H : Hp) : V → D → Prop
  | non : At K W H .non .non
  | bl (b : Bool) : At K W H (.bl b) (.bl b)
  | int (i : Int) : At K W H (.int i) (.int i)
  | str (x : Str) : At K W H (.str x) (.str x)
  | ty (t : Ty) : At K W H (.ty t.nm) (.ty t)
  | cls (a : Addr) : At K W H (.ref a) (.cls a)
  | tup {a : Addr} {xs : List V} {ds : List D} : SqT K H a xs → AtAll K W H xs ds → At K W H (.ref a) (.tup ds)
  | lst {a : Addr} {xs : List V} {ds : List D} : ¬ W.rs a → H a = some (.lst xs) → AtAll K W H xs ds → At K W H (.ref a) (.lst ds)
  | dic {a : Addr} {ks : List Key} {xs : List V} {ds : List D} : ¬ W.rs a → H a = some (.dK (ks.zip xs)) → ks.length = xs.length → AtAll K W H xs ds → At K W H (.ref a) (.dic ks ds)
  | ins {a C dx : Addr} {ns : List Str} {xs : List V} {ds : List D} : H a = some (.ins C dx (ns.zip xs)) → ns.length = xs.length → AtAll K W H xs ds → At K W H (.ref a) (.ins C ns ds)
  | deck {d b : Addr} : W.dk = some (d, b) → At K W H (.ref d) .deck
  | xcp0 {a C : Addr} : At K W H (.ref a) (.xcp a C none [] [])
  | xcp1 {a C dx : Addr} {ns : List Str} {xs : List V} {ds : List D} : H dx = some (.xd (ns.zip xs)) → ns.length = xs.length → AtAll K W H xs ds → At K W H (.ref a) (.xcp a C (some dx) ns ds)
  | scr {a : Addr} {ns : List Int} : Sc K H a ns → At K W H (.ref a) (.scr ns)
inductive AtAll (K : PySem.W.Frag) (W : Wd) (H : Hp) : List V → List D → Prop
  | nil : AtAll K W H [] []
  | cons {v : V} {vs : List V} {d : D} {ds : List D} : At K W H v d → AtAll K W H vs ds → AtAll K W H (v :: vs) (d :: ds)
end
section
variable {K : PySem.W.Frag} {W : Wd} {H H' : Hp}
def Wd.lk (W : Wd) (H : Hp) : Prop := ∀ a, W.rs a → ∀ o, H a = some o → Mt o
theorem Wd.ok.lk {n : Nat} (o : W.ok K n H) : W.lk H := fun a r ob e => by
  obtain ⟨xs, e', m⟩ := o.lst r
  rw [e'] at e
  cases e
  exact m
theorem sqt_lk {a : Addr} {xs : List V} (o : W.lk H) (l : W.le H H') (h : SqT K H a xs) : SqT K H' a xs := by
  rcases h with (h | ⟨ob, h⟩) | h
  · exact .inl (.inl (l _ _ (fun r => o _ r _ h) h))
  · exact .inl (.inr ⟨ob, l _ _ (fun r => o _ r _ h) h⟩)
  · exact .inr h
theorem sc_lk {a : Addr} {ns : List Int} (o : W.lk H) (l : W.le H H') (h : Sc K H a ns) : Sc K H' a ns := by
  rcases h with ⟨ob, h⟩ | h
  · exact .inl ⟨ob, l _ _ (fun r => o _ r _ h) h⟩
  · exact .inr h
mutual
theorem At.lk (o : W.lk H) (l : W.le H H') : ∀ (d : D) {v : V}, At K W H v d → At K W H' v d
  | .non, _, h => by cases h; exact .non
  | .bl b, _, h => by cases h; exact .bl b
  | .int i, _, h => by cases h; exact .int i
  | .str x, _, h => by cases h; exact .str x
  | .ty t, _, h => by cases h; exact .ty t
  | .cls a, _, h => by cases h; exact .cls a
  | .tup ds, _, h => by
    cases h with
    | tup s a => exact .tup (sqt_lk o l s) (AtAll.lk o l ds a)
  | .lst ds, _, h => by
    cases h with
    | lst r s a => exact .lst r (l _ _ r s) (AtAll.lk o l ds a)
  | .dic ks ds, _, h => by
    cases h with
    | dic r s e a => exact .dic r (l _ _ r s) e (AtAll.lk o l ds a)
  | .ins C ns ds, _, h => by
    cases h with
    | ins s e a => exact .ins (l _ _ (fun r => o _ r _ s) s) e (AtAll.lk o l ds a)
  | .deck, _, h => by
    cases h with
    | deck e => exact .deck e
  | .scr ns, _, h => by
    cases h with
    | scr e => exact .scr (sc_lk o l e)
  | .xcp a C d ns ds, _, h => by
    cases h with
    | xcp0 => exact .xcp0
    | xcp1 s e b => exact .xcp1 (l _ _ (fun r => o _ r _ s) s) e (AtAll.lk o l _ b)
theorem AtAll.lk (o : W.lk H) (l : W.le H H') : ∀ (ds : List D) {vs : List V}, AtAll K W H vs ds → AtAll K W H' vs ds
  | [], _, h => by cases h; exact .nil
  | d :: ds, _, h => by
    cases h with
    | cons a r => exact .cons (At.lk o l d a) (AtAll.lk o l ds r)
end
theorem At.le {n : Nat} (o : W.ok K n H) (l : W.le H H') (d : D) {v : V} (h : At K W H v d) : At K W H' v d := At.lk o.lk l d h
theorem AtAll.le {n : Nat} (o : W.ok K n H) (l : W.le H H') (ds : List D) {vs : List V} (h : AtAll K W H vs ds) : AtAll K W H' vs ds := AtAll.lk o.lk l ds h
/-- one more list is being built -/
def Wd.add (W : Wd) (p : Addr × HO) : Wd := { W with own := p :: W.own }
mutual
/-- a world with more that is reserved, none of it there -/
theorem At.ext {W' : Wd} (hr : ∀ a, W'.rs a → ¬ W.rs a → H a = none) (hd : W'.dk = W.dk) : ∀ (d : D) {v : V}, At K W H v d → At K W' H v d
  | .non, _, h => by cases h; exact .non
  | .bl b, _, h => by cases h; exact .bl b
  | .int i, _, h => by cases h; exact .int i
  | .str x, _, h => by cases h; exact .str x
  | .ty t, _, h => by cases h; exact .ty t
  | .cls a, _, h => by cases h; exact .cls a
  | .tup ds, _, h => by
    cases h with
    | tup s a => exact .tup s (AtAll.ext hr hd ds a)
  | .lst ds, _, h => by
    cases h with
    | lst r s a => exact .lst (fun z => by rw [hr _ z r] at s; cases s) s (AtAll.ext hr hd ds a)
  | .dic ks ds, _, h => by
    cases h with
    | dic r s e a => exact .dic (fun z => by rw [hr _ z r] at s; cases s) s e (AtAll.ext hr hd ds a)
  | .ins C ns ds, _, h => by
    cases h with
    | ins s e a => exact .ins s e (AtAll.ext hr hd ds a)
  | .deck, _, h => by
    cases h with
    | deck e => exact .deck (hd.trans e)
  | .scr ns, _, h => by
    cases h with
    | scr e => exact .scr e
  | .xcp a C d ns ds, _, h => by
    cases h with
    | xcp0 => exact .xcp0
    | xcp1 s e b => exact .xcp1 s e (AtAll.ext hr hd _ b)
theorem AtAll.ext {W' : Wd} (hr : ∀ a, W'.rs a → ¬ W.rs a → H a = none) (hd : W'.dk = W.dk) : ∀ (ds : List D) {vs : List V}, AtAll K W H vs ds → AtAll K W' H vs ds
  | [], _, h => by cases h; exact .nil
  | d :: ds, _, h => by
    cases h with
    | cons a r => exact .cons (At.ext hr hd d a) (AtAll.ext hr hd ds r)
end
mutual
/-- the worlds' reserved places alone count; fewer are less asked -/
theorem At.weak {W' : Wd} (hr : ∀ a, W'.rs a → W.rs a) (hd : W'.dk = W.dk) : ∀ (d : D) {v : V}, At K W H v d → At K W' H v d
  | .non, _, h => by cases h; exact .non
  | .bl b, _, h => by cases h; exact .bl b
  | .int i, _, h => by cases h; exact .int i
  | .str x, _, h => by cases h; exact .str x
  | .ty t, _, h => by cases h; exact .ty t
  | .cls a, _, h => by cases h; exact .cls a
  | .tup ds, _, h => by
    cases h with
    | tup s a => exact .tup s (AtAll.weak hr hd ds a)
  | .lst ds, _, h => by
    cases h with
    | lst r s a => exact .lst (fun z => r (hr _ z)) s (AtAll.weak hr hd ds a)
  | .dic ks ds, _, h => by
    cases h with
    | dic r s e a => exact .dic (fun z => r (hr _ z)) s e (AtAll.weak hr hd ds a)
  | .ins C ns ds, _, h => by
    cases h with
    | ins s e a => exact .ins s e (AtAll.weak hr hd ds a)
  | .deck, _, h => by
    cases h with
    | deck e => exact .deck (hd.trans e)
  | .scr ns, _, h => by
    cases h with
    | scr e => exact .scr e
  | .xcp a C d ns ds, _, h => by
    cases h with
    | xcp0 => exact .xcp0
    | xcp1 s e b => exact .xcp1 s e (AtAll.weak hr hd _ b)
theorem AtAll.weak {W' : Wd} (hr : ∀ a, W'.rs a → W.rs a) (hd : W'.dk = W.dk) : ∀ (ds : List D) {vs : List V}, AtAll K W H vs ds → AtAll K W' H vs ds
  | [], _, h => by cases h; exact .nil
  | d :: ds, _, h => by
    cases h with
    | cons a r => exact .cons (At.weak hr hd d a) (AtAll.weak hr hd ds r)
end
theorem Wd.rs_add {q : Addr × HO} {a : Addr} (h : W.rs a) : (W.add q).rs a := by
  rcases h with h | h
  · exact .inl h
  · exact .inr (List.mem_cons_of_mem _ h)
theorem AtAll.length : ∀ {vs : List V} {ds : List D}, AtAll K W H vs ds → vs.length = ds.length
  | _, [], h => by cases h; rfl
  | _, d :: ds, h => by
    cases h with
    | cons a r => rw [List.length_cons, List.length_cons, AtAll.length r]
theorem AtAll.append : ∀ {vs us : List V} {ds es : List D}, AtAll K W H vs ds → AtAll K W H us es → AtAll K W H (vs ++ us) (ds ++ es)
  | _, _, [], _, h, g => by cases h; exact g
  | _, _, d :: ds, _, h, g => by
    cases h with
    | cons a r => exact .cons a (AtAll.append r g)
theorem AtAll.get : ∀ {vs : List V} {ds : List D} {i : Nat} {d : D}, AtAll K W H vs ds → ds[i]? = some d → ∃ v, vs[i]? = some v ∧ At K W H v d
  | _, [], _, _, h, e => by cases e
  | _, _ :: _, 0, _, h, e => by
    cases h with
    | cons a r => cases e; exact ⟨_, rfl, a⟩
  | _, _ :: ds, i + 1, _, h, e => by
    cases h with
    | cons a r => exact AtAll.get (i := i) r e
theorem AtAll.get' : ∀ {vs : List V} {ds : List D} {i : Nat} {v : V}, AtAll K W H vs ds → vs[i]? = some v → ∃ d, ds[i]? = some d ∧ At K W H v d
  | _, [], _, _, h, e => by cases h; cases e
  | _, _ :: _, 0, _, h, e => by
    cases h with
    | cons a r => cases e; exact ⟨_, rfl, a⟩
  | _, _ :: ds, i + 1, _, h, e => by
    cases h with
    | cons a r => exact AtAll.get' (i := i) r e
end
/-! ### environments and the judgement of expressions -/
abbrev Env' := List (Option D)
def eGet : Env' → Nat → Option D
  | [], _ => none
  | d :: _, 0 => d
  | _ :: r, i + 1 => eGet r i
def eSet : Env' → Nat → Option D → Env'
  | [], _, _ => []
  | _ :: r, 0, d => d :: r
  | x :: r, i + 1, d => x :: eSet r i d
theorem eSet_length : ∀ (ρ : Env') (i : Nat) (d : Option D), (eSet ρ i d).length = ρ.length
  | [], _, _ => rfl
  | _ :: _, 0, _ => rfl
  | x :: r, i + 1, d => by rw [eSet, List.length_cons, List.length_cons, eSet_length]
theorem eGet_set : ∀ {ρ : Env'} {i : Nat} {d : Option D} {e : D}, eGet (eSet ρ i d) i = some e → i < ρ.length ∧ d = some e
  | [], _, _, _, h => by cases h
  | _ :: _, 0, _, _, h => ⟨Nat.succ_pos _, h⟩
  | _ :: r, i + 1, _, _, h => let ⟨h1, h2⟩ := eGet_set (ρ := r) (i := i) h; ⟨Nat.succ_lt_succ h1, h2⟩
theorem eGet_ne : ∀ {ρ : Env'} {i j : Nat} {d : Option D}, i ≠ j → eGet (eSet ρ i d) j = eGet ρ j
  | [], _, _, _, _ => rfl
  | _ :: _, 0, 0, _, h => absurd rfl h
  | _ :: _, 0, _ + 1, _, _ => rfl
  | _ :: _, _ + 1, 0, _, _ => rfl
  | _ :: r, i + 1, j + 1, _, h => eGet_ne (ρ := r) (i := i) (j := j) fun z => h (by rw [z])
def EnvAt (K : PySem.W.Frag) (W : Wd) (H : Hp) (σ : L2.St) (ρ : Env') : Prop := σ.length = ρ.length ∧ ∀ (i : Nat) (d : D), eGet ρ i = some d → ∃ v, σ[i]? = some (some v) ∧ At K W H v d
theorem EnvAt.le {K : PySem.W.Frag} {W : Wd} {H H' : Hp} {n : Nat} {σ : L2.St} {ρ : Env'} (h : EnvAt K W H σ ρ) (o : W.ok K n H) (l : W.le H H') : EnvAt K W H' σ ρ :=
  ⟨h.1, fun i d e => let ⟨v, e', a⟩ := h.2 i d e; ⟨v, e', At.le o l d a⟩⟩
theorem EnvAt.set {K : PySem.W.Frag} {W : Wd} {H : Hp} {σ : L2.St} {ρ : Env'} {i : Nat} {v : V} {d : D} (h : EnvAt K W H σ ρ) (a : At K W H v d) : EnvAt K W H (σ.set i (some v)) (eSet ρ i (some d)) := by
  refine ⟨by rw [List.length_set, eSet_length]; exact h.1, fun j e he => ?_⟩
  by_cases hj : i = j
  · subst hj
    obtain ⟨hl, he⟩ := eGet_set he
    cases he
    exact ⟨v, by rw [List.getElem?_set_self (by rw [h.1]; exact hl)], a⟩
  · rw [eGet_ne hj] at he
    rw [List.getElem?_set_ne hj]
    exact h.2 j e he
/-- what is wanted of a value: any heap that has grown -/
def Wants (K : PySem.W.Frag) (W : Wd) (H : Hp) (Qa : D → Nat → Prop) (Q : VK) : Prop := ∀ d n', Qa d n' → ∀ H' v, W.le H H' → W.ok K n' H' → At K W H' v d → Q v H'
abbrev AE := Env' → Nat → (D → Nat → Prop) → Prop
class DE (K : PySem.W.Frag) (te : TE) (f : outParam AE) : Prop where
  run : ∀ (W : Wd) (σ : L2.St) (ρ : Env') (n : Nat) (H : Hp) (Q : VK) (Qa : D → Nat → Prop), Wants K W H Qa Q → EnvAt K W H σ ρ → W.ok K n H → f ρ n Qa → te σ H Q
abbrev AT := Env' → Nat → (Bool → Nat → Prop) → Prop
class DT (K : PySem.W.Frag) (te : TT) (f : outParam AT) : Prop where
  run : ∀ (W : Wd) (σ : L2.St) (ρ : Env') (n : Nat) (H : Hp) (Q : Bool → Hp → Prop) (Qa : Bool → Nat → Prop), (∀ b n', Qa b n' → ∀ H', W.le H H' → W.ok K n' H' → Q b H') → EnvAt K W H σ ρ → W.ok K n H → f ρ n Qa → te σ H Q
abbrev AA := Env' → Nat → (List D → Nat → Prop) → Prop
class DA (K : PySem.W.Frag) (te : TA) (f : outParam AA) : Prop where
  run : ∀ (W : Wd) (σ : L2.St) (ρ : Env') (n : Nat) (H : Hp) (Q : List V → Hp → Prop) (Qa : List D → Nat → Prop), (∀ ds n', Qa ds n' → ∀ H' vs, W.le H H' → W.ok K n' H' → AtAll K W H' vs ds → Q vs H') → EnvAt K W H σ ρ → W.ok K n H → f ρ n Qa → te σ H Q
/-- a choice whose side is not yet known -/
def aIte (b : Bool) (p q : Prop) : Prop := (b = true → p) ∧ (b = false → q)
theorem aT {p q : Prop} (h : p) : aIte true p q := ⟨fun _ => h, fun z => Bool.noConfusion z⟩
theorem aF {p q : Prop} (h : q) : aIte false p q := ⟨fun z => Bool.noConfusion z, fun _ => h⟩
section
variable {K : PySem.W.Frag}
/-- by values, one -/
class D1 (K : PySem.W.Frag) (r : V → Hp → VK → Prop) (f : outParam (D → Nat → (D → Nat → Prop) → Prop)) : Prop where
  run : ∀ (W : Wd) (n : Nat) (H : Hp) (x : V) (d : D) (Q : VK) (Qa : D → Nat → Prop), Wants K W H Qa Q → W.ok K n H → At K W H x d → f d n Qa → r x H Q
class D2 (K : PySem.W.Frag) (r : R2) (f : outParam (D → D → Nat → (D → Nat → Prop) → Prop)) : Prop where
  run : ∀ (W : Wd) (n : Nat) (H : Hp) (x y : V) (d e : D) (Q : VK) (Qa : D → Nat → Prop), Wants K W H Qa Q → W.ok K n H → At K W H x d → At K W H y e → f d e n Qa → r x y H Q
class DL (K : PySem.W.Frag) (r : List V → Hp → VK → Prop) (f : outParam (List D → Nat → (D → Nat → Prop) → Prop)) : Prop where
  run : ∀ (W : Wd) (n : Nat) (H : Hp) (xs : List V) (ds : List D) (Q : VK) (Qa : D → Nat → Prop), Wants K W H Qa Q → W.ok K n H → AtAll K W H xs ds → f ds n Qa → r xs H Q
theorem Wants.le {W : Wd} {H H1 : Hp} {Qa : D → Nat → Prop} {Q : VK} (h : Wants K W H Qa Q) (l : W.le H H1) : Wants K W H1 Qa Q := fun d n' q H' v l' o a => h d n' q H' v (l.trans l') o a
theorem Wants.now {W : Wd} {H : Hp} {Qa : D → Nat → Prop} {Q : VK} {n : Nat} {d : D} {v : V} (h : Wants K W H Qa Q) (o : W.ok K n H) (q : Qa d n) (a : At K W H v d) : Q v H := h d n q H v Wd.le_refl o a
/-- a new object -/
theorem Wants.new {W : Wd} {H : Hp} {Qa : D → Nat → Prop} {Q : VK} {n : Nat} {d : D} {p : Addr} {ob : HO} (h : Wants K W H Qa Q) (o : W.ok K n H) (q : Qa d n) (hp : H p = none) (a : At K W (upd H p ob) (.ref p) d) : Q (.ref p) (upd H p ob) :=
  h d n q _ _ (Wd.le_same (same_upd hp)) (o.same (same_upd hp)) a
/-! expressions -/
def aVar (i : Nat) : AE := fun ρ n Q => match eGet ρ i with
  | some d => Q d n
  | none => False
instance {i : Nat} : DE K (tVar i) (aVar i) := ⟨fun W σ ρ n H Q Qa hQ hE o h => by
  unfold aVar at h
  split at h
  · rename_i d e
    obtain ⟨v, e', a⟩ := hE.2 i d e
    exact ⟨v, e', hQ.now o h a⟩
  · exact h.elim⟩
def vD : V → Option D
  | .non => some .non | .bl b => some (.bl b) | .int i => some (.int i) | .str x => some (.str x)
  | _ => none
theorem vD_at {W : Wd} {H : Hp} {v : V} {d : D} (h : vD v = some d) : At K W H v d := by
  cases v <;> cases h
  · exact .non
  · exact .bl _
  · exact .int _
  · exact .str _
def aC (v : V) : AE := fun _ n Q => match vD v with
  | some d => Q d n
  | none => False
instance (priority := 100) {v : V} : DE K (tC v) (aC v) := ⟨fun W σ ρ n H Q Qa hQ hE o h => by
  unfold aC at h
  split at h
  · rename_i d e
    exact hQ.now o h (vD_at e)
  · exact h.elim⟩
def a1 (f : D → Nat → (D → Nat → Prop) → Prop) (fa : AE) : AE := fun ρ n Q => fa ρ n fun d n1 => f d n1 Q
def a2 (f : D → D → Nat → (D → Nat → Prop) → Prop) (fa fb : AE) : AE := fun ρ n Q => fa ρ n fun d n1 => fb ρ n1 fun e n2 => f d e n2 Q
instance {r : R2} {f : D → D → Nat → (D → Nat → Prop) → Prop} {ta tb : TE} {fa fb : AE} [D2 K r f] [DE K ta fa] [DE K tb fb] : DE K (tOp r ta tb) (a2 f fa fb) := ⟨fun W σ ρ n H Q Qa hQ hE o h =>
  DE.run (te := ta) (f := fa) W σ ρ n H _ _ (fun d n1 h1 H1 x l1 o1 ax => DE.run (te := tb) (f := fb) W σ ρ n1 H1 _ _ (fun e n2 h2 H2 y l2 o2 ay => D2.run (f := f) W n2 H2 x y d e Q Qa (hQ.le (l1.trans l2)) o2 (At.le o1 l2 d ax) ay h2) (hE.le o l1) o1 h1) hE o h⟩
instance {r : V → Hp → VK → Prop} {f : D → Nat → (D → Nat → Prop) → Prop} {ta : TE} {fa : AE} [D1 K r f] [DE K ta fa] : DE K (tUn r ta) (a1 f fa) := ⟨fun W σ ρ n H Q Qa hQ hE o h =>
  DE.run (te := ta) (f := fa) W σ ρ n H _ _ (fun d n1 h1 H1 x l1 o1 ax => D1.run (f := f) W n1 H1 x d Q Qa (hQ.le l1) o1 ax h1) hE o h⟩
def aInt2 (C : Int → Int → Prop) (g : Int → Int → V) : D → D → Nat → (D → Nat → Prop) → Prop
  | .int i, .int j, n, Q => C i j ∧ (match vD (g i j) with
    | some d => Q d n
    | none => False)
  | _, _, _, _ => False
def aInt0 (g : Int → Int → V) : D → D → Nat → (D → Nat → Prop) → Prop
  | .int i, .int j, n, Q => (match vD (g i j) with
    | some d => Q d n
    | none => False)
  | _, _, _, _ => False
instance {C : Int → Int → Prop} {g : Int → Int → V} : D2 K (rI C g) (aInt2 C g) := ⟨fun W n H x y d e Q Qa hQ o ax ay h => by
  unfold aInt2 at h
  split at h
  · obtain ⟨hc, h⟩ := h
    cases ax
    cases ay
    refine ⟨_, _, rfl, rfl, hc, ?_⟩
    split at h
    · rename_i d e
      exact hQ.now o h (vD_at e)
    · exact h.elim
  · exact h.elim⟩
instance {g : Int → Int → V} : D2 K (rI0 g) (aInt0 g) := ⟨fun W n H x y d e Q Qa hQ o ax ay h => by
  unfold aInt0 at h
  split at h
  · cases ax
    cases ay
    refine ⟨_, _, rfl, rfl, ?_⟩
    split at h
    · rename_i d e
      exact hQ.now o h (vD_at e)
    · exact h.elim
  · exact h.elim⟩
def aIntU (g : Int → V) : D → Nat → (D → Nat → Prop) → Prop
  | .int i, n, Q => (match vD (g i) with
    | some d => Q d n
    | none => False)
  | _, _, _ => False
instance {g : Int → V} : D1 K (rU g) (aIntU g) := ⟨fun W n H x d Q Qa hQ o ax h => by
  unfold aIntU at h
  split at h
  · cases ax
    refine ⟨_, rfl, ?_⟩
    split at h
    · rename_i d e
      exact hQ.now o h (vD_at e)
    · exact h.elim
  · exact h.elim⟩
/-! == of scalars -/
def eqS : D → D → Option Bool
  | .int i, .int j => some (decide (i = j)) | .bl i, .bl j => some (decide (i = j)) | .str i, .str j => some (decide (i = j)) | .non, .non => some true
  | .non, .int _ => some false | .int _, .non => some false | .non, .bl _ => some false | .bl _, .non => some false | .non, .str _ => some false | .str _, .non => some false
  | .int _, .str _ => some false | .str _, .int _ => some false | .bl _, .str _ => some false | .str _, .bl _ => some false
  | _, _ => none
def aEqS (f : Bool → Bool) : D → D → Nat → (D → Nat → Prop) → Prop := fun d e n Q => match eqS d e with
  | some b => Q (.bl (f b)) n
  | none => False
theorem eqS_is {W : Wd} {H : Hp} {x y : V} {d e : D} {b : Bool} (ax : At K W H x d) (ay : At K W H y e) (h : eqS d e = some b) : scal x y = true ∧ decide (x = y) = b := by
  cases ax <;> cases ay <;> first
    | cases h; done
    | (cases h; refine ⟨rfl, ?_⟩; first
        | rfl
        | (refine decide_eq_decide.mpr ⟨fun z => ?_, fun z => by rw [z]⟩; injection z))
instance : D2 K rEq (aEqS id) := ⟨fun W n H x y d e Q Qa hQ o ax ay h => by
  unfold aEqS at h
  split at h
  · rename_i b e
    obtain ⟨h1, h2⟩ := eqS_is ax ay e
    refine ⟨h1, ?_⟩
    rw [h2]
    exact hQ.now o h (.bl _)
  · exact h.elim⟩
instance : D2 K rNe (aEqS not) := ⟨fun W n H x y d e Q Qa hQ o ax ay h => by
  unfold aEqS at h
  split at h
  · rename_i b e
    obtain ⟨h1, h2⟩ := eqS_is ax ay e
    refine ⟨h1, ?_⟩
    rw [h2]
    exact hQ.now o h (.bl _)
  · exact h.elim⟩
/-! tests -/
def aTest (f : AE) : AT := fun ρ n Q => f ρ n fun d n1 => match d with
  | .bl b => Q b n1
  | _ => False
theorem aTest_run {te : TE} {f : AE} [DE K te f] (W : Wd) (σ : L2.St) (ρ : Env') (n : Nat) (H : Hp) (Q : Bool → Hp → Prop) (Qa : Bool → Nat → Prop) (hQ : ∀ b n', Qa b n' → ∀ H', W.le H H' → W.ok K n' H' → Q b H') (hE : EnvAt K W H σ ρ) (o : W.ok K n H) (h : aTest f ρ n Qa) :
    te σ H fun x H' => ∃ k, x = .bl k ∧ Q k H' :=
  DE.run (te := te) (f := f) W σ ρ n H _ _ (fun d n1 h1 H1 x l1 o1 ax => by
    split at h1
    · cases ax
      exact ⟨_, rfl, hQ _ _ h1 H1 l1 o1⟩
    · exact h1.elim) hE o h
instance {te : TE} {f : AE} [DE K te f] : DT K (tTest te) (aTest f) := ⟨aTest_run⟩
instance {te : TE} {f : AE} [DE K te f] : DT K (tB te) (aTest f) := ⟨aTest_run⟩
def aNotT (f : AT) : AT := fun ρ n Q => f ρ n fun b n1 => Q (!b) n1
instance {t : TT} {f : AT} [DT K t f] : DT K (tNot t) (aNotT f) := ⟨fun W σ ρ n H Q Qa hQ hE o h => DT.run (te := t) (f := f) W σ ρ n H _ _ (fun b n1 h1 H1 l1 o1 => hQ _ _ h1 H1 l1 o1) hE o h⟩
def aAndT (f g : AT) : AT := fun ρ n Q => f ρ n fun b n1 => aIte b (g ρ n1 Q) (Q false n1)
def aOrT (f g : AT) : AT := fun ρ n Q => f ρ n fun b n1 => aIte b (Q true n1) (g ρ n1 Q)
instance {t u : TT} {f g : AT} [DT K t f] [DT K u g] : DT K (tAnd t u) (aAndT f g) := ⟨fun W σ ρ n H Q Qa hQ hE o h =>
  DT.run (te := t) (f := f) W σ ρ n H _ _ (fun b n1 h1 H1 l1 o1 => by
    cases b with
    | true => rw [if_pos rfl]; exact DT.run (te := u) (f := g) W σ ρ n1 H1 Q Qa (fun b n2 h2 H2 l2 o2 => hQ _ _ h2 H2 (l1.trans l2) o2) (hE.le o l1) o1 (h1.1 rfl)
    | false => rw [if_neg Bool.false_ne_true]; exact hQ _ _ (h1.2 rfl) H1 l1 o1) hE o h⟩
instance {t u : TT} {f g : AT} [DT K t f] [DT K u g] : DT K (tOr t u) (aOrT f g) := ⟨fun W σ ρ n H Q Qa hQ hE o h =>
  DT.run (te := t) (f := f) W σ ρ n H _ _ (fun b n1 h1 H1 l1 o1 => by
    cases b with
    | false => rw [if_neg Bool.false_ne_true]; exact DT.run (te := u) (f := g) W σ ρ n1 H1 Q Qa (fun b n2 h2 H2 l2 o2 => hQ _ _ h2 H2 (l1.trans l2) o2) (hE.le o l1) o1 (h1.2 rfl)
    | true => rw [if_pos rfl]; exact hQ _ _ (h1.1 rfl) H1 l1 o1) hE o h⟩
def aYes : AT := fun _ n Q => Q true n
instance : DT K tYes aYes := ⟨fun W σ ρ n H Q Qa hQ hE o h => hQ _ _ h H Wd.le_refl o⟩
def aNotV (f : AE) : AE := fun ρ n Q => f ρ n fun d n1 => match d with
  | .bl b => Q (.bl (!b)) n1
  | _ => False
def aBits (f : AE) : AE := fun ρ n Q => f ρ n fun d n1 => match d with
  | .int i => Q (.int (Builtin.Int.intBits i : Nat)) n1
  | _ => False
def aAndV (f g : AE) : AE := fun ρ n Q => f ρ n fun d n1 => match d with
  | .bl b => aIte b (g ρ n1 Q) (Q (.bl false) n1)
  | _ => False
def aOrV (f g : AE) : AE := fun ρ n Q => f ρ n fun d n1 => match d with
  | .bl b => aIte b (Q (.bl true) n1) (g ρ n1 Q)
  | _ => False
instance {te : TE} {f : AE} [DE K te f] : DE K (tNotV te) (aNotV f) := ⟨fun W σ ρ n H Q Qa hQ hE o h =>
  DE.run (te := te) (f := f) W σ ρ n H _ _ (fun d n1 h1 H1 x l1 o1 ax => by
    split at h1
    · cases ax
      exact ⟨_, rfl, (hQ.le l1).now o1 h1 (.bl _)⟩
    · exact h1.elim) hE o h⟩
instance {te : TE} {f : AE} [DE K te f] : DE K (tBits te) (aBits f) := ⟨fun W σ ρ n H Q Qa hQ hE o h =>
  DE.run (te := te) (f := f) W σ ρ n H _ _ (fun d n1 h1 H1 x l1 o1 ax => by
    split at h1
    · cases ax
      exact ⟨_, rfl, (hQ.le l1).now o1 h1 (.int _)⟩
    · exact h1.elim) hE o h⟩
instance {te tu : TE} {f g : AE} [DE K te f] [DE K tu g] : DE K (tAndV te tu) (aAndV f g) := ⟨fun W σ ρ n H Q Qa hQ hE o h =>
  DE.run (te := te) (f := f) W σ ρ n H _ _ (fun d n1 h1 H1 x l1 o1 ax => by
    split at h1
    · rename_i b
      cases ax
      refine ⟨_, rfl, ?_⟩
      cases b with
      | true => rw [if_pos rfl]; exact DE.run (te := tu) (f := g) W σ ρ n1 H1 Q Qa (hQ.le l1) (hE.le o l1) o1 (h1.1 rfl)
      | false => rw [if_neg Bool.false_ne_true]; exact (hQ.le l1).now o1 (h1.2 rfl) (.bl _)
    · exact h1.elim) hE o h⟩
instance {te tu : TE} {f g : AE} [DE K te f] [DE K tu g] : DE K (tOrV te tu) (aOrV f g) := ⟨fun W σ ρ n H Q Qa hQ hE o h =>
  DE.run (te := te) (f := f) W σ ρ n H _ _ (fun d n1 h1 H1 x l1 o1 ax => by
    split at h1
    · rename_i b
      cases ax
      refine ⟨_, rfl, ?_⟩
      cases b with
      | false => rw [if_neg Bool.false_ne_true]; exact DE.run (te := tu) (f := g) W σ ρ n1 H1 Q Qa (hQ.le l1) (hE.le o l1) o1 (h1.2 rfl)
      | true => rw [if_pos rfl]; exact (hQ.le l1).now o1 (h1.1 rfl) (.bl _)
    · exact h1.elim) hE o h⟩
def aIfE (c : AT) (f g : AE) : AE := fun ρ n Q => c ρ n fun b n1 => aIte b (f ρ n1 Q) (g ρ n1 Q)
instance {tc : TT} {te tu : TE} {c : AT} {f g : AE} [DT K tc c] [DE K te f] [DE K tu g] : DE K (tIf tc te tu) (aIfE c f g) := ⟨fun W σ ρ n H Q Qa hQ hE o h =>
  DT.run (te := tc) (f := c) W σ ρ n H _ _ (fun b n1 h1 H1 l1 o1 => by
    cases b with
    | true => rw [if_pos rfl]; exact DE.run (te := te) (f := f) W σ ρ n1 H1 Q Qa (hQ.le l1) (hE.le o l1) o1 (h1.1 rfl)
    | false => rw [if_neg Bool.false_ne_true]; exact DE.run (te := tu) (f := g) W σ ρ n1 H1 Q Qa (hQ.le l1) (hE.le o l1) o1 (h1.2 rfl)) hE o h⟩
def aChain (f g : D → D → Nat → (D → Nat → Prop) → Prop) (fa fb fc : AE) : AE := fun ρ n Q => fa ρ n fun x n1 => fb ρ n1 fun y n2 => f x y n2 fun z n3 => match z with
  | .bl b => aIte b (fc ρ n3 fun w n4 => g y w n4 Q) (Q (.bl false) n3)
  | _ => False
instance {r r' : R2} {f g : D → D → Nat → (D → Nat → Prop) → Prop} {ta tb tc : TE} {fa fb fc : AE} [D2 K r f] [D2 K r' g] [DE K ta fa] [DE K tb fb] [DE K tc fc] : DE K (tChain r r' ta tb tc) (aChain f g fa fb fc) := ⟨fun W σ ρ n H Q Qa hQ hE o h =>
  DE.run (te := ta) (f := fa) W σ ρ n H _ _ (fun d n1 h1 H1 x l1 o1 ax => DE.run (te := tb) (f := fb) W σ ρ n1 H1 _ _ (fun e n2 h2 H2 y l2 o2 ay => D2.run (f := f) W n2 H2 x y d e _ _ (fun z n3 h3 H3 v l3 o3 az => by
    split at h3
    · rename_i b
      cases az
      refine ⟨_, rfl, ?_⟩
      have l13 := l1.trans (l2.trans l3)
      cases b with
      | true =>
        rw [if_pos rfl]
        exact DE.run (te := tc) (f := fc) W σ ρ n3 H3 _ _ (fun w n4 h4 H4 u l4 o4 au => D2.run (f := g) W n4 H4 y u e w Q Qa (hQ.le (l13.trans l4)) o4 (At.le o2 (l3.trans l4) e ay) au h4) (hE.le o l13) o3 (h3.1 rfl)
      | false => rw [if_neg Bool.false_ne_true]; exact (hQ.le l13).now o3 (h3.2 rfl) (.bl _)
    · exact h3.elim) o2 (At.le o1 l2 d ax) ay h2) (hE.le o l1) o1 h1) hE o h⟩
/-! argument lists, displays, calls -/
def aNil : AA := fun _ n Q => Q [] n
def aCons (f : AE) (g : AA) : AA := fun ρ n Q => f ρ n fun d n1 => g ρ n1 fun ds n2 => Q (d :: ds) n2
instance : DA K tNil aNil := ⟨fun W σ ρ n H Q Qa hQ hE o h => hQ _ _ h H _ Wd.le_refl o .nil⟩
instance {te : TE} {ta : TA} {f : AE} {g : AA} [DE K te f] [DA K ta g] : DA K (tCons te ta) (aCons f g) := ⟨fun W σ ρ n H Q Qa hQ hE o h =>
  DE.run (te := te) (f := f) W σ ρ n H _ _ (fun d n1 h1 H1 x l1 o1 ax => DA.run (te := ta) (f := g) W σ ρ n1 H1 _ _ (fun ds n2 h2 H2 xs l2 o2 axs => hQ _ _ h2 H2 _ (l1.trans l2) o2 (.cons (At.le o1 l2 d ax) axs)) (hE.le o l1) o1 h1) hE o h⟩
def aTup (g : AA) : AE := fun ρ n Q => g ρ n fun ds n1 => match Nat.ble ds.length 1000 with
  | true => Q (.tup ds) n1
  | false => False
def aLst (g : AA) : AE := fun ρ n Q => g ρ n fun ds n1 => match Nat.ble ds.length 1000 with
  | true => Q (.lst ds) n1
  | false => False
instance {ta : TA} {g : AA} [DA K ta g] : DE K (tTup ta) (aTup g) := ⟨fun W σ ρ n H Q Qa hQ hE o h =>
  DA.run (te := ta) (f := g) W σ ρ n H _ _ (fun ds n1 h1 H1 xs l1 o1 ax => by
    split at h1
    · rename_i e
      refine ⟨size63 (by rw [ax.length]; exact Nat.le_of_ble_eq_true e), fun p hp => (hQ.le l1).new o1 h1 hp ?_⟩
      exact .tup (.inl (.inl upd_same)) (AtAll.le o1 (Wd.le_same (same_upd hp)) ds ax)
    · exact h1.elim) hE o h⟩
instance {ta : TA} {g : AA} [DA K ta g] : DE K (tLst ta) (aLst g) := ⟨fun W σ ρ n H Q Qa hQ hE o h =>
  DA.run (te := ta) (f := g) W σ ρ n H _ _ (fun ds n1 h1 H1 xs l1 o1 ax => by
    split at h1
    · rename_i e
      refine ⟨size63 (by rw [ax.length]; exact Nat.le_of_ble_eq_true e), fun p hp => (hQ.le l1).new o1 h1 hp ?_⟩
      exact .lst (o1.fresh hp) upd_same (AtAll.le o1 (Wd.le_same (same_upd hp)) ds ax)
    · exact h1.elim) hE o h⟩
abbrev ASp := List D → Nat → (D → Nat → Prop) → Prop
/-- the promise of a def that only makes new things (and draws) -/
def spOf (K : PySem.W.Frag) (k : Nat) (A : ASp) : Sp := fun vs H Q _ => ∃ (W : Wd) (n : Nat) (ds : List D) (Qa : D → Nat → Prop), AtAll K W H vs ds ∧ ds.length = k ∧ W.ok K n H ∧ Wants K W H Qa Q ∧ A ds n Qa
def aCall (k : Nat) (A : ASp) (g : AA) : AE := fun ρ n Q => g ρ n fun ds n1 => match Nat.beq ds.length k with
  | true => A ds n1 Q
  | false => False
instance {k : Nat} {A : ASp} {E : XK} {ta : TA} {g : AA} [DA K ta g] : DE K (tCall (spOf K k A) [] E ta) (aCall k A g) := ⟨fun W σ ρ n H Q Qa hQ hE o h =>
  DA.run (te := ta) (f := g) W σ ρ n H _ _ (fun ds n1 h1 H1 xs l1 o1 ax => by
    rw [List.append_nil]
    split at h1
    · rename_i e
      exact ⟨W, n1, ds, Qa, ax, Nat.eq_of_beq_eq_true e, o1, hQ.le l1, h1⟩
    · exact h1.elim) hE o h⟩
def aCB (f : List D → Nat → (D → Nat → Prop) → Prop) (g : AA) : AE := fun ρ n Q => g ρ n fun ds n1 => f ds n1 Q
instance {r : List V → Hp → VK → Prop} {f : List D → Nat → (D → Nat → Prop) → Prop} {ta : TA} {g : AA} [DL K r f] [DA K ta g] : DE K (tCB r ta) (aCB f g) := ⟨fun W σ ρ n H Q Qa hQ hE o h =>
  DA.run (te := ta) (f := g) W σ ρ n H _ _ (fun ds n1 h1 H1 xs l1 o1 ax => DL.run (f := f) W n1 H1 xs ds Q Qa (hQ.le l1) o1 ax h1) hE o h⟩
end

/-! ### the mirror, second part: rules over the kinds -/
section
variable {K : PySem.W.Frag}
theorem take_at {W : Wd} {H : Hp} : ∀ (k : Nat) {vs : List V} {ds : List D}, AtAll K W H vs ds → AtAll K W H (vs.take k) (ds.take k)
  | 0, _, _, _ => .nil
  | k + 1, _, [], h => by cases h; exact .nil
  | k + 1, _, d :: ds, h => by
    cases h with
    | cons a r => exact .cons a (take_at k r)
theorem drop_at {W : Wd} {H : Hp} : ∀ (k : Nat) {vs : List V} {ds : List D}, AtAll K W H vs ds → AtAll K W H (vs.drop k) (ds.drop k)
  | 0, _, _, h => h
  | k + 1, _, [], h => by cases h; exact .nil
  | k + 1, _, d :: ds, h => by
    cases h with
    | cons a r => exact drop_at k r
theorem rev_at {W : Wd} {H : Hp} : ∀ {vs : List V} {ds : List D}, AtAll K W H vs ds → AtAll K W H vs.reverse ds.reverse
  | _, [], h => by cases h; exact .nil
  | _, d :: ds, h => by
    cases h with
    | cons a r =>
      rw [List.reverse_cons, List.reverse_cons]
      exact (rev_at r).append (.cons a .nil)
theorem atI_at {W : Wd} {H : Hp} {vs : List V} {ds : List D} {i : Int} {d : D} (h : AtAll K W H vs ds) (e : atI ds i = some d) : ∃ v, atI vs i = some v ∧ At K W H v d := by
  unfold atI at e ⊢
  rw [h.length]
  cases e1 : ixN ds.length i with
  | none => rw [e1] at e; cases e
  | some j =>
    rw [e1] at e
    obtain ⟨v, h1, h2⟩ := h.get (i := j) e
    exact ⟨v, h1, h2⟩
theorem lim : (1000000 : Nat) ≤ sizeLine := by rw [sizeLine_eq]; decide
/-! a place in a list, a tuple, a text -/
def aIx : D → D → Nat → (D → Nat → Prop) → Prop
  | .tup ds, .int i, n, Q => (match atI ds i with
    | some d => Q d n
    | none => False)
  | .lst ds, .int i, n, Q => (match atI ds i with
    | some d => Q d n
    | none => False)
  | .str z, .int i, n, Q => z.length ≤ 1000000 ∧ (match atI z.cps.toList i with
    | some c => Q (.str ⟨#[c]⟩) n
    | none => False)
  | _, _, _, _ => False
instance : D2 K (rIx K) aIx := ⟨fun W n H x y d e Q Qa hQ o ax ay h => by
  unfold aIx at h
  split at h
  · cases ay
    cases ax with
    | tup s a =>
      split at h
      · rename_i d' e'
        obtain ⟨v, h1, h2⟩ := atI_at a e'
        exact .inr (.inl ⟨_, _, _, v, rfl, rfl, s, h1, hQ.now o h h2⟩)
      · exact h.elim
  · cases ay
    cases ax with
    | lst r s a =>
      split at h
      · rename_i d' e'
        obtain ⟨v, h1, h2⟩ := atI_at a e'
        exact .inl ⟨_, _, _, v, rfl, rfl, SqL.of s, h1, hQ.now o h h2⟩
      · exact h.elim
  · cases ay
    cases ax
    obtain ⟨hl, h⟩ := h
    split at h
    · rename_i c e'
      exact .inr (.inr ⟨_, _, c, rfl, rfl, Nat.le_trans hl lim, e', hQ.now o h (.str _)⟩)
    · exact h.elim
  · exact h.elim⟩
theorem k_ix {X : Cx} (hK : X.K = K) : IxR X (rIx K) := hK ▸ ix_seq
/-- the same, where the place is not written -/
def rIxY (K : PySem.W.Frag) : R2 := rIx K
@[irreducible] def aIxS : D → D → Nat → (D → Nat → Prop) → Prop := aIx
instance : D2 K (rIxY K) aIxS := ⟨fun W n H x y d e Q Qa hQ o ax ay h => by
  unfold aIxS at h
  exact D2.run (K := K) (r := rIx K) (f := aIx) W n H x y d e Q Qa hQ o ax ay h⟩
theorem k_ixS {X : Cx} (hK : X.K = K) : IxR X (rIxY K) := hK ▸ ix_seq
theorem aIx_lst {ds : List D} {i : Int} {d : D} {n : Nat} {Q : D → Nat → Prop} (e : atI ds i = some d) (q : Q d n) : aIxS (.lst ds) (.int i) n Q := by
  unfold aIxS
  show (match atI ds i with
    | some d => Q d n
    | none => False)
  rw [e]
  exact q
theorem aIx_tup {ds : List D} {i : Int} {d : D} {n : Nat} {Q : D → Nat → Prop} (e : atI ds i = some d) (q : Q d n) : aIxS (.tup ds) (.int i) n Q := by
  unfold aIxS
  show (match atI ds i with
    | some d => Q d n
    | none => False)
  rw [e]
  exact q
/-! + -/
def rAddA (K : PySem.W.Frag) : R2 := fun x y H Q => (rI0 (fun i j => .int (i + j)) x y H Q ∨ rCat x y H Q) ∨ (rCatT K x y H Q ∨ ∃ i j, x = .str i ∧ y = .str j ∧ i.length + j.length ≤ sizeLine ∧ Q (.str (i ++ j)) H)
theorem OpR.or' {X : Cx} {op : Value → Value → Sem Value} {r r' : R2} (h : OpR X op r) (h' : OpR X op r') : OpR X op (fun x y H Q => r x y H Q ∨ r' x y H Q) := by
  intro pins s σ H x y v u Q I rx ry q
  rcases q with q | q
  · exact h pins s σ H x y v u Q I rx ry q
  · exact h' pins s σ H x y v u Q I rx ry q
theorem k_add {X : Cx} (hK : X.K = K) : OpR X (binaryOp .Add) (rAddA K) := hK ▸ OpR.or' (OpR.or' op_add op_cat) (OpR.or' op_catT op_add_str)
def aAdd : D → D → Nat → (D → Nat → Prop) → Prop
  | .int i, .int j, n, Q => Q (.int (i + j)) n
  | .lst ds, .lst es, n, Q => ds.length + es.length ≤ 1000000 ∧ Q (.lst (ds ++ es)) n
  | .tup ds, .tup es, n, Q => ds ≠ [] ∧ ds.length + es.length ≤ 1000000 ∧ Q (.tup (ds ++ es)) n
  | .str a, .str b, n, Q => a.length + b.length ≤ 1000000 ∧ Q (.str (a ++ b)) n
  | _, _, _, _ => False
instance : D2 K (rAddA K) aAdd := ⟨fun W n H x y d e Q Qa hQ o ax ay h => by
  unfold aAdd at h
  split at h
  · cases ax
    cases ay
    exact .inl (.inl ⟨_, _, rfl, rfl, hQ.now o h (.int _)⟩)
  · cases ax with
    | lst r s a =>
      cases ay with
      | lst r' s' a' =>
        refine .inl (.inr ⟨_, _, _, _, rfl, rfl, s, s', ?_, fun p hp => hQ.new o h.2 hp ?_⟩)
        · rw [a.length, a'.length]
          exact Nat.le_trans h.1 lim
        · exact .lst (o.fresh hp) upd_same ((AtAll.le o (Wd.le_same (same_upd hp)) _ a).append (AtAll.le o (Wd.le_same (same_upd hp)) _ a'))
  · cases ax with
    | tup s a =>
      cases ay with
      | tup s' a' =>
        obtain ⟨h0, h1, h2⟩ := h
        refine .inr (.inl ⟨_, _, _, _, rfl, rfl, s, s', ?_, ?_, fun z => ?_, fun z p hp => hQ.new o h2 hp ?_⟩)
        · rintro rfl
          cases a
          exact h0 rfl
        · rw [a.length, a'.length]
          exact Nat.le_trans h1 lim
        · subst z
          cases a'
          rw [List.append_nil] at h2
          exact hQ.now o h2 (.tup s a)
        · exact .tup (.inl (.inl upd_same)) ((AtAll.le o (Wd.le_same (same_upd hp)) _ a).append (AtAll.le o (Wd.le_same (same_upd hp)) _ a'))
  · cases ax
    cases ay
    exact .inr (.inr ⟨_, _, rfl, rfl, Nat.le_trans h.1 lim, hQ.now o h.2 (.str _)⟩)
  · exact h.elim⟩
/-! * and // of numbers of any size -/
def CMulA (i j : Int) : Prop := CMul i j ∨ CMulW i j
def CDivA (i j : Int) : Prop := CDiv i j ∨ CDivW i j
theorem k_mul {X : Cx} : OpR X (binaryOp .Mult) (rI CMulA fun i j => .int (i * j)) := by
  intro pins s σ H x y v u Q I rx ry q
  obtain ⟨i, j, h1, h2, h | h, q⟩ := q
  · exact op_mul pins s σ H x y v u Q I rx ry ⟨i, j, h1, h2, h, q⟩
  · exact op_mulW pins s σ H x y v u Q I rx ry ⟨i, j, h1, h2, h, q⟩
theorem k_fdiv {X : Cx} : OpR X (binaryOp .FloorDiv) (rI CDivA fun i j => .int (i / j)) := by
  intro pins s σ H x y v u Q I rx ry q
  obtain ⟨i, j, h1, h2, h | h, q⟩ := q
  · exact op_fdiv pins s σ H x y v u Q I rx ry ⟨i, j, h1, h2, h, q⟩
  · exact op_fdivW pins s σ H x y v u Q I rx ry ⟨i, j, h1, h2, h, q⟩
/-! == at any depth -/
mutual
def D.pd : D → PyData
  | .bl b => .bool b | .int i => .int i | .str x => .str x | .tup ds => .tuple (pdAll ds) | .lst ds => .list (pdAll ds)
  | _ => .none
def pdAll : List D → List PyData
  | [] => []
  | d :: ds => d.pd :: pdAll ds
end
mutual
def D.isD : D → Bool
  | .non => true | .bl _ => true | .int _ => true | .str _ => true | .tup ds => isDAll ds | .lst ds => isDAll ds
  | _ => false
def isDAll : List D → Bool
  | [] => true
  | d :: ds => d.isD && isDAll ds
end
mutual
theorem At.dp {W : Wd} {H : Hp} : ∀ (d : D) {v : V}, d.isD = true → At K W H v d → Dp K H v d.pd
  | .non, _, _, h => by cases h; exact .non
  | .bl b, _, _, h => by cases h; exact .bl b
  | .int i, _, _, h => by cases h; exact .int i
  | .str x, _, _, h => by cases h; exact .str x
  | .ty t, _, e, _ => Bool.noConfusion e
  | .cls a, _, e, _ => Bool.noConfusion e
  | .tup ds, _, e, h => by
    cases h with
    | tup s a => exact .tup s (AtAll.dp ds e a)
  | .lst ds, _, e, h => by
    cases h with
    | lst r s a => exact .lst (SqL.of s) (AtAll.dp ds e a)
  | .dic ks ds, _, e, _ => Bool.noConfusion e
  | .ins C ns ds, _, e, _ => Bool.noConfusion e
  | .deck, _, e, _ => Bool.noConfusion e
  | .scr _, _, e, _ => Bool.noConfusion e
  | .xcp _ _ _ _ _, _, e, _ => Bool.noConfusion e
theorem AtAll.dp {W : Wd} {H : Hp} : ∀ (ds : List D) {vs : List V}, isDAll ds = true → AtAll K W H vs ds → DpAll K H vs (pdAll ds)
  | [], _, _, h => by cases h; exact .nil
  | d :: ds, _, e, h => by
    have e' : (d.isD && isDAll ds) = true := e
    rw [Bool.and_eq_true] at e'
    cases h with
    | cons a r => exact .cons (At.dp d e'.1 a) (AtAll.dp ds e'.2 r)
end
def rEqA (K : PySem.W.Frag) : R2 := fun x y H Q => rEq x y H Q ∨ rEqD K x y H Q
def rNeA (K : PySem.W.Frag) : R2 := fun x y H Q => rNe x y H Q ∨ rNeD K x y H Q
theorem k_eq {X : Cx} (hK : X.K = K) (hu : X.A.units + 64 < cLine) : OpR X (compareOp .Eq) (rEqA K) := hK ▸ OpR.or' op_eq (op_eqD hu)
theorem k_ne {X : Cx} (hK : X.K = K) (hu : X.A.units + 64 < cLine) : OpR X (compareOp .NotEq) (rNeA K) := hK ▸ OpR.or' op_ne (op_neD hu)
def aEq (f : Bool → Bool) : D → D → Nat → (D → Nat → Prop) → Prop := fun d e n Q => match eqS d e with
  | some b => Q (.bl (f b)) n
  | none => (d.isD = true ∧ e.isD = true ∧ SeqAt.shaped d.pd = true ∧ SeqAt.shaped e.pd = true) ∧ Q (.bl (f (PyData.eqv d.pd e.pd))) n
instance : D2 K (rEqA K) (aEq id) := ⟨fun W n H x y d e Q Qa hQ o ax ay h => by
  unfold aEq at h
  split at h
  · rename_i b e
    obtain ⟨h1, h2⟩ := eqS_is ax ay e
    refine .inl ⟨h1, ?_⟩
    rw [h2]
    exact hQ.now o h (.bl _)
  · obtain ⟨⟨h1, h2, h3, h4⟩, h⟩ := h
    exact .inr ⟨_, _, At.dp d h1 ax, At.dp e h2 ay, h3, h4, hQ.now o h (.bl _)⟩⟩
instance : D2 K (rNeA K) (aEq not) := ⟨fun W n H x y d e Q Qa hQ o ax ay h => by
  unfold aEq at h
  split at h
  · rename_i b e
    obtain ⟨h1, h2⟩ := eqS_is ax ay e
    refine .inl ⟨h1, ?_⟩
    rw [h2]
    exact hQ.now o h (.bl _)
  · obtain ⟨⟨h1, h2, h3, h4⟩, h⟩ := h
    exact .inr ⟨_, _, At.dp d h1 ax, At.dp e h2 ay, h3, h4, hQ.now o h (.bl _)⟩⟩
/-! is None -/
def rIsN : R2 := fun x y H Q => y = .non ∧ Q (.bl (decide (x = .non))) H
def rNotN : R2 := fun x y H Q => y = .non ∧ Q (.bl (!decide (x = .non))) H
theorem k_isN {X : Cx} : OpR X (compareOp .Is) rIsN := op_isN
theorem k_notN {X : Cx} : OpR X (compareOp .IsNot) rNotN := op_notN
def D.isN : D → Bool
  | .non => true
  | _ => false
def aIsN (f : Bool → Bool) : D → D → Nat → (D → Nat → Prop) → Prop
  | d, .non, n, Q => Q (.bl (f d.isN)) n
  | _, _, _, _ => False
theorem isN_is {W : Wd} {H : Hp} {x : V} {d : D} (ax : At K W H x d) : decide (x = .non) = d.isN := by
  cases ax <;> rfl
instance : D2 K rIsN (aIsN id) := ⟨fun W n H x y d e Q Qa hQ o ax ay h => by
  unfold aIsN at h
  split at h
  · cases ay
    refine ⟨rfl, ?_⟩
    rw [isN_is ax]
    exact hQ.now o h (.bl _)
  · exact h.elim⟩
instance : D2 K rNotN (aIsN not) := ⟨fun W n H x y d e Q Qa hQ o ax ay h => by
  unfold aIsN at h
  split at h
  · cases ay
    refine ⟨rfl, ?_⟩
    rw [isN_is ax]
    exact hQ.now o h (.bl _)
  · exact h.elim⟩
/-! built-in functions -/
def rLen (K : PySem.W.Frag) : List V → Hp → VK → Prop := fun xs H Q => ∃ x n, xs = [x] ∧ LenV K x H n ∧ Q (.int n) H
theorem k_len {X : Cx} (hK : X.K = K) : CallR X (.builtin "len") (rLen K) := hK ▸ call_len
def aLen : List D → Nat → (D → Nat → Prop) → Prop
  | [.tup ds], n, Q => Q (.int ds.length) n
  | [.lst ds], n, Q => Q (.int ds.length) n
  | [.str z], n, Q => z.length ≤ 1000000 ∧ Q (.int z.length) n
  | [.scr ns], n, Q => Q (.int ns.length) n
  | _, _, _ => False
instance : DL K (rLen K) aLen := ⟨fun W n H xs ds Q Qa hQ o a h => by
  unfold aLen at h
  split at h
  · cases a with
    | cons a r =>
      cases r
      cases a with
      | tup s a => exact ⟨_, _, rfl, .inr ⟨_, s, rfl⟩, by rw [a.length]; exact hQ.now o h (.int _)⟩
  · cases a with
    | cons a r =>
      cases r
      cases a with
      | lst _ s a => exact ⟨_, _, rfl, .inl ⟨_, SqL.of s, rfl⟩, by rw [a.length]; exact hQ.now o h (.int _)⟩
  · cases a with
    | cons a r =>
      cases r
      cases a
      exact ⟨_, _, rfl, ⟨Nat.le_trans h.1 lim, rfl⟩, hQ.now o h.2 (.int _)⟩
  · cases a with
    | cons a r =>
      cases r
      cases a with
      | scr e => exact ⟨_, _, rfl, .inl ⟨_, e.seq, rfl⟩, by rw [List.length_map]; exact hQ.now o h (.int _)⟩
  · exact h.elim⟩
def rAbs : List V → Hp → VK → Prop := fun xs H Q => ∃ i, xs = [.int i] ∧ Q (.int (if i < 0 then -i else i)) H
theorem k_abs {X : Cx} : CallR X (.builtin "abs") rAbs := call_abs
def aAbs : List D → Nat → (D → Nat → Prop) → Prop
  | [.int i], n, Q => Q (.int (if i < 0 then -i else i)) n
  | _, _, _ => False
instance : DL K rAbs aAbs := ⟨fun W n H xs ds Q Qa hQ o a h => by
  unfold aAbs at h
  split at h
  · cases a with
    | cons a r =>
      cases r
      cases a
      exact ⟨_, rfl, hQ.now o h (.int _)⟩
  · exact h.elim⟩
def rMax2 : List V → Hp → VK → Prop := fun xs H Q => ∃ i j, xs = [.int i, .int j] ∧ Q (.int (if j > i then j else i)) H
def rMin2 : List V → Hp → VK → Prop := fun xs H Q => ∃ i j, xs = [.int i, .int j] ∧ Q (.int (if j < i then j else i)) H
theorem k_max2 {X : Cx} (hc : X.calm = true) : CallR X (.builtin "max") rMax2 := call_max2 hc
theorem k_min2 {X : Cx} (hc : X.calm = true) : CallR X (.builtin "min") rMin2 := call_min2 hc
def aMM (g : Int → Int → Int) : List D → Nat → (D → Nat → Prop) → Prop
  | [.int i, .int j], n, Q => Q (.int (g i j)) n
  | _, _, _ => False
instance : DL K rMax2 (aMM fun i j => if j > i then j else i) := ⟨fun W n H xs ds Q Qa hQ o a h => by
  unfold aMM at h
  split at h
  · cases a with
    | cons a r =>
      cases r with
      | cons b r =>
        cases r
        cases a
        cases b
        exact ⟨_, _, rfl, hQ.now o h (.int _)⟩
  · exact h.elim⟩
instance : DL K rMin2 (aMM fun i j => if j < i then j else i) := ⟨fun W n H xs ds Q Qa hQ o a h => by
  unfold aMM at h
  split at h
  · cases a with
    | cons a r =>
      cases r with
      | cons b r =>
        cases r
        cases a
        cases b
        exact ⟨_, _, rfl, hQ.now o h (.int _)⟩
  · exact h.elim⟩
def rListOf (K : PySem.W.Frag) : List V → Hp → VK → Prop := fun xs H Q => ∃ p ys, xs = [.ref p] ∧ (SqL K H p ys ∨ SqT K H p ys) ∧ ∀ l, H l = none → Q (.ref l) (upd H l (.lst ys))
def rTupOf (K : PySem.W.Frag) : List V → Hp → VK → Prop := fun xs H Q => ∃ p ys, xs = [.ref p] ∧ ((SqL K H p ys ∧ ∀ l, H l = none → Q (.ref l) (upd H l (.tup ys))) ∨ (SqT K H p ys ∧ Q (.ref p) H))
theorem k_list {X : Cx} (hK : X.K = K) : CallR X (.type "list") (rListOf K) := hK ▸ call_list_of
theorem k_tuple {X : Cx} (hK : X.K = K) : CallR X (.type "tuple") (rTupOf K) := hK ▸ call_tuple_of
def aListOf : List D → Nat → (D → Nat → Prop) → Prop
  | [.tup ds], n, Q => Q (.lst ds) n
  | [.lst ds], n, Q => Q (.lst ds) n
  | _, _, _ => False
def aTupOf : List D → Nat → (D → Nat → Prop) → Prop
  | [.tup ds], n, Q => Q (.tup ds) n
  | [.lst ds], n, Q => Q (.tup ds) n
  | _, _, _ => False
instance : DL K (rListOf K) aListOf := ⟨fun W n H xs ds Q Qa hQ o a h => by
  unfold aListOf at h
  split at h
  · cases a with
    | cons a r =>
      cases r
      cases a with
      | tup s a => exact ⟨_, _, rfl, .inr s, fun p hp => hQ.new o h hp (.lst (o.fresh hp) upd_same (AtAll.le o (Wd.le_same (same_upd hp)) _ a))⟩
  · cases a with
    | cons a r =>
      cases r
      cases a with
      | lst _ s a => exact ⟨_, _, rfl, .inl (SqL.of s), fun p hp => hQ.new o h hp (.lst (o.fresh hp) upd_same (AtAll.le o (Wd.le_same (same_upd hp)) _ a))⟩
  · exact h.elim⟩
instance : DL K (rTupOf K) aTupOf := ⟨fun W n H xs ds Q Qa hQ o a h => by
  unfold aTupOf at h
  split at h
  · cases a with
    | cons a r =>
      cases r
      cases a with
      | tup s a => exact ⟨_, _, rfl, .inr ⟨s, hQ.now o h (.tup s a)⟩⟩
  · cases a with
    | cons a r =>
      cases r
      cases a with
      | lst _ s a => exact ⟨_, _, rfl, .inl ⟨SqL.of s, fun p hp => hQ.new o h hp (.tup (.inl (.inl upd_same)) (AtAll.le o (Wd.le_same (same_upd hp)) _ a))⟩⟩
  · exact h.elim⟩
/-! isinstance -/
def D.tv : D → Option Ty
  | .non => some .non | .bl _ => some .bl | .int _ => some .int | .str _ => some .str | .tup _ => some .tup | .lst _ => some .lst | .dic _ _ => some .dic
  | _ => none
def isiB : Ty → Ty → Bool
  | .non, .non => true | .bl, .bl => true | .bl, .int => true | .int, .int => true | .str, .str => true | .tup, .tup => true | .lst, .lst => true | .dic, .dic => true
  | _, _ => false
theorem kitB_is (a b : Ty) (h : b ≠ .non) (hb : b ≠ .verr) (ha : a ≠ .verr) : kitB a.nm b.nm = some (isiB a b) := by
  cases a <;> cases b <;> first
    | exact absurd rfl h
    | exact absurd rfl hb
    | exact absurd rfl ha
    | decide +kernel
theorem tv_nv {d : D} (e : d.tv = some .verr) : False := by
  cases d <;> cases e
theorem tv_is {W : Wd} {H : Hp} {x : V} {d : D} {t : Ty} (ax : At K W H x d) (e : d.tv = some t) : TyX K H x (.type t.nm) := by
  cases ax <;> cases e
  · exact .base .non
  · exact .base (.bl _)
  · exact .base (.int _)
  · exact .base (.str _)
  · rename_i a xs ds s _
    rcases s with (h | ⟨o, h⟩) | ⟨o, its, n, h, hc, _⟩
    · exact .base (.tup h)
    · exact .fTuple h
    · exact .kTuple h hc
  · rename_i r s _
    exact .base (.lst s)
  · rename_i r s _ _
    exact .base (.dK s)
theorem k_isi {X : Cx} (hK : X.K = K) : CallR X (.builtin "isinstance") (rIsi K) := hK ▸ call_isi
/-- what isinstance asks of an own class -/
structure InsC (K : PySem.W.Frag) (C : Addr) : Prop where
  cl : Cls K C
  ha : PySem.W.findIn K (.ref C) "__class__" = some (some (.builtin "object.__class__"))
  hn : PySem.W.specialIn K (.builtin "object.__class__") "__get__" = some (some (.builtin "getset_descriptor.__get__"))
  ht : PySem.W.takesIn K (.builtin "object.__class__") = some true
  hm : PySem.W.mroIn K C (.type "object") = some true
def aIsi (K : PySem.W.Frag) : List D → Nat → (D → Nat → Prop) → Prop
  | [.ins C _ _, .ty t], n, Q => InsC K C ∧ ∃ b, PySem.W.kitOne K (.ref C) (.type t.nm) = some b ∧ Q (.bl b) n
  | [.ins C _ _, .cls c], n, Q => InsC K C ∧ ∃ b, PySem.W.kitOne K (.ref C) (.ref c) = some b ∧ Q (.bl b) n
  | [d, .cls c], n, Q => (match d.tv with
    | some t => ∃ b, PySem.W.kitOne K (.type t.nm) (.ref c) = some b ∧ Q (.bl b) n
    | none => False)
  | [d, .ty t], n, Q => (match d.tv, t with
    | some _, .non => False
    | some _, .verr => False
    | some t', t => Q (.bl (isiB t' t)) n
    | none, _ => False)
  | _, _, _ => False
instance : DL K (rIsi K) (aIsi K) := ⟨fun W n H xs ds Q Qa hQ o a h => by
  unfold aIsi at h
  split at h
  · cases a with
    | cons a r =>
      cases r with
      | cons b r =>
        cases r
        cases b
        cases a with
        | ins s e a =>
          obtain ⟨ic, b, hk, h⟩ := h
          exact ⟨_, _, _, _, b, rfl, .ty _, .base (.ins s ic.cl ic.ha ic.hn ic.ht ic.hm), hk, hQ.now o h (.bl _)⟩
  · cases a with
    | cons a r =>
      cases r with
      | cons b r =>
        cases r
        cases b
        cases a with
        | ins s e a =>
          obtain ⟨ic, b, hk, h⟩ := h
          exact ⟨_, _, _, _, b, rfl, .own _, .base (.ins s ic.cl ic.ha ic.hn ic.ht ic.hm), hk, hQ.now o h (.bl _)⟩
  · cases a with
    | cons a r =>
      cases r with
      | cons b r =>
        cases r
        cases b
        split at h
        · rename_i t e
          obtain ⟨b, hk, h⟩ := h
          exact ⟨_, _, _, _, b, rfl, .own _, tv_is a e, hk, hQ.now o h (.bl _)⟩
        · exact h.elim
  · cases a with
    | cons a r =>
      cases r with
      | cons b r =>
        cases r
        cases b
        split at h
        · exact h.elim
        · exact h.elim
        · rename_i t' e hne hne2
          exact ⟨_, _, _, _, _, rfl, .ty _, tv_is a e, kit_ty (kitB_is _ _ (fun z => hne z) (fun z => hne2 z) fun z => tv_nv (z ▸ e)), hQ.now o h (.bl _)⟩
        · exact h.elim
  · exact h.elim⟩
/-! constants of the program's top, classes and types as values -/
def tKon (a : Addr) : TE := tC (.ref a)
def tCls (a : Addr) : TE := tC (.ref a)
def tTy (t : Ty) : TE := tC (.ty t.nm)
class Kon (K : PySem.W.Frag) (a : Addr) (d : outParam D) : Prop where
  at_ : ∀ W H, At K W H (.ref a) d
def aD (d : D) : AE := fun _ n Q => Q d n
instance {a : Addr} {d : D} [k : Kon K a d] : DE K (tKon a) (aD d) := ⟨fun W σ ρ n H Q Qa hQ hE o h => hQ.now o h (k.at_ W H)⟩
instance {a : Addr} : DE K (tCls a) (aD (.cls a)) := ⟨fun W σ ρ n H Q Qa hQ hE o h => hQ.now o h (.cls a)⟩
instance {t : Ty} : DE K (tTy t) (aD (.ty t)) := ⟨fun W σ ρ n H Q Qa hQ hE o h => hQ.now o h (.ty t)⟩
theorem k_kon {X : Cx} {x : Str} {a : Addr} {pos : Pos} (hg : Gl X x) (hm : X.mg x = some (.ref a)) (hd : (x == ("__debug__" : Str)) = false := by decide) : PE X (.Name x pos) (tKon a) := pe_glob (v := .ref a) hg hm rfl hd
theorem k_cls {X : Cx} {x : Str} {a : Addr} {pos : Pos} (hg : Gl X x) (hm : X.mg x = some (.ref a)) (hd : (x == ("__debug__" : Str)) = false := by decide) : PE X (.Name x pos) (tCls a) := pe_glob (v := .ref a) hg hm rfl hd
theorem k_ty {X : Cx} {x : Str} {t : Ty} {pos : Pos} (hg : Gl X x) (hm : X.mg x = none) (hv : bootBuiltins x = some (.type t.nm)) (hn : x ≠ "__name__" := by decide) (hd : (x == ("__debug__" : Str)) = false := by decide) : PE X (.Name x pos) (tTy t) := pe_bltn (v := .ty t.nm) hg hm hv rfl hn hd
/-! fields -/
def tFldK (K : PySem.W.Frag) (ta : TE) (f : Str) : TE := tFld K ta f
theorem k_fld {X : Cx} {e : Expr} {ta : TE} {f : Str} {pos : Pos} (hK : X.K = K) (he : PE X e ta) (hb : attributeBase e f X.env (eval e X.env) = eval e X.env) : PE X (.Attribute e f pos) (tFldK K ta f) := hK ▸ pe_fld he hb
def aFld (K : PySem.W.Frag) (f : Str) (fa : AE) : AE := fun ρ n Q => fa ρ n fun d n1 => match d with
  | .ins C ns ds => (Cls K C ∧ NoAttr K C f) ∧ ∃ d, (ns.zip ds).lookup f = some d ∧ Q d n1
  | _ => False
theorem lookup_at {W : Wd} {H : Hp} {f : Str} : ∀ {ns : List Str} {vs : List V} {ds : List D} {d : D}, AtAll K W H vs ds → (ns.zip ds).lookup f = some d → ∃ v, (ns.zip vs).lookup f = some v ∧ At K W H v d
  | [], _, _, _, _, e => by cases e
  | _ :: _, _, [], _, h, e => by cases h; cases e
  | x :: ns, _, d :: ds, d', h, e => by
    cases h with
    | cons a r =>
      rw [List.zip_cons_cons, List.lookup_cons] at e ⊢
      cases hb : f == x with
      | true =>
        rw [hb] at e
        cases e
        exact ⟨_, rfl, a⟩
      | false =>
        rw [hb] at e
        exact lookup_at r e
instance {f : Str} {ta : TE} {fa : AE} [DE K ta fa] : DE K (tFldK K ta f) (aFld K f fa) := ⟨fun W σ ρ n H Q Qa hQ hE o h =>
  DE.run (te := ta) (f := fa) W σ ρ n H _ _ (fun d n1 h1 H1 x l1 o1 ax => by
    split at h1
    · obtain ⟨⟨hc, hn⟩, d, e, q⟩ := h1
      cases ax with
      | ins s e' a =>
        obtain ⟨v, h1, h2⟩ := lookup_at a e
        exact ⟨_, _, _, _, v, rfl, s, hc, hn, h1, (hQ.le l1).now o1 q h2⟩
    · exact h1.elim) hE o h⟩
/-! slices of lists -/
def cutL (xs : List D) (lo hi : Option Int) : List D := (xs.drop (HT.sIx xs.length 0 lo)).take (HT.sIx xs.length xs.length hi - HT.sIx xs.length 0 lo)
class DO (K : PySem.W.Frag) (te : TO) (f : outParam (Env' → Nat → (Option Int → Nat → Prop) → Prop)) : Prop where
  run : ∀ (W : Wd) (σ : L2.St) (ρ : Env') (n : Nat) (H : Hp) (Q : Option Int → Hp → Prop) (Qa : Option Int → Nat → Prop), (∀ b n', Qa b n' → ∀ H', W.le H H' → W.ok K n' H' → Q b H') → EnvAt K W H σ ρ → W.ok K n H → f ρ n Qa → te σ H Q
def aNoPart : Env' → Nat → (Option Int → Nat → Prop) → Prop := fun _ n Q => Q none n
def aPart (f : AE) : Env' → Nat → (Option Int → Nat → Prop) → Prop := fun ρ n Q => f ρ n fun d n1 => match d with
  | .int i => Q (some i) n1
  | _ => False
instance : DO K tNoPart aNoPart := ⟨fun W σ ρ n H Q Qa hQ hE o h => hQ _ _ h H Wd.le_refl o⟩
instance {te : TE} {f : AE} [DE K te f] : DO K (tPart te) (aPart f) := ⟨fun W σ ρ n H Q Qa hQ hE o h =>
  DE.run (te := te) (f := f) W σ ρ n H _ _ (fun d n1 h1 H1 x l1 o1 ax => by
    split at h1
    · cases ax
      exact ⟨_, rfl, hQ _ _ h1 H1 l1 o1⟩
    · exact h1.elim) hE o h⟩
def rSlA (K : PySem.W.Frag) : V → Option Int → Option Int → Hp → VK → Prop := fun x lo hi H Q => rSlL K x lo hi H Q ∨ (fun x lo hi H Q => rSlT K x lo hi H Q ∨ rSlS x lo hi H Q) x lo hi H Q
def aCut (d : D) (l u : Option Int) (n : Nat) (Q : D → Nat → Prop) : Prop := match d with
  | .lst ds => Q (.lst (cutL ds l u)) n
  | .tup ds => ¬ (HT.sIx ds.length 0 l = 0 ∧ HT.sIx ds.length ds.length u = ds.length) ∧ Q (.tup (cutL ds l u)) n
  | .str z => z.length ≤ 1000000 ∧ Q (.str (cutS z l u)) n
  | _ => False
def aSl (fa : AE) (fl fu : Env' → Nat → (Option Int → Nat → Prop) → Prop) : AE := fun ρ n Q => fa ρ n fun d n1 => fl ρ n1 fun l n2 => fu ρ n2 fun u n3 => aCut d l u n3 Q
instance {te : TE} {tl tu : TO} {fa : AE} {fl fu : Env' → Nat → (Option Int → Nat → Prop) → Prop} [DE K te fa] [DO K tl fl] [DO K tu fu] : DE K (tSl (rSlA K) te tl tu) (aSl fa fl fu) := ⟨fun W σ ρ n H Q Qa hQ hE o h =>
  DE.run (te := te) (f := fa) W σ ρ n H _ _ (fun d n1 h1 H1 x l1 o1 ax => DO.run (te := tl) (f := fl) W σ ρ n1 H1 _ _ (fun l n2 h2 H2 l2 o2 => DO.run (te := tu) (f := fu) W σ ρ n2 H2 _ _ (fun u n3 h3 H3 l3 o3 => by
    have hQ3 := hQ.le (l1.trans (l2.trans l3))
    unfold aCut at h3
    split at h3
    · cases At.le o1 (l2.trans l3) _ ax with
      | lst r s a =>
        refine .inl ⟨_, _, rfl, SqL.of s, fun p hp => hQ3.new o3 h3 hp ?_⟩
        refine .lst (o3.fresh hp) upd_same ?_
        unfold cutV cutL
        rw [a.length]
        exact take_at _ (drop_at _ (AtAll.le o3 (Wd.le_same (same_upd hp)) _ a))
    · cases At.le o1 (l2.trans l3) _ ax with
      | tup s a =>
        refine .inr (.inl ⟨_, _, rfl, s, by rw [a.length]; exact h3.1, fun p hp => hQ3.new o3 h3.2 hp ?_⟩)
        refine .tup (.inl (.inl upd_same)) ?_
        unfold cutV cutL
        rw [a.length]
        exact take_at _ (drop_at _ (AtAll.le o3 (Wd.le_same (same_upd hp)) _ a))
    · cases ax
      exact .inr (.inr ⟨_, rfl, Nat.le_trans h3.1 lim, hQ3.now o3 h3.2 (.str _)⟩)
    · exact h3.elim) (hE.le o (l1.trans l2)) o2 h2) (hE.le o l1) o1 h1) hE o h⟩
theorem k_sl {X : Cx} (hK : X.K = K) : SlR X (rSlA K) := hK ▸ SlR.or sl_list (SlR.or sl_tup sl_str)
/-! texts and truths -/
def rJoin (K : PySem.W.Frag) : V → List V → Hp → VK → Prop := fun x xs H Q => ∃ a p, ∃ ys : List Str, x = .str a ∧ xs = [.ref p] ∧ (SqL K H p (ys.map V.str) ∨ SqT K H p (ys.map V.str)) ∧ (ys.map (·.length)).sum + ys.length * a.length ≤ 16777216 ∧ Q (.str (Txt.join a ys)) H
def tJoinK (K : PySem.W.Frag) (to te : TE) : TE := tM1 (rJoin K) to te
theorem k_join {X : Cx} {o e : Expr} {to te : TE} {apos pos : Pos} (hK : X.K = K) (ho : PE X o to) (he : PE X e te) (hs : starEach [e] X.env = [(false, eval e X.env)] := by rfl) (hbase : attributeBase o "join" X.env (eval o X.env) = eval o X.env := by rfl) (hline : (apos.endLine == pos.line) = true := by rfl) :
    PE X (.Call (.Attribute o "join" apos) [e] [] pos) (tJoinK K to te) := hK ▸ pe_join ho he hs hbase hline
def aJoin (fa fb : AE) : AE := fun ρ n Q => fa ρ n fun x n1 => match x with
  | .str a => fb ρ n1 fun y n2 => (match y with
    | .lst ds => ∃ ys : List Str, ds = ys.map D.str ∧ (ys.map (·.length)).sum + ys.length * a.length ≤ 16777216 ∧ Q (.str (Txt.join a ys)) n2
    | .tup ds => ∃ ys : List Str, ds = ys.map D.str ∧ (ys.map (·.length)).sum + ys.length * a.length ≤ 16777216 ∧ Q (.str (Txt.join a ys)) n2
    | _ => False)
  | _ => False
theorem strs_at {W : Wd} {H : Hp} : ∀ {ys : List Str} {vs : List V}, AtAll K W H vs (ys.map D.str) → vs = ys.map V.str
  | [], _, h => by cases h; rfl
  | y :: ys, _, h => by
    cases h with
    | cons a r => cases a; rw [List.map_cons, strs_at r]
theorem bls_at {W : Wd} {H : Hp} : ∀ {ys : List Bool} {vs : List V}, AtAll K W H vs (ys.map D.bl) → vs = ys.map V.bl
  | [], _, h => by cases h; rfl
  | y :: ys, _, h => by
    cases h with
    | cons a r => cases a; rw [List.map_cons, bls_at r]
theorem ints_at {W : Wd} {H : Hp} : ∀ {ys : List Int} {vs : List V}, AtAll K W H vs (ys.map D.int) → vs = ys.map V.int
  | [], _, h => by cases h; rfl
  | y :: ys, _, h => by
    cases h with
    | cons a r => cases a; rw [List.map_cons, ints_at r]
theorem at_ints {W : Wd} {H : Hp} : ∀ ys : List Int, AtAll K W H (ys.map V.int) (ys.map D.int)
  | [] => .nil
  | y :: ys => .cons (.int y) (at_ints ys)
theorem at_strs {W : Wd} {H : Hp} : ∀ ys : List Str, AtAll K W H (ys.map V.str) (ys.map D.str)
  | [] => .nil
  | y :: ys => .cons (.str y) (at_strs ys)
instance {to te : TE} {fa fb : AE} [DE K to fa] [DE K te fb] : DE K (tJoinK K to te) (aJoin fa fb) := ⟨fun W σ ρ n H Q Qa hQ hE o h =>
  DE.run (te := to) (f := fa) W σ ρ n H _ _ (fun d n1 h1 H1 x l1 o1 ax => by
    cases ax with
    | str a =>
      refine ⟨⟨_, rfl⟩, DE.run (te := te) (f := fb) W σ ρ n1 H1 _ _ (fun e n2 h2 H2 y l2 o2 ay => ?_) (hE.le o l1) o1 h1⟩
      cases ay with
      | lst r s b =>
        obtain ⟨ys, rfl, hl, q⟩ := h2
        rw [strs_at b] at s
        exact ⟨_, _, ys, rfl, rfl, .inl (SqL.of s), hl, (hQ.le (l1.trans l2)).now o2 q (.str _)⟩
      | tup s b =>
        obtain ⟨ys, rfl, hl, q⟩ := h2
        rw [strs_at b] at s
        exact ⟨_, _, ys, rfl, rfl, .inr s, hl, (hQ.le (l1.trans l2)).now o2 q (.str _)⟩
      | _ => exact h2.elim
    | _ => exact h1.elim) hE o h⟩
/-! int(..), str(..) of a number -/
def rInt : List V → Hp → VK → Prop := fun xs H Q => (∃ i, xs = [.int i] ∧ Q (.int i) H) ∨ ∃ k, xs = [.bl k] ∧ Q (.int (if k then 1 else 0)) H
theorem k_int {X : Cx} : CallR X (.type "int") rInt := call_int1
def aInt : List D → Nat → (D → Nat → Prop) → Prop
  | [.int i], n, Q => Q (.int i) n
  | [.bl b], n, Q => Q (.int (if b then 1 else 0)) n
  | _, _, _ => False
instance : DL K rInt aInt := ⟨fun W n H xs ds Q Qa hQ o a h => by
  unfold aInt at h
  split at h
  · cases a with
    | cons a r =>
      cases r
      cases a
      exact .inl ⟨_, rfl, hQ.now o h (.int _)⟩
  · cases a with
    | cons a r =>
      cases r
      cases a
      exact .inr ⟨_, rfl, hQ.now o h (.int _)⟩
  · exact h.elim⟩
def rStr : List V → Hp → VK → Prop := fun xs H Q => ∃ i, xs = [.int i] ∧ i.natAbs.log2 < 1920 ∧ Q (.str (toString i)) H
theorem k_str {X : Cx} : CallR X (.type "str") rStr := call_str_int
def aStr : List D → Nat → (D → Nat → Prop) → Prop
  | [.int i], n, Q => i.natAbs.log2 < 1920 ∧ Q (.str (toString i)) n
  | _, _, _ => False
instance : DL K rStr aStr := ⟨fun W n H xs ds Q Qa hQ o a h => by
  unfold aStr at h
  split at h
  · cases a with
    | cons a r =>
      cases r
      cases a
      exact ⟨_, rfl, h.1, hQ.now o h.2 (.str _)⟩
  · exact h.elim⟩
/-! all, any, sum, max, min of a list -/
theorem k_all {X : Cx} (hK : X.K = K) (hc : X.calm = true) : CallR X (.builtin "all") (rAll K) := hK ▸ cr_all hc
theorem k_any {X : Cx} (hK : X.K = K) (hc : X.calm = true) : CallR X (.builtin "any") (rAny K) := hK ▸ cr_any hc
theorem k_sum {X : Cx} (hK : X.K = K) (hc : X.calm = true) : CallR X (.builtin "sum") (rSum K) := hK ▸ cr_sum hc
theorem k_max1 {X : Cx} (hK : X.K = K) (hc : X.calm = true) : CallR X (.builtin "max") (rMax K) := hK ▸ cr_max hc
theorem k_min1 {X : Cx} (hK : X.K = K) (hc : X.calm = true) : CallR X (.builtin "min") (rMin K) := hK ▸ cr_min hc
def aBools (g : List Bool → Bool) : List D → Nat → (D → Nat → Prop) → Prop := fun ds n Q => ∃ bs : List Bool, ds = [.lst (bs.map D.bl)] ∧ Q (.bl (g bs)) n
instance : DL K (rAll K) (aBools fun bs => bs.all id) := ⟨fun W n H xs ds Q Qa hQ o a h => by
  obtain ⟨bs, rfl, q⟩ := h
  cases a with
  | cons a r =>
    cases r
    cases a with
    | lst _ s b => rw [bls_at b] at s; exact ⟨_, bs, rfl, SqL.of s, hQ.now o q (.bl _)⟩⟩
instance : DL K (rAny K) (aBools fun bs => bs.any id) := ⟨fun W n H xs ds Q Qa hQ o a h => by
  obtain ⟨bs, rfl, q⟩ := h
  cases a with
  | cons a r =>
    cases r
    cases a with
    | lst _ s b => rw [bls_at b] at s; exact ⟨_, bs, rfl, SqL.of s, hQ.now o q (.bl _)⟩⟩
def aSum : List D → Nat → (D → Nat → Prop) → Prop := fun ds n Q => ∃ ns : List Int, ds = [.lst (ns.map D.int)] ∧ Q (.int ns.sum) n
instance : DL K (rSum K) aSum := ⟨fun W n H xs ds Q Qa hQ o a h => by
  obtain ⟨ns, rfl, q⟩ := h
  cases a with
  | cons a r =>
    cases r
    cases a with
    | lst _ s b => rw [ints_at b] at s; exact ⟨_, ns, rfl, SqL.of s, hQ.now o q (.int _)⟩⟩
def aMax1 : List D → Nat → (D → Nat → Prop) → Prop := fun ds n Q => ∃ ns : List Int, ds = [.lst (ns.map D.int)] ∧ 0 < ns.length ∧ ∀ m, m ∈ ns → (∀ y, y ∈ ns → y ≤ m) → Q (.int m) n
def aMin1 : List D → Nat → (D → Nat → Prop) → Prop := fun ds n Q => ∃ ns : List Int, ds = [.lst (ns.map D.int)] ∧ 0 < ns.length ∧ ∀ m, m ∈ ns → (∀ y, y ∈ ns → m ≤ y) → Q (.int m) n
instance : DL K (rMax K) aMax1 := ⟨fun W n H xs ds Q Qa hQ o a h => by
  obtain ⟨ns, rfl, hl, q⟩ := h
  cases a with
  | cons a r =>
    cases r
    cases a with
    | lst _ s b => rw [ints_at b] at s; exact ⟨_, ns, rfl, SqL.of s, hl, fun m h1 h2 => hQ.now o (q m h1 h2) (.int _)⟩⟩
instance : DL K (rMin K) aMin1 := ⟨fun W n H xs ds Q Qa hQ o a h => by
  obtain ⟨ns, rfl, hl, q⟩ := h
  cases a with
  | cons a r =>
    cases r
    cases a with
    | lst _ s b => rw [ints_at b] at s; exact ⟨_, ns, rfl, SqL.of s, hl, fun m h1 h2 => hQ.now o (q m h1 h2) (.int _)⟩⟩
/-! x in xs -/
def flatD : D → Bool
  | .non => true | .bl _ => true | .int _ => true | .str _ => true
  | _ => false
def eqF : D → D → Bool
  | .non, .non => true | .bl a, .bl b => a == b | .bl a, .int b => (if a then 1 else 0) == b | .int a, .bl b => a == (if b then 1 else 0) | .int a, .int b => a == b | .str a, .str b => a == b
  | _, _ => false
theorem flat_at {W : Wd} {H : Hp} {v : V} {d : D} (a : At K W H v d) (h : flatD d = true) : flatV v = true := by
  cases a <;> first | rfl | cases h
theorem eqF_at {W : Wd} {H : Hp} {v u : V} {d e : D} (a : At K W H v d) (b : At K W H u e) (h : flatD d = true) (g : flatD e = true) : eqV v u = eqF d e := by
  cases a <;> first
    | cases h; done
    | (cases b <;> first | rfl | cases g; done)
theorem flats_at {W : Wd} {H : Hp} : ∀ {ds : List D} {vs : List V}, AtAll K W H vs ds → ds.all flatD = true → vs.all flatV = true
  | [], _, h, _ => by cases h; rfl
  | d :: ds, _, h, g => by
    cases h with
    | cons a r =>
      rw [List.all_cons, Bool.and_eq_true] at g ⊢
      exact ⟨flat_at a g.1, flats_at r g.2⟩
theorem in_at {W : Wd} {H : Hp} {u : V} {e : D} (b : At K W H u e) (g : flatD e = true) : ∀ {ds : List D} {vs : List V}, AtAll K W H vs ds → ds.all flatD = true → inV u vs = ds.any fun d => eqF d e
  | [], _, h, _ => by cases h; rfl
  | d :: ds, _, h, g' => by
    cases h with
    | cons a r =>
      rw [List.all_cons, Bool.and_eq_true] at g'
      have ih := in_at b g r g'.2
      unfold inV at ih ⊢
      rw [List.any_cons, List.any_cons, ih, eqF_at a b g'.1 g]
def rInA (K : PySem.W.Frag) (neg : Bool) : R2 := rIn K neg
theorem k_in {X : Cx} (hK : X.K = K) (_ : X.A.units + 64 < cLine) : OpR X (compareOp .In) (rInA K false) := hK ▸ op_in_seq
theorem k_notin {X : Cx} (hK : X.K = K) (_ : X.A.units + 64 < cLine) : OpR X (compareOp .NotIn) (rInA K true) := hK ▸ op_notIn_seq
def aIn (neg : Bool) : D → D → Nat → (D → Nat → Prop) → Prop
  | d, .lst ds, n, Q => flatD d = true ∧ ds.all flatD = true ∧ Q (.bl (if neg then !(ds.any fun x => eqF x d) else ds.any fun x => eqF x d)) n
  | d, .tup ds, n, Q => flatD d = true ∧ ds.all flatD = true ∧ Q (.bl (if neg then !(ds.any fun x => eqF x d) else ds.any fun x => eqF x d)) n
  | _, _, _, _ => False
instance {neg : Bool} : D2 K (rInA K neg) (aIn neg) := ⟨fun W n H x y d e Q Qa hQ o ax ay h => by
  unfold aIn at h
  split at h
  · obtain ⟨h1, h2, q⟩ := h
    cases ay with
    | lst r s a => exact ⟨_, _, rfl, .inl (SqL.of s), flat_at ax h1, flats_at a h2, by rw [in_at ax h1 a h2]; exact hQ.now o q (.bl _)⟩
  · obtain ⟨h1, h2, q⟩ := h
    cases ay with
    | tup s a => exact ⟨_, _, rfl, .inr s, flat_at ax h1, flats_at a h2, by rw [in_at ax h1 a h2]; exact hQ.now o q (.bl _)⟩
  · exact h.elim⟩
end

/-! ### the mirror, third part: targets, what is walked, statements -/
section
variable {K : PySem.W.Frag}
/-! targets -/
abbrev Upd (K : PySem.W.Frag) (W : Wd) (H : Hp) : List (Nat × V) → List (Nat × D) → Prop := Paired fun z u => z.1 = u.1 ∧ At K W H z.2 u.2
def setAll : L2.St → List (Nat × V) → L2.St
  | σ, [] => σ
  | σ, z :: r => setAll (σ.set z.1 (some z.2)) r
def eSetAll : Env' → List (Nat × D) → Env'
  | ρ, [] => ρ
  | ρ, u :: r => eSetAll (eSet ρ u.1 (some u.2)) r
theorem setAll_append : ∀ (σ : L2.St) (a b : List (Nat × V)), setAll σ (a ++ b) = setAll (setAll σ a) b
  | σ, [], b => rfl
  | σ, z :: r, b => setAll_append (σ.set z.1 (some z.2)) r b
theorem paired_append {α β : Type} {F : α → β → Prop} : ∀ {l l' : List α} {m m' : List β}, Paired F l m → Paired F l' m' → Paired F (l ++ l') (m ++ m')
  | _, _, _, _, .nil, h => h
  | _, _, _, _, .cons a r, h => .cons a (paired_append r h)
class DG (K : PySem.W.Frag) (g : TG) (f : outParam (D → Option (List (Nat × D)))) : Prop where
  run : ∀ (W : Wd) (σ : L2.St) (H : Hp) (v : V) (d : D) (us : List (Nat × D)) (Q : L2.St → Hp → Prop), At K W H v d → f d = some us → (∀ zs, Upd K W H zs us → Q (setAll σ zs) H) → g v σ H Q
class DGs (K : PySem.W.Frag) (g : TGs) (f : outParam (List D → Option (List (Nat × D)))) : Prop where
  run : ∀ (W : Wd) (σ : L2.St) (H : Hp) (vs : List V) (ds : List D) (us : List (Nat × D)) (Q : L2.St → Hp → Prop), AtAll K W H vs ds → f ds = some us → (∀ zs, Upd K W H zs us → Q (setAll σ zs) H) → g vs σ H Q
def aName (i : Nat) : D → Option (List (Nat × D)) := fun d => some [(i, d)]
instance {i : Nat} : DG K (gName i) (aName i) := ⟨fun W σ H v d us Q a e h => by
  cases e
  exact h [(i, v)] (.cons ⟨rfl, a⟩ .nil)⟩
def aGNil : List D → Option (List (Nat × D))
  | [] => some []
  | _ => none
def aGCons (f : D → Option (List (Nat × D))) (g : List D → Option (List (Nat × D))) : List D → Option (List (Nat × D))
  | d :: r => (match f d, g r with
    | some a, some b => some (a ++ b)
    | _, _ => none)
  | [] => none
instance : DGs K gNil aGNil := ⟨fun W σ H vs ds us Q a e h => by
  cases a with
  | nil => cases e; exact ⟨rfl, h [] .nil⟩
  | cons _ _ => cases e⟩
instance {t : TG} {u : TGs} {f : D → Option (List (Nat × D))} {g : List D → Option (List (Nat × D))} [DG K t f] [DGs K u g] : DGs K (gCons t u) (aGCons f g) := ⟨fun W σ H vs ds us Q a e h => by
  cases a with
  | nil => cases e
  | @cons v vs d ds a r =>
    unfold aGCons at e
    cases e1 : f d with
    | none => simp only [e1] at e; cases e
    | some x =>
      cases e2 : g ds with
      | none => simp only [e1, e2] at e; cases e
      | some y =>
        simp only [e1, e2] at e
        cases e
        refine ⟨_, _, rfl, DG.run (g := t) (f := f) W σ H _ _ x _ a e1 fun zs hz => ?_⟩
        refine DGs.run (g := u) (f := g) W (setAll σ zs) H _ _ y _ r e2 fun ws hw => ?_
        rw [← setAll_append]
        exact h _ (paired_append hz hw)⟩
def gTupK (K : PySem.W.Frag) (k : Nat) (t : TGs) : TG := fun v σ H Q => gTup K k t v σ H Q ∨ gLst K k t v σ H Q
theorem k_gtup {X : Cx} {es : List Expr} {k : Nat} {t : TGs} {pos : Pos} {m : Nat} (hK : X.K = K) (hc : X.calm = true) (h : PGs X es t)
    (hn : (assignEach es X.env).length = m := by rfl) (hst : (assignEach es X.env).findIdx? (·.1) = none := by rfl) : PG X (.Tuple es k pos) (gTupK K m t) := by
  subst hK
  refine ⟨fun pins s σ H v u Q I r hw => ?_⟩
  rcases hw with hw | hw
  · exact (pg_tup hc h hn hst).run pins s σ H v u Q I r hw
  · exact (pg_lst hc h hn hst).run pins s σ H v u Q I r hw
def aGTup (k : Nat) (g : List D → Option (List (Nat × D))) : D → Option (List (Nat × D))
  | .tup ds => (match Nat.beq ds.length k with
    | true => g ds
    | false => none)
  | .lst ds => (match Nat.beq ds.length k with
    | true => g ds
    | false => none)
  | _ => none
instance {k : Nat} {t : TGs} {g : List D → Option (List (Nat × D))} [DGs K t g] : DG K (gTupK K k t) (aGTup k g) := ⟨fun W σ H v d us Q a e h => by
  unfold aGTup at e
  split at e
  · split at e
    · rename_i hb
      cases a with
      | tup s a => exact .inl ⟨_, _, rfl, s, by rw [a.length]; exact Nat.eq_of_beq_eq_true hb, DGs.run (g := t) (f := g) W σ H _ _ us Q a e h⟩
    · cases e
  · split at e
    · rename_i hb
      cases a with
      | lst r s a => exact .inr ⟨_, _, rfl, SqL.of s, by rw [a.length]; exact Nat.eq_of_beq_eq_true hb, DGs.run (g := t) (f := g) W σ H _ _ us Q a e h⟩
    · cases e
  · cases e⟩
theorem wipe_set {σ : L2.St} {i : Nat} {v : Option V} : ∀ {vs : List Nat}, i ∈ vs → wipe (σ.set i v) vs = wipe σ vs
  | [], h => by cases h
  | w :: vs, h => by
    show (wipe (σ.set i v) vs).set w none = (wipe σ vs).set w none
    by_cases hi : i ∈ vs
    · rw [wipe_set hi]
    · have e : i = w := by
        rcases List.mem_cons.mp h with z | z
        · exact z
        · exact absurd z hi
      subst e
      have : ∀ us : List Nat, i ∉ us → wipe (σ.set i v) us = (wipe σ us).set i v := fun us => by
        induction us with
        | nil => intro _; rfl
        | cons u us ih =>
          intro hn
          show (wipe (σ.set i v) us).set u none = ((wipe σ us).set u none).set i v
          rw [ih (fun z => hn (List.mem_cons_of_mem _ z)), List.set_comm _ _ (fun z => hn (by rw [z]; exact List.mem_cons_self))]
      rw [this vs hi, List.set_set]
theorem wipe_setAll {vs : List Nat} : ∀ {zs : List (Nat × V)} {σ : L2.St}, (∀ z ∈ zs, z.1 ∈ vs) → wipe (setAll σ zs) vs = wipe σ vs
  | [], _, _ => rfl
  | z :: r, σ, h => by
    show wipe (setAll (σ.set z.1 (some z.2)) r) vs = _
    rw [wipe_setAll fun y hy => h y (List.mem_cons_of_mem _ hy), wipe_set (h z List.mem_cons_self)]
theorem upd_slots {W : Wd} {H : Hp} {p : Nat → Prop} : ∀ {zs : List (Nat × V)} {us : List (Nat × D)}, Upd K W H zs us → (∀ u ∈ us, p u.1) → ∀ z ∈ zs, p z.1
  | _, _, .nil, _, z, h => by cases h
  | _, _, .cons ⟨e, _⟩ r, hu, z, h => by
    rcases List.mem_cons.mp h with rfl | h
    · rw [e]
      exact hu _ List.mem_cons_self
    · exact upd_slots r (fun u hu' => hu u (List.mem_cons_of_mem _ hu')) z h
theorem EnvAt.setAll {W : Wd} {H : Hp} : ∀ {zs : List (Nat × V)} {us : List (Nat × D)} {σ : L2.St} {ρ : Env'}, EnvAt K W H σ ρ → Upd K W H zs us → EnvAt K W H (setAll σ zs) (eSetAll ρ us)
  | _, _, _, _, h, .nil => h
  | _, _, _, _, h, .cons (a := (i, v)) (b := (j, d)) ⟨e, a⟩ r => by
    cases (show i = j from e)
    have := EnvAt.setAll (h.set (i := i) a) r
    exact this
/-! what is walked -/
def Walks (K : PySem.W.Frag) (W : Wd) (J : It) (H : Hp) (ds : List D) : Prop := ∀ (W' : Wd), (∀ a, W'.rs a → ¬ W.rs a → H a = none) → W'.dk = W.dk → ∀ (H2 : Hp) (n2 : Nat), W'.le H H2 → W'.ok K n2 H2 → ∀ i : Nat,
  (∀ d, ds[i]? = some d → J.go i H2 ∧ ∀ x H3, J.yld i H2 x H3 → Same H2 H3 ∧ At K W' H3 x d) ∧ (ds.length ≤ i → J.stop i H2)
abbrev AI := Env' → Nat → (List D → Nat → Prop) → Prop
class DI (K : PySem.W.Frag) (wi : TI) (f : outParam AI) : Prop where
  run : ∀ (W : Wd) (σ : L2.St) (ρ : Env') (n : Nat) (H : Hp) (R : It → Hp → Prop) (Qa : List D → Nat → Prop), (∀ ds n', Qa ds n' → ∀ J H', W.le H H' → W.ok K n' H' → Walks K W J H' ds → R J H') → EnvAt K W H σ ρ → W.ok K n H → f ρ n Qa → wi σ H R
theorem Wd.ok.lk' {W W' : Wd} {H : Hp} {n : Nat} (o : W.ok K n H) (hr : ∀ a, W'.rs a → ¬ W.rs a → H a = none) : W'.lk H := fun a r ob e => by
  by_cases hw : W.rs a
  · exact o.lk a hw ob e
  · rw [hr a r hw] at e
    cases e
def iAny (K : PySem.W.Frag) (tl : TE) : TI := fun σ H R => tl σ H fun x H1 => ∃ a, x = .ref a ∧ (((∃ xs, SqL K H1 a xs) ∧ R (Itl K a) H1) ∨ ((∃ xs, SqT K H1 a xs) ∧ R (Itt K a) H1))
theorem k_iter {X : Cx} {tg l : Expr} {tl : TE} (hK : X.K = K) (hl : PE X l tl) : PI X tg l (iAny K tl) := by
  subst hK
  refine ⟨fun pins s σ H R I h => ?_⟩
  refine thn (hl.run pins s σ H _ I h) fun v s1 ⟨x, H1, I1, r1, q1⟩ => ?_
  obtain ⟨a, e, q1⟩ := q1
  subst e
  cases r1
  rcases q1 with ⟨⟨xs, hq⟩, q⟩ | ⟨⟨xs, hq⟩, q⟩
  · obtain ⟨its, rv, p, hz⟩ := I1.list hq
    refine wpAny_pyIter_list p.isList ?_
    refine ⟨s1.heap.objs.size, [s1.heap.objs.size], _, _, H1, rfl, I1.kept (t' := s1.toks) fun b o e => Heap.get?_push_of_some _ e, turn_list a _, ⟨_, Heap.get?_push_size _ rfl, rfl, rfl⟩, fun b hb => ?_, q⟩
    have e : b = s1.heap.objs.size := by simpa using hb
    subst e
    exact I1.fpOk (Nat.le_refl _) (I1.hok.fresh (Nat.le_refl _))
  · obtain ⟨its, rv, p, hz⟩ := I1.tuple hq
    refine wpAny_pyIter_tuple (show s1.heap.IsTuple a its.toArray from p) ?_
    refine ⟨s1.heap.objs.size, [s1.heap.objs.size], _, _, H1, rfl, I1.kept (t' := s1.toks) fun b o e => Heap.get?_push_of_some _ e, turn_tuple a _, ⟨_, Heap.get?_push_size _ rfl, rfl, rfl⟩, fun b hb => ?_, q⟩
    have e : b = s1.heap.objs.size := by simpa using hb
    subst e
    exact I1.fpOk (Nat.le_refl _) (I1.hok.fresh (Nat.le_refl _))
def aIter (f : AE) : AI := fun ρ n Q => f ρ n fun d n1 => match d with
  | .tup ds => Q ds n1
  | .lst ds => Q ds n1
  | _ => False
instance {tl : TE} {f : AE} [DE K tl f] : DI K (iAny K tl) (aIter f) := ⟨fun W σ ρ n H R Qa hQ hE o h =>
  DE.run (te := tl) (f := f) W σ ρ n H _ _ (fun d n1 h1 H1 x l1 o1 ax => by
    split at h1
    · cases ax with
      | tup s a =>
        refine ⟨_, rfl, .inr ⟨⟨_, s⟩, hQ _ _ h1 _ H1 l1 o1 fun W' hr hd H2 n2 l2 o2 i => ?_⟩⟩
        have s2 := sqt_lk (o1.lk' hr) l2 s
        refine ⟨fun d hd' => ?_, fun hi => ⟨_, s2, by rw [a.length]; exact hi⟩⟩
        obtain ⟨v, e1, e2⟩ := a.get hd'
        refine ⟨⟨_, v, s2, e1⟩, fun x H3 ⟨e3, e4⟩ => ?_⟩
        subst e3
        have := e4 _ s2
        rw [e1] at this
        cases this
        exact ⟨Same.refl _, At.lk (o1.lk' hr) l2 _ (At.ext hr hd _ e2)⟩
    · cases ax with
      | lst r s a =>
        refine ⟨_, rfl, .inl ⟨⟨_, SqL.of s⟩, hQ _ _ h1 _ H1 l1 o1 fun W' hr hd H2 n2 l2 o2 i => ?_⟩⟩
        have s2 : SqL K H2 _ _ := SqL.of (l2 _ _ (fun z => by rw [hr _ z r] at s; cases s) s)
        refine ⟨fun d hd' => ?_, fun hi => ⟨_, s2, by rw [a.length]; exact hi⟩⟩
        obtain ⟨v, e1, e2⟩ := a.get hd'
        refine ⟨⟨_, v, s2, e1⟩, fun x H3 ⟨e3, e4⟩ => ?_⟩
        subst e3
        have := e4 _ s2
        rw [e1] at this
        cases this
        exact ⟨Same.refl _, At.lk (o1.lk' hr) l2 _ (At.ext hr hd _ e2)⟩
    · exact h1.elim) hE o h⟩
def rangeD (lo : Int) : Nat → List D
  | 0 => []
  | k + 1 => .int lo :: rangeD (lo + 1) k
theorem rangeD_length (lo : Int) : ∀ k, (rangeD lo k).length = k
  | 0 => rfl
  | k + 1 => by rw [rangeD, List.length_cons, rangeD_length]
theorem rangeD_get : ∀ {lo : Int} {k i : Nat} {d : D}, (rangeD lo k)[i]? = some d → i < k ∧ d = .int (lo + i)
  | lo, 0, i, d, h => by cases h
  | lo, k + 1, 0, d, h => by
    cases h
    exact ⟨Nat.succ_pos _, by rw [Int.natCast_zero, Int.add_zero]⟩
  | lo, k + 1, i + 1, d, h => by
    obtain ⟨h1, h2⟩ := rangeD_get (lo := lo + 1) (k := k) (i := i) h
    refine ⟨Nat.succ_lt_succ h1, ?_⟩
    rw [h2]
    congr 1
    omega
def aRange1 (g : AA) : AI := fun ρ n Q => g ρ n fun ds n1 => match ds with
  | [.int j] => (-(2 ^ 62) ≤ j ∧ j < 2 ^ 62) ∧ Q (rangeD 0 j.toNat) n1
  | _ => False
def aRange2 (g : AA) : AI := fun ρ n Q => g ρ n fun ds n1 => match ds with
  | [.int i, .int j] => (-(2 ^ 62) ≤ i ∧ i < 2 ^ 62 ∧ -(2 ^ 62) ≤ j ∧ j < 2 ^ 62) ∧ Q (rangeD i (j - i).toNat) n1
  | _ => False
theorem range_walks {W : Wd} {lo : Int} {k : Nat} {H : Hp} : Walks K W (Itr lo k) H (rangeD lo k) := fun W' hr hd H2 n2 l2 o2 i => by
  refine ⟨fun d e => ?_, fun hi => by rw [rangeD_length] at hi; exact hi⟩
  obtain ⟨h1, rfl⟩ := rangeD_get e
  refine ⟨h1, fun x H3 ⟨e3, e4⟩ => ?_⟩
  subst e3 e4
  exact ⟨Same.refl _, .int _⟩
instance {ta : TA} {g : AA} [DA K ta g] : DI K (iRng1 ta) (aRange1 g) := ⟨fun W σ ρ n H R Qa hQ hE o h =>
  DA.run (te := ta) (f := g) W σ ρ n H _ _ (fun ds n1 h1 H1 vs l1 o1 ax => by
    split at h1
    · cases ax with
      | cons a r =>
        cases r
        cases a
        exact ⟨_, rfl, h1.1.1, h1.1.2, hQ _ _ h1.2 _ H1 l1 o1 range_walks⟩
    · exact h1.elim) hE o h⟩
instance {ta : TA} {g : AA} [DA K ta g] : DI K (iRng2 ta) (aRange2 g) := ⟨fun W σ ρ n H R Qa hQ hE o h =>
  DA.run (te := ta) (f := g) W σ ρ n H _ _ (fun ds n1 h1 H1 vs l1 o1 ax => by
    split at h1
    · cases ax with
      | cons a r =>
        cases r with
        | cons b r =>
          cases r
          cases a
          cases b
          exact ⟨_, _, rfl, h1.1, hQ _ _ h1.2 _ H1 l1 o1 range_walks⟩
    · exact h1.elim) hE o h⟩
/-! zip, enumerate -/
def zipD : List D → List D → List D
  | a :: as, b :: bs => .tup [a, b] :: zipD as bs
  | _, _ => []
theorem zipD_get : ∀ {as bs : List D} {i : Nat} {d : D}, (zipD as bs)[i]? = some d → ∃ a b, as[i]? = some a ∧ bs[i]? = some b ∧ d = .tup [a, b]
  | [], _, _, _, h => by cases h
  | _ :: _, [], _, _, h => by cases h
  | a :: as, b :: bs, 0, d, h => by cases h; exact ⟨a, b, rfl, rfl, rfl⟩
  | a :: as, b :: bs, i + 1, d, h => zipD_get (as := as) (bs := bs) (i := i) h
theorem zipD_length : ∀ {as bs : List D}, (zipD as bs).length = min as.length bs.length
  | [], bs => by simp [zipD]
  | _ :: _, [] => by simp [zipD]
  | a :: as, b :: bs => by rw [zipD, List.length_cons, List.length_cons, List.length_cons, zipD_length, Nat.succ_min_succ]
def enumD (k : Nat) : List D → List D
  | [] => []
  | a :: as => .tup [.int k, a] :: enumD (k + 1) as
theorem enumD_get : ∀ {as : List D} {k i : Nat} {d : D}, (enumD k as)[i]? = some d → ∃ a, as[i]? = some a ∧ d = .tup [.int ((k + i : Nat) : Int), a]
  | [], _, _, _, h => by cases h
  | a :: as, k, 0, d, h => by cases h; exact ⟨a, rfl, rfl⟩
  | a :: as, k, i + 1, d, h => by
    obtain ⟨b, h1, h2⟩ := enumD_get (as := as) (k := k + 1) (i := i) h
    exact ⟨b, h1, by rw [h2]; congr 3; omega⟩
theorem enumD_length : ∀ {as : List D} {k : Nat}, (enumD k as).length = as.length
  | [], _ => rfl
  | a :: as, k => by rw [enumD, List.length_cons, List.length_cons, enumD_length]
end

/-! ### the mirror, fourth part: zip, enumerate, for, comprehensions, defs -/
section
variable {K : PySem.W.Frag}
theorem sql_lk {W : Wd} {H H' : Hp} {a : Addr} {xs : List V} (l : W.le H H') (r : ¬ W.rs a) (s : H a = some (.lst xs)) : SqL K H' a xs := SqL.of (l _ _ r s)
def iZipK (K : PySem.W.Frag) (ta : TA) : TI := RZ.iZipA K ta
theorem k_zip {X : Cx} {e e2 : Expr} {ta : TA} {p pos tpos : Pos} {elts : List Expr} {kk : Nat} (hK : X.K = K) (hg : Gl X "zip") (hm : X.mg "zip" = none) (ha : PA X [e, e2] ta)
    (hs : starEach [e, e2] X.env = (false, eval e X.env) :: starEach [e2] X.env := by rfl) (hpl : (backTo pos (starEach [e2] X.env)).any (·.1) = false := by rfl) :
    PI X (.Tuple elts kk tpos) (.Call (.Name "zip" p) [e, e2] [] pos) (iZipK K ta) := hK ▸ RZ.pi_zipA hg hm ha hs hpl
def aZip (g : AA) : AI := fun ρ n Q => g ρ n fun ds n1 => match ds with
  | [.lst as, .lst bs] => Q (zipD as bs) n1
  | [.tup as, .tup bs] => Q (zipD as bs) n1
  | _ => False
instance {ta : TA} {g : AA} [DA K ta g] : DI K (iZipK K ta) (aZip g) := ⟨fun W σ ρ n H R Qa hQ hE o h =>
  DA.run (te := ta) (f := g) W σ ρ n H _ _ (fun ds n1 h1 H1 vs l1 o1 ax => by
    split at h1
    · cases ax with
      | cons a r =>
        cases r with
        | cons b r =>
          cases r
          cases a with
          | lst ra sa a =>
            cases b with
            | lst rb sb b =>
              refine ⟨_, _, _, _, rfl, .inl ⟨SqL.of sa, SqL.of sb, hQ _ _ h1 _ H1 l1 o1 fun W' hr hd H2 n2 l2 o2 i => ?_⟩⟩
              have s2 := sql_lk (K := K) l2 (fun z => by rw [hr _ z ra] at sa; cases sa) sa
              have s3 := sql_lk (K := K) l2 (fun z => by rw [hr _ z rb] at sb; cases sb) sb
              refine ⟨fun d e => ?_, fun hi => ⟨_, _, s2, s3, ?_⟩⟩
              · obtain ⟨x, y, e1, e2, rfl⟩ := zipD_get e
                obtain ⟨v, e1', a1⟩ := a.get e1
                obtain ⟨u, e2', a2⟩ := b.get e2
                refine ⟨⟨_, _, v, u, s2, s3, e1', e2'⟩, fun z H3 ⟨T, x', y', ez, hT, eH, e3, e4⟩ => ?_⟩
                have q1 := e3 _ s2
                have q2 := e4 _ s3
                rw [e1'] at q1
                rw [e2'] at q2
                cases q1
                cases q2
                subst ez eH
                have st : Same H2 (upd H2 T (.tup [v, u])) := same_upd hT
                refine ⟨st, .tup (.inl (.inl upd_same)) (.cons ?_ (.cons ?_ .nil))⟩
                · exact At.le o2 (Wd.le_same st) _ (At.lk (o1.lk' hr) l2 _ (At.ext hr hd _ a1))
                · exact At.le o2 (Wd.le_same st) _ (At.lk (o1.lk' hr) l2 _ (At.ext hr hd _ a2))
              · rw [zipD_length] at hi
                rw [a.length, b.length]
                omega
    · cases ax with
      | cons a r =>
        cases r with
        | cons b r =>
          cases r
          cases a with
          | tup sa a =>
            cases b with
            | tup sb b =>
              refine ⟨_, _, _, _, rfl, .inr ⟨sa, sb, hQ _ _ h1 _ H1 l1 o1 fun W' hr hd H2 n2 l2 o2 i => ?_⟩⟩
              have s2 := sqt_lk (o1.lk' hr) l2 sa
              have s3 := sqt_lk (o1.lk' hr) l2 sb
              refine ⟨fun d e => ?_, fun hi => ⟨_, _, s2, s3, ?_⟩⟩
              · obtain ⟨x, y, e1, e2, rfl⟩ := zipD_get e
                obtain ⟨v, e1', a1⟩ := a.get e1
                obtain ⟨u, e2', a2⟩ := b.get e2
                refine ⟨⟨_, _, v, u, s2, s3, e1', e2'⟩, fun z H3 ⟨T, x', y', ez, hT, eH, e3, e4⟩ => ?_⟩
                have q1 := e3 _ s2
                have q2 := e4 _ s3
                rw [e1'] at q1
                rw [e2'] at q2
                cases q1
                cases q2
                subst ez eH
                have st : Same H2 (upd H2 T (.tup [v, u])) := same_upd hT
                refine ⟨st, .tup (.inl (.inl upd_same)) (.cons ?_ (.cons ?_ .nil))⟩
                · exact At.le o2 (Wd.le_same st) _ (At.lk (o1.lk' hr) l2 _ (At.ext hr hd _ a1))
                · exact At.le o2 (Wd.le_same st) _ (At.lk (o1.lk' hr) l2 _ (At.ext hr hd _ a2))
              · rw [zipD_length] at hi
                rw [a.length, b.length]
                omega
    · exact h1.elim) hE o h⟩
def iEnumK (K : PySem.W.Frag) (ta : TA) : TI := iEnum K ta
theorem k_enum {X : Cx} {e : Expr} {ta : TA} {p pos tpos : Pos} {elts : List Expr} {kk : Nat} (hK : X.K = K) (hg : Gl X "enumerate") (hm : X.mg "enumerate" = none) (ha : PA X [e] ta) (hs : starEach [e] X.env = [(false, eval e X.env)] := by rfl) :
    PI X (.Tuple elts kk tpos) (.Call (.Name "enumerate" p) [e] [] pos) (iEnumK K ta) := hK ▸ pi_enum hg hm ha hs
def aEnum (g : AA) : AI := fun ρ n Q => g ρ n fun ds n1 => match ds with
  | [.lst as] => Q (enumD 0 as) n1
  | _ => False
instance {ta : TA} {g : AA} [DA K ta g] : DI K (iEnumK K ta) (aEnum g) := ⟨fun W σ ρ n H R Qa hQ hE o h =>
  DA.run (te := ta) (f := g) W σ ρ n H _ _ (fun ds n1 h1 H1 vs l1 o1 ax => by
    split at h1
    · cases ax with
      | cons a r =>
        cases r
        cases a with
        | lst ra sa a =>
          refine ⟨_, _, rfl, SqL.of sa, hQ _ _ h1 _ H1 l1 o1 fun W' hr hd H2 n2 l2 o2 i => ?_⟩
          have s2 := sql_lk (K := K) l2 (fun z => by rw [hr _ z ra] at sa; cases sa) sa
          refine ⟨fun d e => ?_, fun hi => ⟨_, s2, by rw [a.length]; rw [enumD_length] at hi; exact hi⟩⟩
          obtain ⟨x, e1, rfl⟩ := enumD_get e
          obtain ⟨v, e1', a1⟩ := a.get e1
          refine ⟨⟨_, v, s2, e1'⟩, fun z H3 ⟨T, x', ez, hT, eH, e3⟩ => ?_⟩
          have q1 := e3 _ s2
          rw [e1'] at q1
          cases q1
          subst ez eH
          have st : Same H2 (upd H2 T (.tup [.int i, v])) := same_upd hT
          refine ⟨st, .tup (.inl (.inl upd_same)) (.cons ?_ (.cons ?_ .nil))⟩
          · rw [Nat.zero_add]
            exact .int _
          · exact At.le o2 (Wd.le_same st) _ (At.lk (o1.lk' hr) l2 _ (At.ext hr hd _ a1))
    · exact h1.elim) hE o h⟩
/-! comprehensions -/
def wipeA (ρ : Env') : List Nat → Env'
  | [] => ρ
  | v :: vs => eSet (wipeA ρ vs) v none
theorem EnvAt.wipe {W : Wd} {H : Hp} {σ : L2.St} {ρ : Env'} (h : EnvAt K W H σ ρ) : ∀ vs : List Nat, EnvAt K W H (L2.wipe σ vs) (wipeA ρ vs)
  | [] => h
  | v :: vs => by
    have ih := EnvAt.wipe h vs
    refine ⟨by show ((L2.wipe σ vs).set v none).length = (eSet (wipeA ρ vs) v none).length; rw [List.length_set, eSet_length]; exact ih.1, fun i d e => ?_⟩
    have e' : eGet (eSet (wipeA ρ vs) v none) i = some d := e
    by_cases hv : v = i
    · subst hv
      cases (eGet_set e').2
    · rw [eGet_ne hv] at e'
      obtain ⟨x, h1, h2⟩ := ih.2 i d e'
      exact ⟨x, by show ((L2.wipe σ vs).set v none)[i]? = _; rw [List.getElem?_set_ne hv]; exact h1, h2⟩
theorem wipe_wipe (σ : L2.St) (vs : List Nat) : wipe (wipe σ vs) vs = wipe σ vs := by
  have : ∀ us : List Nat, (∀ i ∈ us, i ∈ vs) → wipe (wipe σ us) vs = wipe σ vs := fun us => by
    induction us with
    | nil => intro _; rfl
    | cons u us ih =>
      intro h
      show wipe ((wipe σ us).set u none) vs = _
      rw [wipe_set (h u List.mem_cons_self), ih fun i hi => h i (List.mem_cons_of_mem _ hi)]
  exact this vs fun i hi => hi
def aPutC (vs : List Nat) (g : D → Option (List (Nat × D))) (d : D) (ρ : Env') (Q : Env' → Prop) : Prop := match g d with
  | some us => (match us.all fun u => vs.contains u.1 with
    | true => Q (eSetAll ρ us)
    | false => False)
  | none => False
def aLcGo (vs : List Nat) (G : D → Option (List (Nat × D))) (c : AT) (e : AE) (ρ : Env') (Q : D → Nat → Prop) : List D → List D → Nat → Prop
  | acc, [], n => Q (.lst acc) n
  | acc, d :: r, n => aPutC vs G d ρ fun ρ1 => c ρ1 n fun b n2 => aIte b (e ρ1 n2 fun y n3 => aLcGo vs G c e ρ Q (acc ++ [y]) r n3) (aLcGo vs G c e ρ Q acc r n2)
def aLc (I : AI) (G : D → Option (List (Nat × D))) (c : AT) (e : AE) (vs : List Nat) : AE := fun ρ n Q => I ρ n fun ds n1 => ds.length ≤ 1000000 ∧ aLcGo vs G c e (wipeA ρ vs) Q [] ds n1
theorem Wd.le_add {W : Wd} {p : Addr} {xs : HO} {H H1 H2 : Hp} (hp : H p = none) (l : W.le H H1) (l2 : (W.add (p, xs)).le H1 H2) : W.le H H2 := fun a o r e => by
  have ne : a ≠ p := ne_of_none e hp
  refine l2 a o ?_ (l a o r e)
  rintro (z | z)
  · exact r (.inl z)
  · rcases List.mem_cons.mp z with z | z
    · exact ne z
    · exact r (.inr z)
theorem Wd.ok_put {W : Wd} {p : Addr} {ys : HO} {n : Nat} {H : Hp} (hm : Mt ys) (hp : ¬ W.rs p) (hl : H p = none ∨ ∃ xs, H p = some (.lst xs)) (o : W.ok K n H) : (W.add (p, ys)).ok K n (upd H p ys) := by
  refine ⟨fun d b e => ?_, fun q hq => ?_, fun d b e q hq => ?_⟩
  · obtain ⟨c, D, l⟩ := o.deck d b e
    have n1 : p ≠ d := fun z => hp (.inl ⟨d, b, e, .inl z⟩)
    have n2 : p ≠ b := fun z => hp (.inl ⟨d, b, e, .inr z⟩)
    refine ⟨c, ?_, l⟩
    obtain ⟨⟨s, ns, cs, i, k, h1, h2, h3, h4⟩, ne⟩ := D
    refine ⟨⟨s, ns, cs, i, k, ?_, ?_, h3.upd hl, h4⟩, ne⟩
    · rw [upd_ne (Ne.symm n1)]; exact h1
    · rw [upd_ne (Ne.symm n2)]; exact h2
  · rcases List.mem_cons.mp hq with rfl | hq
    · exact ⟨upd_same, hm⟩
    · rw [upd_ne fun z => hp (.inr (List.mem_map.mpr ⟨q, hq, z⟩))]
      exact o.owns q hq
  · rcases List.mem_cons.mp hq with rfl | hq
    · exact ⟨fun z => hp (.inl ⟨d, b, e, .inl z⟩), fun z => hp (.inl ⟨d, b, e, .inr z⟩)⟩
    · exact o.dis d b e q hq
theorem Wd.ok.drop {W : Wd} {q : Addr × HO} {n : Nat} {H : Hp} (o : (W.add q).ok K n H) : W.ok K n H := ⟨o.deck, fun p hp => o.owns p (List.mem_cons_of_mem _ hp), fun d b e p hp => o.dis d b e p (List.mem_cons_of_mem _ hp)⟩
theorem Wd.le_more {W : Wd} {q : Addr × HO} {H H' : Hp} (l : W.le H H') : (W.add q).le H H' := fun a o r e => l a o (fun z => r (by
  rcases z with z | z
  · exact .inl z
  · exact .inr (List.mem_cons_of_mem _ z))) e
theorem Wd.le_own {W : Wd} {p : Addr} {xs : HO} {ob : HO} {H : Hp} : (W.add (p, xs)).le H (upd H p ob) := fun a o r e => by
  rw [upd_ne fun z => r (.inr (by rw [z]; exact List.mem_cons_self))]
  exact e
theorem EnvAt.ext {W W' : Wd} {H : Hp} {σ : L2.St} {ρ : Env'} (hr : ∀ a, W'.rs a → ¬ W.rs a → H a = none) (hd : W'.dk = W.dk) (h : EnvAt K W H σ ρ) : EnvAt K W' H σ ρ := ⟨h.1, fun i d e => let ⟨v, e', a⟩ := h.2 i d e; ⟨v, e', At.ext hr hd d a⟩⟩
theorem EnvAt.lk {W : Wd} {H H' : Hp} {σ : L2.St} {ρ : Env'} (h : EnvAt K W H σ ρ) (o : W.lk H) (l : W.le H H') : EnvAt K W H' σ ρ := ⟨h.1, fun i d e => let ⟨v, e', a⟩ := h.2 i d e; ⟨v, e', At.lk o l d a⟩⟩
theorem Wd.rs_new {W : Wd} {p : Addr} {xs : HO} {H : Hp} (hp : H p = none) : ∀ a, (W.add (p, xs)).rs a → ¬ W.rs a → H a = none := fun a z r => by
  rcases z with z | z
  · exact absurd (.inl z) r
  · rcases List.mem_cons.mp z with z | z
    · have z' : a = p := z
      rw [z']
      exact hp
    · exact absurd (.inr z) r
instance {wi : TI} {g : TG} {tt : TT} {te : TE} {vs : List Nat} {I : AI} {G : D → Option (List (Nat × D))} {c : AT} {e : AE} [DI K wi I] [DG K g G] [DT K tt c] [DE K te e] : DE K (tLc wi g tt te vs) (aLc I G c e vs) := ⟨fun W σ ρ n H Q Qa hQ hE o h => by
  refine DI.run (wi := wi) (f := I) W σ ρ n H _ _ (fun ds n1 h1 J H1 l1 o1 hw Dl hDl => ?_) hE o h
  obtain ⟨hlen, h1⟩ := h1
  have nrs : ¬ W.rs Dl := o1.fresh hDl
  refine ⟨fun i m H' => m = ds.length - i ∧ i ≤ ds.length ∧ ∃ n' us acc, aLcGo vs G c e (wipeA ρ vs) Qa acc (ds.drop i) n' ∧ (W.add (Dl, .lst us)).ok K n' H' ∧ AtAll K (W.add (Dl, .lst us)) H' us acc ∧ W.le H1 H' ∧ us.length ≤ i, ⟨_, rfl, Nat.zero_le _, n1, [], [], h1, Wd.ok_put trivial nrs (.inl hDl) o1, .nil, Wd.le_same (same_upd hDl), Nat.le_refl _⟩, ?_⟩
  rintro i m H2 ⟨rfl, hi, n2, us, acc, h2, o2, a2, l2, hul⟩
  have rn := Wd.rs_new (W := W) (xs := .lst us) hDl
  obtain ⟨w1, w2⟩ := hw (W.add (Dl, .lst us)) rn rfl H2 n2 (Wd.le_more l2) o2 i
  by_cases hlt : i < ds.length
  · rw [List.drop_eq_getElem_cons hlt] at h2
    obtain ⟨hgo, hy⟩ := w1 ds[i] (List.getElem?_eq_getElem hlt)
    refine .inr ⟨hgo, fun H' => ∃ m', m' < ds.length - i ∧ m' = ds.length - (i + 1) ∧ i + 1 ≤ ds.length ∧ ∃ n' us acc, aLcGo vs G c e (wipeA ρ vs) Qa acc (ds.drop (i + 1)) n' ∧ (W.add (Dl, .lst us)).ok K n' H' ∧ AtAll K (W.add (Dl, .lst us)) H' us acc ∧ W.le H1 H' ∧ us.length ≤ i + 1, fun H' q => q, fun x H3 hx => ?_⟩
    obtain ⟨s3, a3⟩ := hy x H3 hx
    have l3 : (W.add (Dl, .lst us)).le H2 H3 := Wd.le_same s3
    have o3 := o2.same s3
    have hE3 : EnvAt K (W.add (Dl, .lst us)) H3 (wipe σ vs) (wipeA ρ vs) := (((hE.le o l1).ext rn rfl).lk (o1.lk' rn) ((Wd.le_more l2).trans l3)).wipe vs
    unfold aLcGo aPutC at h2
    split at h2
    · rename_i xs ex
      split at h2
      · rename_i hc
        refine DG.run (g := g) (f := G) _ (wipe σ vs) H3 x _ xs _ a3 ex fun zs hz => ?_
        have hE4 := hE3.setAll hz
        have hv : ∀ z ∈ zs, z.1 ∈ vs := upd_slots hz fun u hu => List.contains_iff_mem.mp (List.all_eq_true.mp hc u hu)
        refine ⟨by rw [wipe_setAll hv, wipe_wipe], DT.run (te := tt) (f := c) _ _ _ n2 H3 _ _ (fun b n5 h5 H5 l5 o5 => ?_) hE4 o3 h2⟩
        have l25 := l3.trans l5
        cases b with
        | true =>
          rw [if_pos rfl]
          refine DE.run (te := te) (f := e) _ _ _ n5 H5 _ _ (fun y n6 h6 H6 v l6 o6 a6 => ?_) (hE4.le o3 l5) o5 (h5.1 rfl)
          have hD6 : H6 Dl = some (.lst us) := (o6.owns (Dl, .lst us) List.mem_cons_self).1
          have l26 := l25.trans l6
          refine ⟨us, hD6, Nat.lt_of_lt_of_le (show us.length < 1000000 by omega) lim, _, by omega, rfl, hlt, n6, us ++ [v], acc ++ [y], h6, Wd.ok_put trivial nrs (.inr ⟨_, hD6⟩) o6.drop, ?_, Wd.le_add hDl l2 (l26.trans (Wd.le_own (ob := .lst (us ++ [v])))), by rw [List.length_append, List.length_singleton]; omega⟩
          have key : AtAll K (W.add (Dl, .lst us)) H6 (us ++ [v]) (acc ++ [y]) := (AtAll.le o2 l26 _ a2).append (.cons a6 .nil)
          exact AtAll.weak (W := W.add (Dl, .lst us)) (W' := W.add (Dl, .lst (us ++ [v]))) (fun a z => z) rfl _ (AtAll.le o6 (Wd.le_own (ob := .lst (us ++ [v]))) _ key)
        | false =>
          rw [if_neg Bool.false_ne_true]
          exact ⟨_, by omega, rfl, hlt, n5, us, acc, h5.2 rfl, o5, AtAll.le o2 l25 _ a2, Wd.le_add hDl l2 l25, by omega⟩
      · exact h2.elim
    · exact h2.elim
  · have ei : i = ds.length := by omega
    subst ei
    rw [List.drop_length] at h2
    have hD2 : H2 Dl = some (.lst us) := (o2.owns (Dl, .lst us) List.mem_cons_self).1
    exact .inl ⟨w2 (Nat.le_refl _), hQ _ _ h2 H2 _ (l1.trans l2) o2.drop (.lst nrs hD2 (AtAll.weak (fun a z => Wd.rs_add z) rfl _ a2))⟩⟩
/-! reversed copies -/
def tRevK (K : PySem.W.Frag) (te : TE) : TE := tRevL K te
theorem k_rev {X : Cx} {e : Expr} {te : TE} {k : Nat} {p1 p2 p3 pos : Pos} (hK : X.K = K) (he : PE X e te) : PE X (.Subscript e (.Slice none none (some (.UnaryOp .USub (.Constant (.int 1) k p1) p2)) p3) pos) (tRevK K te) := hK ▸ pe_revL he
def aRev (f : AE) : AE := fun ρ n Q => f ρ n fun d n1 => match d with
  | .lst ds => Q (.lst ds.reverse) n1
  | _ => False
instance {te : TE} {f : AE} [DE K te f] : DE K (tRevK K te) (aRev f) := ⟨fun W σ ρ n H Q Qa hQ hE o h =>
  DE.run (te := te) (f := f) W σ ρ n H _ _ (fun d n1 h1 H1 x l1 o1 ax => by
    split at h1
    · cases ax with
      | lst r s a => exact ⟨_, _, rfl, SqL.of s, fun p hp => (hQ.le l1).new o1 h1 hp (.lst (o1.fresh hp) upd_same (AtAll.le o1 (Wd.le_same (same_upd hp)) _ (rev_at a)))⟩
    · exact h1.elim) hE o h⟩
end

/-! ### the mirror, fifth part: statements, defs -/
section
variable {K : PySem.W.Frag}
/-! ### statements: lists (and dicts) that a def builds, at the slots ow -/
def Wd.plus (W : Wd) (U : List (Addr × HO)) : Wd := { W with own := U ++ W.own }
inductive OwAt (K : PySem.W.Frag) (W : Wd) (H : Hp) : HO → D → Prop
  | lst {us : List V} {ds : List D} : AtAll K W H us ds → OwAt K W H (.lst us) (.lst ds)
  | dic {ks : List Key} {us : List V} {ds : List D} : ks.length = us.length → AtAll K W H us ds → OwAt K W H (.dK (ks.zip us)) (.dic ks ds)
structure SOk (K : PySem.W.Frag) (W : Wd) (ow : List Nat) (n : Nat) (H : Hp) (σ : L2.St) (ρ : Env') (U : List (Addr × HO)) : Prop where
  nd : (U.map (·.1)).Nodup
  nr : ∀ u ∈ U, ¬ W.rs u.1
  ok : (W.plus U).ok K n H
  len : σ.length = ρ.length
  env : ∀ i d, i ∉ ow → eGet ρ i = some d → ∃ v, σ[i]? = some (some v) ∧ At K (W.plus U) H v d
  own : ∀ i d, i ∈ ow → eGet ρ i = some d → ∃ u ∈ U, σ[i]? = some (some (.ref u.1)) ∧ OwAt K (W.plus U) H u.2 d
  dst : ∀ i j p, i ∈ ow → j ∈ ow → i ≠ j → σ[i]? = some (some (.ref p)) → σ[j]? = some (some (.ref p)) → eGet ρ i = none ∨ eGet ρ j = none
structure Stp (W : Wd) (U : List (Addr × HO)) (H : Hp) (U' : List (Addr × HO)) (H' : Hp) : Prop where
  le : (W.plus U).le H H'
  new : ∀ a, (W.plus U').rs a → ¬ (W.plus U).rs a → H a = none
  old : ∀ a, (W.plus U).rs a → (W.plus U').rs a
theorem Stp.refl {W : Wd} {U : List (Addr × HO)} {H : Hp} : Stp W U H U H := ⟨Wd.le_refl, fun a h g => absurd h g, fun a h => h⟩
theorem Stp.trans {W : Wd} {U U1 U2 : List (Addr × HO)} {H H1 H2 : Hp} (s : Stp W U H U1 H1) (t : Stp W U1 H1 U2 H2) : Stp W U H U2 H2 := by
  have key : ∀ a o, ¬ (W.plus U).rs a → H a = some o → ¬ (W.plus U1).rs a := fun a o r e z => by
    rw [s.new a z r] at e
    cases e
  refine ⟨fun a o r e => t.le a o (key a o r e) (s.le a o r e), fun a z r => ?_, fun a h => t.old a (s.old a h)⟩
  by_cases h1 : (W.plus U1).rs a
  · exact s.new a h1 r
  · have h2 := t.new a z h1
    cases e : H a with
    | none => rfl
    | some o =>
      rw [s.le a o r e] at h2
      cases h2
theorem Wd.rs_plus {W : Wd} {U : List (Addr × HO)} {a : Addr} : (W.plus U).rs a ↔ a ∈ U.map (·.1) ∨ W.rs a := by
  constructor
  · rintro (h | h)
    · exact .inr (.inl h)
    · have h' : a ∈ (U ++ W.own).map (·.1) := h
      rw [List.map_append] at h'
      rcases List.mem_append.mp h' with h | h
      · exact .inl h
      · exact .inr (.inr h)
  · rintro (h | h | h)
    · refine .inr (show a ∈ (U ++ W.own).map (·.1) from ?_)
      rw [List.map_append]
      exact List.mem_append_left _ h
    · exact .inl h
    · refine .inr (show a ∈ (U ++ W.own).map (·.1) from ?_)
      rw [List.map_append]
      exact List.mem_append_right _ h
section
variable {W : Wd} {ow : List Nat} {n : Nat} {H H1 : Hp} {σ : L2.St} {ρ : Env'} {U : List (Addr × HO)}
theorem wipeA_get : ∀ {ow : List Nat} {i : Nat} {d : D}, eGet (wipeA ρ ow) i = some d → i ∉ ow ∧ eGet ρ i = some d
  | [], i, d, h => ⟨fun z => (by cases z), h⟩
  | w :: ow, i, d, h => by
    have h' : eGet (eSet (wipeA ρ ow) w none) i = some d := h
    by_cases e : w = i
    · subst e
      cases (eGet_set h').2
    · rw [eGet_ne e] at h'
      obtain ⟨h1, h2⟩ := wipeA_get h'
      exact ⟨fun z => (List.mem_cons.mp z).elim (fun q => e q.symm) h1, h2⟩
theorem wipeA_length : ∀ ow : List Nat, (wipeA ρ ow).length = ρ.length
  | [] => rfl
  | w :: ow => by
    show (eSet (wipeA ρ ow) w none).length = _
    rw [eSet_length, wipeA_length ow]
/-- the lists that are built hidden -/
theorem SOk.hid (s : SOk K W ow n H σ ρ U) : EnvAt K (W.plus U) H σ (wipeA ρ ow) := ⟨by rw [wipeA_length]; exact s.len, fun i d e => let ⟨h1, h2⟩ := wipeA_get e; s.env i d h1 h2⟩
theorem SOk.base (s : SOk K W ow n H σ ρ U) : W.ok K n H := ⟨s.ok.deck, fun p hp => s.ok.owns p (List.mem_append_right _ hp), fun d b e p hp => s.ok.dis d b e p (List.mem_append_right _ hp)⟩
/-- .. as plain lists -/
theorem SOk.opn (s : SOk K W ow n H σ ρ U) : EnvAt K W H σ ρ := by
  have hw : ∀ a, W.rs a → (W.plus U).rs a := fun a h => Wd.rs_plus.mpr (.inr h)
  refine ⟨s.len, fun i d e => ?_⟩
  by_cases hi : i ∈ ow
  · obtain ⟨⟨q, ob⟩, hu, e1, a⟩ := s.own i d hi e
    refine ⟨_, e1, ?_⟩
    have h1 := (s.ok.owns _ (List.mem_append_left _ hu)).1
    cases a with
    | lst a => exact .lst (s.nr _ hu) h1 (AtAll.weak hw rfl _ a)
    | dic l a => exact .dic (s.nr _ hu) h1 l (AtAll.weak hw rfl _ a)
  · obtain ⟨v, e1, a⟩ := s.env i d hi e
    exact ⟨v, e1, At.weak hw rfl _ a⟩
theorem OwAt.le {ob : HO} {d : D} (o : W.ok K n H) (l : W.le H H1) (h : OwAt K W H ob d) : OwAt K W H1 ob d := by
  cases h with
  | lst a => exact .lst (AtAll.le o l _ a)
  | dic e a => exact .dic e (AtAll.le o l _ a)
/-- behind what was done with the built ones hidden -/
theorem SOk.le {n1 : Nat} (s : SOk K W ow n H σ ρ U) (l : (W.plus U).le H H1) (o : (W.plus U).ok K n1 H1) : SOk K W ow n1 H1 σ ρ U :=
  ⟨s.nd, s.nr, o, s.len, fun i d h e => let ⟨v, e1, a⟩ := s.env i d h e; ⟨v, e1, At.le s.ok l _ a⟩, fun i d h e => let ⟨u, hu, e1, a⟩ := s.own i d h e; ⟨u, hu, e1, a.le s.ok l⟩, s.dst⟩
/-- behind what was done with them as plain lists -/
theorem SOk.lo {n1 : Nat} (s : SOk K W ow n H σ ρ U) (l : W.le H H1) (o : W.ok K n1 H1) : SOk K W ow n1 H1 σ ρ U := by
  have l' : (W.plus U).le H H1 := fun a ob r e => l a ob (fun z => r (Wd.rs_plus.mpr (.inr z))) e
  refine s.le l' ⟨o.deck, fun p hp => ?_, s.ok.dis⟩
  rcases List.mem_append.mp hp with hp' | hp'
  · obtain ⟨h1, h2⟩ := s.ok.owns p hp
    exact ⟨l _ _ (s.nr p hp') h1, h2⟩
  · exact o.owns p hp'
theorem lo_le (l : W.le H H1) : (W.plus U).le H H1 := fun a ob r e => l a ob (fun z => r (Wd.rs_plus.mpr (.inr z))) e
theorem SOk.set {i : Nat} {v : V} {d : D} (s : SOk K W ow n H σ ρ U) (hi : i ∉ ow) (a : At K (W.plus U) H v d) : SOk K W ow n H (σ.set i (some v)) (eSet ρ i (some d)) U := by
  refine ⟨s.nd, s.nr, s.ok, by rw [List.length_set, eSet_length]; exact s.len, fun j e hj he => ?_, fun j e hj he => ?_, fun j k p hj hk ne h1 h2 => ?_⟩
  · by_cases hij : i = j
    · subst hij
      obtain ⟨hl, he⟩ := eGet_set he
      cases he
      exact ⟨v, by rw [List.getElem?_set_self (by rw [s.len]; exact hl)], a⟩
    · rw [eGet_ne hij] at he
      rw [List.getElem?_set_ne hij]
      exact s.env j e hj he
  · have hij : i ≠ j := fun z => hi (z ▸ hj)
    rw [eGet_ne hij] at he
    rw [List.getElem?_set_ne hij]
    exact s.own j e hj he
  · have hij : i ≠ j := fun z => hi (z ▸ hj)
    have hik : i ≠ k := fun z => hi (z ▸ hk)
    rw [List.getElem?_set_ne hij] at h1
    rw [List.getElem?_set_ne hik] at h2
    rw [eGet_ne hij, eGet_ne hik]
    exact s.dst j k p hj hk ne h1 h2
theorem SOk.setAll : ∀ {zs : List (Nat × V)} {us : List (Nat × D)} {σ : L2.St} {ρ : Env'}, SOk K W ow n H σ ρ U → Upd K (W.plus U) H zs us → (∀ u ∈ us, u.1 ∉ ow) → SOk K W ow n H (R.setAll σ zs) (eSetAll ρ us) U
  | _, _, _, _, s, .nil, _ => s
  | _, _, _, _, s, .cons (a := (i, v)) (b := (j, d)) ⟨e, a⟩ r, h => by
    cases (show i = j from e)
    have := SOk.setAll (s.set (h _ List.mem_cons_self) a) r fun u hu => h u (List.mem_cons_of_mem _ hu)
    exact this
end
structure AEn where
  nx : Env' → Nat → Prop
  rt : D → Nat → Prop
  bk : Env' → Nat → Prop := fun _ _ => False
  ct : Env' → Nat → Prop := fun _ _ => False
  ex : Env' → Addr → List Str → List D → Nat → Prop := fun _ _ _ _ _ => False
/-- an error's fields: its dict at d -/
def XdAt (K : PySem.W.Frag) (W : Wd) (H : Hp) (d : Option Addr) (ns : List Str) (ds : List D) : Prop := At K W H (.ref 0) (.xcp 0 0 d ns ds)
theorem XdAt.any {K : PySem.W.Frag} {W : Wd} {H : Hp} {d : Option Addr} {ns : List Str} {ds : List D} (h : XdAt K W H d ns ds) (a C : Addr) : At K W H (.ref a) (.xcp a C d ns ds) := by
  unfold XdAt at h
  cases h with
  | xcp0 => exact .xcp0
  | xcp1 s e b => exact .xcp1 s e b
def W0 : WX := fun _ _ _ _ => False
/-- what is wanted of an error that is raised: as behind a statement, the error's fields at d -/
def WantsX (K : PySem.W.Frag) (W : Wd) (ow : List Nat) (U : List (Addr × HO)) (H : Hp) (Xa : Env' → Addr → List Str → List D → Nat → Prop) (Wx : WX) : Prop :=
  ∀ ρ' C ns ds n', Xa ρ' C ns ds n' → ∀ U' σ' H' d, Stp W U H U' H' → SOk K W ow n' H' σ' ρ' U' → XdAt K (W.plus U') H' d ns ds → Wx (.ref C) d σ' H'
theorem WantsX.le {W : Wd} {ow : List Nat} {U U1 : List (Addr × HO)} {H H1 : Hp} {Xa : Env' → Addr → List Str → List D → Nat → Prop} {Wx : WX} (h : WantsX K W ow U H Xa Wx) (s : Stp W U H U1 H1) : WantsX K W ow U1 H1 Xa Wx := fun ρ' C ns ds n' q U' σ' H' d l' a x => h ρ' C ns ds n' q U' σ' H' d (s.trans l') a x
def WantsE (K : PySem.W.Frag) (W : Wd) (ow : List Nat) (U : List (Addr × HO)) (H : Hp) (Qa : Env' → Nat → Prop) (Q : L2.St → Hp → Prop) : Prop :=
  ∀ ρ' n', Qa ρ' n' → ∀ U' σ' H', Stp W U H U' H' → SOk K W ow n' H' σ' ρ' U' → Q σ' H'
theorem WantsE.le {W : Wd} {ow : List Nat} {U U1 : List (Addr × HO)} {H H1 : Hp} {Qa : Env' → Nat → Prop} {Q : L2.St → Hp → Prop} (h : WantsE K W ow U H Qa Q) (s : Stp W U H U1 H1) : WantsE K W ow U1 H1 Qa Q := fun ρ' n' q U' σ' H' l' a => h ρ' n' q U' σ' H' (s.trans l') a
/-- what is wanted of what is told: the built ones are plain lists then -/
def WantsR (K : PySem.W.Frag) (W : Wd) (U : List (Addr × HO)) (H : Hp) (Qa : D → Nat → Prop) (Q : VK) : Prop := ∀ d n', Qa d n' → ∀ U1 H1 H' v, Stp W U H U1 H1 → W.le H1 H' → W.ok K n' H' → At K W H' v d → Q v H'
theorem WantsR.le {W : Wd} {U U1 : List (Addr × HO)} {H H1 : Hp} {Qa : D → Nat → Prop} {Q : VK} (h : WantsR K W U H Qa Q) (s : Stp W U H U1 H1) : WantsR K W U1 H1 Qa Q := fun d n' q U' H' H2 v l' l2 o a => h d n' q U' H' H2 v (s.trans l') l2 o a
structure EndsOk (K : PySem.W.Frag) (Wx : WX) (W : Wd) (ow : List Nat) (U : List (Addr × HO)) (H : Hp) (Ea : AEn) (E : Ends) : Prop where
  nx : WantsE K W ow U H Ea.nx E.nx
  rt : WantsR K W U H Ea.rt E.rt
  bk : WantsE K W ow U H Ea.bk E.bk
  ct : WantsE K W ow U H Ea.ct E.ct
  ex : WantsX K W ow U H Ea.ex Wx
theorem EndsOk.le {Wx : WX} {W : Wd} {ow : List Nat} {U U1 : List (Addr × HO)} {H H1 : Hp} {Ea : AEn} {E : Ends} (h : EndsOk K Wx W ow U H Ea E) (l : Stp W U H U1 H1) : EndsOk K Wx W ow U1 H1 Ea E := ⟨h.nx.le l, h.rt.le l, h.bk.le l, h.ct.le l, h.ex.le l⟩
abbrev AS := AEn → Env' → Nat → Prop
class DS (K : PySem.W.Frag) (Wx : WX) (ow : List Nat) (t : TS) (f : outParam AS) : Prop where
  run : ∀ (W : Wd) (U : List (Addr × HO)) (σ : L2.St) (ρ : Env') (n : Nat) (H : Hp) (E : Ends) (Ea : AEn), EndsOk K Wx W ow U H Ea E → SOk K W ow n H σ ρ U → f Ea ρ n → t E σ H
variable {ow : List Nat} {Wx : WX}
def aNext : AS := fun E ρ n => E.nx ρ n
def aSeq (f g : AS) : AS := fun E ρ n => f { E with nx := fun ρ' n' => g E ρ' n' } ρ n
instance : DS K Wx ow tNext aNext := ⟨fun W U σ ρ n H E Ea hD s h => hD.nx _ _ h U σ H Stp.refl s⟩
instance {t u : TS} {f g : AS} [DS K Wx ow t f] [DS K Wx ow u g] : DS K Wx ow (tSeq t u) (aSeq f g) := ⟨fun W U σ ρ n H E Ea hD s h =>
  DS.run (ow := ow) (t := t) (f := f) W U σ ρ n H _ { Ea with nx := fun ρ' n' => g Ea ρ' n' } ⟨fun ρ1 n1 h1 U1 σ1 H1 l1 s1 => DS.run (ow := ow) (t := u) (f := g) W U1 σ1 ρ1 n1 H1 E Ea (hD.le l1) s1 h1, hD.rt, hD.bk, hD.ct, hD.ex⟩ s h⟩
instance : DS K Wx ow tNever (fun _ _ _ => False) := ⟨fun W U σ ρ n H E Ea hD s h => h⟩
def aBrk : AS := fun E ρ n => E.bk ρ n
def aCnt : AS := fun E ρ n => E.ct ρ n
instance : DS K Wx ow tBreak aBrk := ⟨fun W U σ ρ n H E Ea hD s h => hD.bk _ _ h U σ H Stp.refl s⟩
instance : DS K Wx ow tCont aCnt := ⟨fun W U σ ρ n H E Ea hD s h => hD.ct _ _ h U σ H Stp.refl s⟩
theorem Stp.hid {W : Wd} {U : List (Addr × HO)} {H H1 : Hp} (l : (W.plus U).le H H1) : Stp W U H U H1 := ⟨l, fun a h g => absurd h g, fun a h => h⟩
def aDrop (ow : List Nat) (f : AE) : AS := fun E ρ n => f (wipeA ρ ow) n fun _ n1 => E.nx ρ n1
instance {te : TE} {f : AE} [DE K te f] : DS K Wx ow (tDrop te) (aDrop ow f) := ⟨fun W U σ ρ n H E Ea hD s h =>
  DE.run (te := te) (f := f) (W.plus U) σ _ n H _ _ (fun d n1 h1 H1 x l1 o1 ax => hD.nx _ _ h1 U σ H1 (.hid l1) (s.le l1 o1)) s.hid s.ok h⟩
def aRet (f : AE) : AS := fun E ρ n => f ρ n E.rt
instance {te : TE} {f : AE} [DE K te f] : DS K Wx ow (tRet te) (aRet f) := ⟨fun W U σ ρ n H E Ea hD s h => DE.run (te := te) (f := f) W σ ρ n H _ _ (fun d n1 h1 H1 x l1 o1 ax => hD.rt d n1 h1 U H H1 x Stp.refl l1 o1 ax) s.opn s.base h⟩
def aRetN : AS := fun E _ n => E.rt .non n
instance : DS K Wx ow tRetN aRetN := ⟨fun W U σ ρ n H E Ea hD s h => hD.rt _ _ h U H H _ Stp.refl Wd.le_refl s.base .non⟩
def aIfS (c : AT) (f g : AS) : AS := fun E ρ n => c ρ n fun b n1 => aIte b (f E ρ n1) (g E ρ n1)
instance {tc : TT} {t u : TS} {c : AT} {f g : AS} [DT K tc c] [DS K Wx ow t f] [DS K Wx ow u g] : DS K Wx ow (tIfS tc t u) (aIfS c f g) := ⟨fun W U σ ρ n H E Ea hD s h =>
  DT.run (te := tc) (f := c) W σ ρ n H _ _ (fun b n1 h1 H1 l1 o1 => by
    have st : Stp W U H U H1 := .hid (lo_le l1)
    cases b with
    | true => rw [if_pos rfl]; exact DS.run (ow := ow) (t := t) (f := f) W U σ ρ n1 H1 E Ea (hD.le st) (s.lo l1 o1) (h1.1 rfl)
    | false => rw [if_neg Bool.false_ne_true]; exact DS.run (ow := ow) (t := u) (f := g) W U σ ρ n1 H1 E Ea (hD.le st) (s.lo l1 o1) (h1.2 rfl)) s.opn s.base h⟩
/-- what a target stores -/
def aPut (ow : List Nat) (g : D → Option (List (Nat × D))) (d : D) (ρ : Env') (Q : Env' → Prop) : Prop := match g d with
  | some us => (match us.all fun u => !ow.contains u.1 with
    | true => Q (eSetAll ρ us)
    | false => False)
  | none => False
def aAsg (ow : List Nat) (f : AE) (g : D → Option (List (Nat × D))) : AS := fun E ρ n => f (wipeA ρ ow) n fun d n1 => aPut ow g d ρ fun ρ' => E.nx ρ' n1
theorem put_run {W : Wd} {U : List (Addr × HO)} {g : TG} {a : D → Option (List (Nat × D))} [DG K g a] {σ : L2.St} {ρ : Env'} {n : Nat} {H : Hp} {v : V} {d : D} {Qa : Env' → Prop} {Q : L2.St → Hp → Prop} (s : SOk K W ow n H σ ρ U) (ax : At K (W.plus U) H v d) (h : aPut ow a d ρ Qa)
    (hQ : ∀ ρ' σ', Qa ρ' → SOk K W ow n H σ' ρ' U → Q σ' H) : g v σ H Q := by
  unfold aPut at h
  split at h
  · rename_i us e
    split at h
    · rename_i hc
      refine DG.run (g := g) (f := a) (W.plus U) σ H v d us Q ax e fun zs hz => hQ _ _ h (s.setAll hz fun u hu hin => ?_)
      have := List.all_eq_true.mp hc u hu
      rw [List.contains_iff_mem.mpr hin] at this
      cases this
    · exact h.elim
  · exact h.elim
instance {te : TE} {g : TG} {f : AE} {a : D → Option (List (Nat × D))} [DE K te f] [DG K g a] : DS K Wx ow (tAsg te g) (aAsg ow f a) := ⟨fun W U σ ρ n H E Ea hD s h =>
  DE.run (te := te) (f := f) (W.plus U) σ _ n H _ _ (fun d n1 h1 H1 x l1 o1 ax => put_run (g := g) (a := a) (s.le l1 o1) ax h1 fun ρ' σ' q s' => hD.nx _ _ q U σ' H1 (.hid l1) s') s.hid s.ok h⟩
/-- a scalar that is reckoned of the built lists too -/
def tOpen (te : TE) : TE := te
mutual
def D.sc : D → Bool
  | .non => true | .bl _ => true | .int _ => true | .str _ => true | .tup ds => scAll ds
  | _ => false
def scAll : List D → Bool
  | [] => true
  | d :: ds => d.sc && scAll ds
end
mutual
theorem sc_at' {W W' : Wd} {H : Hp} : ∀ (d : D) {v : V}, d.sc = true → At K W H v d → At K W' H v d
  | .non, _, _, h => by cases h; exact .non
  | .bl b, _, _, h => by cases h; exact .bl b
  | .int i, _, _, h => by cases h; exact .int i
  | .str x, _, _, h => by cases h; exact .str x
  | .ty t, _, e, _ => Bool.noConfusion e
  | .cls a, _, e, _ => Bool.noConfusion e
  | .tup ds, _, e, h => by
    cases h with
    | tup s a => exact .tup s (scAll_at ds e a)
  | .lst ds, _, e, _ => Bool.noConfusion e
  | .dic ks ds, _, e, _ => Bool.noConfusion e
  | .ins C ns ds, _, e, _ => Bool.noConfusion e
  | .deck, _, e, _ => Bool.noConfusion e
  | .scr _, _, e, _ => Bool.noConfusion e
  | .xcp _ _ _ _ _, _, e, _ => Bool.noConfusion e
theorem scAll_at {W W' : Wd} {H : Hp} : ∀ (ds : List D) {vs : List V}, scAll ds = true → AtAll K W H vs ds → AtAll K W' H vs ds
  | [], _, _, h => by cases h; exact .nil
  | d :: ds, _, e, h => by
    have e' : (d.sc && scAll ds) = true := e
    rw [Bool.and_eq_true] at e'
    cases h with
    | cons a r => exact .cons (sc_at' d e'.1 a) (scAll_at ds e'.2 r)
end
theorem sc_at {W W' : Wd} {H : Hp} {v : V} {d : D} (h : d.sc = true) (a : At K W H v d) : At K W' H v d := sc_at' d h a
def aAsgO (ow : List Nat) (f : AE) (g : D → Option (List (Nat × D))) : AS := fun E ρ n => f ρ n fun d n1 => match d.sc with
  | true => aPut ow g d ρ fun ρ' => E.nx ρ' n1
  | false => False
instance (priority := 1100) {te : TE} {g : TG} {f : AE} {a : D → Option (List (Nat × D))} [DE K te f] [DG K g a] : DS K Wx ow (tAsg (tOpen te) g) (aAsgO ow f a) := ⟨fun W U σ ρ n H E Ea hD s h =>
  DE.run (te := te) (f := f) W σ ρ n H _ _ (fun d n1 h1 H1 x l1 o1 ax => by
    split at h1
    · rename_i hs
      exact put_run (g := g) (a := a) (s.lo l1 o1) (sc_at hs ax) h1 fun ρ' σ' q s' => hD.nx _ _ q U σ' H1 (.hid (lo_le l1)) s'
    · exact h1.elim) s.opn s.base h⟩
theorem k_open {X : Cx} {e : Expr} {te : TE} (h : PE X e te) : PE X e (tOpen te) := h
def aPar (ow : List Nat) (i j : Nat) (g : AA) : AS := fun E ρ n => g (wipeA ρ ow) n fun ds n1 => match ds, ow.contains i || ow.contains j with
  | [d, e], false => E.nx (eSet (eSet ρ i (some d)) j (some e)) n1
  | _, _ => False
instance {i j : Nat} {ta : TA} {g : AA} [DA K ta g] : DS K Wx ow (tPar i j ta) (aPar ow i j g) := ⟨fun W U σ ρ n H E Ea hD s h =>
  DA.run (te := ta) (f := g) (W.plus U) σ _ n H _ _ (fun ds n1 h1 H1 vs l1 o1 ax => by
    split at h1
    · rename_i hc
      rw [Bool.or_eq_false_iff] at hc
      cases ax with
      | cons a r =>
        cases r with
        | cons b r =>
          cases r
          refine ⟨_, _, rfl, hD.nx _ _ h1 U _ H1 (.hid l1) (((s.le l1 o1).set (fun z => ?_) a).set (fun z => ?_) b)⟩
          · rw [List.contains_iff_mem.mpr z] at hc
            cases hc.1
          · rw [List.contains_iff_mem.mpr z] at hc
            cases hc.2
    · exact h1.elim) s.hid s.ok h⟩
def aAug (ow : List Nat) (i : Nat) (f : AE) (r : D → D → Nat → (D → Nat → Prop) → Prop) : AS := fun E ρ n => match eGet ρ i, ow.contains i with
  | some d, false => f (wipeA ρ ow) n fun e n1 => r d e n1 fun x n2 => E.nx (eSet ρ i (some x)) n2
  | _, _ => False
instance {i : Nat} {te : TE} {ti : TIp} {f : AE} {r : D → D → Nat → (D → Nat → Prop) → Prop} [DE K te f] [D2 K ti r] : DS K Wx ow (tAug i te ti) (aAug ow i f r) := ⟨fun W U σ ρ n H E Ea hD s h => by
  unfold aAug at h
  split at h
  · rename_i d e hc
    have hi : i ∉ ow := fun z => by rw [List.contains_iff_mem.mpr z] at hc; cases hc
    obtain ⟨v, e', a⟩ := s.env i d hi e
    refine ⟨v, e', DE.run (te := te) (f := f) (W.plus U) σ _ n H _ _ (fun d1 n1 h1 H1 x l1 o1 ax => ?_) s.hid s.ok h⟩
    exact D2.run (r := ti) (f := r) (W.plus U) n1 H1 v x d d1 _ _ (fun d2 n2 h2 H2 y l2 o2 ay => hD.nx _ _ h2 U _ H2 (.hid (l1.trans l2)) ((s.le (l1.trans l2) o2).set hi ay)) o1 (At.le s.ok l1 _ a) ax h1
  · exact h.elim⟩
/-! while -/
def aWhile (c : AT) (f : AS) : AS := fun E ρ n => ∃ Wv : Nat → Env' → Nat → Prop, (∃ m, Wv m ρ n) ∧ ∀ m ρ n, Wv m ρ n →
  c ρ n fun b n1 => aIte b (f { E with nx := fun ρ' n' => ∃ m', m' < m ∧ Wv m' ρ' n', ct := fun ρ' n' => ∃ m', m' < m ∧ Wv m' ρ' n', bk := E.nx } ρ n1) (E.nx ρ n1)
instance {tc : TT} {tb : TS} {c : AT} {f : AS} [DT K tc c] [DS K Wx ow tb f] : DS K Wx ow (tWhile tc tb) (aWhile c f) := ⟨fun W U σ ρ n H E Ea hD s h => by
  obtain ⟨Wv, ⟨m, w0⟩, turn⟩ := h
  refine ⟨fun m σ' H' => ∃ ρ' n' U', Wv m ρ' n' ∧ SOk K W ow n' H' σ' ρ' U' ∧ Stp W U H U' H', ⟨m, ρ, n, U, w0, s, Stp.refl⟩, ?_⟩
  rintro m σ1 H1 ⟨ρ1, n1, U1, w1, s1, l1⟩
  refine DT.run (te := tc) (f := c) W σ1 ρ1 n1 H1 _ _ (fun b n2 h2 H2 l2 o2 => ?_) s1.opn s1.base (turn m ρ1 n1 w1)
  have st := l1.trans (.hid (lo_le l2))
  cases b with
  | true =>
    rw [if_pos rfl]
    refine ⟨fun σ' H' => ∃ m', m' < m ∧ ∃ ρ' n' U', Wv m' ρ' n' ∧ SOk K W ow n' H' σ' ρ' U' ∧ Stp W U H U' H', fun σ' H' q => q, ?_⟩
    have again : WantsE K W ow U1 H2 (fun ρ' n' => ∃ m', m' < m ∧ Wv m' ρ' n') fun σ' H' => ∃ m', m' < m ∧ ∃ ρ' n' U', Wv m' ρ' n' ∧ SOk K W ow n' H' σ' ρ' U' ∧ Stp W U H U' H' := fun ρ' n' ⟨m', lt, wv⟩ U' σ' H' l' s' => ⟨m', lt, ρ', n', U', wv, s', st.trans l'⟩
    exact DS.run (ow := ow) (t := tb) (f := f) W U1 σ1 ρ1 n2 H2 _ { Ea with nx := fun ρ' n' => ∃ m', m' < m ∧ Wv m' ρ' n', ct := fun ρ' n' => ∃ m', m' < m ∧ Wv m' ρ' n', bk := Ea.nx } ⟨again, hD.rt.le st, hD.nx.le st, again, hD.ex.le st⟩ (s1.lo l2 o2) (h2.1 rfl)
  | false =>
    rw [if_neg Bool.false_ne_true]
    exact hD.nx _ _ (h2.2 rfl) U1 σ1 H2 st (s1.lo l2 o2)⟩
/-! for -/
def aForGo (ow : List Nat) (G : D → Option (List (Nat × D))) (f : AS) (E : AEn) : List D → Env' → Nat → Prop
  | [], ρ, n => E.nx ρ n
  | d :: r, ρ, n => aPut ow G d ρ fun ρ1 => f { E with nx := aForGo ow G f E r, ct := aForGo ow G f E r, bk := E.nx } ρ1 n
def aFor (ow : List Nat) (I : AI) (G : D → Option (List (Nat × D))) (f : AS) : AS := fun E ρ n => I (wipeA ρ ow) n fun ds n1 => aForGo ow G f E ds ρ n1
instance {wi : TI} {g : TG} {tb : TS} {I : AI} {G : D → Option (List (Nat × D))} {f : AS} [DI K wi I] [DG K g G] [DS K Wx ow tb f] : DS K Wx ow (tFor wi g tb) (aFor ow I G f) := ⟨fun W U σ ρ n H E Ea hD s h =>
  DI.run (wi := wi) (f := I) (W.plus U) σ _ n H _ _ (fun ds n1 h1 J H1 l1 o1 hw => by
    refine ⟨fun i m σ' H' => m = ds.length - i ∧ i ≤ ds.length ∧ ∃ ρ' n' U', aForGo ow G f Ea (ds.drop i) ρ' n' ∧ SOk K W ow n' H' σ' ρ' U' ∧ Stp W U H1 U' H', ⟨_, rfl, Nat.zero_le _, ρ, n1, U, h1, s.le l1 o1, Stp.refl⟩, ?_⟩
    rintro i m σ2 H2 ⟨rfl, hi, ρ2, n2, U2, h2, s2, l2⟩
    obtain ⟨w1, w2⟩ := hw (W.plus U2) l2.new rfl H2 n2 (fun a o r e => l2.le a o (fun z => r (l2.old a z)) e) s2.ok i
    by_cases hlt : i < ds.length
    · rw [List.drop_eq_getElem_cons hlt] at h2
      obtain ⟨hgo, hy⟩ := w1 ds[i] (List.getElem?_eq_getElem hlt)
      refine .inr ⟨hgo, fun σ' H' => ∃ m', m' < ds.length - i ∧ m' = ds.length - (i + 1) ∧ i + 1 ≤ ds.length ∧ ∃ ρ' n' U', aForGo ow G f Ea (ds.drop (i + 1)) ρ' n' ∧ SOk K W ow n' H' σ' ρ' U' ∧ Stp W U H1 U' H', fun σ' H' q => q, fun x H3 hx => ?_⟩
      obtain ⟨s3, a3⟩ := hy x H3 hx
      have l3 : (W.plus U2).le H2 H3 := Wd.le_same s3
      refine put_run (g := g) (a := G) (s2.le l3 (s2.ok.same s3)) a3 h2 fun ρ4 σ4 h4 s4 => ?_
      have l14 := l2.trans (.hid l3)
      have again : WantsE K W ow U2 H3 (aForGo ow G f Ea (ds.drop (i + 1))) fun σ' H' => ∃ m', m' < ds.length - i ∧ m' = ds.length - (i + 1) ∧ i + 1 ≤ ds.length ∧ ∃ ρ' n' U', aForGo ow G f Ea (ds.drop (i + 1)) ρ' n' ∧ SOk K W ow n' H' σ' ρ' U' ∧ Stp W U H1 U' H' :=
        fun ρ' n' q U' σ' H' l' s' => ⟨_, by omega, rfl, hlt, ρ', n', U', q, s', l14.trans l'⟩
      have lt := (Stp.hid l1).trans l14
      exact DS.run (ow := ow) (t := tb) (f := f) W U2 σ4 ρ4 n2 H3 _ { Ea with nx := aForGo ow G f Ea (ds.drop (i + 1)), ct := aForGo ow G f Ea (ds.drop (i + 1)), bk := Ea.nx } ⟨again, hD.rt.le lt, hD.nx.le lt, again, hD.ex.le lt⟩ s4 h4
    · have e : i = ds.length := by omega
      subst e
      rw [List.drop_length] at h2
      exact .inl ⟨w2 (Nat.le_refl _), hD.nx _ _ h2 U2 σ2 H2 ((Stp.hid l1).trans l2) s2⟩) s.hid s.ok h⟩
/-! a list is begun, a thing is put at its end -/
def tOwnL (i : Nat) (ta : TA) : TS := tAsg (tLst ta) (gName i)
theorem k_own {X : Cx} {st : Stmt} {i : Nat} {ta : TA} (h : PS X st (tAsg (tLst ta) (gName i))) : PS X st (tOwnL i ta) := h
def aOwnL (ow : List Nat) (i : Nat) (g : AA) : AS := fun E ρ n => g (wipeA ρ ow) n fun ds n1 => match Nat.ble ds.length 1000, ow.contains i with
  | true, true => E.nx (eSet ρ i (some (.lst ds))) n1
  | _, _ => False
theorem SOk.new {W : Wd} {n : Nat} {H : Hp} {σ : L2.St} {ρ : Env'} {U : List (Addr × HO)} {i : Nat} {p : Addr} {us : List V} {ds : List D} (s : SOk K W ow n H σ ρ U) (hi : i ∈ ow) (hp : H p = none) (a : AtAll K (W.plus U) H us ds) :
    Stp W U H ((p, .lst us) :: U) (upd H p (.lst us)) ∧ SOk K W ow n (upd H p (.lst us)) (σ.set i (some (.ref p))) (eSet ρ i (some (.lst ds))) ((p, .lst us) :: U) := by
  have nrs : ¬ (W.plus U).rs p := s.ok.fresh hp
  have rn := Wd.rs_new (W := W.plus U) (xs := .lst us) hp
  have sm : Same H (upd H p (.lst us)) := same_upd hp
  have ho : (W.plus ((p, .lst us) :: U)).ok K n (upd H p (.lst us)) := Wd.ok_put (W := W.plus U) trivial nrs (.inl hp) s.ok
  have lk : (W.plus ((p, .lst us) :: U)).lk H := s.ok.lk' rn
  have le2 : (W.plus ((p, .lst us) :: U)).le H (upd H p (.lst us)) := Wd.le_same sm
  refine ⟨⟨Wd.le_same sm, rn, fun b z => Wd.rs_add z⟩, ⟨?_, ?_, ho, by rw [List.length_set, eSet_length]; exact s.len, ?_, ?_, ?_⟩⟩
  · refine List.nodup_cons.mpr ⟨fun z => nrs (Wd.rs_plus.mpr (.inl z)), s.nd⟩
  · intro u hu
    rcases List.mem_cons.mp hu with rfl | hu
    · exact fun z => nrs (Wd.rs_plus.mpr (.inr z))
    · exact s.nr u hu
  · intro j d hj he
    have hij : i ≠ j := fun z => hj (z ▸ hi)
    rw [eGet_ne hij] at he
    rw [List.getElem?_set_ne hij]
    obtain ⟨v, e1, a1⟩ := s.env j d hj he
    exact ⟨v, e1, At.lk lk le2 _ (At.ext rn rfl _ a1)⟩
  · intro j d hj he
    by_cases hij : i = j
    · subst hij
      obtain ⟨hl, he⟩ := eGet_set he
      cases he
      exact ⟨(p, .lst us), List.mem_cons_self, by rw [List.getElem?_set_self (by rw [s.len]; exact hl)], .lst (AtAll.lk lk le2 _ (AtAll.ext rn rfl _ a))⟩
    · rw [eGet_ne hij] at he
      rw [List.getElem?_set_ne hij]
      obtain ⟨⟨q, ob⟩, hu, e1, a1⟩ := s.own j d hj he
      refine ⟨_, List.mem_cons_of_mem _ hu, e1, ?_⟩
      cases a1 with
      | lst a1 => exact .lst (AtAll.lk lk le2 _ (AtAll.ext rn rfl _ a1))
      | dic l a1 => exact .dic l (AtAll.lk lk le2 _ (AtAll.ext rn rfl _ a1))
  · intro j k q hj hk ne h1 h2
    have fr : ∀ m, m ∈ ow → i ≠ m → σ[m]? = some (some (.ref p)) → eGet ρ m = none := fun m hm _ hσ => by
      cases e : eGet ρ m with
      | none => rfl
      | some d =>
        obtain ⟨u, hu, e1, _⟩ := s.own m d hm e
        rw [hσ] at e1
        have : p = u.1 := V.ref.inj (Option.some.inj (Option.some.inj e1))
        exact absurd (Wd.rs_plus.mpr (.inl (List.mem_map.mpr ⟨u, hu, this.symm⟩))) nrs
    by_cases hij : i = j
    · subst hij
      rw [List.getElem?_set_ne ne] at h2
      by_cases hl : i < σ.length
      · rw [List.getElem?_set_self hl] at h1
        cases h1
        rw [eGet_ne ne]
        exact .inr (fr k hk ne h2)
      · rw [List.getElem?_eq_none (by rw [List.length_set]; omega)] at h1
        cases h1
    · rw [List.getElem?_set_ne hij] at h1
      rw [eGet_ne hij]
      by_cases hik : i = k
      · subst hik
        by_cases hl : i < σ.length
        · rw [List.getElem?_set_self hl] at h2
          cases h2
          exact .inl (fr j hj hij h1)
        · rw [List.getElem?_eq_none (by rw [List.length_set]; omega)] at h2
          cases h2
      · rw [List.getElem?_set_ne hik] at h2
        rw [eGet_ne hik]
        exact s.dst j k q hj hk ne h1 h2
instance {i : Nat} {ta : TA} {g : AA} [DA K ta g] : DS K Wx ow (tOwnL i ta) (aOwnL ow i g) := ⟨fun W U σ ρ n H E Ea hD s h =>
  DA.run (te := ta) (f := g) (W.plus U) σ _ n H _ _ (fun ds n1 h1 H1 vs l1 o1 ax => by
    split at h1
    · rename_i hb hc
      refine ⟨size63 (by rw [ax.length]; exact Nat.le_of_ble_eq_true hb), fun p hp => ?_⟩
      obtain ⟨st, s2⟩ := (s.le l1 o1).new (List.contains_iff_mem.mp hc) hp ax
      exact hD.nx _ _ h1 _ _ _ ((Stp.hid l1).trans st) s2
    · exact h1.elim) s.hid s.ok h⟩
/-- the contents of one built thing change -/
def putO (U : List (Addr × HO)) (p : Addr) (ob : HO) : List (Addr × HO) := U.map fun u => if u.1 = p then (p, ob) else u
theorem putO_fst (U : List (Addr × HO)) (p : Addr) (ob : HO) : (putO U p ob).map (·.1) = U.map (·.1) := by
  unfold putO
  rw [List.map_map]
  refine List.map_congr_left fun u _ => ?_
  show (if u.1 = p then (p, ob) else u).1 = u.1
  split
  · rename_i e; exact e.symm
  · rfl
theorem SOk.put {W : Wd} {n : Nat} {H : Hp} {σ : L2.St} {ρ : Env'} {U : List (Addr × HO)} {i : Nat} {p : Addr} {ob ob' : HO} {d' : D} (s : SOk K W ow n H σ ρ U) (hi : i ∈ ow) (hl : eGet ρ i ≠ none) (hσ : σ[i]? = some (some (.ref p))) (hU : (p, ob) ∈ U) (hob : ∃ xs, ob = .lst xs) (hm : Mt ob') (a : OwAt K (W.plus U) H ob' d') :
    Stp W U H (putO U p ob') (upd H p ob') ∧ SOk K W ow n (upd H p ob') σ (eSet ρ i (some d')) (putO U p ob') := by
  have hfst := putO_fst U p ob'
  have hrs : ∀ b, (W.plus (putO U p ob')).rs b ↔ (W.plus U).rs b := fun b => by rw [Wd.rs_plus, Wd.rs_plus, hfst]
  have hpr : (W.plus U).rs p := Wd.rs_plus.mpr (.inl (List.mem_map.mpr ⟨_, hU, rfl⟩))
  have le1 : (W.plus U).le H (upd H p ob') := fun b o r e => by
    rw [upd_ne fun z => r (by rw [z]; exact hpr)]
    exact e
  obtain ⟨hp1, _⟩ := s.ok.owns (p, ob) (List.mem_append_left _ hU)
  have npw : ¬ W.rs p := s.nr _ hU
  have hdk : ∀ d b, W.dk = some (d, b) → p ≠ d ∧ p ≠ b := fun d b e => s.ok.dis d b e _ (List.mem_append_left _ hU)
  have ok' : (W.plus (putO U p ob')).ok K n (upd H p ob') := by
    refine ⟨fun d b e => ?_, fun q hq => ?_, fun d b e q hq => ?_⟩
    · obtain ⟨c, D, l⟩ := s.ok.deck d b e
      refine ⟨c, ?_, l⟩
      obtain ⟨⟨s', ns, cs, i', k, h1, h2, h3, h4⟩, ne⟩ := D
      obtain ⟨n1, n2⟩ := hdk d b e
      obtain ⟨xs, rfl⟩ := hob
      refine ⟨⟨s', ns, cs, i', k, ?_, ?_, h3.upd (.inr ⟨_, hp1⟩), h4⟩, ne⟩
      · rw [upd_ne (Ne.symm n1)]; exact h1
      · rw [upd_ne (Ne.symm n2)]; exact h2
    · rcases List.mem_append.mp hq with hq | hq
      · obtain ⟨u, hu, e⟩ := List.mem_map.mp hq
        split at e
        · subst e
          exact ⟨upd_same, hm⟩
        · rename_i hne
          subst e
          rw [upd_ne hne]
          exact s.ok.owns u (List.mem_append_left _ hu)
      · have hq1 : q.1 ≠ p := fun z => npw (.inr (List.mem_map.mpr ⟨q, hq, z⟩))
        rw [upd_ne hq1]
        exact s.ok.owns q (List.mem_append_right _ hq)
    · rcases List.mem_append.mp hq with hq | hq
      · have : q.1 ∈ U.map (·.1) := by rw [← hfst]; exact List.mem_map.mpr ⟨q, hq, rfl⟩
        obtain ⟨u, hu, e'⟩ := List.mem_map.mp this
        rw [← e']
        exact s.ok.dis d b e u (List.mem_append_left _ hu)
      · exact s.ok.dis d b e q (List.mem_append_right _ hq)
  have wk : ∀ {v : V} {d : D}, At K (W.plus U) H v d → At K (W.plus (putO U p ob')) (upd H p ob') v d := fun h => At.weak (fun b z => (hrs b).mp z) rfl _ (At.le s.ok le1 _ h)
  have wka : ∀ {vs : List V} {ds : List D}, AtAll K (W.plus U) H vs ds → AtAll K (W.plus (putO U p ob')) (upd H p ob') vs ds := fun h => AtAll.weak (fun b z => (hrs b).mp z) rfl _ (AtAll.le s.ok le1 _ h)
  have wko : ∀ {o : HO} {d : D}, OwAt K (W.plus U) H o d → OwAt K (W.plus (putO U p ob')) (upd H p ob') o d := fun h => by
    cases h with
    | lst h => exact .lst (wka h)
    | dic l h => exact .dic l (wka h)
  refine ⟨⟨le1, fun b z r => absurd ((hrs b).mp z) r, fun b z => (hrs b).mpr z⟩, ⟨by rw [hfst]; exact s.nd, ?_, ok', by rw [eSet_length]; exact s.len, ?_, ?_, ?_⟩⟩
  · intro u hu
    have : u.1 ∈ U.map (·.1) := by rw [← hfst]; exact List.mem_map.mpr ⟨u, hu, rfl⟩
    obtain ⟨w, hw, e⟩ := List.mem_map.mp this
    rw [← e]
    exact s.nr w hw
  · intro j d hj he
    have hij : i ≠ j := fun z => hj (z ▸ hi)
    rw [eGet_ne hij] at he
    obtain ⟨v, e1, a1⟩ := s.env j d hj he
    exact ⟨v, e1, wk a1⟩
  · intro j d hj he
    by_cases hij : i = j
    · subst hij
      cases (eGet_set he).2
      exact ⟨(p, ob'), List.mem_map.mpr ⟨_, hU, by rw [if_pos rfl]⟩, hσ, wko a⟩
    · rw [eGet_ne hij] at he
      obtain ⟨u, hu, e1, a1⟩ := s.own j d hj he
      have hup : u.1 ≠ p := fun z => by
        rw [z] at e1
        rcases s.dst i j p hi hj hij hσ e1 with h | h
        · exact hl h
        · rw [h] at he; cases he
      exact ⟨u, List.mem_map.mpr ⟨u, hu, by rw [if_neg hup]⟩, e1, wko a1⟩
  · intro j k q hj hk ne h1 h2
    rcases s.dst j k q hj hk ne h1 h2 with h | h
    · by_cases hij : i = j
      · subst hij
        exact absurd h hl
      · exact .inl (by rw [eGet_ne hij]; exact h)
    · by_cases hik : i = k
      · subst hik
        exact absurd h hl
      · exact .inr (by rw [eGet_ne hik]; exact h)
def tApp (K : PySem.W.Frag) (i : Nat) (te : TE) : TS := tDrop (tBM K "list" rAppend (tVar i) (tCons te tNil))
theorem k_app {X : Cx} {st : Stmt} {i : Nat} {te : TE} (hK : X.K = K) (h : PS X st (tDrop (tBM X.K "list" rAppend (tVar i) (tCons te tNil)))) : PS X st (tApp K i te) := hK ▸ h
def aApp (ow : List Nat) (i : Nat) (f : AE) : AS := fun E ρ n => match eGet ρ i, ow.contains i with
  | some (.lst ds), true => f (wipeA ρ ow) n fun d n1 => ds.length < 1000000 ∧ E.nx (eSet ρ i (some (.lst (ds ++ [d])))) n1
  | _, _ => False
theorem app_run {W : Wd} {U : List (Addr × HO)} {σ : L2.St} {ρ : Env'} {n : Nat} {H : Hp} {i : Nat} {p : Addr} {v : V} {ds : List D} {d : D} {Q : Hp → Prop} (s : SOk K W ow n H σ ρ U) (hi : i ∈ ow) (he : eGet ρ i = some (.lst ds)) (hl : ds.length < 1000000) (hσ : σ[i]? = some (some (.ref p))) (ax : At K (W.plus U) H v d)
    (hQ : ∀ U' H', Stp W U H U' H' → SOk K W ow n H' σ (eSet ρ i (some (.lst (ds ++ [d])))) U' → Q H') : ∃ l xs y, V.ref p = .ref l ∧ [v] = [y] ∧ H l = some (.lst xs) ∧ xs.length < sizeLine ∧ Q (upd H l (.lst (xs ++ [y]))) := by
  obtain ⟨u, hu, e1, a⟩ := s.own i _ hi he
  rw [hσ] at e1
  have ep : p = u.1 := V.ref.inj (Option.some.inj (Option.some.inj e1))
  subst ep
  obtain ⟨p, ob⟩ := u
  cases a with
  | lst a =>
    rename_i us
    have hp1 := (s.ok.owns _ (List.mem_append_left _ hu)).1
    obtain ⟨st, s2⟩ := s.put hi (by rw [he]; exact fun z => nomatch z) hσ hu ⟨_, rfl⟩ (ob' := .lst (us ++ [v])) trivial (.lst (a.append (.cons ax .nil)))
    exact ⟨_, us, v, rfl, rfl, hp1, Nat.lt_of_lt_of_le (by rw [a.length]; exact hl) lim, hQ _ _ st s2⟩
instance {i : Nat} {te : TE} {f : AE} [DE K te f] : DS K Wx ow (tApp K i te) (aApp ow i f) := ⟨fun W U σ ρ n H E Ea hD s h => by
  unfold aApp at h
  split at h
  · rename_i ds he hc
    have hi := List.contains_iff_mem.mp hc
    obtain ⟨u, hu, e1, a⟩ := s.own i _ hi he
    have hp1 := (s.ok.owns _ (List.mem_append_left _ hu)).1
    refine ⟨_, e1, ?_, DE.run (te := te) (f := f) (W.plus U) σ _ n H _ _ (fun d n1 h1 H1 x l1 o1 ax => ?_) s.hid s.ok h⟩
    · obtain ⟨p, ob⟩ := u
      cases a with
      | lst a => exact .inl ⟨rfl, _, SqL.of hp1⟩
    · exact app_run (s.le l1 o1) hi he h1.1 e1 ax fun U' H' st s' => hD.nx _ _ h1.2 U' σ H' ((Stp.hid l1).trans st) s'
  · exact h.elim⟩
/-! a def -/
def startA : Nat → List D → Env'
  | 0, _ => []
  | k + 1, [] => none :: startA k []
  | k + 1, d :: ds => some d :: startA k ds
theorem startA_none : ∀ {k i : Nat} {d : D}, eGet (startA k []) i = some d → False
  | 0, _, _, h => by cases h
  | k + 1, 0, _, h => by cases h
  | k + 1, i + 1, _, h => startA_none (k := k) (i := i) h
theorem startA_at {W : Wd} {H : Hp} : ∀ {k : Nat} {vs : List V} {ds : List D}, AtAll K W H vs ds → ∀ (i : Nat) (d : D), eGet (startA k ds) i = some d → ∃ v, vs[i]? = some v ∧ At K W H v d
  | 0, _, _, _, _, _, e => by cases e
  | k + 1, _, [], h, i, d, e => (startA_none e).elim
  | k + 1, _, _ :: _, h, 0, d, e => by
    cases h with
    | cons a r => cases e; exact ⟨_, rfl, a⟩
  | k + 1, _, _ :: ds, h, i + 1, d, e => by
    cases h with
    | cons a r => exact startA_at (k := k) r i d e
theorem startA_length : ∀ (k : Nat) (ds : List D), (startA k ds).length = k
  | 0, _ => rfl
  | k + 1, [] => by rw [startA, List.length_cons, startA_length]
  | k + 1, _ :: ds => by rw [startA, List.length_cons, startA_length]
theorem start_at {W : Wd} {H : Hp} {N : List Str} {k : Nat} {vs : List V} {ds : List D} (hk : N.length = k) (hl : ds.length ≤ k) (h : AtAll K W H vs ds) : EnvAt K W H (L2.start N vs) (startA k ds) := by
  unfold L2.start
  have hv := h.length
  refine ⟨by rw [startA_length]; simp; omega, fun i d e => ?_⟩
  obtain ⟨v, e1, a⟩ := startA_at h i d e
  refine ⟨v, ?_, a⟩
  have hi : i < vs.length := (List.getElem?_eq_some_iff.mp e1).1
  rw [List.getElem?_append_left (by rw [List.length_map]; exact hi), List.getElem?_map, e1]
  rfl
def aTop (Q : D → Nat → Prop) : AEn := { nx := fun _ n => Q .non n, rt := Q }
theorem le_start {W : Wd} {U : List (Addr × HO)} {H H' : Hp} (s : Stp W [] H U H') : W.le H H' := s.le
theorem startA_big : ∀ {k i : Nat} {ds : List D}, ds.length ≤ i → eGet (startA k ds) i = none
  | 0, _, _, _ => rfl
  | k + 1, 0, [], _ => rfl
  | k + 1, i + 1, [], h => startA_big (k := k) (i := i) (ds := []) (Nat.zero_le _)
  | k + 1, 0, _ :: _, h => absurd h (Nat.not_succ_le_zero _)
  | k + 1, i + 1, _ :: ds, h => startA_big (k := k) (i := i) (ds := ds) (Nat.le_of_succ_le_succ h)
theorem start_ok {W : Wd} {n : Nat} {H : Hp} {N : List Str} {k : Nat} {vs : List V} {ds : List D} (hk : N.length = k) (hl : ds.length ≤ k) (ho : ∀ i ∈ ow, ds.length ≤ i) (h : AtAll K W H vs ds) (o : W.ok K n H) : SOk K W ow n H (L2.start N vs) (startA k ds) [] := by
  have e := start_at hk hl h
  refine ⟨List.nodup_nil, fun u hu => (by cases hu), o, e.1, fun i d _ he => e.2 i d he, fun i d hi he => ?_, fun i j p hi _ _ _ _ => .inl (startA_big (ho i hi))⟩
  rw [startA_big (ho i hi)] at he
  cases he
theorem fn_mir {P : Program} {w : World} {mg : Str → Option Value} {base : Heap} {x qual : Str} {st : Stmt} {f : Addr} {fd : FuncData} {N ps : List Str} {k : Nat} {A : ASp} (ow : List Nat) (kk : Nat) (hk : N.length = kk) (hp : ps.length ≤ kk) (ho : ∀ i ∈ ow, ps.length ≤ i) (F : Fun K x qual st f fd) (S : FnScope N ps (defScope st))
    (hbody : ∀ (cdv : Value) (Ar : Around) (outer : List Env) (s : Shared) (H : Hp) (E : XK), Room k (Ar.deeper (envOfC qual (defScope st) s.heap.objs.size f cdv)) →
      ∃ (t : TS) (fa : AS), PSs (cxOf CX0 P w K mg base N qual (defScope st) f cdv Ar outer s H E).nox (defBody st) t ∧ DS K W0 ow t fa ∧ ∀ ds n Q, ds.length = ps.length → A ds n Q → fa (aTop Q) (startA kk ds) n) : FnOk P w K mg base CX0 (k + 1) f fd ps (spOf K ps.length A) := by
  refine F.ok S (fun vs H Q E h => ?_) (fun cdv Ar outer s H vs Q E hr h => ?_)
  · obtain ⟨W, n, ds, Qa, a, hl, _⟩ := h
    rw [a.length, hl]
  · obtain ⟨W, n, ds, Qa, a, hl, o, hQ, hA⟩ := h
    obtain ⟨t, fa, h1, h2, h3⟩ := hbody cdv Ar outer s H E hr
    refine ⟨t, h1, DS.run (Wx := W0) (ow := ow) (t := t) (f := fa) W [] (L2.start N vs) (startA kk ds) n H _ (aTop Qa) ⟨fun ρ' n' q U' σ' H' l' s' => hQ _ _ q H' _ (le_start l') s'.base .non, fun d n' q U1 H1 H' v l' l2 o' a' => hQ _ _ q H' v ((le_start l').trans l2) o' a', fun _ _ q => q.elim, fun _ _ q => q.elim, fun _ _ _ _ _ q => q.elim⟩ (start_ok hk (by omega) (fun i hi => by rw [hl]; exact ho i hi) a o) (h3 ds n Qa hl hA)⟩
end

/-! ### max and min of tuples in the mirror -/
section
variable {K : PySem.W.Frag}
open MM
mutual
def D.kt : D → KT
  | .int i => .n i
  | .tup ds => .t (ktAll ds)
  | _ => .t []
def ktAll : List D → List KT
  | [] => []
  | d :: ds => d.kt :: ktAll ds
end
theorem ktAll_map : ∀ ds : List D, ktAll ds = ds.map D.kt
  | [] => rfl
  | d :: ds => by rw [ktAll, ktAll_map ds, List.map_cons]
/-- a tree of numbers in tuples, so deep at most -/
def D.kd : Nat → D → Prop
  | _, .int _ => True
  | d + 1, .tup ds => ∀ x ∈ ds, D.kd d x
  | _, _ => False
theorem at_vat {W : Wd} {H : Hp} : ∀ (d : Nat) (e : D) {v : V}, e.kd d → At K W H v e → VAt K H d v e.kt
  | d, .int i, v, _, h => by
    cases h
    cases d <;> rfl
  | d + 1, .tup ds, v, hk, h => by
    cases h with
    | @tup a xs _ s b =>
      refine ⟨a, xs, rfl, s, by rw [ktAll_map, List.length_map, b.length], fun j x k hx hk' => ?_⟩
      obtain ⟨y, hy, ay⟩ := b.get' hx
      rw [ktAll_map, List.getElem?_map, hy] at hk'
      cases hk'
      exact at_vat d y (hk y (List.mem_iff_getElem?.mpr ⟨j, hy⟩)) ay
  | 0, .tup _, _, hk, _ => hk.elim
  | d, .non, _, hk, _ => by cases d <;> exact hk.elim
  | d, .bl _, _, hk, _ => by cases d <;> exact hk.elim
  | d, .str _, _, hk, _ => by cases d <;> exact hk.elim
  | d, .ty _, _, hk, _ => by cases d <;> exact hk.elim
  | d, .cls _, _, hk, _ => by cases d <;> exact hk.elim
  | d, .lst _, _, hk, _ => by cases d <;> exact hk.elim
  | d, .dic _ _, _, hk, _ => by cases d <;> exact hk.elim
  | d, .ins _ _ _, _, hk, _ => by cases d <;> exact hk.elim
  | d, .deck, _, hk, _ => by cases d <;> exact hk.elim
  | d, .scr _, _, hk, _ => by cases d <;> exact hk.elim
  | d, .xcp _ _ _ _ _, _, hk, _ => by cases d <;> exact hk.elim
def rMaxT (K : PySem.W.Frag) : List V → Hp → VK → Prop := rBestT true K
def rMinT (K : PySem.W.Frag) : List V → Hp → VK → Prop := rBestT false K
theorem k_maxT {X : Cx} (hK : X.K = K) (hc : X.calm = true) (hu : X.A.units + 64 < cLine) : CallR X (.builtin "max") (rMaxT K) := (k_bestT hK hc hu).1
theorem k_minT {X : Cx} (hK : X.K = K) (hc : X.calm = true) (hu : X.A.units + 64 < cLine) : CallR X (.builtin "min") (rMinT K) := (k_bestT hK hc hu).2
def aBestT (sgn : Bool) : List D → Nat → (D → Nat → Prop) → Prop := fun ds n Q => ∃ (es : List D) (d : Nat), ds = [.lst es] ∧ es ≠ [] ∧ d ≤ 60 ∧ (∀ e ∈ es, e.kd d) ∧ (∀ e ∈ es, ∀ e' ∈ es, shp d e.kt e'.kt) ∧ ∀ e ∈ es, (∀ e' ∈ es, (if sgn then ltK d e.kt e'.kt else ltK d e'.kt e.kt) = false) → Q e n
theorem bestT_run {sgn : Bool} (W : Wd) (n : Nat) (H : Hp) (xs : List V) (ds : List D) (Q : VK) (Qa : D → Nat → Prop) (hQ : Wants K W H Qa Q) (o : W.ok K n H) (a : AtAll K W H xs ds) (h : aBestT sgn ds n Qa) : rBestT sgn K xs H Q := by
  obtain ⟨es, d, rfl, hne, hd, hk, hs, q⟩ := h
  cases a with
  | cons a r =>
    cases r
    cases a with
    | @lst p us _ nr s b =>
      refine ⟨p, us, es.map D.kt, d, rfl, SqL.of s, fun z => ?_, hd, by rw [List.length_map, b.length], fun i u k hu hk' => ?_, fun k hk1 k' hk2 => ?_, fun i u k hu hk' hb => ?_⟩
      · subst z
        cases b
        exact hne rfl
      · obtain ⟨y, hy, ay⟩ := b.get' hu
        rw [List.getElem?_map, hy] at hk'
        cases hk'
        exact at_vat d y (hk y (List.mem_iff_getElem?.mpr ⟨i, hy⟩)) ay
      · obtain ⟨e, he, rfl⟩ := List.mem_map.mp hk1
        obtain ⟨e', he', rfl⟩ := List.mem_map.mp hk2
        exact hs e he e' he'
      · obtain ⟨y, hy, ay⟩ := b.get' hu
        rw [List.getElem?_map, hy] at hk'
        cases hk'
        exact hQ.now o (q y (List.mem_iff_getElem?.mpr ⟨i, hy⟩) fun e' he' => hb _ (List.mem_map.mpr ⟨e', he', rfl⟩)) ay
instance : DL K (rMaxT K) (aBestT true) := ⟨fun W n H xs ds Q Qa hQ o a h => bestT_run W n H xs ds Q Qa hQ o a h⟩
instance : DL K (rMinT K) (aBestT false) := ⟨fun W n H xs ds Q Qa hQ o a h => bestT_run W n H xs ds Q Qa hQ o a h⟩
end

/-! ### sorted -/
abbrev Pt := Int × Int
def lexLe (p q : Pt) : Prop := p.1 < q.1 ∨ (p.1 = q.1 ∧ p.2 ≤ q.2)
def pt (p : Pt) : D := .tup [.int p.1, .int p.2]
section
variable {K : PySem.W.Frag}
open Classical in
noncomputable def kz (zs : List (V × Pt)) (x : V) : Pt := if h : ∃ p, (x, p) ∈ zs then Classical.choose h else (0, 0)
theorem kz_is {zs : List (V × Pt)} {x : V} {p : Pt} (hu : ∀ q, (x, q) ∈ zs → q = p) (hm : (x, p) ∈ zs) : kz zs x = p := by
  unfold kz
  have h : ∃ p, (x, p) ∈ zs := ⟨p, hm⟩
  rw [dif_pos h]
  exact hu _ (Classical.choose_spec h)
def rSrtP (K : PySem.W.Frag) : List V → Hp → VK → Prop := fun vs H Q => ∃ (a : Addr) (zs : List (V × Pt)), vs = [V.ref a] ∧ SqL K H a (zs.map Prod.fst) ∧ (∀ z ∈ zs, ∃ t, z.1 = V.ref t ∧ SqT K H t [.int z.2.1, .int z.2.2]) ∧
  ∀ (ws : List (V × Pt)) (p : Addr), ws.Perm zs → (ws.map Prod.snd).Pairwise lexLe → H p = none → Q (.ref p) (upd H p (.lst (ws.map Prod.fst)))
theorem k_sortP {X : Cx} (hK : X.K = K) : CallR X (.builtin "sorted") (rSrtP K) := by
  subst hK
  intro pins s σ H vs us Q I r h
  obtain ⟨a, zs, rfl, hs, hx, q⟩ := h
  obtain ⟨its, rv, hl, hz⟩ := I.list hs
  obtain ⟨u, rfl, ru⟩ := vals1 r
  obtain rfl : u = Value.ref a := ru
  have hk : ∀ z ∈ zs, kz zs z.1 = z.2 := fun z hm => kz_is (fun p' hq => by
    obtain ⟨t, e, ht⟩ := hx z hm
    obtain ⟨t', e', ht'⟩ := hx _ hq
    rw [e] at e'
    cases e'
    have := I.tuple_inj ht ht'
    simp only [List.cons.injEq, V.int.injEq, and_true] at this
    exact Prod.ext this.1.symm this.2.symm) hm
  have hxs : ∀ x ∈ zs.map Prod.fst, ∃ t, x = V.ref t ∧ SqT X.K H t [.int (kz zs x).1, .int (kz zs x).2] := fun x hm => by
    obtain ⟨z, hz', rfl⟩ := List.mem_map.mp hm
    obtain ⟨t, e, ht⟩ := hx z hz'
    exact ⟨t, e, by rw [hk z hz']; exact ht⟩
  obtain ⟨e1, e2⟩ := refs_back rv fun x m => by
    obtain ⟨t, e, _⟩ := hxs x m
    exact ⟨t, e⟩
  refine SrtO.sorted_pairsO (k := fun u => kz zs (backV u)) hl.isList (by rw [← rv.length]; exact hz) (fun v hv => ?_) fun h' d out h1 h2 kp hd hn => ?_
  · obtain ⟨t, rfl⟩ := e2 v hv
    have hm : V.ref t ∈ zs.map Prod.fst := by rw [e1]; exact List.mem_map.mpr ⟨_, hv, rfl⟩
    obtain ⟨t', e, ht⟩ := hxs _ hm
    cases e
    obtain ⟨its2, r2, ⟨o, ho, hc, n, hd⟩, _⟩ := I.tuple ht
    obtain ⟨u1, u2, rfl, ri, rj⟩ := vals2 r2
    obtain ⟨t1, rfl⟩ := ri
    obtain ⟨t2, rfl⟩ := rj
    exact ⟨t, o, t1, t2, n, rfl, ho, hc, hd⟩
  · have h3 : ∀ u ∈ out, ∃ a, u = Value.ref a := fun u hu => e2 u (h2.perm.mem_iff.mp hu)
    obtain ⟨n, hn⟩ := hn
    have hb : SrtO.Stb (ltP (kz zs)) (out.map backV) (zs.map Prod.fst) := by
      rw [e1]
      exact SrtO.Stb.map (ltP_swo (kz zs)) backV h2
    have hw : ((out.map backV).map fun y => (y, kz zs y)).Perm zs := by
      have e3 : (zs.map Prod.fst).map (fun y => (y, kz zs y)) = zs := by
        rw [List.map_map]
        conv => rhs; rw [← List.map_id zs]
        exact List.map_congr_left fun z hz' => by
          show (z.1, kz zs z.1) = z
          rw [hk z hz']
      have := hb.perm.map fun y => (y, kz zs y)
      rw [e3] at this
      exact this
    have hf : ((out.map backV).map fun y => (y, kz zs y)).map Prod.fst = out.map backV := by
      rw [List.map_map]
      exact List.map_id _
    refine ⟨.ref d, upd H d (.lst (out.map backV)), I.laid (t' := s.toks) kp hd ⟨?_, out, n, vals_back h3, hn⟩, rfl, ?_⟩
    · rw [hb.len]
      exact hz
    · have := q _ d hw ?_ (I.hok.fresh hd)
      · rw [hf] at this
        exact this
      · have hs2 := SrtO.srtd_map (lt := ltP (kz zs)) (f := backV) h1
        rw [List.map_map, List.pairwise_map]
        refine List.Pairwise.imp (fun {a b} h => ?_) hs2
        have := SrtO.lexB_no.mp h
        show lexLe (kz zs a) (kz zs b)
        unfold lexLe
        omega
def aSrtP : List D → Nat → (D → Nat → Prop) → Prop := fun ds n Q => ∃ ps : List Pt, ds = [.lst (ps.map pt)] ∧ ∀ rs : List Pt, rs.Perm ps → rs.Pairwise lexLe → Q (.lst (rs.map pt)) n
theorem pts_zip {W : Wd} {H : Hp} : ∀ {ps : List Pt} {us : List V}, AtAll K W H us (ps.map pt) → ∃ zs : List (V × Pt), zs.map Prod.fst = us ∧ zs.map Prod.snd = ps ∧ ∀ z ∈ zs, (∃ t, z.1 = V.ref t ∧ SqT K H t [.int z.2.1, .int z.2.2]) ∧ At K W H z.1 (pt z.2)
  | [], _, h => by cases h; exact ⟨[], rfl, rfl, fun z hz => by cases hz⟩
  | p :: ps, _, h => by
    cases h with
    | @cons v vs _ _ a r =>
      obtain ⟨zs, h1, h2, h3⟩ := pts_zip r
      refine ⟨(v, p) :: zs, by rw [List.map_cons, h1], by rw [List.map_cons, h2], fun z hz => ?_⟩
      rcases List.mem_cons.mp hz with rfl | hz
      · refine ⟨?_, a⟩
        cases a with
        | tup s a =>
          cases a with
          | cons a b =>
            cases b with
            | cons b c =>
              cases a
              cases b
              cases c
              exact ⟨_, rfl, s⟩
      · exact h3 z hz
theorem zip_at {W : Wd} {H : Hp} : ∀ {ws : List (V × Pt)}, (∀ z ∈ ws, At K W H z.1 (pt z.2)) → AtAll K W H (ws.map Prod.fst) ((ws.map Prod.snd).map pt)
  | [], _ => .nil
  | w :: ws, h => .cons (h w List.mem_cons_self) (zip_at fun z hz => h z (List.mem_cons_of_mem _ hz))
instance : DL K (rSrtP K) aSrtP := ⟨fun W n H xs ds Q Qa hQ o a h => by
  obtain ⟨ps, rfl, h⟩ := h
  cases a with
  | cons a r =>
    cases r
    cases a with
    | @lst l us _ nr s a =>
      obtain ⟨zs, h1, h2, h3⟩ := pts_zip a
      subst h1 h2
      refine ⟨l, zs, rfl, SqL.of s, fun z hz => (h3 z hz).1, fun ws p hp hpw hn => hQ.new o (h (ws.map Prod.snd) (hp.map _) hpw) hn ?_⟩
      exact .lst (o.fresh hn) upd_same (AtAll.le o (Wd.le_same (same_upd hn)) _ (zip_at fun z hz => (h3 z (hp.mem_iff.mp hz)).2))⟩
/-! texts -/
def rSrtS (K : PySem.W.Frag) : List V → Hp → VK → Prop := rSortedS K
theorem k_sortS {X : Cx} (hK : X.K = K) : CallR X (.builtin "sorted") (rSrtS K) := hK ▸ cr_sortedS
end

/-! ### loops in the mirror -/
section
theorem aFor_ind {ow : List Nat} {G : D → Option (List (Nat × D))} {f : AS} {E : AEn} (I : List D → Env' → Nat → Prop)
    (hs : ∀ d r ρ n, I (d :: r) ρ n → (∀ ρ' n', I r ρ' n' → aForGo ow G f E r ρ' n') → aPut ow G d ρ fun ρ1 => f { E with nx := aForGo ow G f E r, ct := aForGo ow G f E r, bk := E.nx } ρ1 n)
    (hd : ∀ ρ n, I [] ρ n → E.nx ρ n) : ∀ {ds : List D} {ρ : Env'} {n : Nat}, I ds ρ n → aForGo ow G f E ds ρ n
  | [], ρ, n, h => hd ρ n h
  | d :: r, ρ, n, h => hs d r ρ n h fun ρ' n' h' => aFor_ind I hs hd h'
theorem aLc_ind {vs : List Nat} {G : D → Option (List (Nat × D))} {c : AT} {e : AE} {ρ : Env'} {Q : D → Nat → Prop} (I : List D → List D → Nat → Prop)
    (hs : ∀ acc d r n, I acc (d :: r) n → (∀ acc' n', I acc' r n' → aLcGo vs G c e ρ Q acc' r n') → aPutC vs G d ρ fun ρ1 => c ρ1 n fun b n2 => aIte b (e ρ1 n2 fun y n3 => aLcGo vs G c e ρ Q (acc ++ [y]) r n3) (aLcGo vs G c e ρ Q acc r n2))
    (hd : ∀ acc n, I acc [] n → Q (.lst acc) n) : ∀ {acc ds : List D} {n : Nat}, I acc ds n → aLcGo vs G c e ρ Q acc ds n
  | acc, [], n, h => hd acc n h
  | acc, d :: r, n, h => hs acc d r n h fun acc' n' h' => aLc_ind I hs hd h'
theorem rangeD_map (lo : Int) : ∀ k, rangeD lo k = (List.range' 0 k).map fun i => D.int (lo + (i : Nat)) := by
  have : ∀ k s, rangeD (lo + (s : Nat)) k = (List.range' s k).map fun i => D.int (lo + (i : Nat)) := fun k => by
    induction k with
    | zero => intro s; rfl
    | succ k ih =>
      intro s
      rw [List.range'_succ, List.map_cons, rangeD, ← ih (s + 1)]
      congr 2
      omega
  intro k
  have := this k 0
  rw [Int.natCast_zero, Int.add_zero] at this
  exact this
theorem pick_at {α : Type} {xs : List α} {r : Int} (h0 : 0 ≤ r) (h1 : r < xs.length) : ∃ x, x ∈ xs ∧ atI xs r = some x := by
  obtain ⟨k, rfl⟩ := Int.eq_ofNat_of_zero_le h0
  have hk : k < xs.length := by omega
  exact ⟨xs[k], List.getElem_mem hk, atI_nat (List.getElem?_eq_getElem hk)⟩
end

/-! ### zip of any two things that go item by item -/
namespace RX
open PySem
/-- an iterator it over what stands at l: its states, its items -/
structure Src (prog : Program) (w : World) (it l : Addr) (J : Nat → Heap → Prop) (get : Nat → Option Value) : Prop where
  keep : ∀ {k : Nat} {g g' : Heap} {c : Addr}, it ≠ c → l ≠ c → Heap.ExtBut c g g' → J k g → J k g'
  step : ∀ {A : Around} {E : Value → Shared → Prop} {s : Shared} {Q : Value → Shared → Prop} {k : Nat} {x : Value}, J k s.heap → get k = some x → (∀ g, J (k + 1) g → Heap.SameBut it s.heap g → Q x { s with heap := g }) → wpAny (model prog w) A (Builtin.SmallTypes.nextOf (.ref it)) Q E s
  stop : ∀ {A : Around} {E : Value → Shared → Prop} {s : Shared} {Q : Value → Shared → Prop} {k : Nat}, A.handled = none → J k s.heap → get k = none → (∀ g e, Heap.ExtBut it s.heap g → (∃ o, g.get? e = some o ∧ o.cls = .type "StopIteration") → E (.ref e) { s with heap := g }) → wpAny (model prog w) A (Builtin.SmallTypes.nextOf (.ref it)) Q E s
  here : ∀ {k : Nat} {g : Heap}, J k g → ∃ o, g.get? it = some o ∧ ∀ v, o.data ≠ .cell v
theorem srcT {prog : Program} {w : World} {it l : Addr} (hne : l ≠ it) (xs : Array Value) : Src prog w it l (fun k g => g.IsTupleIter it l k ∧ g.IsTuple l xs) (fun k => xs[k]?) where
  keep := fun h1 h2 e j => ⟨j.1.extBut e h1, j.2.extBut e h2⟩
  step := fun j hx q => RZ.nextOf_tuple_item j.1 j.2 hx fun g h1 h2 => q g ⟨h1, j.2.extBut h2.extBut hne⟩ h2
  stop := fun hh j hx q => RZ.nextOf_tuple_end hh j.1 j.2 hx q
  here := fun j => by obtain ⟨o, ho, _, hd⟩ := j.1; exact ⟨o, ho, fun v e => by rw [hd] at e; cases e⟩
theorem srcL {prog : Program} {w : World} {it l : Addr} (hne : l ≠ it) (xs : Array Value) : Src prog w it l (fun k g => g.IsListIter it l k ∧ g.IsList l xs) (fun k => xs[k]?) where
  keep := fun h1 h2 e j => ⟨j.1.extBut e h1, j.2.extBut e h2⟩
  step := fun j hx q => wpAny_nextOf_list_item j.1 j.2 hx fun g h1 h2 => q g ⟨h1, j.2.extBut h2.extBut hne⟩ h2
  stop := fun hh j hx q => wpAny_nextOf_list_end hh j.1 j.2 hx q
  here := fun j => by obtain ⟨o, ho, _, hd⟩ := j.1; exact ⟨o, ho, fun v e => by rw [hd] at e; cases e⟩
section
variable {prog : Program} {w : World} {A : Around} {E : Value → Shared → Prop} {s : Shared} {z TI TO i1 i2 l1 l2 : Addr} {J1 J2 : Nat → Heap → Prop} {g1 g2 : Nat → Option Value}
/-- one more pair -/
theorem zip_item {k : Nat} {x y a b : Value} {Q : Value → Shared → Prop} (D : ZipApart z TI TO i1 i2 l1 l2) (S1 : Src prog w i1 l1 J1 g1) (S2 : Src prog w i2 l2 J2 g2) (zz : IsZip s.heap z TI TO .none) (zi : IsPair s.heap TI (.ref i1) (.ref i2)) (zo : IsPair s.heap TO a b) (j1 : J1 k s.heap) (j2 : J2 k s.heap) (hx : g1 k = some x) (hy : g2 k = some y)
    (q : ∀ g, IsZip g z TI TO (rawInt s.heap.objs.size) → IsPair g TO x y → J1 (k + 1) g → J2 (k + 1) g → IsPair g s.heap.objs.size x y → g.objs.size = s.heap.objs.size + 1 → (∀ c o, c ≠ z → c ≠ TO → c ≠ i1 → c ≠ i2 → s.heap.get? c = some o → g.get? c = some o) → Q (.ref s.heap.objs.size) { s with heap := g }) :
    wpAny (model prog w) A (Builtin.«zip.__next__» ⟨[.ref z], []⟩) (fun fin s' => ∃ v, fin = .done (.ret v) ∧ Q v s') E s := by
  show wpAny _ _ (field (.ref z) 2 >>= _) _ _ _; refine wpAny_bind (wpAny_field zz rfl (x := .bool false) rfl ?_)
  show wpAny _ _ (field (.ref z) 3 >>= _) _ _ _; refine wpAny_bind (wpAny_field zz rfl (x := .ref TI) rfl (wpAny_bind (wpAny_seqItems zi rfl ?_)))
  show wpAny _ _ (Builtin.SmallTypes.ownedTupleIsFree (.ref z) >>= _) _ _ _; refine wpAny_bind ?_; unfold Builtin.SmallTypes.ownedTupleIsFree
  refine wpAny_bind (wpAny_field zz rfl (x := .none) rfl (wpAny_pure ?_)); simp only [if_true]
  refine wpAny_bind (wpAny_rule (wpAny_bind (wpAny_field zz rfl (x := .ref TO) rfl (wpAny_bind (wpAny_setField_rec zz (by simp) fun ha za sa => ?_)))))
  replace za : IsZip ha z TI TO .ellipsis := za
  refine wpAny_bind ?_; simp only [List.zipIdx_cons, List.zipIdx_nil, List.forIn_cons, List.forIn_nil]
  refine wpAny_bind (wpAny_bind (wpAny_onRaise ?_)); show wpAny _ _ (Builtin.SmallTypes.nextOf (.ref i1) >>= _) _ _ _
  refine wpAny_bind (S1.step (s := { s with heap := ha }) (S1.keep D.i1z D.l1z sa.extBut j1) hx fun hb jb sb => wpAny_pure ?_)
  have ob : IsPair hb TO a b := sb.extBut _ _ D.TOi1 (sa.extBut _ _ D.TOz zo)
  refine wpAny_bind (wpAny_seqItems ob rfl (wpAny_bind (wpAny_updateSeq_pair ob fun hc oc sc => ?_)))
  replace oc : IsPair hc TO x b := oc
  refine wpAny_bind (wpAny_letGo (wpAny_pure (wpAny_bind (wpAny_bind (wpAny_onRaise ?_))))); show wpAny _ _ (Builtin.SmallTypes.nextOf (.ref i2) >>= _) _ _ _
  refine wpAny_bind (S2.step (s := { s with heap := hc }) (S2.keep D.TOi2.symm D.l2TO sc.extBut (S2.keep D.i12.symm D.l2i1 sb.extBut (S2.keep D.i2z D.l2z sa.extBut j2))) hy fun hd jd sd => wpAny_pure ?_)
  have od : IsPair hd TO x b := sd.extBut _ _ D.TOi2 oc
  refine wpAny_bind (wpAny_seqItems od rfl (wpAny_bind (wpAny_updateSeq_pair od fun he oe se => ?_)))
  replace oe : IsPair he TO x y := oe
  refine wpAny_bind (wpAny_letGo (wpAny_pure (wpAny_pure (wpAny_bind (wpAny_seqItems oe rfl (wpAny_bind (wpAny_newTuple ?_)))))))
  have size : he.objs.size = s.heap.objs.size := by rw [se.1, sd.1, sc.1, sb.1, sa.1]
  have ze : IsZip he z TI TO .ellipsis := se.extBut _ _ D.TOz.symm (sd.extBut _ _ D.i2z.symm (sc.extBut _ _ D.TOz.symm (sb.extBut _ _ D.i1z.symm za)))
  have ke : ∀ c o, c ≠ z → c ≠ TO → c ≠ i1 → c ≠ i2 → s.heap.get? c = some o → he.get? c = some o := fun c o c1 c2 c3 c4 e => se.extBut _ _ c2 (sd.extBut _ _ c4 (sc.extBut _ _ c2 (sb.extBut _ _ c3 (sa.extBut _ _ c1 e))))
  have ja : J1 (k + 1) he := S1.keep D.TOi1.symm D.l1TO se.extBut (S1.keep D.i12 D.l1i2 sd.extBut (S1.keep D.TOi1.symm D.l1TO sc.extBut jb))
  have jc : J2 (k + 1) he := S2.keep D.TOi2.symm D.l2TO se.extBut jd
  have below : z < he.objs.size := Heap.lt_size ze
  show wpAny _ _ (Builtin.SmallTypes.ownedTupleHandOut (.ref z) (.ref he.objs.size) >>= _) _ _ _; refine wpAny_bind ?_; unfold Builtin.SmallTypes.ownedTupleHandOut
  have zf : IsZip (he.push { cls := .type "tuple", data := .seq #[x, y] }) z TI TO .ellipsis := Heap.get?_push_of_some _ ze
  refine wpAny_bind (wpAny_setField_rec zf (by simp) fun hg zg sg => ?_)
  replace zg : IsZip hg z TI TO (rawInt he.objs.size) := zg
  refine wpAny_setField_rec zg (by simp) fun hh zh sh => ?_
  replace zh : IsZip hh z TI TO (rawInt he.objs.size) := zh
  have grow : Heap.ExtBut z he hh := fun c o c1 e => sh.extBut _ _ c1 (sg.extBut _ _ c1 (Heap.get?_push_of_some _ e))
  have pair : IsPair hh he.objs.size x y := sh.extBut _ _ (Nat.ne_of_gt below) (sg.extBut _ _ (Nat.ne_of_gt below) (Heap.get?_push_size _ rfl))
  have more : hh.objs.size = he.objs.size + 1 := by rw [sh.1, sg.1, Heap.size_push]
  rw [size] at zh pair more
  refine wpAny_pure ⟨_, rfl, ?_⟩; show Q (.ref he.objs.size) _; rw [size]
  exact q hh zh (grow _ _ D.TOz oe) (S1.keep D.i1z D.l1z grow ja) (S2.keep D.i2z D.l2z grow jc) pair more fun c o c1 c2 c3 c4 e => grow c o c1 (ke c o c1 c2 c3 c4 e)
/-- no more -/
theorem zip_end {k : Nat} {a b : Value} {Q : Fin → Shared → Prop} (hn : A.handled = none) (D : ZipApart z TI TO i1 i2 l1 l2) (S1 : Src prog w i1 l1 J1 g1) (S2 : Src prog w i2 l2 J2 g2) (zz : IsZip s.heap z TI TO .none) (zi : IsPair s.heap TI (.ref i1) (.ref i2)) (zo : IsPair s.heap TO a b) (j1 : J1 k s.heap) (j2 : J2 k s.heap) (last : g1 k = none ∨ g2 k = none)
    (q : ∀ g e, (∀ c o, c ≠ z → c ≠ TO → c ≠ i1 → c ≠ i2 → s.heap.get? c = some o → g.get? c = some o) → (∃ o, g.get? e = some o ∧ o.cls = .type "StopIteration") → E (.ref e) { s with heap := g }) :
    wpAny (model prog w) A (Builtin.«zip.__next__» ⟨[.ref z], []⟩) Q E s := by
  show wpAny _ _ (field (.ref z) 2 >>= _) _ _ _; refine wpAny_bind (wpAny_field zz rfl (x := .bool false) rfl ?_)
  show wpAny _ _ (field (.ref z) 3 >>= _) _ _ _; refine wpAny_bind (wpAny_field zz rfl (x := .ref TI) rfl (wpAny_bind (wpAny_seqItems zi rfl ?_)))
  show wpAny _ _ (Builtin.SmallTypes.ownedTupleIsFree (.ref z) >>= _) _ _ _; refine wpAny_bind ?_; unfold Builtin.SmallTypes.ownedTupleIsFree
  refine wpAny_bind (wpAny_field zz rfl (x := .none) rfl (wpAny_pure ?_)); simp only [if_true]
  refine wpAny_bind (wpAny_rule (wpAny_bind (wpAny_field zz rfl (x := .ref TO) rfl (wpAny_bind (wpAny_setField_rec zz (by simp) fun ha za sa => ?_)))))
  replace za : IsZip ha z TI TO .ellipsis := za
  refine wpAny_bind ?_; simp only [List.zipIdx_cons, List.zipIdx_nil, List.forIn_cons, List.forIn_nil]
  refine wpAny_bind (wpAny_bind (wpAny_onRaise ?_)); show wpAny _ _ (Builtin.SmallTypes.nextOf (.ref i1) >>= _) _ _ _
  cases hx : g1 k with
  | none =>
    refine wpAny_bind (S1.stop (s := { s with heap := ha }) hn (S1.keep D.i1z D.l1z sa.extBut j1) hx fun hb e sb ⟨oe, ho, hce⟩ => ?_)
    have zb : IsZip hb z TI TO .ellipsis := sb _ _ D.i1z.symm za
    have ne : e ≠ z := fun x => by subst x; rw [zb] at ho; cases ho; simp at hce
    exact wpAny_setField_rec zb (by simp) fun hc _ sc => q hc e (fun c o c1 _ c3 _ v => sc.extBut _ _ c1 (sb _ _ c3 (sa.extBut _ _ c1 v))) ⟨oe, sc.extBut _ _ ne ho, hce⟩
  | some x =>
    have hy : g2 k = none := last.resolve_left fun h => by rw [hx] at h; cases h
    refine wpAny_bind (S1.step (s := { s with heap := ha }) (S1.keep D.i1z D.l1z sa.extBut j1) hx fun hb jb sb => wpAny_pure ?_)
    have ob : IsPair hb TO a b := sb.extBut _ _ D.TOi1 (sa.extBut _ _ D.TOz zo)
    refine wpAny_bind (wpAny_seqItems ob rfl (wpAny_bind (wpAny_updateSeq_pair ob fun hc oc sc => ?_)))
    refine wpAny_bind (wpAny_letGo (wpAny_pure (wpAny_bind (wpAny_bind (wpAny_onRaise ?_))))); show wpAny _ _ (Builtin.SmallTypes.nextOf (.ref i2) >>= _) _ _ _
    refine wpAny_bind (S2.stop (s := { s with heap := hc }) hn (S2.keep D.TOi2.symm D.l2TO sc.extBut (S2.keep D.i12.symm D.l2i1 sb.extBut (S2.keep D.i2z D.l2z sa.extBut j2))) hy fun hd e sd ⟨oe, ho, hce⟩ => ?_)
    have zd : IsZip hd z TI TO .ellipsis := sd _ _ D.i2z.symm (sc.extBut _ _ D.TOz.symm (sb.extBut _ _ D.i1z.symm za))
    have ne : e ≠ z := fun x => by subst x; rw [zd] at ho; cases ho; simp at hce
    exact wpAny_setField_rec zd (by simp) fun he _ se => q he e (fun c o c1 c2 c3 c4 v => se.extBut _ _ c1 (sd _ _ c4 (sc.extBut _ _ c2 (sb.extBut _ _ c3 (sa.extBut _ _ c1 v))))) ⟨oe, se.extBut _ _ ne ho, hce⟩
/-- by pyNext -/
theorem next_item {k : Nat} {x y a b : Value} {Q : Option Value → Shared → Prop} (D : ZipApart z TI TO i1 i2 l1 l2) (S1 : Src prog w i1 l1 J1 g1) (S2 : Src prog w i2 l2 J2 g2) (zz : IsZip s.heap z TI TO .none) (zi : IsPair s.heap TI (.ref i1) (.ref i2)) (zo : IsPair s.heap TO a b) (j1 : J1 k s.heap) (j2 : J2 k s.heap) (hx : g1 k = some x) (hy : g2 k = some y)
    (q : ∀ g, IsZip g z TI TO (rawInt s.heap.objs.size) → IsPair g TO x y → J1 (k + 1) g → J2 (k + 1) g → IsPair g s.heap.objs.size x y → g.objs.size = s.heap.objs.size + 1 → (∀ c o, c ≠ z → c ≠ TO → c ≠ i1 → c ≠ i2 → s.heap.get? c = some o → g.get? c = some o) → Q (some (.ref s.heap.objs.size)) { s with heap := g }) :
    wpAny (model prog w) A (pyNext (.ref z)) Q E s := by
  have ty : s.TypeIs (.ref z) "zip" := ⟨_, zz, rfl⟩
  unfold pyNext
  refine wpAny_bind (wpAny_attempt (wpAny_callSpecial?_slot (name := Str.ofString "__next__") ty F.slot_zip_next (wpAny_call_entry F.slot_zip_next ty F.entry_zip_next (zip_item D S1 S2 zz zi zo j1 j2 hx hy fun g b1 b2 b3 b4 b5 b6 b7 => ?_) (F.args_zip_next_1 _))))
  exact wpAny_pure (q g b1 b2 b3 b4 b5 b6 b7)
theorem next_end {k : Nat} {a b : Value} {Q : Option Value → Shared → Prop} (hn : A.handled = none) (D : ZipApart z TI TO i1 i2 l1 l2) (S1 : Src prog w i1 l1 J1 g1) (S2 : Src prog w i2 l2 J2 g2) (zz : IsZip s.heap z TI TO .none) (zi : IsPair s.heap TI (.ref i1) (.ref i2)) (zo : IsPair s.heap TO a b) (j1 : J1 k s.heap) (j2 : J2 k s.heap) (last : g1 k = none ∨ g2 k = none)
    (q : ∀ g, (∀ c o, c ≠ z → c ≠ TO → c ≠ i1 → c ≠ i2 → s.heap.get? c = some o → g.get? c = some o) → Q none { s with heap := g }) : wpAny (model prog w) A (pyNext (.ref z)) Q E s := by
  have ty : s.TypeIs (.ref z) "zip" := ⟨_, zz, rfl⟩
  unfold pyNext
  refine wpAny_bind (wpAny_attempt (wpAny_callSpecial?_slot (name := Str.ofString "__next__") ty F.slot_zip_next (wpAny_call_entry F.slot_zip_next ty F.entry_zip_next (zip_end hn D S1 S2 zz zi zo j1 j2 last fun g e kp ⟨o, ho, hc⟩ => ?_) (F.args_zip_next_1 _))))
  exact wpAny_bind (wpAny_isInstance (T := "StopIteration") (b := true) ⟨o, ho, hc⟩ isSubtype_stop (wpAny_pure (q _ kp)))
end
/-! zip(a tuple, a list) -/
abbrev mH (h : Heap) (l1 l2 : Addr) : Heap := (((h.push { cls := .type "tuple_iterator", data := .fields #[.ref l1, .int 0 0] }).push { cls := .type "list_iterator", data := .fields #[.ref l2, .int 0 0] }).push { cls := .type "tuple", data := .seq #[.ref h.objs.size, .ref (h.objs.size + 1)] }).push { cls := .type "tuple", data := .seq #[.none, .none] }
abbrev mZ (h : Heap) (l1 l2 : Addr) : Heap := (mH h l1 l2).push { cls := .type "zip", data := .fields #[.none, .bool false, .bool false, .ref (h.objs.size + 2), .ref (h.objs.size + 3)] }
theorem new_zipM (l1 l2 : Addr) (xs ys : Array Value) : Meets (Builtin.«zip.__new__» ⟨[.type "zip", .ref l1, .ref l2], []⟩) (fun _ R s => s.heap.IsTuple l1 xs ∧ s.heap.IsList l2 ys ∧ R (.ok (.ret (.ref (s.heap.objs.size + 4)))) { s with heap := mZ s.heap l1 l2 }) :=
  .of_wp fun prog w A R s h => by
    obtain ⟨hp, g, d, tk, os⟩ := s
    obtain ⟨t1, t2, h⟩ := h
    have sub := sub_zip
    have u1 : Heap.IsTuple (Shared.heap ⟨hp, g, d, tk, os⟩) l1 xs := t1
    have u2 : Heap.IsList (Shared.heap ⟨hp.push { cls := .type "tuple_iterator", data := .fields #[.ref l1, .int 0 0] }, g, d, tk, os⟩) l2 ys := Heap.IsList.push t2 _
    wp_walk using wpAny_pyIter_tuple u1, wpAny_pyIter_list u2
    refine ⟨_, rfl, ?_⟩
    simp only [Heap.size_push] at h ⊢
    exact h
theorem call_zipM {prog : Program} {w : World} {A : Around} {E : Value → Shared → Prop} {s : Shared} {l1 l2 : Addr} {xs ys : Array Value} {Q : Value → Shared → Prop} (t1 : s.heap.IsTuple l1 xs) (t2 : s.heap.IsList l2 ys)
    (h : ∀ g, IsZip g (s.heap.objs.size + 4) (s.heap.objs.size + 2) (s.heap.objs.size + 3) .none → IsPair g (s.heap.objs.size + 2) (.ref s.heap.objs.size) (.ref (s.heap.objs.size + 1)) → IsPair g (s.heap.objs.size + 3) .none .none → g.IsTupleIter s.heap.objs.size l1 0 → g.IsListIter (s.heap.objs.size + 1) l2 0 → (∀ c o, s.heap.get? c = some o → g.get? c = some o) → Q (.ref (s.heap.objs.size + 4)) { s with heap := g }) :
    wpAny (model prog w) A (call (.type "zip") [.ref l1, .ref l2]) Q E s := by
  refine callType_new F.called_zip (by decide) (F.typeCall_zip_2 _ _) (F.newCall_zip_2 _ _) (fun obj => F.args_object_init_3 obj _ _) F.entry_zip_new (new_zipM l1 l2 xs ys) ⟨t1, t2, ?_⟩
  have up : ∀ (g : Heap) (o : Obj) (c : Addr) (o' : Obj), g.get? c = some o' → (g.push o).get? c = some o' := fun g o c o' e => Heap.get?_push_of_some _ e
  have at_ : ∀ (g : Heap) (o : Obj) (c : Addr), g.objs.size = c → o.isFreed = false → (g.push o).get? c = some o := fun g o c e f => by
    subst e
    exact Heap.get?_push_size _ f
  have zz : IsZip (mZ s.heap l1 l2) (s.heap.objs.size + 4) (s.heap.objs.size + 2) (s.heap.objs.size + 3) .none := at_ _ _ _ (by simp only [Heap.size_push]) rfl
  have w1 : (mZ s.heap l1 l2).get? s.heap.objs.size = some { cls := .type "tuple_iterator", data := .fields #[.ref l1, .int 0 0] } := up _ _ _ _ (up _ _ _ _ (up _ _ _ _ (up _ _ _ _ (at_ _ _ _ rfl rfl))))
  have w2 : (mZ s.heap l1 l2).get? (s.heap.objs.size + 1) = some { cls := .type "list_iterator", data := .fields #[.ref l2, .int 0 0] } := up _ _ _ _ (up _ _ _ _ (up _ _ _ _ (at_ _ _ _ (by simp only [Heap.size_push]) rfl)))
  refine ⟨⟨_, zz, rfl⟩, h _ zz ?_ ?_ ⟨_, w1, rfl, rfl⟩ ⟨_, w2, rfl, rfl⟩ fun c o e => up _ _ _ _ (up _ _ _ _ (up _ _ _ _ (up _ _ _ _ (up _ _ _ _ e))))⟩
  · exact up _ _ _ _ (up _ _ _ _ (at_ _ _ _ (by simp only [Heap.size_push]) rfl))
  · exact up _ _ _ _ (at_ _ _ _ (by simp only [Heap.size_push]) rfl)
end RX
namespace RX
open PySem PySem.Spec PyProof.Rows L2
/-- a tuple and a list, item by item, in new pairs -/
def ItzM (K : PySem.W.Frag) (a b : Addr) : It :=
  ⟨fun i H => ∃ (xs ys : List V) (x y : V), SqT K H a xs ∧ SqL K H b ys ∧ xs[i]? = some x ∧ ys[i]? = some y,
   fun i H v H' => ∃ T x y, v = .ref T ∧ H T = none ∧ H' = upd H T (.tup [x, y]) ∧ (∀ xs, SqT K H a xs → xs[i]? = some x) ∧ ∀ ys, SqL K H b ys → ys[i]? = some y,
   fun i H => ∃ xs ys : List V, SqT K H a xs ∧ SqL K H b ys ∧ (xs.length ≤ i ∨ ys.length ≤ i)⟩
theorem turnM {P : Program} {w : World} {K : PySem.W.Frag} {elts : List Expr} {kk : Nat} {tpos : Pos} {a b z TI TO i1 i2 : Addr} (D : ZipApart z TI TO i1 i2 a b) :
    Turn P w K (.Tuple elts kk tpos) (ItzM K a b) [z, TI, TO, i1, i2] z (fun i h => IsZip h z TI TO .none ∧ IsPair h TI (.ref i1) (.ref i2) ∧ (∃ x y, IsPair h TO x y) ∧ h.IsTupleIter i1 a i ∧ h.IsListIter i2 b i) where
  mem := List.mem_cons_self
  obj := fun i h ⟨hz, hi, ⟨x, y, ho⟩, ⟨o1, e1, _, d1⟩, ⟨o2, e2, _, d2⟩⟩ c hc => by
    simp only [List.mem_cons, List.not_mem_nil, or_false] at hc
    rcases hc with rfl | rfl | rfl | rfl | rfl
    · exact ⟨_, hz, fun v e => nomatch e⟩
    · exact ⟨_, hi, fun v e => nomatch e⟩
    · exact ⟨_, ho, fun v e => nomatch e⟩
    · exact ⟨o1, e1, fun v e => by rw [d1] at e; cases e⟩
    · exact ⟨o2, e2, fun v e => by rw [d2] at e; cases e⟩
  keep := fun i h h' ⟨hz, hi, ⟨x, y, ho⟩, t1, t2⟩ k =>
    ⟨k z (by simp) _ hz, k TI (by simp) _ hi, ⟨x, y, k TO (by simp) _ ho⟩, t1.at fun o e => k i1 (by simp) o e, t2.at fun o e => k i2 (by simp) o e⟩
  item := by
    intro X hP hw hK hc i pins s σ H E I fp ⟨hz, hi, ⟨x0, y0, ho⟩, t1, t2⟩ ⟨xs, ys, x, y, qx, qy, ex, ey⟩
    subst hP hw hK
    obtain ⟨its, rv, pa, _⟩ := I.tuple qx
    obtain ⟨its2, rv2, pb, _⟩ := I.list qy
    obtain ⟨u, eu, ru⟩ := rv.get ex
    obtain ⟨u2, eu2, ru2⟩ := rv2.get ey
    have low : z < s.heap.objs.size := Heap.lt_size hz
    refine next_item D (srcT D.l1i1 its.toArray) (srcL D.l2i2 its2.toArray) hz hi ho ⟨t1, pa⟩ ⟨t2, pb.isList⟩ (x := u) (y := u2) (by simpa using eu) (by simpa using eu2) fun g zg og j1 j2 pg _ kp => ?_
    refine ⟨_, rfl, wpAny_letOwnedTupleGo_zip (s := { s with heap := g }) zg fun g2 zg2 sb => ?_⟩
    have pg2 : g2.get? s.heap.objs.size = some { cls := .type "tuple", data := .seq #[u, u2] } := (sb.2 _ (Nat.ne_of_gt low)).trans pg
    have made : ObjOk X.prog X.w (upd H s.heap.objs.size (.tup [x, y])) g2 s.heap.objs.size (.tup [x, y]) := ⟨(by decide : 2 ≤ sizeLine), [u, u2], .cons ru (.cons ru2 .nil), ⟨_, pg2, rfl, _, rfl⟩⟩
    have I2 : Inv X pins σ (upd H s.heap.objs.size (.tup [x, y])) { s with heap := g2 } := I.turnedNew (t' := s.toks) (ch := [z, TI, TO, i1, i2]) (fun c o nb e => by
      simp only [List.mem_cons, List.not_mem_nil, or_false, not_or] at nb
      exact (sb.2 c nb.1).trans (kp c o nb.1 nb.2.2.1 nb.2.2.2.1 nb.2.2.2.2 e)) fp (Nat.le_refl _) made
    refine ⟨.ref s.heap.objs.size, _, I2, rfl, ⟨_, x, y, rfl, I.hok.fresh (Nat.le_refl _), rfl, fun l hl => by rw [I.tuple_inj hl qx]; exact ex, fun l hl => by rw [I.list_inj hl qy]; exact ey⟩, ⟨zg2, (sb.2 _ D.TIz).trans (kp _ _ D.TIz D.TITO D.TIi1 D.TIi2 hi), ⟨u, u2, (sb.2 _ D.TOz).trans og⟩, j1.1.at fun o e => (sb.2 _ D.i1z).trans e, j2.1.at fun o e => (sb.2 _ D.i2z).trans e⟩, fun c hcm => ?_⟩
    have lt : c < s.heap.objs.size := by
      have old := hcm
      simp only [List.mem_cons, List.not_mem_nil, or_false] at hcm
      rcases hcm with rfl | rfl | rfl | rfl | rfl
      · exact low
      · exact Heap.lt_size hi
      · exact Heap.lt_size ho
      · exact let ⟨_, e, _⟩ := t1; Heap.lt_size e
      · exact let ⟨_, e, _⟩ := t2; Heap.lt_size e
    rw [upd_ne (Nat.ne_of_lt lt)]
    exact (fp c hcm).1
  done := by
    intro X hP hw hK hc i pins s σ H E I fp ⟨hz, hi, ⟨x0, y0, ho⟩, t1, t2⟩ ⟨xs, ys, qx, qy, last⟩
    subst hP hw hK
    obtain ⟨its, rv, pa, _⟩ := I.tuple qx
    obtain ⟨its2, rv2, pb, _⟩ := I.list qy
    have len1 := rv.length
    have len2 := rv2.length
    refine next_end (I.ok.hd hc) D (srcT D.l1i1 its.toArray) (srcL D.l2i2 its2.toArray) hz hi ho ⟨t1, pa⟩ ⟨t2, pb.isList⟩ (last.imp (fun h => by simp; omega) fun h => by simp; omega) fun g kp => ⟨rfl, I.turnedL (t' := s.toks) (ch := [z, TI, TO, i1, i2]) (fun c o nb e => ?_) fp⟩
    simp only [List.mem_cons, List.not_mem_nil, or_false, not_or] at nb
    exact kp c o nb.1 nb.2.2.1 nb.2.2.2.1 nb.2.2.2.2 e
  self := fun A i s Q E st h => wpAny_pyIter_zip st.1 h
def iZipM (K : PySem.W.Frag) (ta : TA) : TI := fun σ H R => ta σ H fun vs H1 => ∃ a b xs ys, vs = [.ref a, .ref b] ∧ SqT K H1 a xs ∧ SqL K H1 b ys ∧ R (ItzM K a b) H1
theorem pi_zipM {X : Cx} {e e2 : Expr} {ta : TA} {p pos tpos : Pos} {elts : List Expr} {kk : Nat} (hg : Gl X "zip") (hm : X.mg "zip" = none) (ha : PA X [e, e2] ta) (hs : starEach [e, e2] X.env = (false, eval e X.env) :: starEach [e2] X.env := by rfl) (hpl : (backTo pos (starEach [e2] X.env)).any (·.1) = false := by rfl) :
    PI X (.Tuple elts kk tpos) (.Call (.Name "zip" p) [e, e2] [] pos) (iZipM X.K ta) := by
  refine ⟨fun pins s σ H R I h => Call_ (ld_blt I hg hm PyProof.Rows.boot_zip (PyProof.Rows.callWith_type1 (thn (ha.run pos pins s σ H _ I h) fun us s1 ⟨vs, H1, I1, r1, a, b, xs, ys, ev, qx, qy, q⟩ => ?_) hs hpl))⟩
  subst ev
  cases r1 with
  | cons ra rr =>
  cases rr with
  | cons rb rr =>
  cases rr
  cases ra
  cases rb
  obtain ⟨its, rv, pa, _⟩ := I1.tuple qx
  obtain ⟨its2, rv2, pb, _⟩ := I1.list qy
  obtain ⟨oa, ea, _⟩ := id pa
  refine call_zipM (show s1.heap.IsTuple a its.toArray from pa) pb.isList fun g hz hi ho t1 t2 kp => wpAny_pyIter_zip hz ⟨s1.heap.objs.size + 4, [s1.heap.objs.size + 4, s1.heap.objs.size + 2, s1.heap.objs.size + 3, s1.heap.objs.size, s1.heap.objs.size + 1], _, _, H1, rfl, I1.kept (t' := s1.toks) kp, turnM (PySem.W.ktu_apart s1.heap.objs.size a b (Heap.lt_size ea) pb.lt), ⟨hz, hi, ⟨_, _, ho⟩, t1, t2⟩, fun c hcm => ?_, q⟩
  have up : s1.heap.objs.size ≤ c := by
    simp only [List.mem_cons, List.not_mem_nil, or_false] at hcm
    rcases hcm with rfl | rfl | rfl | rfl | rfl <;> first | exact Nat.le_add_right _ _ | exact Nat.le_refl _
  exact I1.fpOk up (I1.hok.fresh up)
end RX

/-! ### enumerate of a tuple -/
namespace RX
open PySem
section
variable {prog : Program} {w : World} {A : Around} {E : Value → Shared → Prop} {s : Shared} {e it l : Addr} {J : Nat → Heap → Prop} {get : Nat → Option Value}
theorem enum_item {k : Nat} {x old : Value} {Q : Value → Shared → Prop} (S : Src prog w it l J get) (ee : IsEnum s.heap e it k old) (j : J k s.heap) (hx : get k = some x) (n1 : e ≠ it) (n2 : l ≠ e)
    (q : ∀ g, IsEnumOut g e it ((k : Int) + 1) x s.heap.objs.size → J (k + 1) g → g.get? s.heap.objs.size = some { cls := .type "tuple", data := .seq #[.int k s.toks, x] } → (∀ b o, b ≠ e → b ≠ it → s.heap.get? b = some o → g.get? b = some o) → Q (.ref s.heap.objs.size) { s with heap := g, toks := s.toks + 1 }) :
    wpAny (model prog w) A (Builtin.«enumerate.__next__» ⟨[.ref e], []⟩) (fun fin s' => ∃ v, fin = .done (.ret v) ∧ Q v s') E s := by
  obtain ⟨hp, gn, dp, tk, os⟩ := s
  show wpAny _ _ (field (.ref e) 2 >>= _) _ _ _; refine wpAny_bind (wpAny_field ee rfl (x := .ref it) rfl (wpAny_bind (S.step (s := ⟨hp, gn, dp, tk, os⟩) j hx fun ha ja sa => ?_)))
  replace sa : Heap.SameBut it hp ha := sa
  have ea : IsEnum ha e it k old := (sa.2 e n1).trans ee
  show wpAny _ _ (field (.ref e) 3 >>= _) _ _ ⟨ha, gn, dp, tk, os⟩; refine wpAny_bind (wpAny_field ea rfl (x := rawInt k) rfl ?_)
  show wpAny _ _ (field (.ref e) 4 >>= _) _ _ ⟨ha, gn, dp, tk, os⟩; refine wpAny_bind (wpAny_field ea rfl (x := .none) rfl ?_)
  show wpAny _ _ (mkInt k >>= _) _ _ ⟨ha, gn, dp, tk, os⟩; refine wpAny_bind (wpAny_mkInt ?_)
  show wpAny _ _ (setField (.ref e) 3 (rawInt ((k : Int) + 1)) >>= _) _ _ ⟨ha, gn, dp, tk + 1, os⟩; refine wpAny_bind (wpAny_setField_rec ea (by simp) fun hb eb sb => ?_)
  replace sb : Heap.SameBut e ha hb := sb
  replace eb : IsEnum hb e it ((k : Int) + 1) old := eb
  show wpAny _ _ (setField (.ref e) 4 .none >>= _) _ _ ⟨hb, gn, dp, tk + 1, os⟩; refine wpAny_bind (wpAny_setField_rec eb (by simp) fun hc ec sc => ?_)
  replace sc : Heap.SameBut e hb hc := sc
  replace ec : IsEnum hc e it ((k : Int) + 1) old := ec
  show wpAny _ _ (newTuple [.int k tk, x] >>= _) _ _ ⟨hc, gn, dp, tk + 1, os⟩; refine wpAny_bind (wpAny_newTuple ?_)
  have size : hc.objs.size = hp.objs.size := by rw [sc.1, sb.1, sa.1]
  have low : e < hp.objs.size := Heap.lt_size ee
  have kc : ∀ b o, b ≠ e → b ≠ it → hp.get? b = some o → hc.get? b = some o := fun b o c1 c2 v => sc.extBut b o c1 (sb.extBut b o c1 (sa.extBut b o c2 v))
  have jc : J (k + 1) hc := S.keep n1.symm n2 sc.extBut (S.keep n1.symm n2 sb.extBut ja)
  obtain ⟨hd, ehd⟩ : ∃ hd, hd = hc.push { cls := .type "tuple", data := .seq #[.int k tk, x] } := ⟨_, rfl⟩
  have gd : Heap.ExtBut e hc hd := fun b o _ v => by rw [ehd]; exact Heap.get?_push_of_some _ v
  have ed : IsEnum hd e it ((k : Int) + 1) old := by rw [ehd]; exact Heap.get?_push_of_some _ ec
  have td : hd.get? hp.objs.size = some { cls := .type "tuple", data := .seq #[.int k tk, x] } := by rw [ehd, ← size]; exact Heap.get?_push_size _ rfl
  have jd : J (k + 1) hd := S.keep n1.symm n2 gd jc
  have kd : ∀ b o, b ≠ e → b ≠ it → hp.get? b = some o → hd.get? b = some o := fun b o c1 c2 v => gd b o c1 (kc b o c1 c2 v)
  rw [← ehd, size]
  show wpAny _ _ (Builtin.SmallTypes.ownedTupleIsFree (.ref e) >>= _) _ _ ⟨hd, gn, dp, tk + 1, os⟩; refine wpAny_bind ?_; unfold Builtin.SmallTypes.ownedTupleIsFree
  refine wpAny_bind (wpAny_field ed rfl (x := .none) rfl (wpAny_pure ?_)); simp only [if_true]
  refine wpAny_bind (wpAny_rule (wpAny_bind (wpAny_field ed rfl (x := old) rfl (wpAny_bind (wpAny_setField_rec ed (by simp) fun hf ef sf => ?_)))))
  replace sf : Heap.SameBut e hd hf := sf
  replace ef : IsEnum hf e it ((k : Int) + 1) x := ef
  show wpAny _ _ (Builtin.SmallTypes.ownedTupleHandOut (.ref e) (.ref hp.objs.size) >>= _) _ _ ⟨hf, gn, dp, tk + 1, os⟩; refine wpAny_bind ?_; unfold Builtin.SmallTypes.ownedTupleHandOut
  refine wpAny_bind (wpAny_setField_rec ef (by simp) fun hg eg sg => ?_)
  replace sg : Heap.SameBut e hf hg := sg
  replace eg : IsEnumOut hg e it ((k : Int) + 1) x hp.objs.size := eg
  refine wpAny_setField_rec eg (by simp) fun hh eh sh => ?_
  replace sh : Heap.SameBut e hg hh := sh
  replace eh : IsEnumOut hh e it ((k : Int) + 1) x hp.objs.size := eh
  have all : Heap.ExtBut e hd hh := fun b o c v => sh.extBut b o c (sg.extBut b o c (sf.extBut b o c v))
  exact wpAny_bind (wpAny_letGo (wpAny_pure ⟨_, rfl, q hh eh (S.keep n1.symm n2 all jd) (all _ _ (Nat.ne_of_gt low) td) fun b o c1 c2 v => all b o c1 (kd b o c1 c2 v)⟩))
theorem enum_next {k : Nat} {x old : Value} {Q : Option Value → Shared → Prop} (S : Src prog w it l J get) (ee : IsEnum s.heap e it k old) (j : J k s.heap) (hx : get k = some x) (n1 : e ≠ it) (n2 : l ≠ e)
    (q : ∀ g, IsEnumOut g e it ((k : Int) + 1) x s.heap.objs.size → J (k + 1) g → g.get? s.heap.objs.size = some { cls := .type "tuple", data := .seq #[.int k s.toks, x] } → (∀ b o, b ≠ e → b ≠ it → s.heap.get? b = some o → g.get? b = some o) → Q (some (.ref s.heap.objs.size)) { s with heap := g, toks := s.toks + 1 }) :
    wpAny (model prog w) A (pyNext (.ref e)) Q E s := by
  have ty : s.TypeIs (.ref e) "enumerate" := ⟨_, ee, rfl⟩
  unfold pyNext
  refine wpAny_bind (wpAny_attempt (wpAny_callSpecial?_slot (name := Str.ofString "__next__") ty F.slot_enumerate_next (wpAny_call_entry F.slot_enumerate_next ty F.entry_enumerate_next (enum_item S ee j hx n1 n2 fun g b1 b2 b3 b4 => ?_) (F.args_enumerate_next_1 _))))
  exact wpAny_pure (q g b1 b2 b3 b4)
theorem enum_end {k : Nat} {old : Value} {Q : Option Value → Shared → Prop} (hn : A.handled = none) (S : Src prog w it l J get) (ee : IsEnum s.heap e it k old) (j : J k s.heap) (hx : get k = none) (q : ∀ g, Heap.ExtBut it s.heap g → Q none { s with heap := g }) : wpAny (model prog w) A (pyNext (.ref e)) Q E s := by
  have ty : s.TypeIs (.ref e) "enumerate" := ⟨_, ee, rfl⟩
  unfold pyNext
  refine wpAny_bind (wpAny_attempt (wpAny_callSpecial?_slot (name := Str.ofString "__next__") ty F.slot_enumerate_next (wpAny_call_entry F.slot_enumerate_next ty F.entry_enumerate_next ?_ (F.args_enumerate_next_1 _))))
  show wpAny _ _ (field (.ref e) 2 >>= _) _ _ _; refine wpAny_bind (wpAny_field ee rfl (x := .ref it) rfl (wpAny_bind (S.stop (A := A.in1) (s := s) hn j hx fun g v ev ⟨o, ho, hc⟩ => ?_)))
  exact wpAny_bind (wpAny_isInstance (T := "StopIteration") (b := true) ⟨o, ho, hc⟩ isSubtype_stop (wpAny_pure (q _ ev)))
end
abbrev eT (h : Heap) (l : Addr) : Heap := (h.push { cls := .type "tuple_iterator", data := .fields #[.ref l, .int 0 0] }).push { cls := .type "enumerate", data := .fields #[.none, .bool false, .ref h.objs.size, rawInt 0, .none, .none] }
theorem new_enumT (l : Addr) (xs : Array Value) : Meets (Builtin.«enumerate.__new__» ⟨[.type "enumerate", .ref l], []⟩) (fun _ R s => s.heap.IsTuple l xs ∧ R (.ok (.ret (.ref (s.heap.objs.size + 1)))) { s with heap := eT s.heap l }) :=
  .of_wp fun prog w A R s h => by
    obtain ⟨hp, g, d, tk, os⟩ := s
    obtain ⟨t1, h⟩ := h
    have sub := sub_enumerate
    have u1 : Heap.IsTuple (Shared.heap ⟨hp, g, d, tk, os⟩) l xs := t1
    wp_walk using wpAny_pyIter_tuple u1
    refine wpAny_stack_any fun st => wpAny_pure ?_
    split
    · rename_i c _ _ _ _ _
      cases (c == Value.type "enumerate") <;> (wp_walk using wpAny_pyIter_tuple u1; refine ⟨_, rfl, ?_⟩; simp only [Heap.size_push] at h ⊢; exact h)
    · wp_walk using wpAny_pyIter_tuple u1
      refine ⟨_, rfl, ?_⟩
      simp only [Heap.size_push] at h ⊢
      exact h
theorem call_enumT {prog : Program} {w : World} {A : Around} {E : Value → Shared → Prop} {s : Shared} {l : Addr} {xs : Array Value} {Q : Value → Shared → Prop} (t1 : s.heap.IsTuple l xs)
    (h : ∀ g, IsEnum g (s.heap.objs.size + 1) s.heap.objs.size 0 .none → g.IsTupleIter s.heap.objs.size l 0 → (∀ b o, s.heap.get? b = some o → g.get? b = some o) → Q (.ref (s.heap.objs.size + 1)) { s with heap := g }) :
    wpAny (model prog w) A (call (.type "enumerate") [.ref l]) Q E s := by
  refine callType_new F.called_enumerate (by decide) (F.typeCall_enumerate_1 _) (F.newCall_enumerate_1 _) (fun obj => F.args_object_init_2 obj _) F.entry_enumerate_new (new_enumT l xs) ⟨t1, ?_⟩
  have up : ∀ (g : Heap) (o : Obj) (c : Addr) (o' : Obj), g.get? c = some o' → (g.push o).get? c = some o' := fun g o c o' e => Heap.get?_push_of_some _ e
  have at_ : ∀ (g : Heap) (o : Obj) (c : Addr), g.objs.size = c → o.isFreed = false → (g.push o).get? c = some o := fun g o c e f => by
    subst e
    exact Heap.get?_push_size _ f
  have ee : IsEnum (eT s.heap l) (s.heap.objs.size + 1) s.heap.objs.size 0 .none := at_ _ _ _ (by simp only [Heap.size_push]) rfl
  have w1 : (eT s.heap l).get? s.heap.objs.size = some { cls := .type "tuple_iterator", data := .fields #[.ref l, .int 0 0] } := up _ _ _ _ (at_ _ _ _ rfl rfl)
  exact ⟨⟨_, ee, rfl⟩, h _ ee ⟨_, w1, rfl, rfl⟩ fun c o e => up _ _ _ _ (up _ _ _ _ e)⟩
end RX
namespace RX
open PySem PySem.Spec PyProof.Rows L2
/-- a tuple's items with their places, in new pairs -/
def IteT (K : PySem.W.Frag) (a : Addr) : It :=
  ⟨fun i H => ∃ (xs : List V) (x : V), SqT K H a xs ∧ xs[i]? = some x,
   fun i H v H' => ∃ T x, v = .ref T ∧ H T = none ∧ H' = upd H T (.tup [.int (i : Nat), x]) ∧ ∀ xs, SqT K H a xs → xs[i]? = some x,
   fun i H => ∃ xs : List V, SqT K H a xs ∧ xs.length ≤ i⟩
theorem turnE {P : Program} {w : World} {K : PySem.W.Frag} {elts : List Expr} {kk : Nat} {tpos : Pos} (a e it : Addr) :
    Turn P w K (.Tuple elts kk tpos) (IteT K a) [e, it] e (fun i h => (∃ old, IsEnum h e it ((i : Nat) : Int) old) ∧ h.IsTupleIter it a i ∧ e ≠ it ∧ a ≠ e ∧ a ≠ it) where
  mem := List.mem_cons_self
  obj := fun i h ⟨⟨old, he⟩, ⟨o, ho, _, hd⟩, _⟩ b hb => by
    simp only [List.mem_cons, List.not_mem_nil, or_false] at hb
    rcases hb with rfl | rfl
    · exact ⟨_, he, fun v z => nomatch z⟩
    · exact ⟨o, ho, fun v z => by rw [hd] at z; cases z⟩
  keep := fun i h h' ⟨⟨old, he⟩, t1, ne⟩ k => ⟨⟨old, k e (by simp) _ he⟩, t1.at fun o z => k it (by simp) o z, ne⟩
  item := by
    intro X hP hw hK hc i pins s σ H E I fp ⟨⟨old, he⟩, t1, n1, n2, n3⟩ ⟨xs, x, qx, ex⟩
    subst hP hw hK
    obtain ⟨its, rv, pa, _⟩ := I.tuple qx
    obtain ⟨u, eu, ru⟩ := rv.get ex
    have low : e < s.heap.objs.size := Heap.lt_size he
    have low2 : it < s.heap.objs.size := let ⟨_, z, _⟩ := t1; Heap.lt_size z
    refine enum_next (srcT n3 its.toArray) he ⟨t1, pa⟩ (x := u) (by simpa using eu) n1 n2 fun g eg jg tg kp => ?_
    refine ⟨_, rfl, wpAny_letOwnedTupleGo_enum (s := { s with heap := g, toks := s.toks + 1 }) eg fun g2 eg2 sb => ?_⟩
    have tg2 : g2.get? s.heap.objs.size = some { cls := .type "tuple", data := .seq #[.int i s.toks, u] } := (sb.2 _ (Nat.ne_of_gt low)).trans tg
    have made : ObjOk X.prog X.w (upd H s.heap.objs.size (.tup [.int (i : Nat), x])) g2 s.heap.objs.size (.tup [.int (i : Nat), x]) := ⟨(by decide : 2 ≤ sizeLine), [.int i s.toks, u], .cons ⟨_, rfl⟩ (.cons ru .nil), ⟨_, tg2, rfl, _, rfl⟩⟩
    have I2 : Inv X pins σ (upd H s.heap.objs.size (.tup [.int (i : Nat), x])) { s with heap := g2, toks := s.toks + 1 } := I.turnedNew (ch := [e, it]) (fun b o nb z => by
      simp only [List.mem_cons, List.not_mem_nil, or_false, not_or] at nb
      exact (sb.2 b nb.1).trans (kp b o nb.1 nb.2 z)) fp (Nat.le_refl _) made
    refine ⟨.ref s.heap.objs.size, _, I2, rfl, ⟨_, x, rfl, I.hok.fresh (Nat.le_refl _), rfl, fun l hl => by rw [I.tuple_inj hl qx]; exact ex⟩, ⟨⟨u, ?_⟩, jg.1.at fun o z => (sb.2 it n1.symm).trans z, n1, n2, n3⟩, fun b hb => ?_⟩
    · rw [show ((i + 1 : Nat) : Int) = (i : Int) + 1 by omega]
      exact eg2
    · have lt : b < s.heap.objs.size := by
        have old := hb
        simp only [List.mem_cons, List.not_mem_nil, or_false] at old
        rcases old with rfl | rfl
        · exact low
        · exact low2
      rw [upd_ne (Nat.ne_of_lt lt)]
      exact (fp b hb).1
  done := by
    intro X hP hw hK hc i pins s σ H E I fp ⟨⟨old, he⟩, t1, n1, n2, n3⟩ ⟨xs, qx, last⟩
    subst hP hw hK
    obtain ⟨its, rv, pa, _⟩ := I.tuple qx
    obtain ⟨f0, f1, f2, f3, f4, f5⟩ := fp it (by simp)
    have len := rv.length
    exact enum_end (I.ok.hd hc) (srcT n3 its.toArray) he ⟨t1, pa⟩ (by simp; omega) fun g ev => ⟨rfl, I.turned (t' := s.toks) (fun b o nb z => ev b o nb z) f0 f1 f3 f4 f5⟩
  self := fun A i s Q E ⟨⟨_, he⟩, _⟩ h => wpAny_pyIter_enum he h
def iEnumT (K : PySem.W.Frag) (ta : TA) : TI := fun σ H R => ta σ H fun vs H1 => ∃ a xs, vs = [.ref a] ∧ SqT K H1 a xs ∧ R (IteT K a) H1
theorem pi_enumT {X : Cx} {e : Expr} {ta : TA} {p pos tpos : Pos} {elts : List Expr} {kk : Nat} (hg : Gl X "enumerate") (hm : X.mg "enumerate" = none) (ha : PA X [e] ta) (hs : starEach [e] X.env = [(false, eval e X.env)] := by rfl) :
    PI X (.Tuple elts kk tpos) (.Call (.Name "enumerate" p) [e] [] pos) (iEnumT X.K ta) := by
  refine ⟨fun pins s σ H R I h => Call_ (ld_blt I hg hm boot_enumerate (PyProof.Rows.callWith_type1 (thn (ha.run pos pins s σ H _ I h) fun us s1 ⟨vs, H1, I1, r1, a, xs, ev, qx, q⟩ => ?_) hs rfl))⟩
  subst ev
  cases r1 with
  | cons ra rr =>
  cases rr
  cases ra
  obtain ⟨its, rv, pa, _⟩ := I1.tuple qx
  obtain ⟨oa, ea, _⟩ := id pa
  have low := Heap.lt_size ea
  refine call_enumT (show s1.heap.IsTuple a its.toArray from pa) fun g he t1 kp => wpAny_pyIter_enum he ⟨s1.heap.objs.size + 1, [s1.heap.objs.size + 1, s1.heap.objs.size], _, _, H1, rfl, I1.kept (t' := s1.toks) kp, turnE a (s1.heap.objs.size + 1) s1.heap.objs.size, ⟨⟨.none, he⟩, t1, Nat.succ_ne_self _, Nat.ne_of_lt (Nat.lt_succ_of_lt low), Nat.ne_of_lt low⟩, fun b hb => ?_, q⟩
  have up : s1.heap.objs.size ≤ b := by
    simp only [List.mem_cons, List.not_mem_nil, or_false] at hb
    rcases hb with rfl | rfl <;> first | exact Nat.le_add_right _ _ | exact Nat.le_refl _
  exact I1.fpOk up (I1.hok.fresh up)
end RX

section
variable {K : PySem.W.Frag}
def iEnumTK (K : PySem.W.Frag) (ta : TA) : TI := RX.iEnumT K ta
theorem k_enumT {X : Cx} {e : Expr} {ta : TA} {p pos tpos : Pos} {elts : List Expr} {kk : Nat} (hK : X.K = K) (hg : Gl X "enumerate") (hm : X.mg "enumerate" = none) (ha : PA X [e] ta) (hs : starEach [e] X.env = [(false, eval e X.env)] := by rfl) :
    PI X (.Tuple elts kk tpos) (.Call (.Name "enumerate" p) [e] [] pos) (iEnumTK K ta) := hK ▸ RX.pi_enumT hg hm ha hs
def aEnumT (g : AA) : AI := fun ρ n Q => g ρ n fun ds n1 => match ds with
  | [.tup as] => Q (enumD 0 as) n1
  | _ => False
instance {ta : TA} {g : AA} [DA K ta g] : DI K (iEnumTK K ta) (aEnumT g) := ⟨fun W σ ρ n H R Qa hQ hE o h =>
  DA.run (te := ta) (f := g) W σ ρ n H _ _ (fun ds n1 h1 H1 vs l1 o1 ax => by
    split at h1
    · cases ax with
      | cons a r =>
        cases r
        cases a with
        | tup sa a =>
          refine ⟨_, _, rfl, sa, hQ _ _ h1 _ H1 l1 o1 fun W' hr hd H2 n2 l2 o2 i => ?_⟩
          have s2 := sqt_lk (o1.lk' hr) l2 sa
          refine ⟨fun d e => ?_, fun hi => ⟨_, s2, by rw [a.length]; rw [enumD_length] at hi; exact hi⟩⟩
          obtain ⟨x, e1, rfl⟩ := enumD_get e
          obtain ⟨v, e1', a1⟩ := a.get e1
          refine ⟨⟨_, v, s2, e1'⟩, fun z H3 ⟨T, x', ez, hT, eH, e3⟩ => ?_⟩
          have q1 := e3 _ s2
          rw [e1'] at q1
          cases q1
          subst ez eH
          have st : Same H2 (upd H2 T (.tup [.int i, v])) := same_upd hT
          refine ⟨st, .tup (.inl (.inl upd_same)) (.cons ?_ (.cons ?_ .nil))⟩
          · rw [Nat.zero_add]
            exact .int _
          · exact At.le o2 (Wd.le_same st) _ (At.lk (o1.lk' hr) l2 _ (At.ext hr hd _ a1))
    · exact h1.elim) hE o h⟩
end

/-! ### defs with a default -/
section
variable {K : PySem.W.Frag}
theorem fn_mirD {P : Program} {w : World} {mg : Str → Option Value} {base : Heap} {x qual : Str} {st : Stmt} {f : Addr} {fd : FuncData} {dvs : List V} {kws : List (Str × V)} {N ps : List Str} {k : Nat} {A : ASp} (ow : List Nat) (kk : Nat) (hk : N.length = kk) (hp : ps.length ≤ kk) (ho : ∀ i ∈ ow, ps.length ≤ i) (F : FunD K x qual (defArgs st) (defBody st) (defScope st) dvs kws f fd) (S : FnScope N ps (defScope st))
    (hbody : ∀ (cdv : Value) (Ar : Around) (outer : List Env) (s : Shared) (H : Hp) (E : XK), Room k (Ar.deeper (envOfC qual (defScope st) s.heap.objs.size f cdv)) →
      ∃ (t : TS) (fa : AS), PSs (cxOf CX0 P w K mg base N qual (defScope st) f cdv Ar outer s H E) (defBody st) t ∧ DS K W0 ow t fa ∧ ∀ ds n Q, ds.length = ps.length → A ds n Q → fa (aTop Q) (startA kk ds) n) : FnOk P w K mg base CX0 (k + 1) f fd ps (spOf K ps.length A) := by
  refine F.ok S (fun vs H Q E h => ?_) (fun cdv Ar outer s H vs Q E hr h => ?_)
  · obtain ⟨W, n, ds, Qa, a, hl, _⟩ := h
    rw [a.length, hl]
  · obtain ⟨W, n, ds, Qa, a, hl, o, hQ, hA⟩ := h
    obtain ⟨t, fa, h1, h2, h3⟩ := hbody cdv Ar outer s H E hr
    refine ⟨t, h1, DS.run (Wx := W0) (ow := ow) (t := t) (f := fa) W [] (L2.start N vs) (startA kk ds) n H _ (aTop Qa) ⟨fun ρ' n' q U' σ' H' l' s' => hQ _ _ q H' _ (le_start l') s'.base .non, fun d n' q U1 H1 H' v l' l2 o' a' => hQ _ _ q H' v ((le_start l').trans l2) o' a', fun _ _ q => q.elim, fun _ _ q => q.elim, fun _ _ _ _ _ q => q.elim⟩ (start_ok hk (by omega) (fun i hi => by rw [hl]; exact ho i hi) a o) (h3 ds n Qa hl hA)⟩
def aCallD (k : Nat) (A : ASp) (d : D) (g : AA) : AE := fun ρ n Q => g ρ n fun ds n1 => match Nat.beq (ds.length + 1) k with
  | true => A (ds ++ [d]) n1 Q
  | false => False
instance {k : Nat} {A : ASp} {E : XK} {ta : TA} {g : AA} {a : Addr} {d : D} [DA K ta g] [Kon K a d] : DE K (tCall (spOf K k A) [V.ref a] E ta) (aCallD k A d g) := ⟨fun W σ ρ n H Q Qa hQ hE o h =>
  DA.run (te := ta) (f := g) W σ ρ n H _ _ (fun ds n1 h1 H1 xs l1 o1 ax => by
    split at h1
    · rename_i e
      exact ⟨W, n1, ds ++ [d], Qa, ax.append (.cons (Kon.at_ W H1) .nil), by rw [List.length_append]; exact Nat.eq_of_beq_eq_true e, o1, hQ.le l1, h1⟩
    · exact h1.elim) hE o h⟩
end

/-! ### list(zip(a, b)) of two tuples -/
section
open PySem
open PySem.Sem (wp)
variable {prog : Program} {w : World} {A : Around} {E : Value → Shared → Prop} {s : Shared}
/-- a zip whose first pair is held -/
abbrev IsZipH (h : Heap) (z TI TO T0 : Addr) (b : Bool) : Prop :=
  h.get? z = some { cls := .type "zip", dict := none, data := .fields #[rawInt T0, .bool b, .bool false, .ref TI, .ref TO], slots := #[] }
theorem wpAny_alive {M : Model} {a : Addr} {Q : Option Obj → Shared → Prop} (h : Q (s.heap.get? a) s) : wpAny M A (loadIfAlive a) Q E s := fun Γ p hΓ => by
  unfold loadIfAlive
  rw [Sem.wp_loadIfAlive]
  exact h
theorem owned_held {z TI TO T0 : Addr} {b : Bool} {oT : Obj} {Q : Bool → Shared → Prop} (hz : IsZipH s.heap z TI TO T0 b) (hT : s.heap.get? T0 = some oT)
    (hQ : ∀ h', IsZipH h' z TI TO T0 true → Heap.SameBut z s.heap h' → Q false { s with heap := h' }) : wpAny (model prog w) A (Builtin.SmallTypes.ownedTupleIsFree (.ref z)) Q E s := by
  unfold Builtin.SmallTypes.ownedTupleIsFree
  refine wpAny_bind (wpAny_field hz rfl (x := rawInt T0) rfl ?_)
  show wpAny _ _ (loadIfAlive (Int.toNat (T0 : Int)) >>= _) _ _ _
  refine wpAny_bind (wpAny_alive ?_)
  rw [Int.toNat_natCast, hT]
  show wpAny _ _ (field (.ref z) 1 >>= _) _ _ _
  refine wpAny_bind (wpAny_field hz rfl (x := .bool b) rfl ?_)
  cases b with
  | true =>
    exact wpAny_pure (hQ s.heap hz (Heap.SameBut.refl ..))
  | false =>
    show wpAny _ _ (setField (.ref z) 1 (.bool true) >>= _) _ _ _
    refine wpAny_bind (wpAny_setField_rec hz (by simp) fun h1 hz1 hs1 => wpAny_pure ?_)
    exact hQ h1 hz1 hs1
theorem zipH_item {z TI TO i1 i2 l1 l2 T0 : Addr} {k1 k2 : Nat} {xs ys : Array Value} {x y : Value} {bb : Bool} {oT : Obj} {Q : Value → Shared → Prop} (D : ZipApart z TI TO i1 i2 l1 l2)
    (hz : IsZipH s.heap z TI TO T0 bb) (hT0 : s.heap.get? T0 = some oT) (hTI : IsPair s.heap TI (.ref i1) (.ref i2))
    (h1 : s.heap.IsTupleIter i1 l1 k1) (h2 : s.heap.IsTupleIter i2 l2 k2) (hl1 : s.heap.IsTuple l1 xs) (hl2 : s.heap.IsTuple l2 ys) (hx : xs[k1]? = some x) (hy : ys[k2]? = some y)
    (hQ : ∀ h', IsZipH h' z TI TO T0 true → h'.IsTupleIter i1 l1 (k1 + 1) → h'.IsTupleIter i2 l2 (k2 + 1) → IsPair h' s.heap.objs.size x y →
      (∀ c o, c ≠ z → c ≠ i1 → c ≠ i2 → s.heap.get? c = some o → h'.get? c = some o) → Q (.ref s.heap.objs.size) { s with heap := h' }) :
    wpAny (model prog w) A (Builtin.«zip.__next__» ⟨[.ref z], []⟩) (fun fin s' => ∃ v, fin = .done (.ret v) ∧ Q v s') E s := by
  show wpAny _ _ (field (.ref z) 2 >>= _) _ _ _
  refine wpAny_bind (wpAny_field hz rfl (x := .bool false) rfl ?_)
  show wpAny _ _ (field (.ref z) 3 >>= _) _ _ _
  refine wpAny_bind (wpAny_field hz rfl (x := .ref TI) rfl ?_)
  refine wpAny_bind (wpAny_seqItems hTI rfl ?_)
  show wpAny _ _ (Builtin.SmallTypes.ownedTupleIsFree (.ref z) >>= _) _ _ _
  refine wpAny_bind (owned_held hz hT0 fun h₁ hz₁ hs₁ => ?_)
  simp only [Bool.false_eq_true, if_false]
  refine wpAny_bind ?_
  rw [show (#[Value.ref i1, Value.ref i2] : Array Value) = [Value.ref i1, Value.ref i2].toArray from rfl, List.forIn_toArray]
  simp only [List.forIn_cons, List.forIn_nil]
  refine wpAny_bind (wpAny_bind (wpAny_holding ?_))
  show wpAny _ _ (Builtin.SmallTypes.nextOf (.ref i1) >>= _) _ _ _
  refine wpAny_bind (RZ.nextOf_tuple_item (h1.extBut hs₁.extBut D.i1z) (hl1.extBut hs₁.extBut D.l1z) hx fun h₂ h1₂ hs₂ => wpAny_pure (wpAny_pure ?_))
  show wpAny _ _ (_ >>= _) _ _ _
  refine wpAny_bind (wpAny_bind (wpAny_holding ?_))
  show wpAny _ _ (Builtin.SmallTypes.nextOf (.ref i2) >>= _) _ _ _
  refine wpAny_bind (RZ.nextOf_tuple_item ((h2.extBut hs₁.extBut D.i2z).extBut hs₂.extBut D.i12.symm) ((hl2.extBut hs₁.extBut D.l2z).extBut hs₂.extBut D.l2i1) hy fun h₃ h2₃ hs₃ => wpAny_pure (wpAny_pure (wpAny_pure ?_)))
  show wpAny _ _ (newTuple [x, y] >>= _) _ _ _
  refine wpAny_bind (wpAny_newTuple (wpAny_pure ⟨_, rfl, ?_⟩))
  have hsz : h₃.objs.size = s.heap.objs.size := by rw [hs₃.1, hs₂.1, hs₁.1]
  have hz₃ : IsZipH h₃ z TI TO T0 true := hs₃.extBut _ _ D.i2z.symm (hs₂.extBut _ _ D.i1z.symm hz₁)
  have up : ∀ c o, h₃.get? c = some o → (h₃.push { cls := .type "tuple", data := .seq #[x, y] }).get? c = some o := fun c o e => Heap.get?_push_of_some _ e
  show Q (.ref h₃.objs.size) _
  rw [hsz]
  refine hQ _ (up _ _ hz₃) ((h1₂.extBut hs₃.extBut D.i12).at fun o e => up _ o e) (h2₃.at fun o e => up _ o e) ?_ fun c o c1 c2 c3 e => up _ _ (hs₃.extBut _ _ c3 (hs₂.extBut _ _ c2 (hs₁.extBut _ _ c1 e)))
  rw [← hsz]
  exact Heap.get?_push_size _ rfl
theorem zipH_end {z TI TO i1 i2 l1 l2 T0 : Addr} {k1 : Nat} {xs : Array Value} {bb : Bool} {oT : Obj} {Q : Fin → Shared → Prop} (hh : A.handled = none) (D : ZipApart z TI TO i1 i2 l1 l2)
    (hz : IsZipH s.heap z TI TO T0 bb) (hT0 : s.heap.get? T0 = some oT) (hTI : IsPair s.heap TI (.ref i1) (.ref i2))
    (h1 : s.heap.IsTupleIter i1 l1 k1) (hl1 : s.heap.IsTuple l1 xs) (hend : xs[k1]? = none)
    (hE : ∀ h' e, (∀ c o, c ≠ z → c ≠ i1 → s.heap.get? c = some o → h'.get? c = some o) → (∃ o, h'.get? e = some o ∧ o.cls = .type "StopIteration") → E (.ref e) { s with heap := h' }) :
    wpAny (model prog w) A (Builtin.«zip.__next__» ⟨[.ref z], []⟩) Q E s := by
  show wpAny _ _ (field (.ref z) 2 >>= _) _ _ _
  refine wpAny_bind (wpAny_field hz rfl (x := .bool false) rfl ?_)
  show wpAny _ _ (field (.ref z) 3 >>= _) _ _ _
  refine wpAny_bind (wpAny_field hz rfl (x := .ref TI) rfl ?_)
  refine wpAny_bind (wpAny_seqItems hTI rfl ?_)
  show wpAny _ _ (Builtin.SmallTypes.ownedTupleIsFree (.ref z) >>= _) _ _ _
  refine wpAny_bind (owned_held hz hT0 fun h₁ hz₁ hs₁ => ?_)
  simp only [Bool.false_eq_true, if_false]
  refine wpAny_bind ?_
  rw [show (#[Value.ref i1, Value.ref i2] : Array Value) = [Value.ref i1, Value.ref i2].toArray from rfl, List.forIn_toArray]
  simp only [List.forIn_cons, List.forIn_nil]
  refine wpAny_bind (wpAny_bind (wpAny_holding ?_))
  show wpAny _ _ (Builtin.SmallTypes.nextOf (.ref i1) >>= _) _ _ _
  refine wpAny_bind (RZ.nextOf_tuple_end hh (h1.extBut hs₁.extBut D.i1z) (hl1.extBut hs₁.extBut D.l1z) hend fun h₂ e hs₂ he => ?_)
  exact hE h₂ e (fun c o c1 c3 x => hs₂ _ _ c3 (hs₁.extBut _ _ c1 x)) he
theorem next_zipH_item {z TI TO i1 i2 l1 l2 T0 : Addr} {k1 k2 : Nat} {xs ys : Array Value} {x y : Value} {bb : Bool} {oT : Obj} {Q : Option Value → Shared → Prop} (D : ZipApart z TI TO i1 i2 l1 l2)
    (hz : IsZipH s.heap z TI TO T0 bb) (hT0 : s.heap.get? T0 = some oT) (hTI : IsPair s.heap TI (.ref i1) (.ref i2))
    (h1 : s.heap.IsTupleIter i1 l1 k1) (h2 : s.heap.IsTupleIter i2 l2 k2) (hl1 : s.heap.IsTuple l1 xs) (hl2 : s.heap.IsTuple l2 ys) (hx : xs[k1]? = some x) (hy : ys[k2]? = some y)
    (hQ : ∀ h', IsZipH h' z TI TO T0 true → h'.IsTupleIter i1 l1 (k1 + 1) → h'.IsTupleIter i2 l2 (k2 + 1) → IsPair h' s.heap.objs.size x y →
      (∀ c o, c ≠ z → c ≠ i1 → c ≠ i2 → s.heap.get? c = some o → h'.get? c = some o) → Q (some (.ref s.heap.objs.size)) { s with heap := h' }) :
    wpAny (model prog w) A (pyNext (.ref z)) Q E s := by
  have hT : s.TypeIs (.ref z) "zip" := ⟨_, hz, rfl⟩
  unfold pyNext
  exact wpAny_bind (wpAny_attempt (wpAny_callSpecial?_slot (name := Str.ofString "__next__") hT F.slot_zip_next
    (wpAny_call_entry F.slot_zip_next hT F.entry_zip_next
      (zipH_item D hz hT0 hTI h1 h2 hl1 hl2 hx hy fun h' a1 a2 a3 a4 a5 => wpAny_pure (hQ h' a1 a2 a3 a4 a5)) (F.args_zip_next_1 _))))
theorem next_zipH_end {z TI TO i1 i2 l1 l2 T0 : Addr} {k1 : Nat} {xs : Array Value} {bb : Bool} {oT : Obj} {Q : Option Value → Shared → Prop} (hh : A.handled = none) (D : ZipApart z TI TO i1 i2 l1 l2)
    (hz : IsZipH s.heap z TI TO T0 bb) (hT0 : s.heap.get? T0 = some oT) (hTI : IsPair s.heap TI (.ref i1) (.ref i2))
    (h1 : s.heap.IsTupleIter i1 l1 k1) (hl1 : s.heap.IsTuple l1 xs) (hend : xs[k1]? = none)
    (hQ : ∀ h', (∀ c o, c ≠ z → c ≠ i1 → s.heap.get? c = some o → h'.get? c = some o) → Q none { s with heap := h' }) : wpAny (model prog w) A (pyNext (.ref z)) Q E s := by
  have hT : s.TypeIs (.ref z) "zip" := ⟨_, hz, rfl⟩
  unfold pyNext
  refine wpAny_bind (wpAny_attempt (wpAny_callSpecial?_slot (name := Str.ofString "__next__") hT F.slot_zip_next
    (wpAny_call_entry F.slot_zip_next hT F.entry_zip_next (zipH_end hh D hz hT0 hTI h1 hl1 hend fun h' e hk he => ?_) (F.args_zip_next_1 _))))
  obtain ⟨o, ho, hc⟩ := he
  refine wpAny_bind (wpAny_isInstance (T := "StopIteration") (b := true) ⟨o, ho, hc⟩ isSubtype_stop ?_)
  exact wpAny_pure (hQ _ hk)
theorem zip_no_len : typeLookup (.type "zip") "__len__" = pure none := by rw [typeLookup_type, builtinLookup_eq_fast]; kernel_rfl
theorem zip_no_hint : typeLookup (.type "zip") "__length_hint__" = pure none := by rw [typeLookup_type, builtinLookup_eq_fast]; kernel_rfl
end

/-- pairs, laid -/
def PairsAt (H : Hp) (xs ys : List V) (ts : List Addr) : Prop := ∀ (i : Nat) (t : Addr), ts[i]? = some t → ∃ x y, xs[i]? = some x ∧ ys[i]? = some y ∧ H t = some (.tup [x, y])
section
open PySem
variable {X : Cx} {pins : List (Addr × Obj)} {σ : L2.St}
def ZSt (h : Heap) (z TI TO : Addr) (ts : List Addr) : Prop := (ts = [] ∧ IsZip h z TI TO .none ∧ ∃ x y, IsPair h TO x y) ∨ ∃ T0 r b, ts = T0 :: r ∧ IsZipH h z TI TO T0 b
theorem zip_loop {A : Around} {a b z TI TO i1 i2 S : Addr} {xs ys : List V} {res : Value} {Rr : Result → Shared → Prop} {H0 : Hp} (hh : A.handled = none) (D : ZipApart z TI TO i1 i2 a b) (hS0 : H0 S = none)
    (hlen : xs.length = ys.length) (hsz : xs.length ≤ 1000000) :
    ∀ (k : Nat) (s : Shared) (H : Hp) (ts : List Addr), xs.length - ts.length = k → ts.length ≤ xs.length → Inv X pins σ H s → ZSt s.heap z TI TO ts → IsPair s.heap TI (.ref i1) (.ref i2) →
      s.heap.IsTupleIter i1 a ts.length → s.heap.IsTupleIter i2 b ts.length → SqT X.K H a xs → SqT X.K H b ys → H S = some (.lst (ts.map V.ref)) → PairsAt H xs ys ts → (∀ c o, H0 c = some o → H c = some o) →
      (∀ c ∈ [z, TI, TO, i1, i2], FpOk X pins H c) → (∀ c ∈ [z, TI, TO, i1, i2], c < s.heap.objs.size) →
      (∀ s' H' ts', Inv X pins σ H' s' → (∀ c o, H0 c = some o → H' c = some o) → H' S = some (.lst (ts'.map V.ref)) → ts'.length = xs.length → PairsAt H' xs ys ts' → Rr (.ok (.ret res)) s') →
      codeAny (model X.prog X.w) A (.builtin "list.extend.loop" ⟨[.ref S, .ref z, res], []⟩) Rr s := by
  intro k
  induction k with
  | zero =>
    intro s H ts hk hi I hz hTI h1 h2 qa qb hS hP hold hf hbd hR
    have hin : ts.length = xs.length := by omega
    obtain ⟨its, rv, p, _⟩ := I.tuple qa
    obtain ⟨its2, rv2, p2, _⟩ := I.tuple qb
    have hend : its.toArray[ts.length]? = none := by
      have := rv.length
      simp
      omega
    refine codeAny_builtin F.entry_extend_loop ?_
    rw [Around.under_plainId F.plain_extend_loop _]
    show wpAny _ A.in1 (pyNext (.ref z) >>= _) _ _ s
    refine wpAny_bind ?_
    have fin : ∀ h' : Heap, (∀ c o, c ≠ z → c ≠ TO → c ≠ i1 → c ≠ i2 → s.heap.get? c = some o → h'.get? c = some o) → Rr (.ok (.ret res)) { s with heap := h' } := fun h' hk' =>
      hR _ H ts (I.turnedL (t' := s.toks) (ch := [z, TI, TO, i1, i2]) (fun c o hb q => hk' c o (fun e => hb (by simp [e])) (fun e => hb (by simp [e])) (fun e => hb (by simp [e])) (fun e => hb (by simp [e])) q) hf) hold hS hin hP
    rcases hz with ⟨_, hz, x0, y0, hTO⟩ | ⟨T0, r, bb, rfl, hz⟩
    · exact RZ.pyNext_zipT_end (show A.in1.handled = none from hh) D hz hTI hTO h1 h2 p p2 (.inl hend) fun h' hk' => wpAny_pure (fin h' hk')
    · obtain ⟨x, y, _, _, hT0⟩ := hP 0 T0 rfl
      obtain ⟨_, its0, _, ⟨oT, hoT, _⟩⟩ : ObjOk X.prog X.w H s.heap T0 (.tup [x, y]) := I.hok T0 _ hT0
      exact next_zipH_end (show A.in1.handled = none from hh) D hz hoT hTI h1 p hend fun h' hk' => wpAny_pure (fin h' fun c o c1 _ c3 _ e => hk' c o c1 c3 e)
  | succ k ih =>
    intro s H ts hk hi I hz hTI h1 h2 qa qb hS hP hold hf hbd hR
    have hlt : ts.length < xs.length := by omega
    obtain ⟨its, rv, p, _⟩ := I.tuple qa
    obtain ⟨its2, rv2, p2, _⟩ := I.tuple qb
    have hx : xs[ts.length]? = some xs[ts.length] := List.getElem?_eq_getElem hlt
    have hlt2 : ts.length < ys.length := by omega
    have hy : ys[ts.length]? = some ys[ts.length] := List.getElem?_eq_getElem hlt2
    generalize xs[ts.length] = x at hx
    generalize ys[ts.length] = y at hy
    obtain ⟨u, hu, ru⟩ := rv.get hx
    obtain ⟨u2, hu2, ru2⟩ := rv2.get hy
    refine codeAny_builtin F.entry_extend_loop ?_
    rw [Around.under_plainId F.plain_extend_loop _]
    show wpAny _ A.in1 (pyNext (.ref z) >>= _) _ _ s
    refine wpAny_bind ?_
    have fin : ∀ h' : Heap, ZSt h' z TI TO (ts ++ [s.heap.objs.size]) → h'.IsTupleIter i1 a (ts.length + 1) → h'.IsTupleIter i2 b (ts.length + 1) → IsPair h' s.heap.objs.size u u2 →
        (∀ c o, c ≠ z → c ≠ TO → c ≠ i1 → c ≠ i2 → s.heap.get? c = some o → h'.get? c = some o) →
        wpAny (model X.prog X.w) A.in1 (updateSeq S (·.push (.ref s.heap.objs.size)) >>= fun _ => again (.builtin "list.extend.loop" ⟨[.ref S, .ref z, res], []⟩))
          (fun fin s' => match fin with | .done f => Rr (.ok f) s' | .again c' => c'.quiet = true ∧ codeAny (model X.prog X.w) A c' Rr s') (fun e s' => Rr (.error e) s') { s with heap := h' } := fun h' hz' h1' h2' hT hk' => by
      have hTI' : IsPair h' TI (.ref i1) (.ref i2) := hk' TI _ D.TIz D.TITO D.TIi1 D.TIi2 hTI
      have new : ObjOk X.prog X.w (upd H s.heap.objs.size (.tup [x, y])) h' s.heap.objs.size (.tup [x, y]) :=
        ⟨by show 2 ≤ sizeLine; decide, [u, u2], .cons ru (.cons ru2 .nil), ⟨_, hT, rfl, _, rfl⟩⟩
      have I1 : Inv X pins σ (upd H s.heap.objs.size (.tup [x, y])) { s with heap := h' } :=
        I.turnedNew (t' := s.toks) (ch := [z, TI, TO, i1, i2]) (fun c o hb q => hk' c o (fun e => hb (by simp [e])) (fun e => hb (by simp [e])) (fun e => hb (by simp [e])) (fun e => hb (by simp [e])) q) hf (Nat.le_refl _) new
      have fr : H s.heap.objs.size = none := I.hok.fresh (Nat.le_refl _)
      have sm : ∀ c o, H c = some o → upd H s.heap.objs.size (.tup [x, y]) c = some o := fun c o e => by
        rw [upd_ne (ne_of_none e fr)]
        exact e
      have hS1 := sm S _ hS
      obtain ⟨hz1, itsS, nS, rvS, eS⟩ : ObjOk X.prog X.w _ h' S (.lst (ts.map V.ref)) := I1.hok S _ hS1
      have lS : itsS.length = ts.length := by
        have := rvS.length
        simp at this
        omega
      have line := sizeLine_eq
      refine wpAny_bind (wpAny_updateSeq (s := { s with heap := h' }) eS rfl (wpAny_pure ⟨plainId_quiet F.plain_extend_loop _, ?_⟩) (by simp; omega) (by simp; omega))
      have eS2 := Heap.get?_update_self (Obj.mapSeq (·.push (Value.ref s.heap.objs.size))) eS rfl
      have I2 : Inv X pins σ (upd (upd H s.heap.objs.size (.tup [x, y])) S (.lst ((ts ++ [s.heap.objs.size]).map V.ref))) { s with heap := h'.update S (Obj.mapSeq (·.push (Value.ref s.heap.objs.size))) } :=
        I1.write (x := S) (e := S) (t' := s.toks) (by rw [hS1]; trivial) (.inl rfl) (fun c o hc e => (Heap.get?_update_other _ _ (Ne.symm hc)).trans e) ⟨_, eS2⟩ ⟨by rw [List.length_map, List.length_append]; simp; omega, itsS ++ [.ref s.heap.objs.size], _, by
            rw [List.map_append]
            exact rvS.append (.cons rfl .nil), by
            rw [eS2]
            simp [Obj.mapSeq]
            rfl⟩
      have nS' : ∀ c, H c = none → c ≠ S := fun c e e' => by
        rw [e', hS] at e
        cases e
      have oth : ∀ c o, c ≠ S → h'.get? c = some o → (h'.update S (Obj.mapSeq (·.push (Value.ref s.heap.objs.size)))).get? c = some o := fun c o hc e => (Heap.get?_update_other _ _ (Ne.symm hc)).trans e
      have up : ∀ c o, c ≠ S → H c = some o → upd (upd H s.heap.objs.size (.tup [x, y])) S (.lst ((ts ++ [s.heap.objs.size]).map V.ref)) c = some o := fun c o hc e => by
        rw [upd_ne hc]
        exact sm c o e
      have nz := fun c hc => nS' c (hf c hc).1
      have TS : s.heap.objs.size ≠ S := nS' _ fr
      refine ih _ _ (ts ++ [s.heap.objs.size]) (by rw [List.length_append]; simp; omega) (by rw [List.length_append]; simp; omega) I2 ?_ (oth _ _ (nz TI (by simp)) hTI') ?_ ?_ ?_ ?_ (by rw [upd_same]) ?_ ?_ ?_ ?_ hR
      · rcases hz' with ⟨e, _⟩ | ⟨T0, r, bb, e, hz'⟩
        · simp at e
        · exact .inr ⟨T0, r, bb, e, oth _ _ (nz z (by simp)) hz'⟩
      · rw [List.length_append]
        exact h1'.at fun o e => oth _ o (nz i1 (by simp)) e
      · rw [List.length_append]
        exact h2'.at fun o e => oth _ o (nz i2 (by simp)) e
      · rcases qa with (g | ⟨ob, g⟩) | g
        · exact .inl (.inl (up _ _ (fun e => by rw [e, hS] at g; cases g) g))
        · exact .inl (.inr ⟨ob, up _ _ (fun e => by rw [e, hS] at g; cases g) g⟩)
        · exact .inr g
      · rcases qb with (g | ⟨ob, g⟩) | g
        · exact .inl (.inl (up _ _ (fun e => by rw [e, hS] at g; cases g) g))
        · exact .inl (.inr ⟨ob, up _ _ (fun e => by rw [e, hS] at g; cases g) g⟩)
        · exact .inr g
      · intro i t e
        by_cases hi' : i < ts.length
        · rw [List.getElem?_append_left hi'] at e
          obtain ⟨x', y', e1, e2, e3⟩ := hP i t e
          exact ⟨x', y', e1, e2, up _ _ (fun e' => by rw [e', hS] at e3; cases e3) e3⟩
        · have hi2 : i = ts.length := by
            have := (List.getElem?_eq_some_iff.mp e).1
            simp at this
            omega
          subst hi2
          have : t = s.heap.objs.size := by
            rw [List.getElem?_append_right (Nat.le_refl _)] at e
            simpa using e.symm
          subst this
          exact ⟨x, y, hx, hy, by rw [upd_ne TS, upd_same]⟩
      · intro c o e
        refine up c o (fun e' => ?_) (hold c o e)
        rw [e', hS0] at e
        cases e
      · intro c hc
        obtain ⟨g1, g2⟩ := hf c hc
        refine ⟨?_, g2⟩
        rw [upd_ne (nz c hc), upd_ne (Nat.ne_of_lt (hbd c hc))]
        exact g1
      · intro c hc
        exact Nat.lt_trans (hbd c hc) (Heap.lt_size (oth _ _ TS hT))
    rcases hz with ⟨rfl, hz, x0, y0, hTO⟩ | ⟨T0, r, bb, rfl, hz⟩
    · exact RZ.pyNext_zipT_item D hz hTI hTO h1 h2 p p2 (x := u) (y := u2) (by simpa using hu) (by simpa using hu2) fun h' z' TO' h1' h2' hT hsz' hk' => fin h' (.inr ⟨_, [], false, rfl, z'⟩) h1' h2' hT hk'
    · obtain ⟨x', y', _, _, hT0⟩ := hP 0 T0 rfl
      obtain ⟨_, its0, _, ⟨oT, hoT, _⟩⟩ : ObjOk X.prog X.w H s.heap T0 (.tup [x', y']) := I.hok T0 _ hT0
      exact next_zipH_item D hz hoT hTI h1 h2 p p2 (x := u) (y := u2) (by simpa using hu) (by simpa using hu2) fun h' z' h1' h2' hT hk' => fin h' (.inr ⟨T0, r ++ [s.heap.objs.size], true, rfl, z'⟩) h1' h2' hT fun c o c1 _ c3 c4 e => hk' c o c1 c3 c4 e
/-- the call list(z) of a zip at its start -/
theorem call_list_zip {A : Around} {a b z TI TO i1 i2 : Addr} {xs ys : List V} {Q : Value → Shared → Prop} {E : Value → Shared → Prop} {s : Shared} {H : Hp} (hh : A.handled = none) (D : ZipApart z TI TO i1 i2 a b)
    (hlen : xs.length = ys.length) (hsz : xs.length ≤ 1000000) (I : Inv X pins σ H s) (hz : IsZip s.heap z TI TO .none) (hTI : IsPair s.heap TI (.ref i1) (.ref i2)) (hTO : ∃ x y, IsPair s.heap TO x y)
    (h1 : s.heap.IsTupleIter i1 a 0) (h2 : s.heap.IsTupleIter i2 b 0) (qa : SqT X.K H a xs) (qb : SqT X.K H b ys) (hf : ∀ c ∈ [z, TI, TO, i1, i2], FpOk X pins H c) (hbd : ∀ c ∈ [z, TI, TO, i1, i2], c < s.heap.objs.size)
    (hQ : ∀ s' H' ts S, Inv X pins σ H' s' → H S = none → (∀ c o, H c = some o → H' c = some o) → H' S = some (.lst (ts.map V.ref)) → ts.length = xs.length → PairsAt H' xs ys ts → Q (.ref S) s') :
    wpAny (model X.prog X.w) A (call (.type "list") [.ref z]) Q E s := by
  refine callType_codes (Q₁ := fun obj s₁ => obj = .ref s.heap.objs.size ∧ s₁ = { s with heap := s.heap.push { cls := .type "list", data := .seq #[] } }) F.called_list (F.typeCall_list_1 _) F.entry_list_init
    (code_list_new _ ⟨rfl, rfl⟩) fun obj s₁ h₁ => ?_
  obtain ⟨rfl, rfl⟩ := h₁
  have hS : (s.heap.push { cls := .type "list", data := .seq #[] }).get? s.heap.objs.size = some { cls := .type "list", data := .seq #[] } := Heap.get?_push_size _ rfl
  refine ⟨⟨_, hS, rfl⟩, F.args_list_init_2 _ _, ?_⟩
  obtain ⟨S, hSd⟩ : ∃ S, S = s.heap.objs.size := ⟨_, rfl⟩
  rw [← hSd] at hS ⊢
  have fr : H S = none := I.hok.fresh (Nat.le_of_eq hSd.symm)
  have k0 : ∀ c o, s.heap.get? c = some o → (s.heap.push { cls := .type "list", data := .seq #[] }).get? c = some o := fun c o e => Heap.get?_push_of_some _ e
  have nS : ∀ c o, s.heap.get? c = some o → c ≠ S := fun c o e => Nat.ne_of_lt (Nat.lt_of_lt_of_eq (Heap.lt_size e) hSd.symm)
  have hSz : S ≠ z := Nat.ne_of_gt (Nat.lt_of_lt_of_eq (hbd z (by simp)) hSd.symm)
  generalize s.heap.push { cls := .type "list", data := .seq #[] } = g0 at hS k0 ⊢
  show wpAny _ A.in1.in1 (do let old ← Builtin.List.listItems (.ref S); Builtin.List.listUpdate (.ref S) (fun _ => #[]); letGo old.toList.reverse; Builtin.List.listExtendWith (.ref S) (.ref z) .none) _ _ _
  refine wpAny_bind ?_
  unfold Builtin.List.listItems
  refine wpAny_bind (wpAny_seqItems (s := { s with heap := g0 }) hS rfl (wpAny_pure ?_))
  show wpAny _ A.in1.in1 (updateSeq S (fun _ => #[]) >>= fun _ => letGo (#[] : Array Value).toList.reverse >>= fun _ => Builtin.List.listExtendWith (.ref S) (.ref z) .none) _ _ _
  refine wpAny_bind (wpAny_updateSeq (s := { s with heap := g0 }) hS rfl ?_)
  have hS₂ := Heap.get?_update_self (Obj.mapSeq (fun _ => (#[] : Array Value))) hS rfl
  have oth : ∀ c o, s.heap.get? c = some o → (g0.update S (Obj.mapSeq (fun _ => (#[] : Array Value)))).get? c = some o := fun c o e => (Heap.get?_update_other _ _ (Ne.symm (nS c o e))).trans (k0 c o e)
  generalize g0.update S (Obj.mapSeq (fun _ => (#[] : Array Value))) = g1 at hS₂ oth ⊢
  refine wpAny_bind (wpAny_letGo ?_)
  have hT : ({ s with heap := g1 } : Shared).TypeIs (.ref z) "zip" := ⟨_, oth _ _ hz, rfl⟩
  unfold Builtin.List.listExtendWith
  refine wpAny_bind (wpAny_typeOf hT ?_)
  have e1 : Builtin.List.listSameRef (.ref S) (.ref z) = false := by simp [Builtin.List.listSameRef, hSz]
  have e2 : (Value.type "zip" == Value.type "list") = false := by decide
  have e3 : (Value.type "zip" == Value.type "tuple") = false := by decide
  simp only [e1, e2, e3, Bool.or_false, Bool.false_eq_true, if_false]
  refine wpAny_bind (wpAny_pyIter_zip (s := { s with heap := g1 }) (oth _ _ hz) ?_)
  refine wpAny_bind (wpAny_holding ?_)
  unfold Builtin.List.listLengthHint
  refine wpAny_bind (wpAny_specialOf hT zip_no_len ?_)
  show wpAny _ A.in1.in1 (specialOf (Value.ref z) (Str.ofString "__length_hint__") >>= _) _ _ _
  refine wpAny_bind (wpAny_specialOf hT zip_no_hint ?_)
  refine wpAny_pure ?_
  show wpAny _ A.in1.in1 (rule "list.extend.makes-room" >>= fun _ => Builtin.List.listTouch (.ref S) >>= fun _ =>
    again (.builtin "list.extend.loop" ⟨[.ref S, .ref z, .none], []⟩)) _ _ _
  refine wpAny_bind (wpAny_rule ?_)
  refine wpAny_bind ?_
  show wpAny _ A.in1.in1 (updateSeq S (·.push .none) >>= fun _ => updateSeq S (·.pop)) _ _ _
  refine wpAny_bind (wpAny_updateSeq (s := { s with heap := g1 }) hS₂ rfl ?_)
  have hS₃ := Heap.get?_update_self (Obj.mapSeq (·.push Value.none)) hS₂ rfl
  refine wpAny_updateSeq (hz := by seq_fits) (s := { s with heap := g1.update S (Obj.mapSeq (·.push Value.none)) }) hS₃ rfl ?_
  have hS₄ := Heap.get?_update_self (Obj.mapSeq (·.pop)) hS₃ rfl
  have oth2 : ∀ c o, s.heap.get? c = some o → ((g1.update S (Obj.mapSeq (·.push Value.none))).update S (Obj.mapSeq (·.pop))).get? c = some o :=
    fun c o e => (Heap.get?_update_other _ _ (Ne.symm (nS c o e))).trans ((Heap.get?_update_other _ _ (Ne.symm (nS c o e))).trans (oth c o e))
  generalize (g1.update S (Obj.mapSeq (·.push Value.none))).update S (Obj.mapSeq (·.pop)) = g2 at hS₄ oth2 ⊢
  have I2 : Inv X pins σ (upd H S (.lst [])) { s with heap := g2 } := I.laid (t' := s.toks) oth2 (Nat.le_of_eq hSd.symm) (show ObjOk X.prog X.w _ g2 _ (.lst []) from ⟨Nat.zero_le _, [], _, .nil, hS₄⟩)
  have sm : ∀ c o, H c = some o → upd H S (.lst []) c = some o := fun c o e => by
    rw [upd_ne (ne_of_none e fr)]
    exact e
  refine wpAny_pure ⟨plainId_quiet F.plain_extend_loop _, zip_loop (A := A.in1) (H0 := H) (X := X) (pins := pins) (σ := σ) hh D fr hlen hsz _ _ (upd H S (.lst [])) [] rfl (Nat.zero_le _) I2 (.inl ⟨rfl, oth2 _ _ hz, let ⟨x, y, e⟩ := hTO; ⟨x, y, oth2 _ _ e⟩⟩) (oth2 _ _ hTI) (h1.at fun o e => oth2 _ o e) (h2.at fun o e => oth2 _ o e) ?_ ?_ (by rw [upd_same]; rfl) (fun i t e => by cases e) sm ?_ ?_ fun s' H' ts' I' k' q' l' p' => ⟨rfl, hQ s' H' ts' S I' fr k' q' l' p'⟩⟩
  · rcases qa with (g | ⟨ob, g⟩) | g
    · exact .inl (.inl (sm _ _ g))
    · exact .inl (.inr ⟨ob, sm _ _ g⟩)
    · exact .inr g
  · rcases qb with (g | ⟨ob, g⟩) | g
    · exact .inl (.inl (sm _ _ g))
    · exact .inl (.inr ⟨ob, sm _ _ g⟩)
    · exact .inr g
  · intro c hc
    obtain ⟨q1, q2⟩ := hf c hc
    refine ⟨?_, q2⟩
    rw [upd_ne (Nat.ne_of_lt (Nat.lt_of_lt_of_eq (hbd c hc) hSd.symm))]
    exact q1
  · intro c hc
    exact Nat.lt_trans (Nat.lt_of_lt_of_eq (hbd c hc) hSd.symm) (Heap.lt_size hS₄)
/-- list(zip(a, b)) of two tuples of one length -/
def tLZip (K : PySem.W.Frag) (ta : TA) : TE := fun σ H Q => ta σ H fun vs H1 => ∃ a b xs ys, vs = [.ref a, .ref b] ∧ SqT K H1 a xs ∧ SqT K H1 b ys ∧ xs.length = ys.length ∧ xs.length ≤ 1000000 ∧
  ∀ H' ts S, H1 S = none → (∀ c o, H1 c = some o → H' c = some o) → H' S = some (.lst (ts.map V.ref)) → ts.length = xs.length → PairsAt H' xs ys ts → Q (.ref S) H'
theorem k_lzip {K : PySem.W.Frag} {e e2 : Expr} {ta : TA} {p p0 pos pos0 : Pos} (hK : X.K = K) (hc : X.calm = true) (hg0 : Gl X "list") (hm0 : X.mg "list" = none) (hg : Gl X "zip") (hm : X.mg "zip" = none) (ha : PA X [e, e2] ta)
    (hs : starEach [e, e2] X.env = (false, eval e X.env) :: starEach [e2] X.env := by rfl) (hpl : (backTo pos (starEach [e2] X.env)).any (·.1) = false := by rfl)
    (hs0 : starEach [Expr.Call (.Name "zip" p) [e, e2] [] pos] X.env = (false, eval (Expr.Call (.Name "zip" p) [e, e2] [] pos) X.env) :: starEach [] X.env := by rfl) :
    PE X (.Call (.Name "list" p0) [.Call (.Name "zip" p) [e, e2] [] pos] [] pos0) (tLZip K ta) := by
  subst hK
  refine ⟨fun pins s σ H Q I h => ?_⟩
  refine Call_ (ld_blt I hg0 hm0 PyProof.Rows.boot_list (PyProof.Rows.callWith_type1 ?_ hs0 rfl))
  rw [hs0]
  show wpAny _ _ (spliced ((false, _) :: backTo pos0 (starEach [] X.env))) _ _ s
  refine Calls.spliced_cons ?_
  refine Call_ (ld_blt I hg hm PyProof.Rows.boot_zip (PyProof.Rows.callWith_type1 (thn (ha.run pos pins s σ H _ I h) fun us s1 ⟨vs, H1, I1, r1, q1⟩ => ?_) hs hpl))
  obtain ⟨a, b, xs, ys, ex, qa, qb, hlen, hsz, q⟩ := q1
  subst ex
  cases r1 with
  | cons r rr =>
    cases rr with
    | cons r' rr =>
      cases rr
      cases r
      cases r'
      obtain ⟨its, rv, p1, _⟩ := I1.tuple qa
      obtain ⟨its2, rv2, p2, _⟩ := I1.tuple qb
      obtain ⟨o1, ho1, _⟩ := id p1
      obtain ⟨o2, ho2, _⟩ := id p2
      refine RZ.call_zipT (show s1.heap.IsTuple a its.toArray from p1) (show s1.heap.IsTuple b its2.toArray from p2) fun h' hz hTI hTO h1 h2 hsz' hk => ?_
      have I2 : Inv X pins σ H1 { s1 with heap := h' } := I1.kept (t' := s1.toks) hk
      have five : ∀ c, c ∈ [s1.heap.objs.size + 4, s1.heap.objs.size + 2, s1.heap.objs.size + 3, s1.heap.objs.size, s1.heap.objs.size + 1] → s1.heap.objs.size ≤ c ∧ c < s1.heap.objs.size + 5 := fun c hcm => by
        have e' : c = s1.heap.objs.size + 4 ∨ c = s1.heap.objs.size + 2 ∨ c = s1.heap.objs.size + 3 ∨ c = s1.heap.objs.size ∨ c = s1.heap.objs.size + 1 := by simpa using hcm
        omega
      refine Calls.spliced_nil ?_
      refine call_list_zip (X := X) (pins := pins) (σ := σ) (I2.ok.hd hc) (PySem.W.ktu_apart s1.heap.objs.size a b (Heap.lt_size ho1) (Heap.lt_size ho2)) hlen hsz I2 hz hTI ⟨_, _, hTO⟩ h1 h2 qa qb (fun c hcm => I1.fpOk (five c hcm).1 (I1.hok.fresh (five c hcm).1)) (fun c hcm => by
        show c < h'.objs.size
        rw [hsz']
        exact (five c hcm).2) fun s' H' ts S I' hS k' q' l' p' => ⟨.ref S, H', I', rfl, q H' ts S hS k' q' l' p'⟩
end
section
variable {K : PySem.W.Frag}
theorem pairs_at {W : Wd} {H : Hp} : ∀ (ts : List Addr) (xs ys : List V) (as bs : List D), AtAll K W H xs as → AtAll K W H ys bs → xs.length = ys.length → ts.length = xs.length → PairsAt H xs ys ts → AtAll K W H (ts.map V.ref) (zipD as bs)
  | [], xs, ys, as, bs, ha, hb, hl, ht, hp => by
    cases xs with
    | nil =>
      cases ha
      exact .nil
    | cons x xs => cases ht
  | t :: ts, xs, ys, as, bs, ha, hb, hl, ht, hp => by
    cases xs with
    | nil => cases ht
    | cons x xs =>
      cases ys with
      | nil => cases hl
      | cons y ys =>
        cases ha with
        | cons a1 a2 =>
          cases hb with
          | cons b1 b2 =>
            obtain ⟨x', y', e1, e2, e3⟩ := hp 0 t rfl
            cases e1
            cases e2
            exact .cons (.tup (SqT.of e3) (.cons a1 (.cons b1 .nil))) (pairs_at ts xs ys _ _ a2 b2 (Nat.succ.inj hl) (Nat.succ.inj ht) fun i t' e => hp (i + 1) t' e)
def aLZip (g : AA) : AE := fun ρ n Q => g ρ n fun ds n1 => match ds with
  | [.tup as, .tup bs] => as.length = bs.length ∧ as.length ≤ 1000000 ∧ Q (.lst (zipD as bs)) n1
  | _ => False
instance {ta : TA} {g : AA} [DA K ta g] : DE K (tLZip K ta) (aLZip g) := ⟨fun W σ ρ n H Q Qa hQ hE o h =>
  DA.run (te := ta) (f := g) W σ ρ n H _ _ (fun ds n1 h1 H1 vs l1 o1 ax => by
    split at h1
    · obtain ⟨e1, e2, h1⟩ := h1
      cases ax with
      | cons a r =>
        cases r with
        | cons b r =>
          cases r
          cases a with
          | tup sa aa =>
            cases b with
            | tup sb ab =>
              have la := aa.length
              have lb := ab.length
              refine ⟨_, _, _, _, rfl, sa, sb, by omega, by omega, fun H' ts S hS k' q' l' p' => ?_⟩
              have sm : Same H1 H' := k'
              exact hQ _ _ h1 H' _ (l1.trans (Wd.le_same sm)) (o1.same sm) (.lst (o1.fresh hS) q' (pairs_at ts _ _ _ _ (AtAll.le o1 (Wd.le_same sm) _ aa) (AtAll.le o1 (Wd.le_same sm) _ ab) (by omega) l' p'))
    · exact h1.elim) hE o h⟩
end

section
variable {P : Program} {w : World} {K : PySem.W.Frag} {mg : Str → Option Value} {base : Heap} {A : Ad}
/-! CUT -/
/-! ### the deck in the mirror -/
def a_l_take : ASp := fun ds n Q => ∃ m : Int, ds = [.deck, .int m] ∧ 0 < m ∧ m.natAbs.log2 < 9000 ∧ 1 ≤ n ∧ ∀ r, 0 ≤ r → r < m → Q (.int r) (n - 1)
theorem ok_l_take (T : Tx K mg A) : FnOk P w K mg base CX0 3 A.f_l_take A.fd_l_take ["_law_deck_here", "_law_many"] (spOf K 2 a_l_take) := (ok0_l_take T).imp fun vs H Q E h => by
  obtain ⟨W, n, ds, Qa, a, hl, o, hQ, m, rfl, hm, hlog, hn, q⟩ := h
  cases a with
  | cons a r =>
    cases r with
    | cons b r =>
      cases r
      cases b
      cases a with
      | @deck d b e =>
        obtain ⟨c, D, lc⟩ := o.deck d b e
        refine ⟨d, b, c, m, rfl, D, by omega, hm, hlog, fun H' r D' kp h0 h1 => hQ _ _ (q r h0 h1) H' _ (fun x ob nr hx => kp x ob (fun z => nr (.inl ⟨d, b, e, .inl z⟩)) (fun z => nr (.inl ⟨d, b, e, .inr z⟩)) hx) ⟨fun d' b' e' => ?_, fun p hp => ?_, o.dis⟩ (.int r)⟩
        · rw [e] at e'
          cases e'
          exact ⟨c + 1, D', by omega⟩
        · obtain ⟨h1, h2⟩ := o.owns p hp
          obtain ⟨n1, n2⟩ := o.dis d b e p hp
          exact ⟨kp _ _ n1 n2 h1, h2⟩
/-! ### the law's own def -/
def sp_law (K : PySem.W.Frag) : Sp := fun vs H Q _ => ∃ (a : Addr) (ns : List Int), vs = [.ref a] ∧ Only H ∧ SqL K H a (ns.map V.int) ∧ ns.length ≤ 63 ∧ ∀ H', Q (.bl true) H'
theorem law_start {W : Wd} {ow : List Nat} {n : Nat} {H : Hp} {N : List Str} {k i : Nat} {a d b : Addr} (hk : N.length = k) (h0 : 0 < k) (hi : i ∉ ow) (hd : W.dk = some (d, b)) (o : W.ok K n H) : SOk K W ow n H ((L2.start N [.ref a]).set i (some (.ref d))) (eSet (startA k []) i (some .deck)) [] := by
  have hg : ∀ j e, eGet (eSet (startA k []) i (some .deck)) j = some e → i = j ∧ e = .deck ∧ i < k := fun j e he => by
    by_cases hij : i = j
    · subst hij
      obtain ⟨h1, h2⟩ := eGet_set he
      rw [startA_length] at h1
      exact ⟨rfl, (Option.some.inj h2).symm, h1⟩
    · rw [eGet_ne hij] at he
      exact (startA_none he).elim
  have hlen : (L2.start N [V.ref a]).length = k := by
    unfold L2.start
    rw [List.length_append, List.length_map, List.length_replicate]
    show 1 + (N.length - 1) = k
    omega
  refine ⟨List.nodup_nil, fun u hu => (by cases hu), o, by rw [List.length_set, eSet_length, startA_length, hlen], fun j e _ he => ?_, fun j e hj he => ?_, fun j m p hj hm _ _ _ => .inl ?_⟩
  · obtain ⟨rfl, rfl, hlt⟩ := hg j e he
    exact ⟨_, List.getElem?_set_self (by rw [hlen]; exact hlt), .deck hd⟩
  · obtain ⟨rfl, _⟩ := hg j e he
    exact absurd hj hi
  · cases e : eGet (eSet (startA k []) i (some .deck)) j with
    | none => rfl
    | some e' =>
      obtain ⟨rfl, _⟩ := hg j e' e
      exact absurd hj hi
theorem law_mir {P : Program} {w : World} {mg : Str → Option Value} {base : Heap} {x qual : Str} {st : Stmt} {f : Addr} {fd : FuncData} {N : List Str} {k : Nat} (ow : List Nat) (kk i : Nat) (hk : N.length = kk) (h0 : 0 < kk) (hi : i ∉ ow) (F : Fun K x qual st f fd) (S : FnScope N ["_law_script"] (defScope st))
    (hbody : ∀ (cdv : Value) (Ar : Around) (outer : List Env) (s : Shared) (H : Hp) (E : XK), Room k (Ar.deeper (envOfC qual (defScope st) s.heap.objs.size f cdv)) →
      ∃ (t : TS) (fa : AS), PSs (cxOf CX0 P w K mg base N qual (defScope st) f cdv Ar outer s H E).nox (defBody st) (tSeq (tAsg (tCall (sp_l_deck K) [] E0 (tCons (tVar 0) tNil)) (gName i)) t) ∧ DS K W0 ow t fa ∧ fa (aTop fun d _ => d = .bl true) (eSet (startA kk []) i (some .deck)) 900000) : FnOk P w K mg base CX0 (k + 1) f fd ["_law_script"] (sp_law K) := by
  refine F.ok S (fun vs H Q E h => ?_) (fun cdv Ar outer s H vs Q E hr h => ?_)
  · obtain ⟨a, ns, rfl, _⟩ := h
    rfl
  · obtain ⟨a, ns, rfl, hO, hS, hn, q⟩ := h
    obtain ⟨t, fa, h1, h2, h3⟩ := hbody cdv Ar outer s H E hr
    refine ⟨_, h1, ?_⟩
    refine ⟨.ref a, rfl, a, ns, rfl, Sc.mk hO hS, hn, fun H' d b hd hb D sm => ?_⟩
    refine DS.run (K := K) (Wx := W0) (ow := ow) (t := t) (f := fa) ⟨some (d, b), []⟩ [] _ _ 900000 H' _ (aTop fun d _ => d = .bl true) ⟨fun ρ' n' z => (by cases z), fun d' n' z U1 H1 H2 v _ _ _ a' => ?_, fun _ _ q => q.elim, fun _ _ q => q.elim, fun _ _ _ _ _ q => q.elim⟩ (law_start hk h0 hi rfl ⟨fun d' b' e' => ?_, fun p hp => (by cases hp), fun _ _ _ p hp => (by cases hp)⟩) h3
    · subst z
      cases a'
      exact q _
    · cases e'
      exact ⟨0, D, by omega⟩

/-! ### the law's own def, its script to be read -/
theorem law_startS {W : Wd} {ow : List Nat} {n : Nat} {H : Hp} {N : List Str} {k i : Nat} {a d b : Addr} {ns : List Int} (hk : N.length = k) (h0 : 0 < k) (hi : i ∉ ow) (hz : 0 ∉ ow) (hd : W.dk = some (d, b)) (hs : Sc K H a ns) (o : W.ok K n H) : SOk K W ow n H ((L2.start N [.ref a]).set i (some (.ref d))) (eSet (startA k [.scr ns]) i (some .deck)) [] := by
  have s := start_ok (ow := ow) (W := W) (n := n) (H := H) (N := N) (k := k) (vs := [.ref a]) (ds := [.scr ns]) hk h0 (fun j hj => Nat.pos_of_ne_zero fun z => hz (z ▸ hj)) (.cons (.scr hs) .nil) o
  exact s.set (i := i) hi (.deck hd)
theorem law_mirS {P : Program} {w : World} {mg : Str → Option Value} {base : Heap} {x qual : Str} {st : Stmt} {f : Addr} {fd : FuncData} {N : List Str} {k : Nat} (ow : List Nat) (kk i : Nat) (hk : N.length = kk) (h0 : 0 < kk) (hi : i ∉ ow) (hz : 0 ∉ ow) (F : Fun K x qual st f fd) (S : FnScope N ["_law_script"] (defScope st))
    (hbody : ∀ (cdv : Value) (Ar : Around) (outer : List Env) (s : Shared) (H : Hp) (E : XK), Room k (Ar.deeper (envOfC qual (defScope st) s.heap.objs.size f cdv)) →
      ∃ (t : TS) (fa : AS), PSs (cxOf CX0 P w K mg base N qual (defScope st) f cdv Ar outer s H E).nox (defBody st) (tSeq (tAsg (tCall (sp_l_deck K) [] E0 (tCons (tVar 0) tNil)) (gName i)) t) ∧ DS K W0 ow t fa ∧ ∀ ns : List Int, ns.length ≤ 63 → fa (aTop fun d _ => d = .bl true) (eSet (startA kk [.scr ns]) i (some .deck)) 900000) : FnOk P w K mg base CX0 (k + 1) f fd ["_law_script"] (sp_law K) := by
  refine F.ok S (fun vs H Q E h => ?_) (fun cdv Ar outer s H vs Q E hr h => ?_)
  · obtain ⟨a, ns, rfl, _⟩ := h
    rfl
  · obtain ⟨a, ns, rfl, hO, hS, hn, q⟩ := h
    obtain ⟨t, fa, h1, h2, h3⟩ := hbody cdv Ar outer s H E hr
    refine ⟨_, h1, ?_⟩
    refine ⟨.ref a, rfl, a, ns, rfl, Sc.mk hO hS, hn, fun H' d b hd hb D sm => ?_⟩
    refine DS.run (K := K) (Wx := W0) (ow := ow) (t := t) (f := fa) ⟨some (d, b), []⟩ [] _ _ 900000 H' _ (aTop fun d _ => d = .bl true) ⟨fun ρ' n' z => (by cases z), fun d' n' z U1 H1 H2 v _ _ _ a' => ?_, fun _ _ q => q.elim, fun _ _ q => q.elim, fun _ _ _ _ _ q => q.elim⟩ (law_startS hk h0 hi hz rfl ((Sc.mk hO hS).keep sm) ⟨fun d' b' e' => ?_, fun p hp => (by cases hp), fun _ _ _ p hp => (by cases hp)⟩) (h3 ns hn)
    · subst z
      cases a'
      exact q _
    · cases e'
      exact ⟨0, D, by omega⟩

end
/-! ### zip of a tuple and a list, slices of any tuple -/
section
variable {K : PySem.W.Frag}
def iZipMK (K : PySem.W.Frag) (ta : TA) : TI := RX.iZipM K ta
theorem k_zipM {X : Cx} {e e2 : Expr} {ta : TA} {p pos tpos : Pos} {elts : List Expr} {kk : Nat} (hK : X.K = K) (hg : Gl X "zip") (hm : X.mg "zip" = none) (ha : PA X [e, e2] ta) (hs : starEach [e, e2] X.env = (false, eval e X.env) :: starEach [e2] X.env := by rfl) (hpl : (backTo pos (starEach [e2] X.env)).any (·.1) = false := by rfl) :
    PI X (.Tuple elts kk tpos) (.Call (.Name "zip" p) [e, e2] [] pos) (iZipMK K ta) := hK ▸ RX.pi_zipM hg hm ha hs hpl
def aZipM (g : AA) : AI := fun ρ n Q => g ρ n fun ds n1 => match ds with
  | [.tup as, .lst bs] => Q (zipD as bs) n1
  | _ => False
instance {ta : TA} {g : AA} [DA K ta g] : DI K (iZipMK K ta) (aZipM g) := ⟨fun W σ ρ n H R Qa hQ hE o h =>
  DA.run (te := ta) (f := g) W σ ρ n H _ _ (fun ds n1 h1 H1 vs l1 o1 ax => by
    split at h1
    · cases ax with
      | cons a r =>
        cases r with
        | cons b r =>
          cases r
          cases a with
          | tup sa a =>
            cases b with
            | lst rb sb b =>
              refine ⟨_, _, _, _, rfl, sa, SqL.of sb, hQ _ _ h1 _ H1 l1 o1 fun W' hr hd H2 n2 l2 o2 i => ?_⟩
              have s2 := sqt_lk (o1.lk' hr) l2 sa
              have s3 := sql_lk (K := K) l2 (fun z => by rw [hr _ z rb] at sb; cases sb) sb
              refine ⟨fun d e => ?_, fun hi => ⟨_, _, s2, s3, ?_⟩⟩
              · obtain ⟨x, y, e1, e2, rfl⟩ := zipD_get e
                obtain ⟨v, e1', a1⟩ := a.get e1
                obtain ⟨u, e2', a2⟩ := b.get e2
                refine ⟨⟨_, _, v, u, s2, s3, e1', e2'⟩, fun z H3 ⟨T, x', y', ez, hT, eH, e3, e4⟩ => ?_⟩
                have q1 := e3 _ s2
                have q2 := e4 _ s3
                rw [e1'] at q1
                rw [e2'] at q2
                cases q1
                cases q2
                subst ez eH
                have st : Same H2 (upd H2 T (.tup [v, u])) := same_upd hT
                refine ⟨st, .tup (.inl (.inl upd_same)) (.cons ?_ (.cons ?_ .nil))⟩
                · exact At.le o2 (Wd.le_same st) _ (At.lk (o1.lk' hr) l2 _ (At.ext hr hd _ a1))
                · exact At.le o2 (Wd.le_same st) _ (At.lk (o1.lk' hr) l2 _ (At.ext hr hd _ a2))
              · rw [zipD_length] at hi
                rw [a.length, b.length]
                omega
    · exact h1.elim) hE o h⟩
def rSlW (K : PySem.W.Frag) : V → Option Int → Option Int → Hp → VK → Prop := L2.rSlA K
theorem k_slW {X : Cx} (hK : X.K = K) : SlR X (rSlW K) := hK ▸ sl_tupA
def aCutW (d : D) (l u : Option Int) (n : Nat) (Q : D → Nat → Prop) : Prop := match d with
  | .tup ds => Q (.tup (cutL ds l u)) n
  | _ => False
def aSlW (fa : AE) (fl fu : Env' → Nat → (Option Int → Nat → Prop) → Prop) : AE := fun ρ n Q => fa ρ n fun d n1 => fl ρ n1 fun l n2 => fu ρ n2 fun u n3 => aCutW d l u n3 Q
theorem cutL_whole {ds : List D} {l u : Option Int} (h : HT.sIx ds.length 0 l = 0 ∧ HT.sIx ds.length ds.length u = ds.length) : cutL ds l u = ds := by
  unfold cutL
  rw [h.1, h.2]
  simp
instance {te : TE} {tl tu : TO} {fa : AE} {fl fu : Env' → Nat → (Option Int → Nat → Prop) → Prop} [DE K te fa] [DO K tl fl] [DO K tu fu] : DE K (tSl (rSlW K) te tl tu) (aSlW fa fl fu) := ⟨fun W σ ρ n H Q Qa hQ hE o h =>
  DE.run (te := te) (f := fa) W σ ρ n H _ _ (fun d n1 h1 H1 x l1 o1 ax => DO.run (te := tl) (f := fl) W σ ρ n1 H1 _ _ (fun l n2 h2 H2 l2 o2 => DO.run (te := tu) (f := fu) W σ ρ n2 H2 _ _ (fun u n3 h3 H3 l3 o3 => by
    have hQ3 := hQ.le (l1.trans (l2.trans l3))
    unfold aCutW at h3
    split at h3
    · cases At.le o1 (l2.trans l3) _ ax with
      | tup s a =>
        refine ⟨_, _, rfl, s, fun hw => ?_, fun _ p hp => hQ3.new o3 h3 hp ?_⟩
        · rw [a.length] at hw
          rw [cutL_whole hw] at h3
          exact hQ3.now o3 h3 (.tup s a)
        · refine .tup (.inl (.inl upd_same)) ?_
          unfold cutV cutL
          rw [a.length]
          exact take_at _ (drop_at _ (AtAll.le o3 (Wd.le_same (same_upd hp)) _ a))
    · exact h3.elim) (hE.le o (l1.trans l2)) o2 h2) (hE.le o l1) o1 h1) hE o h⟩
end

/-! ### three names at once -/
section
variable {K : PySem.W.Frag} {ow : List Nat} {Wx : WX}
def aPar3 (ow : List Nat) (i j l : Nat) (g : AA) : AS := fun E ρ n => g (wipeA ρ ow) n fun ds n1 => match ds, (ow.contains i || ow.contains j) || ow.contains l with
  | [d, e, f], false => E.nx (eSet (eSet (eSet ρ i (some d)) j (some e)) l (some f)) n1
  | _, _ => False
instance {i j l : Nat} {ta : TA} {g : AA} [DA K ta g] : DS K Wx ow (tPar3 i j l ta) (aPar3 ow i j l g) := ⟨fun W U σ ρ n H E Ea hD s h =>
  DA.run (te := ta) (f := g) (W.plus U) σ _ n H _ _ (fun ds n1 h1 H1 vs l1 o1 ax => by
    split at h1
    · rename_i hc
      rw [Bool.or_eq_false_iff, Bool.or_eq_false_iff] at hc
      cases ax with
      | cons a r =>
        cases r with
        | cons b r =>
          cases r with
          | cons c r =>
          cases r
          refine ⟨_, _, _, rfl, hD.nx _ _ h1 U _ H1 (.hid l1) ((((s.le l1 o1).set (fun z => ?_) a).set (fun z => ?_) b).set (fun z => ?_) c)⟩
          · rw [List.contains_iff_mem.mpr z] at hc
            cases hc.1.1
          · rw [List.contains_iff_mem.mpr z] at hc
            cases hc.1.2
          · rw [List.contains_iff_mem.mpr z] at hc
            cases hc.2
    · exact h1.elim) s.hid s.ok h⟩
end

/-! ### list(zip(a, b)) of two lists -/
namespace ZL
section
open PySem
open PySem.Sem (wp)
variable {prog : Program} {w : World} {A : Around} {E : Value → Shared → Prop} {s : Shared}
theorem zipH_item {z TI TO i1 i2 l1 l2 T0 : Addr} {k1 k2 : Nat} {xs ys : Array Value} {x y : Value} {bb : Bool} {oT : Obj} {Q : Value → Shared → Prop} (D : ZipApart z TI TO i1 i2 l1 l2)
    (hz : IsZipH s.heap z TI TO T0 bb) (hT0 : s.heap.get? T0 = some oT) (hTI : IsPair s.heap TI (.ref i1) (.ref i2))
    (h1 : s.heap.IsListIter i1 l1 k1) (h2 : s.heap.IsListIter i2 l2 k2) (hl1 : s.heap.IsList l1 xs) (hl2 : s.heap.IsList l2 ys) (hx : xs[k1]? = some x) (hy : ys[k2]? = some y)
    (hQ : ∀ h', IsZipH h' z TI TO T0 true → h'.IsListIter i1 l1 (k1 + 1) → h'.IsListIter i2 l2 (k2 + 1) → IsPair h' s.heap.objs.size x y →
      (∀ c o, c ≠ z → c ≠ i1 → c ≠ i2 → s.heap.get? c = some o → h'.get? c = some o) → Q (.ref s.heap.objs.size) { s with heap := h' }) :
    wpAny (model prog w) A (Builtin.«zip.__next__» ⟨[.ref z], []⟩) (fun fin s' => ∃ v, fin = .done (.ret v) ∧ Q v s') E s := by
  show wpAny _ _ (field (.ref z) 2 >>= _) _ _ _
  refine wpAny_bind (wpAny_field hz rfl (x := .bool false) rfl ?_)
  show wpAny _ _ (field (.ref z) 3 >>= _) _ _ _
  refine wpAny_bind (wpAny_field hz rfl (x := .ref TI) rfl ?_)
  refine wpAny_bind (wpAny_seqItems hTI rfl ?_)
  show wpAny _ _ (Builtin.SmallTypes.ownedTupleIsFree (.ref z) >>= _) _ _ _
  refine wpAny_bind (owned_held hz hT0 fun h₁ hz₁ hs₁ => ?_)
  simp only [Bool.false_eq_true, if_false]
  refine wpAny_bind ?_
  rw [show (#[Value.ref i1, Value.ref i2] : Array Value) = [Value.ref i1, Value.ref i2].toArray from rfl, List.forIn_toArray]
  simp only [List.forIn_cons, List.forIn_nil]
  refine wpAny_bind (wpAny_bind (wpAny_holding ?_))
  show wpAny _ _ (Builtin.SmallTypes.nextOf (.ref i1) >>= _) _ _ _
  refine wpAny_bind (wpAny_nextOf_list_item (h1.extBut hs₁.extBut D.i1z) (hl1.extBut hs₁.extBut D.l1z) hx fun h₂ h1₂ hs₂ => wpAny_pure (wpAny_pure ?_))
  show wpAny _ _ (_ >>= _) _ _ _
  refine wpAny_bind (wpAny_bind (wpAny_holding ?_))
  show wpAny _ _ (Builtin.SmallTypes.nextOf (.ref i2) >>= _) _ _ _
  refine wpAny_bind (wpAny_nextOf_list_item ((h2.extBut hs₁.extBut D.i2z).extBut hs₂.extBut D.i12.symm) ((hl2.extBut hs₁.extBut D.l2z).extBut hs₂.extBut D.l2i1) hy fun h₃ h2₃ hs₃ => wpAny_pure (wpAny_pure (wpAny_pure ?_)))
  show wpAny _ _ (newTuple [x, y] >>= _) _ _ _
  refine wpAny_bind (wpAny_newTuple (wpAny_pure ⟨_, rfl, ?_⟩))
  have hsz : h₃.objs.size = s.heap.objs.size := by rw [hs₃.1, hs₂.1, hs₁.1]
  have hz₃ : IsZipH h₃ z TI TO T0 true := hs₃.extBut _ _ D.i2z.symm (hs₂.extBut _ _ D.i1z.symm hz₁)
  have up : ∀ c o, h₃.get? c = some o → (h₃.push { cls := .type "tuple", data := .seq #[x, y] }).get? c = some o := fun c o e => Heap.get?_push_of_some _ e
  show Q (.ref h₃.objs.size) _
  rw [hsz]
  refine hQ _ (up _ _ hz₃) ((h1₂.extBut hs₃.extBut D.i12).at fun o e => up _ o e) (h2₃.at fun o e => up _ o e) ?_ fun c o c1 c2 c3 e => up _ _ (hs₃.extBut _ _ c3 (hs₂.extBut _ _ c2 (hs₁.extBut _ _ c1 e)))
  rw [← hsz]
  exact Heap.get?_push_size _ rfl
theorem zipH_end {z TI TO i1 i2 l1 l2 T0 : Addr} {k1 : Nat} {xs : Array Value} {bb : Bool} {oT : Obj} {Q : Fin → Shared → Prop} (hh : A.handled = none) (D : ZipApart z TI TO i1 i2 l1 l2)
    (hz : IsZipH s.heap z TI TO T0 bb) (hT0 : s.heap.get? T0 = some oT) (hTI : IsPair s.heap TI (.ref i1) (.ref i2))
    (h1 : s.heap.IsListIter i1 l1 k1) (hl1 : s.heap.IsList l1 xs) (hend : xs[k1]? = none)
    (hE : ∀ h' e, (∀ c o, c ≠ z → c ≠ i1 → s.heap.get? c = some o → h'.get? c = some o) → (∃ o, h'.get? e = some o ∧ o.cls = .type "StopIteration") → E (.ref e) { s with heap := h' }) :
    wpAny (model prog w) A (Builtin.«zip.__next__» ⟨[.ref z], []⟩) Q E s := by
  show wpAny _ _ (field (.ref z) 2 >>= _) _ _ _
  refine wpAny_bind (wpAny_field hz rfl (x := .bool false) rfl ?_)
  show wpAny _ _ (field (.ref z) 3 >>= _) _ _ _
  refine wpAny_bind (wpAny_field hz rfl (x := .ref TI) rfl ?_)
  refine wpAny_bind (wpAny_seqItems hTI rfl ?_)
  show wpAny _ _ (Builtin.SmallTypes.ownedTupleIsFree (.ref z) >>= _) _ _ _
  refine wpAny_bind (owned_held hz hT0 fun h₁ hz₁ hs₁ => ?_)
  simp only [Bool.false_eq_true, if_false]
  refine wpAny_bind ?_
  rw [show (#[Value.ref i1, Value.ref i2] : Array Value) = [Value.ref i1, Value.ref i2].toArray from rfl, List.forIn_toArray]
  simp only [List.forIn_cons, List.forIn_nil]
  refine wpAny_bind (wpAny_bind (wpAny_holding ?_))
  show wpAny _ _ (Builtin.SmallTypes.nextOf (.ref i1) >>= _) _ _ _
  refine wpAny_bind (wpAny_nextOf_list_end hh (h1.extBut hs₁.extBut D.i1z) (hl1.extBut hs₁.extBut D.l1z) hend fun h₂ e hs₂ he => ?_)
  exact hE h₂ e (fun c o c1 c3 x => hs₂ _ _ c3 (hs₁.extBut _ _ c1 x)) he
theorem next_zipH_item {z TI TO i1 i2 l1 l2 T0 : Addr} {k1 k2 : Nat} {xs ys : Array Value} {x y : Value} {bb : Bool} {oT : Obj} {Q : Option Value → Shared → Prop} (D : ZipApart z TI TO i1 i2 l1 l2)
    (hz : IsZipH s.heap z TI TO T0 bb) (hT0 : s.heap.get? T0 = some oT) (hTI : IsPair s.heap TI (.ref i1) (.ref i2))
    (h1 : s.heap.IsListIter i1 l1 k1) (h2 : s.heap.IsListIter i2 l2 k2) (hl1 : s.heap.IsList l1 xs) (hl2 : s.heap.IsList l2 ys) (hx : xs[k1]? = some x) (hy : ys[k2]? = some y)
    (hQ : ∀ h', IsZipH h' z TI TO T0 true → h'.IsListIter i1 l1 (k1 + 1) → h'.IsListIter i2 l2 (k2 + 1) → IsPair h' s.heap.objs.size x y →
      (∀ c o, c ≠ z → c ≠ i1 → c ≠ i2 → s.heap.get? c = some o → h'.get? c = some o) → Q (some (.ref s.heap.objs.size)) { s with heap := h' }) :
    wpAny (model prog w) A (pyNext (.ref z)) Q E s := by
  have hT : s.TypeIs (.ref z) "zip" := ⟨_, hz, rfl⟩
  unfold pyNext
  exact wpAny_bind (wpAny_attempt (wpAny_callSpecial?_slot (name := Str.ofString "__next__") hT F.slot_zip_next
    (wpAny_call_entry F.slot_zip_next hT F.entry_zip_next
      (zipH_item D hz hT0 hTI h1 h2 hl1 hl2 hx hy fun h' a1 a2 a3 a4 a5 => wpAny_pure (hQ h' a1 a2 a3 a4 a5)) (F.args_zip_next_1 _))))
theorem next_zipH_end {z TI TO i1 i2 l1 l2 T0 : Addr} {k1 : Nat} {xs : Array Value} {bb : Bool} {oT : Obj} {Q : Option Value → Shared → Prop} (hh : A.handled = none) (D : ZipApart z TI TO i1 i2 l1 l2)
    (hz : IsZipH s.heap z TI TO T0 bb) (hT0 : s.heap.get? T0 = some oT) (hTI : IsPair s.heap TI (.ref i1) (.ref i2))
    (h1 : s.heap.IsListIter i1 l1 k1) (hl1 : s.heap.IsList l1 xs) (hend : xs[k1]? = none)
    (hQ : ∀ h', (∀ c o, c ≠ z → c ≠ i1 → s.heap.get? c = some o → h'.get? c = some o) → Q none { s with heap := h' }) : wpAny (model prog w) A (pyNext (.ref z)) Q E s := by
  have hT : s.TypeIs (.ref z) "zip" := ⟨_, hz, rfl⟩
  unfold pyNext
  refine wpAny_bind (wpAny_attempt (wpAny_callSpecial?_slot (name := Str.ofString "__next__") hT F.slot_zip_next
    (wpAny_call_entry F.slot_zip_next hT F.entry_zip_next (zipH_end hh D hz hT0 hTI h1 hl1 hend fun h' e hk he => ?_) (F.args_zip_next_1 _))))
  obtain ⟨o, ho, hc⟩ := he
  refine wpAny_bind (wpAny_isInstance (T := "StopIteration") (b := true) ⟨o, ho, hc⟩ isSubtype_stop ?_)
  exact wpAny_pure (hQ _ hk)
end
section
open PySem
variable {X : Cx} {pins : List (Addr × Obj)} {σ : L2.St}
def ZSt (h : Heap) (z TI TO : Addr) (ts : List Addr) : Prop := (ts = [] ∧ IsZip h z TI TO .none ∧ ∃ x y, IsPair h TO x y) ∨ ∃ T0 r b, ts = T0 :: r ∧ IsZipH h z TI TO T0 b
theorem zip_loop {A : Around} {a b z TI TO i1 i2 S : Addr} {xs ys : List V} {res : Value} {Rr : Result → Shared → Prop} {H0 : Hp} (hh : A.handled = none) (D : ZipApart z TI TO i1 i2 a b) (hS0 : H0 S = none) (aS : a ≠ S) (bS : b ≠ S)
    (hlen : xs.length = ys.length) (hsz : xs.length ≤ 1000000) :
    ∀ (k : Nat) (s : Shared) (H : Hp) (ts : List Addr), xs.length - ts.length = k → ts.length ≤ xs.length → Inv X pins σ H s → ZSt s.heap z TI TO ts → IsPair s.heap TI (.ref i1) (.ref i2) →
      s.heap.IsListIter i1 a ts.length → s.heap.IsListIter i2 b ts.length → SqL X.K H a xs → SqL X.K H b ys → H S = some (.lst (ts.map V.ref)) → PairsAt H xs ys ts → (∀ c o, H0 c = some o → H c = some o) →
      (∀ c ∈ [z, TI, TO, i1, i2], FpOk X pins H c) → (∀ c ∈ [z, TI, TO, i1, i2], c < s.heap.objs.size) →
      (∀ s' H' ts', Inv X pins σ H' s' → (∀ c o, H0 c = some o → H' c = some o) → H' S = some (.lst (ts'.map V.ref)) → ts'.length = xs.length → PairsAt H' xs ys ts' → Rr (.ok (.ret res)) s') →
      codeAny (model X.prog X.w) A (.builtin "list.extend.loop" ⟨[.ref S, .ref z, res], []⟩) Rr s := by
  intro k
  induction k with
  | zero =>
    intro s H ts hk hi I hz hTI h1 h2 qa qb hS hP hold hf hbd hR
    have hin : ts.length = xs.length := by omega
    obtain ⟨its, rv, p, _⟩ := I.list qa
    obtain ⟨its2, rv2, p2, _⟩ := I.list qb
    have hend : its.toArray[ts.length]? = none := by
      have := rv.length
      simp
      omega
    refine codeAny_builtin F.entry_extend_loop ?_
    rw [Around.under_plainId F.plain_extend_loop _]
    show wpAny _ A.in1 (pyNext (.ref z) >>= _) _ _ s
    refine wpAny_bind ?_
    have fin : ∀ h' : Heap, (∀ c o, c ≠ z → c ≠ TO → c ≠ i1 → c ≠ i2 → s.heap.get? c = some o → h'.get? c = some o) → Rr (.ok (.ret res)) { s with heap := h' } := fun h' hk' =>
      hR _ H ts (I.turnedL (t' := s.toks) (ch := [z, TI, TO, i1, i2]) (fun c o hb q => hk' c o (fun e => hb (by simp [e])) (fun e => hb (by simp [e])) (fun e => hb (by simp [e])) (fun e => hb (by simp [e])) q) hf) hold hS hin hP
    rcases hz with ⟨_, hz, x0, y0, hTO⟩ | ⟨T0, r, bb, rfl, hz⟩
    · exact wpAny_pyNext_zip_end (show A.in1.handled = none from hh) D hz hTI hTO h1 h2 p.isList p2.isList (.inl hend) fun h' hk' => wpAny_pure (fin h' hk')
    · obtain ⟨x, y, _, _, hT0⟩ := hP 0 T0 rfl
      obtain ⟨_, its0, _, ⟨oT, hoT, _⟩⟩ : ObjOk X.prog X.w H s.heap T0 (.tup [x, y]) := I.hok T0 _ hT0
      exact next_zipH_end (show A.in1.handled = none from hh) D hz hoT hTI h1 p.isList hend fun h' hk' => wpAny_pure (fin h' fun c o c1 _ c3 _ e => hk' c o c1 c3 e)
  | succ k ih =>
    intro s H ts hk hi I hz hTI h1 h2 qa qb hS hP hold hf hbd hR
    have hlt : ts.length < xs.length := by omega
    obtain ⟨its, rv, p, _⟩ := I.list qa
    obtain ⟨its2, rv2, p2, _⟩ := I.list qb
    have hx : xs[ts.length]? = some xs[ts.length] := List.getElem?_eq_getElem hlt
    have hlt2 : ts.length < ys.length := by omega
    have hy : ys[ts.length]? = some ys[ts.length] := List.getElem?_eq_getElem hlt2
    generalize xs[ts.length] = x at hx
    generalize ys[ts.length] = y at hy
    obtain ⟨u, hu, ru⟩ := rv.get hx
    obtain ⟨u2, hu2, ru2⟩ := rv2.get hy
    refine codeAny_builtin F.entry_extend_loop ?_
    rw [Around.under_plainId F.plain_extend_loop _]
    show wpAny _ A.in1 (pyNext (.ref z) >>= _) _ _ s
    refine wpAny_bind ?_
    have fin : ∀ h' : Heap, ZSt h' z TI TO (ts ++ [s.heap.objs.size]) → h'.IsListIter i1 a (ts.length + 1) → h'.IsListIter i2 b (ts.length + 1) → IsPair h' s.heap.objs.size u u2 →
        (∀ c o, c ≠ z → c ≠ TO → c ≠ i1 → c ≠ i2 → s.heap.get? c = some o → h'.get? c = some o) →
        wpAny (model X.prog X.w) A.in1 (updateSeq S (·.push (.ref s.heap.objs.size)) >>= fun _ => again (.builtin "list.extend.loop" ⟨[.ref S, .ref z, res], []⟩))
          (fun fin s' => match fin with | .done f => Rr (.ok f) s' | .again c' => c'.quiet = true ∧ codeAny (model X.prog X.w) A c' Rr s') (fun e s' => Rr (.error e) s') { s with heap := h' } := fun h' hz' h1' h2' hT hk' => by
      have hTI' : IsPair h' TI (.ref i1) (.ref i2) := hk' TI _ D.TIz D.TITO D.TIi1 D.TIi2 hTI
      have new : ObjOk X.prog X.w (upd H s.heap.objs.size (.tup [x, y])) h' s.heap.objs.size (.tup [x, y]) :=
        ⟨by show 2 ≤ sizeLine; decide, [u, u2], .cons ru (.cons ru2 .nil), ⟨_, hT, rfl, _, rfl⟩⟩
      have I1 : Inv X pins σ (upd H s.heap.objs.size (.tup [x, y])) { s with heap := h' } :=
        I.turnedNew (t' := s.toks) (ch := [z, TI, TO, i1, i2]) (fun c o hb q => hk' c o (fun e => hb (by simp [e])) (fun e => hb (by simp [e])) (fun e => hb (by simp [e])) (fun e => hb (by simp [e])) q) hf (Nat.le_refl _) new
      have fr : H s.heap.objs.size = none := I.hok.fresh (Nat.le_refl _)
      have sm : ∀ c o, H c = some o → upd H s.heap.objs.size (.tup [x, y]) c = some o := fun c o e => by
        rw [upd_ne (ne_of_none e fr)]
        exact e
      have hS1 := sm S _ hS
      obtain ⟨hz1, itsS, nS, rvS, eS⟩ : ObjOk X.prog X.w _ h' S (.lst (ts.map V.ref)) := I1.hok S _ hS1
      have lS : itsS.length = ts.length := by
        have := rvS.length
        simp at this
        omega
      have line := sizeLine_eq
      refine wpAny_bind (wpAny_updateSeq (s := { s with heap := h' }) eS rfl (wpAny_pure ⟨plainId_quiet F.plain_extend_loop _, ?_⟩) (by simp; omega) (by simp; omega))
      have eS2 := Heap.get?_update_self (Obj.mapSeq (·.push (Value.ref s.heap.objs.size))) eS rfl
      have I2 : Inv X pins σ (upd (upd H s.heap.objs.size (.tup [x, y])) S (.lst ((ts ++ [s.heap.objs.size]).map V.ref))) { s with heap := h'.update S (Obj.mapSeq (·.push (Value.ref s.heap.objs.size))) } :=
        I1.write (x := S) (e := S) (t' := s.toks) (by rw [hS1]; trivial) (.inl rfl) (fun c o hc e => (Heap.get?_update_other _ _ (Ne.symm hc)).trans e) ⟨_, eS2⟩ ⟨by rw [List.length_map, List.length_append]; simp; omega, itsS ++ [.ref s.heap.objs.size], _, by
            rw [List.map_append]
            exact rvS.append (.cons rfl .nil), by
            rw [eS2]
            simp [Obj.mapSeq]
            rfl⟩
      have nS' : ∀ c, H c = none → c ≠ S := fun c e e' => by
        rw [e', hS] at e
        cases e
      have oth : ∀ c o, c ≠ S → h'.get? c = some o → (h'.update S (Obj.mapSeq (·.push (Value.ref s.heap.objs.size)))).get? c = some o := fun c o hc e => (Heap.get?_update_other _ _ (Ne.symm hc)).trans e
      have up : ∀ c o, c ≠ S → H c = some o → upd (upd H s.heap.objs.size (.tup [x, y])) S (.lst ((ts ++ [s.heap.objs.size]).map V.ref)) c = some o := fun c o hc e => by
        rw [upd_ne hc]
        exact sm c o e
      have nz := fun c hc => nS' c (hf c hc).1
      have TS : s.heap.objs.size ≠ S := nS' _ fr
      refine ih _ _ (ts ++ [s.heap.objs.size]) (by rw [List.length_append]; simp; omega) (by rw [List.length_append]; simp; omega) I2 ?_ (oth _ _ (nz TI (by simp)) hTI') ?_ ?_ ?_ ?_ (by rw [upd_same]) ?_ ?_ ?_ ?_ hR
      · rcases hz' with ⟨e, _⟩ | ⟨T0, r, bb, e, hz'⟩
        · simp at e
        · exact .inr ⟨T0, r, bb, e, oth _ _ (nz z (by simp)) hz'⟩
      · rw [List.length_append]
        exact h1'.at fun o e => oth _ o (nz i1 (by simp)) e
      · rw [List.length_append]
        exact h2'.at fun o e => oth _ o (nz i2 (by simp)) e
      · rcases qa with (g | ⟨ob, g⟩) | g
        · exact .inl (.inl (up _ _ aS g))
        · exact .inl (.inr ⟨ob, up _ _ aS g⟩)
        · exact .inr g
      · rcases qb with (g | ⟨ob, g⟩) | g
        · exact .inl (.inl (up _ _ bS g))
        · exact .inl (.inr ⟨ob, up _ _ bS g⟩)
        · exact .inr g
      · intro i t e
        by_cases hi' : i < ts.length
        · rw [List.getElem?_append_left hi'] at e
          obtain ⟨x', y', e1, e2, e3⟩ := hP i t e
          exact ⟨x', y', e1, e2, up _ _ (fun e' => by rw [e', hS] at e3; cases e3) e3⟩
        · have hi2 : i = ts.length := by
            have := (List.getElem?_eq_some_iff.mp e).1
            simp at this
            omega
          subst hi2
          have : t = s.heap.objs.size := by
            rw [List.getElem?_append_right (Nat.le_refl _)] at e
            simpa using e.symm
          subst this
          exact ⟨x, y, hx, hy, by rw [upd_ne TS, upd_same]⟩
      · intro c o e
        refine up c o (fun e' => ?_) (hold c o e)
        rw [e', hS0] at e
        cases e
      · intro c hc
        obtain ⟨g1, g2⟩ := hf c hc
        refine ⟨?_, g2⟩
        rw [upd_ne (nz c hc), upd_ne (Nat.ne_of_lt (hbd c hc))]
        exact g1
      · intro c hc
        exact Nat.lt_trans (hbd c hc) (Heap.lt_size (oth _ _ TS hT))
    rcases hz with ⟨rfl, hz, x0, y0, hTO⟩ | ⟨T0, r, bb, rfl, hz⟩
    · exact wpAny_pyNext_zip_item D hz hTI hTO h1 h2 p.isList p2.isList (x := u) (y := u2) (by simpa using hu) (by simpa using hu2) fun h' z' TO' h1' h2' hT hsz' hk' => fin h' (.inr ⟨_, [], false, rfl, z'⟩) h1' h2' hT hk'
    · obtain ⟨x', y', _, _, hT0⟩ := hP 0 T0 rfl
      obtain ⟨_, its0, _, ⟨oT, hoT, _⟩⟩ : ObjOk X.prog X.w H s.heap T0 (.tup [x', y']) := I.hok T0 _ hT0
      exact next_zipH_item D hz hoT hTI h1 h2 p.isList p2.isList (x := u) (y := u2) (by simpa using hu) (by simpa using hu2) fun h' z' h1' h2' hT hk' => fin h' (.inr ⟨T0, r ++ [s.heap.objs.size], true, rfl, z'⟩) h1' h2' hT fun c o c1 _ c3 c4 e => hk' c o c1 c3 c4 e
/-- the call list(z) of a zip at its start -/
theorem call_list_zip {A : Around} {a b z TI TO i1 i2 : Addr} {xs ys : List V} {Q : Value → Shared → Prop} {E : Value → Shared → Prop} {s : Shared} {H : Hp} (hh : A.handled = none) (D : ZipApart z TI TO i1 i2 a b)
    (hlen : xs.length = ys.length) (hsz : xs.length ≤ 1000000) (I : Inv X pins σ H s) (hz : IsZip s.heap z TI TO .none) (hTI : IsPair s.heap TI (.ref i1) (.ref i2)) (hTO : ∃ x y, IsPair s.heap TO x y)
    (h1 : s.heap.IsListIter i1 a 0) (h2 : s.heap.IsListIter i2 b 0) (qa : SqL X.K H a xs) (qb : SqL X.K H b ys) (hf : ∀ c ∈ [z, TI, TO, i1, i2], FpOk X pins H c) (hbd : ∀ c ∈ [z, TI, TO, i1, i2], c < s.heap.objs.size)
    (hQ : ∀ s' H' ts S, Inv X pins σ H' s' → H S = none → (∀ c o, H c = some o → H' c = some o) → H' S = some (.lst (ts.map V.ref)) → ts.length = xs.length → PairsAt H' xs ys ts → Q (.ref S) s') :
    wpAny (model X.prog X.w) A (call (.type "list") [.ref z]) Q E s := by
  refine callType_codes (Q₁ := fun obj s₁ => obj = .ref s.heap.objs.size ∧ s₁ = { s with heap := s.heap.push { cls := .type "list", data := .seq #[] } }) F.called_list (F.typeCall_list_1 _) F.entry_list_init
    (code_list_new _ ⟨rfl, rfl⟩) fun obj s₁ h₁ => ?_
  obtain ⟨rfl, rfl⟩ := h₁
  have hS : (s.heap.push { cls := .type "list", data := .seq #[] }).get? s.heap.objs.size = some { cls := .type "list", data := .seq #[] } := Heap.get?_push_size _ rfl
  refine ⟨⟨_, hS, rfl⟩, F.args_list_init_2 _ _, ?_⟩
  obtain ⟨S, hSd⟩ : ∃ S, S = s.heap.objs.size := ⟨_, rfl⟩
  rw [← hSd] at hS ⊢
  have fr : H S = none := I.hok.fresh (Nat.le_of_eq hSd.symm)
  have k0 : ∀ c o, s.heap.get? c = some o → (s.heap.push { cls := .type "list", data := .seq #[] }).get? c = some o := fun c o e => Heap.get?_push_of_some _ e
  have nS : ∀ c o, s.heap.get? c = some o → c ≠ S := fun c o e => Nat.ne_of_lt (Nat.lt_of_lt_of_eq (Heap.lt_size e) hSd.symm)
  have hSz : S ≠ z := Nat.ne_of_gt (Nat.lt_of_lt_of_eq (hbd z (by simp)) hSd.symm)
  generalize s.heap.push { cls := .type "list", data := .seq #[] } = g0 at hS k0 ⊢
  show wpAny _ A.in1.in1 (do let old ← Builtin.List.listItems (.ref S); Builtin.List.listUpdate (.ref S) (fun _ => #[]); letGo old.toList.reverse; Builtin.List.listExtendWith (.ref S) (.ref z) .none) _ _ _
  refine wpAny_bind ?_
  unfold Builtin.List.listItems
  refine wpAny_bind (wpAny_seqItems (s := { s with heap := g0 }) hS rfl (wpAny_pure ?_))
  show wpAny _ A.in1.in1 (updateSeq S (fun _ => #[]) >>= fun _ => letGo (#[] : Array Value).toList.reverse >>= fun _ => Builtin.List.listExtendWith (.ref S) (.ref z) .none) _ _ _
  refine wpAny_bind (wpAny_updateSeq (s := { s with heap := g0 }) hS rfl ?_)
  have hS₂ := Heap.get?_update_self (Obj.mapSeq (fun _ => (#[] : Array Value))) hS rfl
  have oth : ∀ c o, s.heap.get? c = some o → (g0.update S (Obj.mapSeq (fun _ => (#[] : Array Value)))).get? c = some o := fun c o e => (Heap.get?_update_other _ _ (Ne.symm (nS c o e))).trans (k0 c o e)
  generalize g0.update S (Obj.mapSeq (fun _ => (#[] : Array Value))) = g1 at hS₂ oth ⊢
  refine wpAny_bind (wpAny_letGo ?_)
  have hT : ({ s with heap := g1 } : Shared).TypeIs (.ref z) "zip" := ⟨_, oth _ _ hz, rfl⟩
  unfold Builtin.List.listExtendWith
  refine wpAny_bind (wpAny_typeOf hT ?_)
  have e1 : Builtin.List.listSameRef (.ref S) (.ref z) = false := by simp [Builtin.List.listSameRef, hSz]
  have e2 : (Value.type "zip" == Value.type "list") = false := by decide
  have e3 : (Value.type "zip" == Value.type "tuple") = false := by decide
  simp only [e1, e2, e3, Bool.or_false, Bool.false_eq_true, if_false]
  refine wpAny_bind (wpAny_pyIter_zip (s := { s with heap := g1 }) (oth _ _ hz) ?_)
  refine wpAny_bind (wpAny_holding ?_)
  unfold Builtin.List.listLengthHint
  refine wpAny_bind (wpAny_specialOf hT zip_no_len ?_)
  show wpAny _ A.in1.in1 (specialOf (Value.ref z) (Str.ofString "__length_hint__") >>= _) _ _ _
  refine wpAny_bind (wpAny_specialOf hT zip_no_hint ?_)
  refine wpAny_pure ?_
  show wpAny _ A.in1.in1 (rule "list.extend.makes-room" >>= fun _ => Builtin.List.listTouch (.ref S) >>= fun _ =>
    again (.builtin "list.extend.loop" ⟨[.ref S, .ref z, .none], []⟩)) _ _ _
  refine wpAny_bind (wpAny_rule ?_)
  refine wpAny_bind ?_
  show wpAny _ A.in1.in1 (updateSeq S (·.push .none) >>= fun _ => updateSeq S (·.pop)) _ _ _
  refine wpAny_bind (wpAny_updateSeq (s := { s with heap := g1 }) hS₂ rfl ?_)
  have hS₃ := Heap.get?_update_self (Obj.mapSeq (·.push Value.none)) hS₂ rfl
  refine wpAny_updateSeq (hz := by seq_fits) (s := { s with heap := g1.update S (Obj.mapSeq (·.push Value.none)) }) hS₃ rfl ?_
  have hS₄ := Heap.get?_update_self (Obj.mapSeq (·.pop)) hS₃ rfl
  have oth2 : ∀ c o, s.heap.get? c = some o → ((g1.update S (Obj.mapSeq (·.push Value.none))).update S (Obj.mapSeq (·.pop))).get? c = some o :=
    fun c o e => (Heap.get?_update_other _ _ (Ne.symm (nS c o e))).trans ((Heap.get?_update_other _ _ (Ne.symm (nS c o e))).trans (oth c o e))
  generalize (g1.update S (Obj.mapSeq (·.push Value.none))).update S (Obj.mapSeq (·.pop)) = g2 at hS₄ oth2 ⊢
  have I2 : Inv X pins σ (upd H S (.lst [])) { s with heap := g2 } := I.laid (t' := s.toks) oth2 (Nat.le_of_eq hSd.symm) (show ObjOk X.prog X.w _ g2 _ (.lst []) from ⟨Nat.zero_le _, [], _, .nil, hS₄⟩)
  have sm : ∀ c o, H c = some o → upd H S (.lst []) c = some o := fun c o e => by
    rw [upd_ne (ne_of_none e fr)]
    exact e
  refine wpAny_pure ⟨plainId_quiet F.plain_extend_loop _, zip_loop (A := A.in1) (H0 := H) (X := X) (pins := pins) (σ := σ) hh D fr (fun e => by obtain ⟨_, _, p, _⟩ := I.list qa; exact absurd p.lt (by rw [e, hSd]; exact Nat.lt_irrefl _)) (fun e => by obtain ⟨_, _, p, _⟩ := I.list qb; exact absurd p.lt (by rw [e, hSd]; exact Nat.lt_irrefl _)) hlen hsz _ _ (upd H S (.lst [])) [] rfl (Nat.zero_le _) I2 (.inl ⟨rfl, oth2 _ _ hz, let ⟨x, y, e⟩ := hTO; ⟨x, y, oth2 _ _ e⟩⟩) (oth2 _ _ hTI) (h1.at fun o e => oth2 _ o e) (h2.at fun o e => oth2 _ o e) ?_ ?_ (by rw [upd_same]; rfl) (fun i t e => by cases e) sm ?_ ?_ fun s' H' ts' I' k' q' l' p' => ⟨rfl, hQ s' H' ts' S I' fr k' q' l' p'⟩⟩
  · rcases qa with (g | ⟨ob, g⟩) | g
    · exact .inl (.inl (sm _ _ g))
    · exact .inl (.inr ⟨ob, sm _ _ g⟩)
    · exact .inr g
  · rcases qb with (g | ⟨ob, g⟩) | g
    · exact .inl (.inl (sm _ _ g))
    · exact .inl (.inr ⟨ob, sm _ _ g⟩)
    · exact .inr g
  · intro c hc
    obtain ⟨q1, q2⟩ := hf c hc
    refine ⟨?_, q2⟩
    rw [upd_ne (Nat.ne_of_lt (Nat.lt_of_lt_of_eq (hbd c hc) hSd.symm))]
    exact q1
  · intro c hc
    exact Nat.lt_trans (Nat.lt_of_lt_of_eq (hbd c hc) hSd.symm) (Heap.lt_size hS₄)
/-- list(zip(a, b)) of two lists of one length -/
def tLZipL (K : PySem.W.Frag) (ta : TA) : TE := fun σ H Q => ta σ H fun vs H1 => ∃ a b xs ys, vs = [.ref a, .ref b] ∧ SqL K H1 a xs ∧ SqL K H1 b ys ∧ xs.length = ys.length ∧ xs.length ≤ 1000000 ∧
  ∀ H' ts S, H1 S = none → (∀ c o, H1 c = some o → H' c = some o) → H' S = some (.lst (ts.map V.ref)) → ts.length = xs.length → PairsAt H' xs ys ts → Q (.ref S) H'
theorem k_lzipL {K : PySem.W.Frag} {e e2 : Expr} {ta : TA} {p p0 pos pos0 : Pos} (hK : X.K = K) (hc : X.calm = true) (hg0 : Gl X "list") (hm0 : X.mg "list" = none) (hg : Gl X "zip") (hm : X.mg "zip" = none) (ha : PA X [e, e2] ta)
    (hs : starEach [e, e2] X.env = (false, eval e X.env) :: starEach [e2] X.env := by rfl) (hpl : (backTo pos (starEach [e2] X.env)).any (·.1) = false := by rfl)
    (hs0 : starEach [Expr.Call (.Name "zip" p) [e, e2] [] pos] X.env = (false, eval (Expr.Call (.Name "zip" p) [e, e2] [] pos) X.env) :: starEach [] X.env := by rfl) :
    PE X (.Call (.Name "list" p0) [.Call (.Name "zip" p) [e, e2] [] pos] [] pos0) (tLZipL K ta) := by
  subst hK
  refine ⟨fun pins s σ H Q I h => ?_⟩
  refine Call_ (ld_blt I hg0 hm0 PyProof.Rows.boot_list (PyProof.Rows.callWith_type1 ?_ hs0 rfl))
  rw [hs0]
  show wpAny _ _ (spliced ((false, _) :: backTo pos0 (starEach [] X.env))) _ _ s
  refine Calls.spliced_cons ?_
  refine Call_ (ld_blt I hg hm PyProof.Rows.boot_zip (PyProof.Rows.callWith_type1 (thn (ha.run pos pins s σ H _ I h) fun us s1 ⟨vs, H1, I1, r1, q1⟩ => ?_) hs hpl))
  obtain ⟨a, b, xs, ys, ex, qa, qb, hlen, hsz, q⟩ := q1
  subst ex
  cases r1 with
  | cons r rr =>
    cases rr with
    | cons r' rr =>
      cases rr
      cases r
      cases r'
      obtain ⟨its, rv, p1, _⟩ := I1.list qa
      obtain ⟨its2, rv2, p2, _⟩ := I1.list qb
      refine call_zip_2 p1.isList p2.isList fun h' hz hTI hTO h1 h2 hsz' hk => ?_
      have I2 : Inv X pins σ H1 { s1 with heap := h' } := I1.kept (t' := s1.toks) hk
      have five : ∀ c, c ∈ [s1.heap.objs.size + 4, s1.heap.objs.size + 2, s1.heap.objs.size + 3, s1.heap.objs.size, s1.heap.objs.size + 1] → s1.heap.objs.size ≤ c ∧ c < s1.heap.objs.size + 5 := fun c hcm => by
        have e' : c = s1.heap.objs.size + 4 ∨ c = s1.heap.objs.size + 2 ∨ c = s1.heap.objs.size + 3 ∨ c = s1.heap.objs.size ∨ c = s1.heap.objs.size + 1 := by simpa using hcm
        omega
      refine Calls.spliced_nil ?_
      refine call_list_zip (X := X) (pins := pins) (σ := σ) (I2.ok.hd hc) (PySem.W.ktu_apart s1.heap.objs.size a b p1.lt p2.lt) hlen hsz I2 hz hTI ⟨_, _, hTO⟩ h1 h2 qa qb (fun c hcm => I1.fpOk (five c hcm).1 (I1.hok.fresh (five c hcm).1)) (fun c hcm => by
        show c < h'.objs.size
        rw [hsz']
        exact (five c hcm).2) fun s' H' ts S I' hS k' q' l' p' => ⟨.ref S, H', I', rfl, q H' ts S hS k' q' l' p'⟩
end
end ZL
section
open PySem
variable {X : Cx} {pins : List (Addr × Obj)} {σ : L2.St}
/-- list(zip(a, b)) of two tuples or two lists of one length -/
def tLZipA (K : PySem.W.Frag) (ta : TA) : TE := fun σ H Q => ta σ H fun vs H1 =>
  (∃ a b xs ys, vs = [.ref a, .ref b] ∧ SqT K H1 a xs ∧ SqT K H1 b ys ∧ xs.length = ys.length ∧ xs.length ≤ 1000000 ∧
    ∀ H' ts S, H1 S = none → (∀ c o, H1 c = some o → H' c = some o) → H' S = some (.lst (ts.map V.ref)) → ts.length = xs.length → PairsAt H' xs ys ts → Q (.ref S) H') ∨
  (∃ a b xs ys, vs = [.ref a, .ref b] ∧ SqL K H1 a xs ∧ SqL K H1 b ys ∧ xs.length = ys.length ∧ xs.length ≤ 1000000 ∧
    ∀ H' ts S, H1 S = none → (∀ c o, H1 c = some o → H' c = some o) → H' S = some (.lst (ts.map V.ref)) → ts.length = xs.length → PairsAt H' xs ys ts → Q (.ref S) H')
theorem k_lzipA {K : PySem.W.Frag} {e e2 : Expr} {ta : TA} {p p0 pos pos0 : Pos} (hK : X.K = K) (hc : X.calm = true) (hg0 : Gl X "list") (hm0 : X.mg "list" = none) (hg : Gl X "zip") (hm : X.mg "zip" = none) (ha : PA X [e, e2] ta)
    (hs : starEach [e, e2] X.env = (false, eval e X.env) :: starEach [e2] X.env := by rfl) (hpl : (backTo pos (starEach [e2] X.env)).any (·.1) = false := by rfl)
    (hs0 : starEach [Expr.Call (.Name "zip" p) [e, e2] [] pos] X.env = (false, eval (Expr.Call (.Name "zip" p) [e, e2] [] pos) X.env) :: starEach [] X.env := by rfl) :
    PE X (.Call (.Name "list" p0) [.Call (.Name "zip" p) [e, e2] [] pos] [] pos0) (tLZipA K ta) := by
  subst hK
  refine ⟨fun pins s σ H Q I h => ?_⟩
  refine Call_ (ld_blt I hg0 hm0 PyProof.Rows.boot_list (PyProof.Rows.callWith_type1 ?_ hs0 rfl))
  rw [hs0]
  show wpAny _ _ (spliced ((false, _) :: backTo pos0 (starEach [] X.env))) _ _ s
  refine Calls.spliced_cons ?_
  refine Call_ (ld_blt I hg hm PyProof.Rows.boot_zip (PyProof.Rows.callWith_type1 (thn (ha.run pos pins s σ H _ I h) fun us s1 ⟨vs, H1, I1, r1, q1⟩ => ?_) hs hpl))
  rcases q1 with q1 | q1
  · obtain ⟨a, b, xs, ys, ex, qa, qb, hlen, hsz, q⟩ := q1
    subst ex
    cases r1 with
    | cons r rr =>
      cases rr with
      | cons r' rr =>
        cases rr
        cases r
        cases r'
        obtain ⟨its, rv, p1, _⟩ := I1.tuple qa
        obtain ⟨its2, rv2, p2, _⟩ := I1.tuple qb
        obtain ⟨o1, ho1, _⟩ := id p1
        obtain ⟨o2, ho2, _⟩ := id p2
        refine RZ.call_zipT (show s1.heap.IsTuple a its.toArray from p1) (show s1.heap.IsTuple b its2.toArray from p2) fun h' hz hTI hTO h1 h2 hsz' hk => ?_
        have I2 : Inv X pins σ H1 { s1 with heap := h' } := I1.kept (t' := s1.toks) hk
        have five : ∀ c, c ∈ [s1.heap.objs.size + 4, s1.heap.objs.size + 2, s1.heap.objs.size + 3, s1.heap.objs.size, s1.heap.objs.size + 1] → s1.heap.objs.size ≤ c ∧ c < s1.heap.objs.size + 5 := fun c hcm => by
          have e' : c = s1.heap.objs.size + 4 ∨ c = s1.heap.objs.size + 2 ∨ c = s1.heap.objs.size + 3 ∨ c = s1.heap.objs.size ∨ c = s1.heap.objs.size + 1 := by simpa using hcm
          omega
        refine Calls.spliced_nil ?_
        refine call_list_zip (X := X) (pins := pins) (σ := σ) (I2.ok.hd hc) (PySem.W.ktu_apart s1.heap.objs.size a b (Heap.lt_size ho1) (Heap.lt_size ho2)) hlen hsz I2 hz hTI ⟨_, _, hTO⟩ h1 h2 qa qb (fun c hcm => I1.fpOk (five c hcm).1 (I1.hok.fresh (five c hcm).1)) (fun c hcm => by
          show c < h'.objs.size
          rw [hsz']
          exact (five c hcm).2) fun s' H' ts S I' hS k' q' l' p' => ⟨.ref S, H', I', rfl, q H' ts S hS k' q' l' p'⟩
  · obtain ⟨a, b, xs, ys, ex, qa, qb, hlen, hsz, q⟩ := q1
    subst ex
    cases r1 with
    | cons r rr =>
      cases rr with
      | cons r' rr =>
        cases rr
        cases r
        cases r'
        obtain ⟨its, rv, p1, _⟩ := I1.list qa
        obtain ⟨its2, rv2, p2, _⟩ := I1.list qb
        refine call_zip_2 p1.isList p2.isList fun h' hz hTI hTO h1 h2 hsz' hk => ?_
        have I2 : Inv X pins σ H1 { s1 with heap := h' } := I1.kept (t' := s1.toks) hk
        have five : ∀ c, c ∈ [s1.heap.objs.size + 4, s1.heap.objs.size + 2, s1.heap.objs.size + 3, s1.heap.objs.size, s1.heap.objs.size + 1] → s1.heap.objs.size ≤ c ∧ c < s1.heap.objs.size + 5 := fun c hcm => by
          have e' : c = s1.heap.objs.size + 4 ∨ c = s1.heap.objs.size + 2 ∨ c = s1.heap.objs.size + 3 ∨ c = s1.heap.objs.size ∨ c = s1.heap.objs.size + 1 := by simpa using hcm
          omega
        refine Calls.spliced_nil ?_
        refine ZL.call_list_zip (X := X) (pins := pins) (σ := σ) (I2.ok.hd hc) (PySem.W.ktu_apart s1.heap.objs.size a b p1.lt p2.lt) hlen hsz I2 hz hTI ⟨_, _, hTO⟩ h1 h2 qa qb (fun c hcm => I1.fpOk (five c hcm).1 (I1.hok.fresh (five c hcm).1)) (fun c hcm => by
          show c < h'.objs.size
          rw [hsz']
          exact (five c hcm).2) fun s' H' ts S I' hS k' q' l' p' => ⟨.ref S, H', I', rfl, q H' ts S hS k' q' l' p'⟩
end
section
variable {K : PySem.W.Frag}
def aLZipA (g : AA) : AE := fun ρ n Q => g ρ n fun ds n1 => match ds with
  | [.tup as, .tup bs] => as.length = bs.length ∧ as.length ≤ 1000000 ∧ Q (.lst (zipD as bs)) n1
  | [.lst as, .lst bs] => as.length = bs.length ∧ as.length ≤ 1000000 ∧ Q (.lst (zipD as bs)) n1
  | _ => False
instance {ta : TA} {g : AA} [DA K ta g] : DE K (tLZipA K ta) (aLZipA g) := ⟨fun W σ ρ n H Q Qa hQ hE o h =>
  DA.run (te := ta) (f := g) W σ ρ n H _ _ (fun ds n1 h1 H1 vs l1 o1 ax => by
    split at h1
    · obtain ⟨e1, e2, h1⟩ := h1
      cases ax with
      | cons a r =>
        cases r with
        | cons b r =>
          cases r
          cases a with
          | tup sa aa =>
            cases b with
            | tup sb ab =>
              have la := aa.length
              have lb := ab.length
              refine .inl ⟨_, _, _, _, rfl, sa, sb, by omega, by omega, fun H' ts S hS k' q' l' p' => ?_⟩
              have sm : Same H1 H' := k'
              exact hQ _ _ h1 H' _ (l1.trans (Wd.le_same sm)) (o1.same sm) (.lst (o1.fresh hS) q' (pairs_at ts _ _ _ _ (AtAll.le o1 (Wd.le_same sm) _ aa) (AtAll.le o1 (Wd.le_same sm) _ ab) (by omega) l' p'))
    · obtain ⟨e1, e2, h1⟩ := h1
      cases ax with
      | cons a r =>
        cases r with
        | cons b r =>
          cases r
          cases a with
          | lst ra sa aa =>
            cases b with
            | lst rb sb ab =>
              have la := aa.length
              have lb := ab.length
              refine .inr ⟨_, _, _, _, rfl, SqL.of sa, SqL.of sb, by omega, by omega, fun H' ts S hS k' q' l' p' => ?_⟩
              have sm : Same H1 H' := k'
              exact hQ _ _ h1 H' _ (l1.trans (Wd.le_same sm)) (o1.same sm) (.lst (o1.fresh hS) q' (pairs_at ts _ _ _ _ (AtAll.le o1 (Wd.le_same sm) _ aa) (AtAll.le o1 (Wd.le_same sm) _ ab) (by omega) l' p'))
    · exact h1.elim) hE o h⟩
end

/-! ### in, not in, index: things at any depth -/
section
variable {K : PySem.W.Frag}
def rInDp (K : PySem.W.Frag) : R2 := rInD K
def rNotInDp (K : PySem.W.Frag) : R2 := rNotInD K
theorem k_inD {X : Cx} (hK : X.K = K) (hu : X.A.units + 65 < cLine) : OpR X (compareOp .In) (rInDp K) := hK ▸ op_inD hu
theorem k_notInD {X : Cx} (hK : X.K = K) (hu : X.A.units + 65 < cLine) : OpR X (compareOp .NotIn) (rNotInDp K) := hK ▸ op_notInD hu
def anyD (ds : List D) (d : D) : Bool := (pdAll ds).any fun z => PyData.eqv z d.pd
structure PlD (ds : List D) (d : D) : Prop where
  d1 : d.isD = true
  d2 : isDAll ds = true
  s1 : SeqAt.shaped d.pd = true
  s2 : SeqAt.shaped (.list (pdAll ds)) = true
def aInDp (f : Bool → Bool) : D → D → Nat → (D → Nat → Prop) → Prop := fun d e n Q => ∃ ds, e = .lst ds ∧ PlD ds d ∧ Q (.bl (f (anyD ds d))) n
instance : D2 K (rInDp K) (aInDp id) := ⟨fun W n H x y d e Q Qa hQ o ax ay h => by
  obtain ⟨ds, rfl, p, q⟩ := h
  exact ⟨d.pd, pdAll ds, At.dp d p.d1 ax, At.dp (.lst ds) p.d2 ay, p.s1, p.s2, hQ.now o q (.bl _)⟩⟩
instance : D2 K (rNotInDp K) (aInDp not) := ⟨fun W n H x y d e Q Qa hQ o ax ay h => by
  obtain ⟨ds, rfl, p, q⟩ := h
  exact ⟨d.pd, pdAll ds, At.dp d p.d1 ax, At.dp (.lst ds) p.d2 ay, p.s1, p.s2, hQ.now o q (.bl _)⟩⟩
def tIdxD (K : PySem.W.Frag) (to te : TE) : TE := tBM K "list" (rIndexD K) to (tCons te tNil)
theorem k_idxD {X : Cx} {e : Expr} {to te : TE} (hK : X.K = K) (h : PE X e (tBM X.K "list" (rIndexD X.K) to (tCons te tNil))) : PE X e (tIdxD K to te) := hK ▸ h
def aIdxD (fa fb : AE) : AE := fun ρ n Q => fa ρ n fun d n1 => ∃ ds, d = .lst ds ∧ fb ρ n1 fun e n2 => ∃ j z, PlD ds e ∧ ds[j]? = some z ∧ PyData.eqv z.pd e.pd = true ∧ (∀ (m : Nat) (z' : D), m < j → ds[m]? = some z' → PyData.eqv z'.pd e.pd = false) ∧ Q (.int (j : Nat)) n2
theorem pdAll_get : ∀ {ds : List D} {j : Nat}, (pdAll ds)[j]? = (ds[j]?).map D.pd
  | [], j => by simp [pdAll]
  | d :: ds, 0 => rfl
  | d :: ds, j + 1 => pdAll_get (ds := ds) (j := j)
instance {to te : TE} {fa fb : AE} [DE K to fa] [DE K te fb] : DE K (tIdxD K to te) (aIdxD fa fb) := ⟨fun W σ ρ n H Q Qa hQ hE o h =>
  DE.run (te := to) (f := fa) W σ ρ n H _ _ (fun d n1 h1 H1 x l1 o1 ax => by
    obtain ⟨ds, rfl, h1⟩ := h1
    have hx : ∃ p, x = .ref p ∧ ∃ xs, SqL K H1 p xs := by
      cases ax with
      | lst r s a => exact ⟨_, rfl, _, SqL.of s⟩
    obtain ⟨p, rfl, hs⟩ := hx
    refine ⟨.inl ⟨rfl, hs⟩, ?_⟩
    refine DE.run (te := te) (f := fb) W σ ρ n1 H1 _ _ (fun e n2 h2 H2 y l2 o2 ay => ?_) (hE.le o l1) o1 h1
    obtain ⟨j, z, pl, e1, e2, e3, q⟩ := h2
    refine ⟨p, y, e.pd, pdAll ds, j, z.pd, rfl, rfl, At.dp (.lst ds) pl.d2 (At.le o1 l2 _ ax), At.dp e pl.d1 ay, pl.s2, pl.s1, by rw [pdAll_get, e1]; rfl, e2, fun m z' hm hz' => ?_, ((hQ.le l1).le l2).now o2 q (.int _)⟩
    rw [pdAll_get] at hz'
    obtain ⟨z'', h3, rfl⟩ := Option.map_eq_some_iff.mp hz'
    exact e3 m z'' hm h3) hE o h⟩
theorem anyD_idx {d : D} : ∀ {ds : List D}, anyD ds d = true → ∃ j z, ds[j]? = some z ∧ PyData.eqv z.pd d.pd = true ∧ ∀ (m : Nat) (z' : D), m < j → ds[m]? = some z' → PyData.eqv z'.pd d.pd = false
  | [], h => by cases h
  | x :: ds, h => by
    have h' : (PyData.eqv x.pd d.pd || anyD ds d) = true := h
    cases e : PyData.eqv x.pd d.pd with
    | true => exact ⟨0, x, rfl, e, fun m z' hm => absurd hm (Nat.not_lt_zero _)⟩
    | false =>
      rw [e, Bool.false_or] at h'
      obtain ⟨j, z, h1, h2, h3⟩ := anyD_idx (ds := ds) h'
      refine ⟨j + 1, z, h1, h2, fun m z' hm hz' => ?_⟩
      cases m with
      | zero => cases hz'; exact e
      | succ m => exact h3 m z' (by omega) hz'
theorem anyD_mem {d : D} {ds : List D} (h : anyD ds d = true) : ∃ z ∈ ds, PyData.eqv z.pd d.pd = true := by
  obtain ⟨j, z, h1, h2, _⟩ := anyD_idx h
  exact ⟨z, List.mem_of_getElem? h1, h2⟩
theorem mem_anyD {d z : D} : ∀ {ds : List D}, z ∈ ds → PyData.eqv z.pd d.pd = true → anyD ds d = true
  | x :: ds, hz, e => by
    show (PyData.eqv x.pd d.pd || anyD ds d) = true
    rcases List.mem_cons.mp hz with rfl | hz
    · rw [e]; rfl
    · rw [mem_anyD hz e, Bool.or_true]
end

/-! ### isinstance with a tuple of two built-in types -/
section
open PySem
variable {K : PySem.W.Frag}
def rIsiS (K : PySem.W.Frag) : List V → Hp → VK → Prop := fun xs H Q => ∃ (x : V) (tp : Addr) (cs : List V) (t : Value) (us : List Value) (b : Bool), xs = [x, .ref tp] ∧ SqT K H tp cs ∧ Paired ClsV cs us ∧ TyX K H x t ∧ PySem.W.kitAny K t us = some b ∧ Q (.bl b) H
theorem call_isiS {X : Cx} : CallR X (.builtin "isinstance") (rIsiS X.K) := by
  intro pins s σ H xs us Q I r h
  obtain ⟨x, tp, cs, t, ws, b, rfl, hT, k, ty, e, q⟩ := h
  obtain ⟨u1, u2, rfl, r1, r2⟩ := vals2 r
  cases (show u2 = Value.ref tp from r2)
  obtain ⟨P, Z, p, hx⟩ := kit_of I r1 ty
  obtain ⟨its, rv, ⟨o, h1, h2, n, h3⟩, _⟩ := I.tuple hT
  have e3 := ClsV.all k rv
  subst e3
  obtain ⟨oc, od, dt, sl⟩ := o
  simp only at h2 h3
  subst h2 h3
  exact PySem.W.kia_tup Z I.kIn p h1 e hx fun tk => ⟨.bl b, H, I.tok tk, rfl, q⟩
theorem k_isiS {X : Cx} (hK : X.K = K) : CallR X (.builtin "isinstance") (rIsiS K) := hK ▸ call_isiS
def aIsiS : List D → Nat → (D → Nat → Prop) → Prop := fun ds n Q => match ds with
  | [d, .tup [.ty a, .ty b]] => (match d.tv with
    | some t => (a ≠ .non ∧ a ≠ .verr ∧ b ≠ .non ∧ b ≠ .verr) ∧ Q (.bl (isiB t a || isiB t b)) n
    | none => False)
  | _ => False
instance : DL K (rIsiS K) aIsiS := ⟨fun W n H xs ds Q Qa hQ o ax h => by
  unfold aIsiS at h
  split at h
  · rename_i d a b
    split at h
    · rename_i t e
      obtain ⟨⟨n1, n2, n3, n4⟩, h⟩ := h
      cases ax with
      | cons x r =>
        cases r with
        | cons y r =>
          cases r
          cases y with
          | tup s p =>
            cases p with
            | cons y1 p =>
              cases p with
              | cons y2 p =>
                cases p
                cases y1
                cases y2
                have nv : t ≠ .verr := fun z => tv_nv (z ▸ e)
                refine ⟨_, _, _, _, [.type a.nm, .type b.nm], _, rfl, s, .cons (.ty _) (.cons (.ty _) .nil), tv_is x e, kitAny_cons (kit_ty (kitB_is t a n1 n2 nv)) (fun z => kitAny_cons (kit_ty (kitB_is t b n3 n4 nv)) (fun z2 => kitAny_nil.trans (congrArg some (show false = (isiB t a || isiB t b) by rw [z, z2]; rfl))) fun z2 => by rw [z2, Bool.or_true]) (fun z => by rw [z]; rfl), hQ.now o h (.bl _)⟩
    · exact h.elim
  · exact h.elim⟩
end

/-! ### list.count of numbers -/
section
variable {K : PySem.W.Frag}
def isI (k : Int) : Value → Bool
  | .int b _ => b == k
  | _ => false
theorem isI_eq {A : Around} {s : Shared} {k : Int} {tk : Tok} : ∀ {bs : List Int} {us : List Value}, Vals (bs.map V.int) us → (∀ y ∈ us, SeqAt.EqAt A s y (.int k tk) (isI k y)) ∧ us.countP (isI k) = bs.count k
  | [], us, h => by
    cases h
    exact ⟨fun y hy => (by cases hy), rfl⟩
  | b :: bs, us, h => by
    cases h with
    | cons r rs =>
      obtain ⟨h1, h2⟩ := isI_eq (A := A) (s := s) (k := k) (tk := tk) rs
      obtain ⟨t, rfl⟩ := r
      refine ⟨fun y hy => ?_, ?_⟩
      · rcases List.mem_cons.mp hy with e | e
        · rw [e]
          exact SeqAt.EqAt.int_int b t k tk
        · exact h1 y e
      · rw [List.countP_cons, List.count_cons, h2]
        rfl
def rCntI (K : PySem.W.Frag) : V → List V → Hp → VK → Prop := fun x xs H Q => ∃ (p : Addr) (bs : List Int) (k : Int), x = .ref p ∧ xs = [.int k] ∧ SqL K H p (bs.map V.int) ∧ Q (.int (bs.count k : Nat)) H
theorem mt_cntI {X : Cx} : MtR X "list.count" (rCntI X.K) := by
  intro pins s σ H x xs v us Q I rx rxs h
  obtain ⟨p, bs, k, rfl, rfl, sq, q⟩ := h
  cases rx
  obtain ⟨u, rfl, ru⟩ := rxs.one
  obtain ⟨tk, rfl⟩ := ru
  obtain ⟨is, rel, ⟨⟨cl, di, da, slo⟩, m, get, h1, _, h2⟩, _⟩ := I.list sq
  dsimp only at h1 h2
  subst h1 h2
  refine call_meets PySem.F.slot_list_count ⟨_, get, rfl⟩ PySem.F.entry_list_count (PySem.F.args_list_count_2 _ _) (SeqAt.list_countAt p is.toArray m di slo (.int k tk) (isI k)) ⟨get, fun y hy => (isI_eq rel).1 y (by simpa using hy), ?_⟩
  have ec : is.toArray.toList.countP (isI k) = bs.count k := (isI_eq (A := X.A.in1) (s := s) (tk := tk) rel).2
  refine ⟨.int (bs.count k : Nat), H, I.tok _, ⟨s.toks, ?_⟩, q⟩
  rw [ec]
def tCntI (K : PySem.W.Frag) (to te : TE) : TE := tBM K "list" (rCntI K) to (tCons te tNil)
theorem k_cntI {X : Cx} {e : Expr} {to te : TE} (hK : X.K = K) (h : PE X e (tBM X.K "list" (rCntI X.K) to (tCons te tNil))) : PE X e (tCntI K to te) := hK ▸ h
def aCntI (fa fb : AE) : AE := fun ρ n Q => fa ρ n fun d n1 => ∃ bs : List Int, d = .lst (bs.map D.int) ∧ fb ρ n1 fun e n2 => ∃ k, e = .int k ∧ Q (.int (bs.count k : Nat)) n2
theorem at_intsC {W : Wd} {H : Hp} : ∀ {bs : List Int} {vs : List V}, AtAll K W H vs (bs.map D.int) → vs = bs.map V.int
  | [], _, h => by cases h; rfl
  | b :: bs, _, h => by
    cases h with
    | cons a r =>
      cases a
      rw [at_intsC r]
      rfl
instance {to te : TE} {fa fb : AE} [DE K to fa] [DE K te fb] : DE K (tCntI K to te) (aCntI fa fb) := ⟨fun W σ ρ n H Q Qa hQ hE o h =>
  DE.run (te := to) (f := fa) W σ ρ n H _ _ (fun d n1 h1 H1 x l1 o1 ax => by
    obtain ⟨bs, rfl, h1⟩ := h1
    obtain ⟨p, rfl, hs⟩ : ∃ p, x = .ref p ∧ SqL K H1 p (bs.map V.int) := by
      cases ax with
      | lst r s a => exact ⟨_, rfl, at_intsC a ▸ SqL.of s⟩
    refine ⟨.inl ⟨rfl, _, hs⟩, ?_⟩
    refine DE.run (te := te) (f := fb) W σ ρ n1 H1 _ _ (fun e n2 h2 H2 y l2 o2 ay => ?_) (hE.le o l1) o1 h1
    obtain ⟨k, rfl, q⟩ := h2
    cases ay
    have hs2 : SqL K H2 p (bs.map V.int) := by
      cases At.le o1 l2 _ ax with
      | lst r s a => exact at_intsC a ▸ SqL.of s
    exact ⟨p, bs, k, rfl, rfl, hs2, ((hQ.le l1).le l2).now o2 q (.int _)⟩) hE o h⟩
end

/-! ### a list some times over; truths that are the same -/
section
variable {K : PySem.W.Frag}
def aRep : D → D → Nat → (D → Nat → Prop) → Prop
  | .lst ds, .int k, n, Q => (0 ≤ k ∧ k ≤ 1000 ∧ ds.length ≤ 1000) ∧ Q (.lst (List.replicate k.toNat ds).flatten) n
  | _, _, _, _ => False
theorem rep_at {W : Wd} {H : Hp} {vs : List V} {ds : List D} (h : AtAll K W H vs ds) : ∀ k : Nat, AtAll K W H (List.replicate k vs).flatten (List.replicate k ds).flatten
  | 0 => .nil
  | k + 1 => by
    rw [List.replicate_succ, List.replicate_succ, List.flatten_cons, List.flatten_cons]
    exact h.append (rep_at h k)
instance : D2 K rRep aRep := ⟨fun W n H x y d e Q Qa hQ o ax ay h => by
  unfold aRep at h
  split at h
  · rename_i ds k
    obtain ⟨⟨h1, h2, h3⟩, h⟩ := h
    cases ay
    cases ax with
    | lst r s a =>
      refine ⟨_, k, _, rfl, rfl, s, by omega, by omega, ?_, fun p hp => hQ.new o h hp ?_⟩
      · rw [a.length]
        have : ds.length * k.toNat ≤ 1000 * 1000 := Nat.mul_le_mul h3 (by omega)
        exact Nat.le_trans this lim
      · exact .lst (o.fresh hp) upd_same (rep_at (AtAll.le o (Wd.le_same (same_upd hp)) _ a) _)
  · exact h.elim⟩
def aIsB (f : Bool → Bool) : D → D → Nat → (D → Nat → Prop) → Prop
  | .bl a, .bl b, n, Q => Q (.bl (f (decide (a = b)))) n
  | _, _, _, _ => False
def rIsBK : R2 := fun x y H Q => ∃ a b : Bool, x = .bl a ∧ y = .bl b ∧ Q (.bl (decide (a = b))) H
def rNotBK : R2 := fun x y H Q => ∃ a b : Bool, x = .bl a ∧ y = .bl b ∧ Q (.bl (!decide (a = b))) H
theorem k_isB {X : Cx} : OpR X (compareOp .Is) rIsBK := op_isBl
theorem k_notB {X : Cx} : OpR X (compareOp .IsNot) rNotBK := op_notBl
instance : D2 K rIsBK (aIsB id) := ⟨fun W n H x y d e Q Qa hQ o ax ay h => by
  unfold aIsB at h
  split at h
  · cases ax
    cases ay
    exact ⟨_, _, rfl, rfl, hQ.now o h (.bl _)⟩
  · exact h.elim⟩
instance : D2 K rNotBK (aIsB not) := ⟨fun W n H x y d e Q Qa hQ o ax ay h => by
  unfold aIsB at h
  split at h
  · cases ax
    cases ay
    exact ⟨_, _, rfl, rfl, hQ.now o h (.bl _)⟩
  · exact h.elim⟩
end

section
variable {P : Program} {w : World} {K : PySem.W.Frag} {mg : Str → Option Value} {base : Heap} {A : Ad}
/-! CUT -/
/-! ### shares in the mirror -/
def sh (q : Rat) : D := .tup [.int q.num, .int (q.den : Int)]
theorem sh_of {t u a b : Int} (h : IsSh t u) (hb : b ≠ 0) (c : t * b = u * a) : D.tup [.int t, .int u] = sh (Rat.divInt a b) := by
  obtain ⟨h1, h2⟩ := rep_divInt h hb c
  rw [h1, h2]
  rfl
theorem mulA {n m : Nat} {x y : Int} (h : Bd n x) (g : Bd m y) (hn : n ≤ 400000) (hm : m ≤ 400000) : CMulA x y := .inr (h.mulW g hn hm)
theorem divA {n : Nat} {x y : Int} (h : Bd n y) (h0 : 0 < y) (hn : n < 9000) : CDivA x y := .inr (h.divW h0 hn)
theorem dIte {p : Prop} [Decidable p] {a b : Prop} (h : p → a) (g : ¬ p → b) : aIte (decide p) a b := ⟨fun e => h (of_decide_eq_true e), fun e => g (of_decide_eq_false e)⟩
/-! ### bounds of a fraction's two numbers, each by itself -/
def Bq (n d : Nat) (q : Rat) : Prop := Bd n q.num ∧ Bd d (q.den : Int)
theorem BdQ.q {n : Nat} {q : Rat} (h : BdQ n q) : Bq n n q := h
theorem Bq.b {n d : Nat} {q : Rat} (h : Bq n d q) (l : d ≤ n) : BdQ n q := ⟨h.1, h.2.le l⟩
theorem Bq.le {n d m e : Nat} {q : Rat} (h : Bq n d q) (l : n ≤ m) (k : d ≤ e) : Bq m e q := ⟨h.1.le l, h.2.le k⟩
theorem divInt_bq {a b : Int} {n d : Nat} (hb : 0 < b) (ha : Bd n a) (hn : Bd d b) : Bq n d (Rat.divInt a b) := by
  have h := low_bd (isSh_q (Rat.divInt a b)) hb (by rw [← divInt_cross (by omega), Int.mul_comm])
  exact ⟨ha.of_le h.1, hn.of_le h.2⟩
theorem Bq.add {n d m e s : Nat} {p q : Rat} (h : Bq n d p) (g : Bq m e q) (h1 : n + e ≤ s) (h2 : m + d ≤ s) : Bq (s + 1) (d + e) (p + q) := by
  rw [add_divInt]
  exact divInt_bq (Int.mul_pos (den_pos p) (den_pos q)) (((h.1.mul g.2).le h1).add ((g.1.mul h.2).le h2)) (h.2.mul g.2)
theorem Bq.mul {n d m e : Nat} {p q : Rat} (h : Bq n d p) (g : Bq m e q) : Bq (n + m) (d + e) (p * q) := by
  rw [mul_divInt]
  exact divInt_bq (Int.mul_pos (den_pos p) (den_pos q)) (h.1.mul g.1) (h.2.mul g.2)
theorem Bq.neg {n d : Nat} {q : Rat} (h : Bq n d q) : Bq n d (-q) := by
  refine ⟨?_, h.2⟩
  rw [Rat.neg_num]
  exact h.1.neg
theorem Bq.sub {n d m e s : Nat} {p q : Rat} (h : Bq n d p) (g : Bq m e q) (h1 : n + e ≤ s) (h2 : m + d ≤ s) : Bq (s + 1) (d + e) (p - q) := by
  rw [Rat.sub_eq_add_neg]
  exact h.add g.neg h1 h2
theorem bq_int {n : Nat} {p : Int} (h : Bd n p) : Bq n 1 (p : Rat) := ⟨h, by show Bd 1 1; unfold Bd; decide⟩

def a_gcd : ASp := fun ds n Q => ∃ a b : Int, ds = [.int a, .int b] ∧ Q (.int (gcdI a b)) n
/-! ### common divisors of numbers of any length -/
def rSrtI (K : PySem.W.Frag) : List V → Hp → VK → Prop := rSorted K
theorem k_sortI {X : Cx} (hK : X.K = K) : CallR X (.builtin "sorted") (rSrtI K) := hK ▸ cr_sorted
def aSrtI : List D → Nat → (D → Nat → Prop) → Prop := fun ds n Q => ∃ ns : List Int, ds = [.lst (ns.map D.int)] ∧ ns.length < 64 ∧ ∀ ys : List Int, ys.Perm ns → ys.Pairwise (· ≤ ·) → Q (.lst (ys.map D.int)) n
instance : DL K (rSrtI K) aSrtI := ⟨fun W n H xs ds Q Qa hQ o a h => by
  obtain ⟨zs, rfl, hl, h⟩ := h
  cases a with
  | cons a r =>
    cases r
    cases a with
    | @lst l us _ nr s a =>
      obtain rfl := ints_at a
      exact ⟨l, zs, rfl, SqL.of s, hl, fun ys p hp hs hn => hQ.new o (h ys hp hs) hn (.lst (o.fresh hn) upd_same (at_ints ys))⟩⟩
/-! ### long numbers: what a run of divided keeps -/
structure LI (x0 y0 x y a b c d e p q r t : Int) : Prop where
  ee : e = 1 ∨ e = -1
  ha : a = e * p
  hb : b = -(e * q)
  hc : c = -(e * r)
  hd : d = e * t
  p0 : 0 ≤ p
  q0 : 0 ≤ q
  r0 : 0 ≤ r
  t1 : 1 ≤ t
  hx : x0 = t * x + q * y
  hy : y0 = r * x + p * y
  det : p * t - q * r = e
  y0' : 0 ≤ y
  yx : y ≤ x
  fst : (p = 1 ∧ q = 0 ∧ r = 0 ∧ t = 1) ∨ (1 ≤ q ∧ q ≤ t ∧ 1 ≤ r ∧ r ≤ t ∧ p ≤ q ∧ y < x ∧ 1152921504606846976 ≤ x ∧ (1 ≤ p ∨ (r = 1 ∧ e = -1)))
theorem LI.start {x0 y0 : Int} (h : 0 ≤ y0) (h2 : y0 ≤ x0) : LI x0 y0 x0 y0 1 0 0 1 1 1 0 0 1 :=
  ⟨.inl rfl, rfl, rfl, rfl, rfl, by decide, by decide, by decide, by decide, by omega, by omega, rfl, h, h2, .inl ⟨rfl, rfl, rfl, rfl⟩⟩
theorem LI.step {x0 y0 x y a b c d e p q r t : Int} (h : LI x0 y0 x y a b c d e p q r t) (hy : 1152921504606846976 ≤ y) :
    LI x0 y0 y (x - x / y * y) c d (a - x / y * c) (b - x / y * d) (-e) r t (p + x / y * r) (q + x / y * t) ∧ x - x / y * y < y := by
  obtain ⟨ee, ha, hb, hc, hd, p0, q0, r0, t1, hx, hY, det, y0', yx, fst⟩ := h
  have hm : 1 ≤ x / y := Int.le_ediv_of_mul_le (by omega) (by omega)
  have hr0 : 0 ≤ x - x / y * y := by
    have := Int.mul_ediv_self_le (x := x) (k := y) (by omega)
    rw [Int.mul_comm] at this
    omega
  have hr1 : x - x / y * y < y := by
    have h1 := Int.lt_mul_ediv_self_add (x := x) (k := y) (by omega)
    rw [Int.mul_comm] at h1
    omega
  obtain ⟨m, hme⟩ : ∃ m, x / y = m := ⟨_, rfl⟩
  rw [hme] at hm hr0 hr1 ⊢
  have mt : t ≤ m * t := by
    have := Int.mul_le_mul_of_nonneg_right hm (show 0 ≤ t by omega)
    omega
  have mr : r ≤ m * r := by
    have := Int.mul_le_mul_of_nonneg_right hm r0
    omega
  refine ⟨⟨by omega, by grind, by grind, by grind, by grind, r0, by omega, by omega, by omega, by grind, by grind, by grind, hr0, by omega, .inr ?_⟩, hr1⟩
  rcases fst with ⟨rfl, rfl, rfl, rfl⟩ | ⟨f1, f2, f3, f4, f5, f6, f7, f8⟩
  · exact ⟨t1, by omega, by omega, by omega, by omega, hr1, hy, .inr ⟨by omega, by omega⟩⟩
  · have h3 : m * r ≤ m * t := Int.mul_le_mul_of_nonneg_left f4 (by omega)
    exact ⟨t1, by omega, by omega, by omega, f4, hr1, hy, .inl f3⟩
/-- what the two new numbers are worth -/
theorem LI.worth {x0 y0 x y a b c d e p q r t S u v e1 e2 : Int} (h : LI x0 y0 x y a b c d e p q r t) (hu : u = S * x0 + e1) (hv : v = S * y0 + e2) :
    a * u + b * v = S * x + e * (p * e1 - q * e2) ∧ c * u + d * v = S * y + e * (t * e2 - r * e1) := by
  obtain ⟨ee, ha, hb, hc, hd, p0, q0, r0, t1, hx, hY, det, y0', yx, fst⟩ := h
  clear fst yx y0' t1 r0 q0 p0
  subst hu hv ha hb hc hd hx hY
  have d1 : p * t = e + q * r := by omega
  have hee : e * e = 1 := by rcases ee with rfl | rfl <;> rfl
  constructor
  · have : e * p * (S * (t * x + q * y) + e1) + -(e * q) * (S * (r * x + p * y) + e2) = e * (S * x) * (p * t - q * r) + e * (p * e1 - q * e2) := by grind
    rw [this, det]
    have : e * (S * x) * e = (e * e) * (S * x) := by grind
    rw [this, hee, Int.one_mul]
  · have : -(e * r) * (S * (t * x + q * y) + e1) + e * t * (S * (r * x + p * y) + e2) = e * (S * y) * (p * t - q * r) + e * (t * e2 - r * e1) := by grind
    rw [this, det]
    have : e * (S * y) * e = (e * e) * (S * y) := by grind
    rw [this, hee, Int.one_mul]
/-- the numbers become less -/
theorem LI.less {x0 y0 x y a b c d e p q r t S u v e1 e2 : Int} (h : LI x0 y0 x y a b c d e p q r t) (hu : u = S * x0 + e1) (hv : v = S * y0 + e2)
    (S0 : 0 < S) (l1 : 0 ≤ e1) (u1 : e1 < S) (l2 : 0 ≤ e2) (u2 : e2 < S) (hb : b ≠ 0) (hx0 : x0 < 1329227995784915872903807060280344576) (hy : y < 1152921504606846976) :
    (c * u + d * v).natAbs < v.natAbs ∧ (a * u + b * v).natAbs ≤ 2 * v.natAbs := by
  obtain ⟨w1, w2⟩ := h.worth hu hv
  obtain ⟨ee, ha, hb', hc, hd, p0, q0, r0, t1, hx, hY, det, y0', yx, fst⟩ := h
  rcases fst with ⟨rfl, rfl, rfl, rfl⟩ | ⟨f1, f2, f3, f4, f5, f6, f7, f8⟩
  · exact absurd (by rw [hb']; simp) hb
  · have qy : 0 ≤ q * y := Int.mul_nonneg q0 y0'
    have py : 0 ≤ p * y := Int.mul_nonneg p0 y0'
    have tx : t < 1152921504606846976 := by
      rcases Int.lt_or_le t 1152921504606846976 with z | z
      · exact z
      · have := Int.mul_le_mul z f7 (by decide) (by omega)
        omega
    have rx : x ≤ r * x := by
      have := Int.mul_le_mul_of_nonneg_right f3 (show 0 ≤ x by omega)
      omega
    have y0x : x ≤ y0 := by omega
    have Sx : S * x ≤ S * y0 := Int.mul_le_mul_of_nonneg_left y0x (by omega)
    have Sx0 : 0 ≤ S * x := Int.mul_nonneg (by omega) (by omega)
    have Sy0 : 0 ≤ S * y := Int.mul_nonneg (by omega) (by omega)
    have te : t * e2 ≤ t * (S - 1) := Int.mul_le_mul_of_nonneg_left (by omega) (by omega)
    have re : r * e1 ≤ r * (S - 1) := Int.mul_le_mul_of_nonneg_left (by omega) (by omega)
    have pe : p * e1 ≤ p * (S - 1) := Int.mul_le_mul_of_nonneg_left (by omega) (by omega)
    have qe : q * e2 ≤ q * (S - 1) := Int.mul_le_mul_of_nonneg_left (by omega) (by omega)
    have te0 : 0 ≤ t * e2 := Int.mul_nonneg (by omega) l2
    have re0 : 0 ≤ r * e1 := Int.mul_nonneg (by omega) l1
    have pe0 : 0 ≤ p * e1 := Int.mul_nonneg (by omega) l1
    have qe0 : 0 ≤ q * e2 := Int.mul_nonneg (by omega) l2
    have tS : t * S ≤ S * (x - 1) := by
      rw [Int.mul_comm]
      exact Int.mul_le_mul_of_nonneg_left (by omega) (by omega)
    have rS : r * S ≤ t * S := Int.mul_le_mul_of_nonneg_right f4 (by omega)
    have qS : q * S ≤ t * S := Int.mul_le_mul_of_nonneg_right f2 (by omega)
    have pS : p * S ≤ q * S := Int.mul_le_mul_of_nonneg_right f5 (by omega)
    have eS1 : t * (S - 1) = t * S - t := by grind
    have eS2 : r * (S - 1) = r * S - r := by grind
    have eS3 : p * (S - 1) = p * S - p := by grind
    have eS4 : q * (S - 1) = q * S - q := by grind
    have eS5 : S * (x - 1) = S * x - S := by grind
    rw [w1, w2]
    have eq1 : S * y0 = S * (r * x) + S * (p * y) := by rw [hY]; grind
    have Srx : S * x ≤ S * (r * x) := Int.mul_le_mul_of_nonneg_left rx (by omega)
    have Spy0 : 0 ≤ S * (p * y) := Int.mul_nonneg (by omega) py
    refine ⟨?_, ?_⟩
    · rcases f8 with f8 | ⟨f8, f9⟩
      · have : y ≤ p * y := by
          have := Int.mul_le_mul_of_nonneg_right f8 y0'
          omega
        have Spy : S * y ≤ S * (p * y) := Int.mul_le_mul_of_nonneg_left this (by omega)
        rcases ee with rfl | rfl <;> omega
      · subst f8 f9
        have : S * y ≤ S * (x - 1) := Int.mul_le_mul_of_nonneg_left (by omega) (by omega)
        omega
    · rcases ee with rfl | rfl <;> omega
/-- the divisor stays -/
theorem gcdI_uni {a b c d u v e : Int} (h : a * d - b * c = e) (he : e = 1 ∨ e = -1) : gcdI (a * u + b * v) (c * u + d * v) = gcdI u v := by
  unfold gcdI
  congr 1
  apply Nat.dvd_antisymm
  · have h1 : ((Nat.gcd (a * u + b * v).natAbs (c * u + d * v).natAbs : Nat) : Int) ∣ a * u + b * v := Int.ofNat_dvd_left.mpr (Nat.gcd_dvd_left _ _)
    have h2 : ((Nat.gcd (a * u + b * v).natAbs (c * u + d * v).natAbs : Nat) : Int) ∣ c * u + d * v := Int.ofNat_dvd_left.mpr (Nat.gcd_dvd_right _ _)
    generalize ((Nat.gcd (a * u + b * v).natAbs (c * u + d * v).natAbs : Nat)) = g at *
    have k1 : (g : Int) ∣ u := by
      have h3 : e * u = d * (a * u + b * v) - b * (c * u + d * v) := by grind
      have h4 : (g : Int) ∣ e * u := h3 ▸ Int.dvd_sub (Int.dvd_mul_of_dvd_right h1) (Int.dvd_mul_of_dvd_right h2)
      rcases he with rfl | rfl
      · simpa using h4
      · simpa using h4
    have k2 : (g : Int) ∣ v := by
      have h3 : e * v = a * (c * u + d * v) - c * (a * u + b * v) := by grind
      have h4 : (g : Int) ∣ e * v := h3 ▸ Int.dvd_sub (Int.dvd_mul_of_dvd_right h2) (Int.dvd_mul_of_dvd_right h1)
      rcases he with rfl | rfl
      · simpa using h4
      · simpa using h4
    exact Nat.dvd_gcd (Int.ofNat_dvd_left.mp k1) (Int.ofNat_dvd_left.mp k2)
  · have h1 : ((Nat.gcd u.natAbs v.natAbs : Nat) : Int) ∣ u := Int.ofNat_dvd_left.mpr (Nat.gcd_dvd_left _ _)
    have h2 : ((Nat.gcd u.natAbs v.natAbs : Nat) : Int) ∣ v := Int.ofNat_dvd_left.mpr (Nat.gcd_dvd_right _ _)
    generalize (Nat.gcd u.natAbs v.natAbs : Nat) = g at *
    exact Nat.dvd_gcd (Int.ofNat_dvd_left.mp (Int.dvd_add (Int.dvd_mul_of_dvd_right h1) (Int.dvd_mul_of_dvd_right h2))) (Int.ofNat_dvd_left.mp (Int.dvd_add (Int.dvd_mul_of_dvd_right h1) (Int.dvd_mul_of_dvd_right h2)))

def shiftOf (u : Int) : Nat := Builtin.Int.intBits u - 120
theorem bits_lt (u : Int) : u.natAbs < 2 ^ Builtin.Int.intBits u := by
  unfold Builtin.Int.intBits
  split
  · rename_i h
    have : u = 0 := by simpa using h
    subst this
    decide
  · exact Nat.lt_log2_self
theorem top_lt {u : Int} (h0 : 0 ≤ u) (hl : 120 ≤ Builtin.Int.intBits u) : u / 2 ^ shiftOf u < 1329227995784915872903807060280344576 := by
  have h1 := bits_lt u
  have e : Builtin.Int.intBits u = 120 + shiftOf u := by unfold shiftOf; omega
  rw [e, Nat.pow_add] at h1
  refine Int.ediv_lt_of_lt_mul (Int.pow_pos (by decide)) ?_
  have h2 : ((u.natAbs : Nat) : Int) < ((2 ^ 120 * 2 ^ shiftOf u : Nat) : Int) := Int.ofNat_lt.mpr h1
  rw [Int.natCast_mul, Int.natCast_pow, Int.natCast_pow] at h2
  have h3 : ((u.natAbs : Nat) : Int) = u := by omega
  rw [h3] at h2
  exact h2
theorem bd120 {k : Int} (h0 : 0 ≤ k) (h : k < 1329227995784915872903807060280344576) : Bd 121 k := by
  unfold Bd
  have : (2 : Nat) ^ 121 = 2658455991569831745807614120560689152 := by decide
  omega
theorem LI.small {x0 y0 x y a b c d e p q r t : Int} (h : LI x0 y0 x y a b c d e p q r t) (hx0 : x0 < 1329227995784915872903807060280344576) (h1 : 1 ≤ x) : x < 1329227995784915872903807060280344576 ∧ Bd 121 c ∧ Bd 121 d ∧ Bd 121 a ∧ Bd 121 b := by
  obtain ⟨ee, ha, hb, hc, hd, p0, q0, r0, t1, hx, hY, det, y0', yx, fst⟩ := h
  have qy : 0 ≤ q * y := Int.mul_nonneg q0 y0'
  have tx : x ≤ t * x := by
    have := Int.mul_le_mul_of_nonneg_right t1 (show 0 ≤ x by omega)
    omega
  have tx2 : t ≤ t * x := by
    have := Int.mul_le_mul_of_nonneg_left h1 (show 0 ≤ t by omega)
    omega
  have rt : r ≤ t := by
    rcases fst with ⟨rfl, rfl, rfl, rfl⟩ | ⟨f1, f2, f3, f4, _⟩ <;> omega
  have br : Bd 121 r := bd120 r0 (by omega)
  have bt : Bd 121 t := bd120 (by omega) (by omega)
  have qt : q ≤ t ∧ p ≤ t := by
    rcases fst with ⟨rfl, rfl, rfl, rfl⟩ | ⟨f1, f2, f3, f4, f5, _⟩ <;> omega
  have bq : Bd 121 q := bd120 q0 (by omega)
  have bp : Bd 121 p := bd120 p0 (by omega)
  have sgn : ∀ z : Int, Bd 121 z → Bd 121 (e * z) := fun z hz => by
    rcases ee with rfl | rfl
    · rw [Int.one_mul]
      exact hz
    · rw [Int.neg_mul, Int.one_mul]
      exact hz.neg
  refine ⟨by omega, ?_, ?_, ?_, ?_⟩
  · rw [hc]
    exact (sgn r br).neg
  · rw [hd]
    exact sgn t bt
  · rw [ha]
    exact sgn p bp
  · rw [hb]
    exact (sgn q bq).neg
theorem log2_mono {a b : Nat} (h : a ≤ b) : a.log2 ≤ b.log2 := by
  by_cases h0 : a = 0
  · subst h0
    exact Nat.zero_le _
  · rw [Nat.le_log2 (by omega)]
    exact Nat.le_trans (Nat.log2_self_le h0) h
def a_p_divided : ASp := fun ds n Q => ∃ u v : Int, ds = [.int u, .int v] ∧ 0 ≤ v ∧ v ≤ u ∧ 120 ≤ Builtin.Int.intBits u ∧ ∀ x y a b c d e p q r t, LI (u / 2 ^ shiftOf u) (v / 2 ^ shiftOf u) x y a b c d e p q r t → y < 1152921504606846976 → Q (.tup [.int a, .int b, .int c, .int d]) n
theorem ok_p_divided (T : Tx K mg A) : FnOk P w K mg base CX0 1 A.f_p_divided A.fd_p_divided ["one", "other"] (spOf K 2 a_p_divided) := by
  refine fn_mir [] 10 rfl (by decide) (by decide) T.F_p_divided sc_p_divided fun cdv Ar outer s H E hr => ?_
  refine ⟨_, _, (pss_cons (ps_set (i := 2) sc_p_divided.nd rfl (.inl rfl) (pe_op op_sub (pe_bits (pv 0)) (pe_glob (v := .int 120) (by rfl) T.g_LEADING ⟨_, rfl⟩)))
    (pss_cons (ps_set (i := 3) sc_p_divided.nd rfl (.inl rfl) (pe_op op_shr (pv 0) (pv 2)))
    (pss_cons (ps_set (i := 4) sc_p_divided.nd rfl (.inl rfl) (pe_op op_shr (pv 1) (pv 2)))
    (pss_cons (ps_asg (pe_tup (pa_cons pe_int (pa_cons pe_int (pa_cons pe_int (pa_cons pe_int pa_nil))))) (k_gtup (K := K) (m := 4) rfl rfl (pgs_cons (pg_name (i := 5) sc_p_divided.nd rfl (.inl rfl)) (pgs_cons (pg_name (i := 6) sc_p_divided.nd rfl (.inl rfl)) (pgs_cons (pg_name (i := 7) sc_p_divided.nd rfl (.inl rfl)) (pgs_cons (pg_name (i := 8) sc_p_divided.nd rfl (.inl rfl)) pgs_nil))))))
    (pss_cons (ps_while PassesOwn.never (pt_cmpR (k_ne (K := K) rfl hr.units) (pe_op op_shr (pv 4) (pe_op k_fdiv (pe_glob (v := .int 120) (by rfl) T.g_LEADING ⟨_, rfl⟩) pe_int)) pe_int (nomark _))
      (pss_cons (ps_set (i := 9) sc_p_divided.nd rfl (.inl rfl) (pe_op k_fdiv (pv 3) (pv 4)))
    (pss_cons (ps_par (i := 3) (j := 4) (by rfl) sc_p_divided.nd rfl rfl (by decide) rfl rfl (pa_cons (pv 4) (pa_cons (pe_op op_sub (pv 3) (pe_op k_mul (pv 9) (pv 4))) pa_nil)) (by rfl))
    (pss_cons (ps_par (i := 5) (j := 7) (by rfl) sc_p_divided.nd rfl rfl (by decide) rfl rfl (pa_cons (pv 7) (pa_cons (pe_op op_sub (pv 5) (pe_op k_mul (pv 9) (pv 7))) pa_nil)) (by rfl))
    (pss_one (ps_par (i := 6) (j := 8) (by rfl) sc_p_divided.nd rfl rfl (by decide) rfl rfl (pa_cons (pv 8) (pa_cons (pe_op op_sub (pv 6) (pe_op k_mul (pv 9) (pv 8))) pa_nil)) (by rfl)))))))
    (pss_one (ps_ret (pe_tup (pa_cons (pv 5) (pa_cons (pv 6) (pa_cons (pv 7) (pa_cons (pv 8) pa_nil)))))))))))), by infer_instance, fun ds n Q hl hA => ?_⟩
  obtain ⟨u, v, rfl, v0, vu, hl, Qk⟩ := hA
  have e1 : ((Builtin.Int.intBits u : Nat) : Int) - 120 = ((shiftOf u : Nat) : Int) := by unfold shiftOf; omega
  have e2 : (((Builtin.Int.intBits u : Nat) : Int) - 120).toNat = shiftOf u := by rw [e1]; rfl
  have hs : (0 : Int) ≤ ((Builtin.Int.intBits u : Nat) : Int) - 120 := by omega
  have hS : (0 : Int) < 2 ^ shiftOf u := Int.pow_pos (by decide)
  have hx0 := top_lt (Int.le_trans v0 vu) hl
  refine ⟨hs, hs, ?_⟩
  refine ⟨fun m ρ n' => ∃ x y a b c d e p q r t y9, ρ = [some (.int u), some (.int v), some (.int (((Builtin.Int.intBits u : Nat) : Int) - 120)), some (.int x), some (.int y), some (.int a), some (.int b), some (.int c), some (.int d), y9] ∧ m = y.toNat ∧ n' = n ∧ LI (u / 2 ^ shiftOf u) (v / 2 ^ shiftOf u) x y a b c d e p q r t, ?_, ?_⟩
  · refine ⟨_, u / 2 ^ shiftOf u, v / 2 ^ shiftOf u, 1, 0, 0, 1, 1, 1, 0, 0, 1, none, ?_, rfl, rfl, LI.start (Int.ediv_nonneg v0 (by omega)) (Int.ediv_le_ediv hS vu)⟩
    rw [← e2]
    rfl
  · rintro m _ _ ⟨x, y, a, b, c, d, e, p, q, r, t, y9, rfl, rfl, rfl, hI⟩
    have e60 : (2 : Int) ^ ((120 : Int) / 2).toNat = 1152921504606846976 := by decide
    refine ⟨.inl ⟨by decide, by decide⟩, (show (0 : Int) ≤ 120 / 2 by decide), ?_⟩
    refine ⟨fun h => ?_, fun h => ?_⟩
    · have h2 : decide (y / 2 ^ ((120 : Int) / 2).toNat = 0) = false := by simpa using h
      rw [e60] at h2
      have h3 := of_decide_eq_false h2
      have hy : 1152921504606846976 ≤ y := by
        have := hI.y0'
        rcases Int.lt_or_le y 1152921504606846976 with z | z
        · exact absurd (Int.ediv_eq_zero_of_lt this z) h3
        · exact z
      obtain ⟨s1, s2⟩ := hI.step hy
      have yx := hI.yx
      obtain ⟨f1, f2, f3, _, _⟩ := hI.small hx0 (by omega)
      refine ⟨divA (n := 121) (bd120 (by omega) (by omega)) (by omega) (by decide), ?_⟩
      have bm : Bd 121 (x / y) := bd120 (Int.ediv_nonneg (by omega) (by omega)) (Int.lt_of_le_of_lt (Int.ediv_le_self _ (by omega)) f1)
      refine ⟨mulA bm (bd120 (k := y) (by omega) (by omega)) (by decide) (by decide), mulA bm f2 (by decide) (by decide), mulA bm f3 (by decide) (by decide), ?_⟩
      exact ⟨(x - x / y * y).toNat, by have := s1.y0'; omega, _, _, _, _, _, _, _, _, _, _, _, _, rfl, rfl, rfl, s1⟩
    · have h2 : decide (y / 2 ^ ((120 : Int) / 2).toNat = 0) = true := by simpa using h
      rw [e60] at h2
      have h3 := of_decide_eq_true h2
      have hy : y < 1152921504606846976 := by omega
      exact Qk _ _ _ _ _ _ _ _ _ _ _ hI hy

theorem abs_is (b : Int) : (if b < 0 then -b else b) = ((b.natAbs : Nat) : Int) := by split <;> omega
theorem gcdI_abs (a b : Int) : gcdI ((a.natAbs : Nat) : Int) ((b.natAbs : Nat) : Int) = gcdI a b := by
  unfold gcdI
  rw [Int.natAbs_natCast, Int.natAbs_natCast]
theorem gcdI_mod {a b : Int} (ha : 0 ≤ a) (hb : 0 ≤ b) : gcdI b (a % b) = gcdI a b := by
  obtain ⟨x, rfl⟩ := Int.eq_ofNat_of_zero_le ha
  obtain ⟨y, rfl⟩ := Int.eq_ofNat_of_zero_le hb
  unfold gcdI
  rw [← Int.natCast_emod, Int.natAbs_natCast, Int.natAbs_natCast, Int.natAbs_natCast, Nat.gcd_comm x y, Nat.gcd_rec y x, Nat.gcd_comm]
theorem LI.uni {x0 y0 x y a b c d e p q r t : Int} (h : LI x0 y0 x y a b c d e p q r t) : a * d - b * c = e := by
  obtain ⟨ee, ha, hb, hc, hd, p0, q0, r0, t1, hx, hY, det, y0', yx, fst⟩ := h
  rcases ee with rfl | rfl <;> subst ha hb hc hd <;> grind
def a_p_shortened : ASp := fun ds n Q => ∃ u v : Int, ds = [.int u, .int v] ∧ 0 ≤ v ∧ v ≤ u ∧ Bd 60000 u ∧ ∀ u' v' : Int, 0 ≤ v' → 0 ≤ u' → gcdI u' v' = gcdI u v → Q (.tup [.int u', .int v']) n
theorem ok_p_shortened (T : Tx K mg A) : FnOk P w K mg base CX0 2 A.f_p_shortened A.fd_p_shortened ["one", "other"] (spOf K 2 a_p_shortened) := by
  refine fn_mir [] 8 rfl (by decide) (by decide) T.F_p_shortened sc_p_shortened fun cdv Ar outer s H E hr => ?_
  refine ⟨_, _, (pss_cons (ps_while PassesOwn.never (pt_cmpR op_gt (pe_bits (pv 1)) (pe_glob (v := .int 4000) (by rfl) T.g_LENGTHY ⟨_, rfl⟩) (nomark _))
      (pss_cons (ps_asg (pe_call (ok_p_divided (P := P) (K := K) T) (hr.mono (by decide)) (by rfl) T.g_p_divided T.F_p_divided.kp T.b_p_divided .nil pass0 (pa_cons (pv 0) (pa_cons (pv 1) pa_nil))) (k_gtup (K := K) (m := 4) rfl rfl (pgs_cons (pg_name (i := 2) sc_p_shortened.nd rfl (.inl rfl)) (pgs_cons (pg_name (i := 3) sc_p_shortened.nd rfl (.inl rfl)) (pgs_cons (pg_name (i := 4) sc_p_shortened.nd rfl (.inl rfl)) (pgs_cons (pg_name (i := 5) sc_p_shortened.nd rfl (.inl rfl)) pgs_nil))))))
    (pss_one (ps_if (pt_cmpR (k_eq (K := K) rfl hr.units) (pv 3) pe_int (nomark _))
      (pss_one (ps_par (i := 0) (j := 1) (by rfl) sc_p_shortened.nd rfl rfl (by decide) rfl rfl (pa_cons (pv 1) (pa_cons (pe_op op_mod (pv 0) (pv 1)) pa_nil)) (by rfl)))
      (pss_cons (ps_asg (pe_callB (k_sortI (K := K) rfl) (by rfl) T.m_sorted (by decide +kernel) (pa_cons (pe_lst (pa_cons (pe_callB k_abs (by rfl) T.m_abs (by decide +kernel) (pa_cons (pe_op (k_add (K := K) rfl) (pe_op k_mul (pv 2) (pv 0)) (pe_op k_mul (pv 3) (pv 1))) pa_nil)) (pa_cons (pe_callB k_abs (by rfl) T.m_abs (by decide +kernel) (pa_cons (pe_op (k_add (K := K) rfl) (pe_op k_mul (pv 4) (pv 0)) (pe_op k_mul (pv 5) (pv 1))) pa_nil)) pa_nil))) pa_nil)) (k_gtup (K := K) (m := 2) rfl rfl (pgs_cons (pg_name (i := 6) sc_p_shortened.nd rfl (.inl rfl)) (pgs_cons (pg_name (i := 7) sc_p_shortened.nd rfl (.inl rfl)) pgs_nil))))
    (pss_one (ps_par (i := 0) (j := 1) (by rfl) sc_p_shortened.nd rfl rfl (by decide) rfl rfl (pa_cons (pv 7) (pa_cons (pv 6) pa_nil)) (by rfl))))))))
    (pss_one (ps_ret (pe_tup (pa_cons (pv 0) (pa_cons (pv 1) pa_nil)))))), by infer_instance, fun ds n Q hl hA => ?_⟩
  obtain ⟨u0, v0, rfl, hv0, hvu, bu, Qk⟩ := hA
  refine ⟨fun m ρ n' => ∃ u v y2 y3 y4 y5 y6 y7, ρ = [some (.int u), some (.int v), y2, y3, y4, y5, y6, y7] ∧ m = v.toNat ∧ n' = n ∧ 0 ≤ v ∧ v ≤ u ∧ Bd 60001 u ∧ Bd 60000 v ∧ gcdI u v = gcdI u0 v0, ⟨_, u0, v0, none, none, none, none, none, none, rfl, rfl, rfl, hv0, hvu, bu.le (by decide), bu.of_le (by omega), rfl⟩, ?_⟩
  rintro m _ _ ⟨u, v, y2, y3, y4, y5, y6, y7, rfl, rfl, rfl, hv, huv, bu, bv, hg⟩
  refine ⟨fun h => ?_, fun h => ?_⟩
  · have h4 : (4000 : Int) < ((Builtin.Int.intBits v : Nat) : Int) := of_decide_eq_true h
    have hbig : 120 ≤ Builtin.Int.intBits u := by
      have h5 : v.natAbs.log2 ≤ u.natAbs.log2 := log2_mono (by omega)
      unfold Builtin.Int.intBits at h4 ⊢
      split at h4
      · omega
      · rename_i z1
        have : ¬ ((u == 0) = true) := fun z2 => z1 (by
          have e1 : u = 0 := by simpa using z2
          have e2 : v = 0 := by omega
          simpa using e2)
        rw [if_neg this]
        omega
    have v1 : 0 < v := by
      rcases Int.lt_or_le 0 v with z | z
      · exact z
      · have e2 : v = 0 := by omega
        subst e2
        exact absurd h4 (by decide)
    refine ⟨u, v, rfl, hv, huv, hbig, fun x y a b c d e p q r t hI hy => ?_⟩
    have hS : (0 : Int) < 2 ^ shiftOf u := Int.pow_pos (by decide)
    have hx0 := top_lt (Int.le_trans hv huv) hbig
    refine dIte (fun hb => ?_) fun hb => ?_
    · exact ⟨v1, (u % v).toNat, by have := Int.emod_lt_of_pos u v1; have := Int.emod_nonneg u (show v ≠ 0 by omega); omega, v, u % v, _, _, _, _, _, _, rfl, rfl, rfl, Int.emod_nonneg _ (by omega), by have := Int.emod_lt_of_pos u v1; omega, bv.le (by decide), bv.of_le (by have := Int.emod_lt_of_pos u v1; have := Int.emod_nonneg u (show v ≠ 0 by omega); omega), (gcdI_mod (by omega) hv).trans hg⟩
    · have hx1 : 1 ≤ x := by
        rcases hI.fst with ⟨_, q0, _⟩ | ⟨_, _, _, _, _, _, f, _⟩
        · exact absurd (by rw [hI.hb, q0]; simp) hb
        · omega
      obtain ⟨f1, bc, bd, ba, bb⟩ := hI.small hx0 hx1
      obtain ⟨k1, k2⟩ := hI.less (u := u) (v := v) (S := 2 ^ shiftOf u) (e1 := u % 2 ^ shiftOf u) (e2 := v % 2 ^ shiftOf u) (Int.mul_ediv_add_emod u _).symm (Int.mul_ediv_add_emod v _).symm hS (Int.emod_nonneg _ (by omega)) (Int.emod_lt_of_pos _ hS) (Int.emod_nonneg _ (by omega)) (Int.emod_lt_of_pos _ hS) hb hx0 hy
      refine ⟨mulA ba bu (by decide) (by decide), mulA bb bv (by decide) (by decide), mulA bc bu (by decide) (by decide), mulA bd bv (by decide) (by decide), ?_⟩
      have gU := gcdI_uni (u := u) (v := v) hI.uni hI.ee
      refine ⟨[((a * u + b * v).natAbs : Int), ((c * u + d * v).natAbs : Int)], by rw [← abs_is, ← abs_is]; rfl, (show 2 < 64 by decide), fun ys hp ho => ?_⟩
      obtain ⟨lo, hi, rfl, hlh, hc⟩ : ∃ lo hi : Int, ys = [lo, hi] ∧ lo ≤ hi ∧ ((lo = ((a * u + b * v).natAbs : Int) ∧ hi = ((c * u + d * v).natAbs : Int)) ∨ (hi = ((a * u + b * v).natAbs : Int) ∧ lo = ((c * u + d * v).natAbs : Int))) := by
        match ys, hp, ho with
        | [], hp, _ => cases hp.length_eq
        | [_], hp, _ => cases hp.length_eq
        | [lo, hi], hp, ho =>
          refine ⟨lo, hi, rfl, by simpa using ho, ?_⟩
          have h1 : lo ∈ [((a * u + b * v).natAbs : Int), ((c * u + d * v).natAbs : Int)] := hp.mem_iff.mp (by simp)
          have h2 : hi ∈ [((a * u + b * v).natAbs : Int), ((c * u + d * v).natAbs : Int)] := hp.mem_iff.mp (by simp)
          have h3 : ((a * u + b * v).natAbs : Int) ∈ [lo, hi] := hp.mem_iff.mpr (by simp)
          have h4 : ((c * u + d * v).natAbs : Int) ∈ [lo, hi] := hp.mem_iff.mpr (by simp)
          simp only [List.mem_cons, List.not_mem_nil, or_false] at h1 h2 h3 h4
          omega
        | _ :: _ :: _ :: _, hp, _ => cases hp.length_eq
      have bv2 : Bd 60001 (2 * v) := by
        have h9 := bv.add bv
        have e9 : v + v = 2 * v := by omega
        rw [e9] at h9
        exact h9
      refine ⟨lo.toNat, ?_, hi, lo, _, _, _, _, _, _, rfl, rfl, rfl, ?_, hlh, bv2.of_le ?_, bv.of_le ?_, ?_⟩
      · omega
      · omega
      · omega
      · omega
      · rw [← hg, ← gU]
        rcases hc with ⟨rfl, rfl⟩ | ⟨rfl, rfl⟩
        · rw [gcdI_comm, gcdI_abs]
        · rw [gcdI_abs]
  · exact Qk u v hv (by omega) hg

def a_p_common_divisor : ASp := fun ds n Q => ∃ a b : Int, ds = [.int a, .int b] ∧ Bd 60000 a ∧ Bd 60000 b ∧ Q (.int (gcdI a b)) n
theorem ok_p_common_divisor (T : Tx K mg A) : FnOk P w K mg base CX0 3 A.f_p_common_divisor A.fd_p_common_divisor ["one", "other"] (spOf K 2 a_p_common_divisor) := by
  refine fn_mir [] 2 rfl (by decide) (by decide) T.F_p_common_divisor sc_p_common_divisor fun cdv Ar outer s H E hr => ?_
  refine ⟨_, _, (pss_cons (ps_set (i := 0) sc_p_common_divisor.nd rfl (.inl rfl) (pe_callB k_abs (by rfl) T.m_abs (by decide +kernel) (pa_cons (pv 0) pa_nil)))
    (pss_cons (ps_set (i := 1) sc_p_common_divisor.nd rfl (.inl rfl) (pe_callB k_abs (by rfl) T.m_abs (by decide +kernel) (pa_cons (pv 1) pa_nil)))
    (pss_cons (ps_if (PW.pt (pw_and (pt_cmpR op_gt (pe_bits (pv 0)) (pe_glob (v := .int 4000) (by rfl) T.g_LENGTHY ⟨_, rfl⟩) (nomark _)) (pw_and1 (pt_cmpR op_gt (pe_bits (pv 1)) (pe_glob (v := .int 4000) (by rfl) T.g_LENGTHY ⟨_, rfl⟩) (nomark _)))))
      (pss_one (ps_asg (pe_call (ok_p_shortened (P := P) (K := K) T) (hr.mono (by decide)) (by rfl) T.g_p_shortened T.F_p_shortened.kp T.b_p_shortened .nil pass0 (pa_cons (pe_callB (k_max2 rfl) (by rfl) T.m_max (by decide +kernel) (pa_cons (pv 0) (pa_cons (pv 1) pa_nil))) (pa_cons (pe_callB (k_min2 rfl) (by rfl) T.m_min (by decide +kernel) (pa_cons (pv 0) (pa_cons (pv 1) pa_nil))) pa_nil))) (k_gtup (K := K) (m := 2) rfl rfl (pgs_cons (pg_name (i := 0) sc_p_common_divisor.nd rfl (.inl rfl)) (pgs_cons (pg_name (i := 1) sc_p_common_divisor.nd rfl (.inl rfl)) pgs_nil)))))
      pss_nil)
    (pss_cons (ps_while PassesOwn.never (pt_cmpR (k_ne (K := K) rfl hr.units) (pv 1) pe_int (nomark _))
      (pss_one (ps_par (i := 0) (j := 1) (by rfl) sc_p_common_divisor.nd rfl rfl (by decide) rfl rfl (pa_cons (pv 1) (pa_cons (pe_op op_mod (pv 0) (pv 1)) pa_nil)) (by rfl))))
    (pss_one (ps_ret (pv 0))))))), by infer_instance, fun ds n Q hl hA => ?_⟩
  obtain ⟨a, b, rfl, ba, bb, q⟩ := hA
  have fin : ∀ u v : Int, 0 ≤ u → 0 ≤ v → gcdI u v = gcdI a b → aWhile (aTest (a2 (aEq not) (aVar 1) (aC (.int 0)))) (aPar [] 0 1 (aCons (aVar 1) (aCons (a2 (aInt2 (fun _ j => 0 < j) fun i j => .int (i % j)) (aVar 0) (aVar 1)) aNil))) { nx := fun ρ n => aRet (aVar 0) (aTop Q) ρ n, rt := Q } [some (.int u), some (.int v)] n := by
    intro u v hu hv hg
    obtain ⟨x0, rfl⟩ := Int.eq_ofNat_of_zero_le hu
    obtain ⟨y0, rfl⟩ := Int.eq_ofNat_of_zero_le hv
    have hg2 : Nat.gcd x0 y0 = Nat.gcd a.natAbs b.natAbs := by
      unfold gcdI at hg
      rw [Int.natAbs_natCast, Int.natAbs_natCast] at hg
      omega
    refine ⟨fun m ρ n' => ∃ x y : Nat, ρ = [some (.int (x : Int)), some (.int (y : Int))] ∧ m = y ∧ n' = n ∧ Nat.gcd x y = Nat.gcd a.natAbs b.natAbs, ⟨_, x0, y0, rfl, rfl, rfl, hg2⟩, ?_⟩
    rintro m _ _ ⟨x, y, rfl, rfl, rfl, g⟩
    refine ⟨fun h => ?_, fun h => ?_⟩
    · have hm : m ≠ 0 := fun z => by subst z; cases h
      refine ⟨(show (0 : Int) < m by omega), x % m, Nat.mod_lt _ (by omega), m, x % m, rfl, rfl, rfl, ?_⟩
      rw [← g, Nat.gcd_comm x m, Nat.gcd_rec m x, Nat.gcd_comm]
    · have hm : m = 0 := by
        have h2 : decide ((m : Int) = 0) = true := by
          have : (!decide ((m : Int) = 0)) = false := h
          simpa using this
        have := of_decide_eq_true h2
        omega
      subst hm
      have e : (x : Int) = gcdI a b := by
        unfold gcdI
        rw [← g, Nat.gcd_zero_right]
      show Q (.int (x : Int)) _
      rw [e]
      exact q
  have na : ∀ z : Int, Bd 60000 z → Bd 60000 (if z < 0 then -z else z) := fun z hz => by
    split
    · exact hz.neg
    · exact hz
  have nn : ∀ z : Int, 0 ≤ (if z < 0 then -z else z) := fun z => by split <;> omega
  have gab : gcdI (if a < 0 then -a else a) (if b < 0 then -b else b) = gcdI a b := by rw [abs_is, abs_is, gcdI_abs]
  refine dIte (fun _ => dIte (fun e => ?_) (fun _ => ?_)) (fun _ => aF ?_)
  · obtain ⟨x, hx⟩ : ∃ x, (if a < 0 then -a else a) = x := ⟨_, rfl⟩
    obtain ⟨y, hy⟩ : ∃ y, (if b < 0 then -b else b) = y := ⟨_, rfl⟩
    have bx := na a ba
    have bY := na b bb
    have nx := nn a
    have ny := nn b
    rw [hx] at bx nx gab ⊢
    rw [hy] at bY ny gab ⊢
    have hM : 0 ≤ (if y < x then y else x) ∧ (if y < x then y else x) ≤ (if y > x then y else x) ∧ Bd 60000 (if y > x then y else x) ∧ gcdI (if y > x then y else x) (if y < x then y else x) = gcdI a b := by
      by_cases h1 : y < x
      · rw [if_pos h1, if_neg (by omega)]
        exact ⟨ny, by omega, bx, gab⟩
      · rw [if_neg h1]
        by_cases h2 : y > x
        · rw [if_pos h2]
          exact ⟨nx, by omega, bY, by rw [gcdI_comm, gab]⟩
        · rw [if_neg h2]
          have : x = y := by omega
          subst this
          exact ⟨nx, by omega, bx, gab⟩
    exact ⟨_, _, rfl, hM.1, hM.2.1, hM.2.2.1, fun u' v' h1 h2 h3 => fin u' v' h2 h1 (h3.trans hM.2.2.2)⟩
  · exact fin _ _ (nn a) (nn b) gab
  · exact fin _ _ (nn a) (nn b) gab


def a_p_plus : ASp := fun ds n Q => ∃ (x y : Rat) (k d m e : Nat), ds = [sh x, sh y] ∧ Bq k d x ∧ Bq m e y ∧ k ≤ 25000 ∧ m ≤ 25000 ∧ d ≤ 25000 ∧ e ≤ 25000 ∧ (d ≤ 8900 ∨ e ≤ 8900) ∧ Q (sh (x + y)) n
theorem ok_p_plus (T : Tx K mg A) : FnOk P w K mg base CX0 4 A.f_p_plus A.fd_p_plus ["one", "other"] (spOf K 2 a_p_plus) := by
  refine fn_mir [] 9 rfl (by decide) (by decide) T.F_p_plus sc_p_plus fun cdv Ar outer s H E hr => ?_
  refine ⟨_, _, (pss_cons (ps_asg (pv 0) (k_gtup (K := K) (m := 2) rfl rfl (pgs_cons (pg_name (i := 2) sc_p_plus.nd rfl (.inl rfl)) (pgs_cons (pg_name (i := 3) sc_p_plus.nd rfl (.inl rfl)) pgs_nil))))
    (pss_cons (ps_asg (pv 1) (k_gtup (K := K) (m := 2) rfl rfl (pgs_cons (pg_name (i := 4) sc_p_plus.nd rfl (.inl rfl)) (pgs_cons (pg_name (i := 5) sc_p_plus.nd rfl (.inl rfl)) pgs_nil))))
    (pss_cons (ps_set (i := 6) sc_p_plus.nd rfl (.inl rfl) (pe_call (ok_p_common_divisor (P := P) (K := K) T) (hr.mono (by decide)) (by rfl) T.g_p_common_divisor T.F_p_common_divisor.kp T.b_p_common_divisor .nil pass0 (pa_cons (pv 3) (pa_cons (pv 5) pa_nil))))
    (pss_cons (ps_if (pt_cmpR (k_eq (K := K) rfl hr.units) (pv 6) pe_int (nomark _))
      (pss_one (ps_ret (pe_tup (pa_cons (pe_op (k_add (K := K) rfl) (pe_op k_mul (pv 2) (pv 5)) (pe_op k_mul (pv 4) (pv 3))) (pa_cons (pe_op k_mul (pv 3) (pv 5)) pa_nil)))))
      pss_nil)
    (pss_cons (ps_set (i := 7) sc_p_plus.nd rfl (.inl rfl) (pe_op (k_add (K := K) rfl) (pe_op k_mul (pv 2) (pe_op k_fdiv (pv 5) (pv 6))) (pe_op k_mul (pv 4) (pe_op k_fdiv (pv 3) (pv 6)))))
    (pss_cons (ps_set (i := 8) sc_p_plus.nd rfl (.inl rfl) (pe_call (ok_p_common_divisor (P := P) (K := K) T) (hr.mono (by decide)) (by rfl) T.g_p_common_divisor T.F_p_common_divisor.kp T.b_p_common_divisor .nil pass0 (pa_cons (pv 7) (pa_cons (pv 6) pa_nil))))
    (pss_one (ps_ret (pe_tup (pa_cons (pe_op k_fdiv (pv 7) (pv 8)) (pa_cons (pe_op k_mul (pe_op k_fdiv (pv 3) (pv 6)) (pe_op k_fdiv (pv 5) (pv 8))) pa_nil))))))))))), by infer_instance, fun ds n Q hl hA => ?_⟩
  obtain ⟨x, y, k, j, m, i, rfl, bx, bY, hk, hm, hj, hi, hji, q⟩ := hA
  have hx := isSh_q x
  have hy := isSh_q y
  have dx := den_pos x
  have dy := den_pos y
  refine ⟨(x.den : Int), (y.den : Int), rfl, bx.2.le (by omega), bY.2.le (by omega), ?_⟩
  refine dIte (fun e => ?_) (fun e => ?_)
  · refine ⟨mulA bx.1 bY.2 (by omega) (by omega), mulA bY.1 bx.2 (by omega) (by omega), mulA bx.2 bY.2 (by omega) (by omega), ?_⟩
    show Q (.tup [.int (x.num * y.den + y.num * x.den), .int ((x.den : Int) * y.den)]) n
    rw [sh_of (plus_one hx hy e) (by have := Int.mul_pos dx dy; omega) (Int.mul_comm _ _), ← add_divInt]
    exact q
  · obtain ⟨d, hd⟩ : ∃ d, gcdI x.den y.den = d := ⟨_, rfl⟩
    rw [hd]
    have hdb : Bd 8900 d := by
      rcases hji with z | z
      · rw [← hd, gcdI_comm]
        exact (gcdI_bd bx.2 (by omega)).le z
      · rw [← hd]
        exact (gcdI_bd bY.2 (by omega)).le z
    have hd0 : 0 < d := hd ▸ gcdI_pos (by omega)
    have db1 : Bd i (y.den / d) := bY.2.of_le (div_natAbs_le hd0 (hd ▸ gcdI_dvd_r _ _))
    have db2 : Bd j (x.den / d) := bx.2.of_le (div_natAbs_le hd0 (hd ▸ gcdI_dvd_l _ _))
    refine ⟨divA hdb hd0 (by decide), mulA bx.1 db1 (by omega) (by omega), divA hdb hd0 (by decide), mulA bY.1 db2 (by omega) (by omega), _, d, rfl, (((bx.1.mul db1).le (show k + i ≤ 50000 by omega)).add ((bY.1.mul db2).le (by omega))).le (by omega), hdb.le (by decide), ?_⟩
    obtain ⟨g, hg⟩ : ∃ g, gcdI (x.num * (y.den / d) + y.num * (x.den / d)) d = g := ⟨_, rfl⟩
    rw [hg]
    have hg0 : 0 < g := hg ▸ gcdI_pos (by omega)
    have hgb : Bd 8900 g := hg ▸ gcdI_bd hdb (by omega)
    have db3 : Bd i (y.den / g) := bY.2.of_le (div_natAbs_le hg0 (Int.dvd_trans (hg ▸ gcdI_dvd_r _ _) (hd ▸ gcdI_dvd_r _ _)))
    refine ⟨divA hgb hg0 (by decide), divA hdb hd0 (by decide), divA hgb hg0 (by decide), mulA db2 db3 (by omega) (by omega), ?_⟩
    obtain ⟨h1, h2⟩ := plus_two hx hy hd rfl hg
    show Q (.tup [.int _, .int _]) n
    rw [sh_of h1 (by have := Int.mul_pos dx dy; omega) h2, ← add_divInt]
    exact q
def a_p_times : ASp := fun ds n Q => ∃ (x y : Rat) (k d m e : Nat), ds = [sh x, sh y] ∧ Bq k d x ∧ Bq m e y ∧ k ≤ 25000 ∧ m ≤ 25000 ∧ d ≤ 8900 ∧ e ≤ 8900 ∧ Q (sh (x * y)) n
theorem ok_p_times (T : Tx K mg A) : FnOk P w K mg base CX0 4 A.f_p_times A.fd_p_times ["one", "other"] (spOf K 2 a_p_times) := by
  refine fn_mir [] 8 rfl (by decide) (by decide) T.F_p_times sc_p_times fun cdv Ar outer s H E hr => ?_
  refine ⟨_, _, (pss_cons (ps_asg (pv 0) (k_gtup (K := K) (m := 2) rfl rfl (pgs_cons (pg_name (i := 2) sc_p_times.nd rfl (.inl rfl)) (pgs_cons (pg_name (i := 3) sc_p_times.nd rfl (.inl rfl)) pgs_nil))))
    (pss_cons (ps_asg (pv 1) (k_gtup (K := K) (m := 2) rfl rfl (pgs_cons (pg_name (i := 4) sc_p_times.nd rfl (.inl rfl)) (pgs_cons (pg_name (i := 5) sc_p_times.nd rfl (.inl rfl)) pgs_nil))))
    (pss_cons (ps_set (i := 6) sc_p_times.nd rfl (.inl rfl) (pe_call (ok_p_common_divisor (P := P) (K := K) T) (hr.mono (by decide)) (by rfl) T.g_p_common_divisor T.F_p_common_divisor.kp T.b_p_common_divisor .nil pass0 (pa_cons (pv 2) (pa_cons (pv 5) pa_nil))))
    (pss_cons (ps_set (i := 7) sc_p_times.nd rfl (.inl rfl) (pe_call (ok_p_common_divisor (P := P) (K := K) T) (hr.mono (by decide)) (by rfl) T.g_p_common_divisor T.F_p_common_divisor.kp T.b_p_common_divisor .nil pass0 (pa_cons (pv 4) (pa_cons (pv 3) pa_nil))))
    (pss_one (ps_ret (pe_tup (pa_cons (pe_op k_mul (pe_op k_fdiv (pv 2) (pv 6)) (pe_op k_fdiv (pv 4) (pv 7))) (pa_cons (pe_op k_mul (pe_op k_fdiv (pv 3) (pv 7)) (pe_op k_fdiv (pv 5) (pv 6))) pa_nil))))))))), by infer_instance, fun ds n Q hl hA => ?_⟩
  obtain ⟨x, y, k, j, m, i, rfl, bx, bY, hk, hm, hj, hi, q⟩ := hA
  have hx := isSh_q x
  have hy := isSh_q y
  have dx := den_pos x
  have dy := den_pos y
  obtain ⟨d, hd⟩ : ∃ d, gcdI x.num y.den = d := ⟨_, rfl⟩
  obtain ⟨e, he⟩ : ∃ e, gcdI y.num x.den = e := ⟨_, rfl⟩
  refine ⟨x.num, (y.den : Int), rfl, bx.1.le (by omega), bY.2.le (by omega), ?_⟩
  rw [hd]
  refine ⟨y.num, (x.den : Int), rfl, bY.1.le (by omega), bx.2.le (by omega), ?_⟩
  rw [he]
  have hd0 : 0 < d := hd ▸ gcdI_pos (by omega)
  have he0 : 0 < e := he ▸ gcdI_pos (by omega)
  have hdb : Bd i d := hd ▸ gcdI_bd bY.2 (by omega)
  have heb : Bd j e := he ▸ gcdI_bd bx.2 (by omega)
  have b1 : Bd k (x.num / d) := bx.1.of_le (div_natAbs_le hd0 (hd ▸ gcdI_dvd_l _ _))
  have b2 : Bd m (y.num / e) := bY.1.of_le (div_natAbs_le he0 (he ▸ gcdI_dvd_l _ _))
  have b3 : Bd j (x.den / e) := bx.2.of_le (div_natAbs_le he0 (he ▸ gcdI_dvd_r _ _))
  have b4 : Bd i (y.den / d) := bY.2.of_le (div_natAbs_le hd0 (hd ▸ gcdI_dvd_r _ _))
  refine ⟨divA hdb hd0 (by omega), divA heb he0 (by omega), mulA b1 b2 (by omega) (by omega), divA heb he0 (by omega), divA hdb hd0 (by omega), mulA b3 b4 (by omega) (by omega), ?_⟩
  obtain ⟨h1, h2⟩ := times_one hx hy hd he
  show Q (.tup [.int _, .int _]) n
  rw [sh_of h1 (by have := Int.mul_pos dx dy; omega) h2, ← mul_divInt]
  exact q
def a_p_minus : ASp := fun ds n Q => ∃ (x y : Rat) (k d m e : Nat), ds = [sh x, sh y] ∧ Bq k d x ∧ Bq m e y ∧ k ≤ 25000 ∧ m ≤ 25000 ∧ d ≤ 25000 ∧ e ≤ 25000 ∧ (d ≤ 8900 ∨ e ≤ 8900) ∧ Q (sh (x - y)) n
theorem ok_p_minus (T : Tx K mg A) : FnOk P w K mg base CX0 5 A.f_p_minus A.fd_p_minus ["one", "other"] (spOf K 2 a_p_minus) := by
  refine fn_mir [] 4 rfl (by decide) (by decide) T.F_p_minus sc_p_minus fun cdv Ar outer s H E hr => ?_
  refine ⟨_, _, (pss_cons (ps_asg (pv 1) (k_gtup (K := K) (m := 2) rfl rfl (pgs_cons (pg_name (i := 2) sc_p_minus.nd rfl (.inl rfl)) (pgs_cons (pg_name (i := 3) sc_p_minus.nd rfl (.inl rfl)) pgs_nil))))
    (pss_one (ps_ret (pe_call (ok_p_plus (P := P) (K := K) T) (hr.mono (by decide)) (by rfl) T.g_p_plus T.F_p_plus.kp T.b_p_plus .nil pass0 (pa_cons (pv 0) (pa_cons (pe_tup (pa_cons (pe_un un_neg (pv 2)) (pa_cons (pv 3) pa_nil))) pa_nil)))))), by infer_instance, fun ds n Q hl hA => ?_⟩
  obtain ⟨x, y, k, j, m, i, rfl, bx, bY, hk, hm, hj, hi, hji, q⟩ := hA
  refine ⟨x, -y, k, j, m, i, rfl, bx, bY.neg, hk, hm, hj, hi, hji, ?_⟩
  rw [← Rat.sub_eq_add_neg]
  exact q
def ordI (x y : Rat) : Int := if x < y then -1 else if y < x then 1 else 0
theorem cross_lt (x y : Rat) : x.num * y.den < y.num * x.den ↔ x < y := (Rat.lt_iff x y).symm
def a_p_order : ASp := fun ds n Q => ∃ (x y : Rat) (k m : Nat), ds = [sh x, sh y] ∧ BdQ k x ∧ BdQ m y ∧ k ≤ 60000 ∧ m ≤ 60000 ∧ Q (.int (ordI x y)) n
theorem ok_p_order (T : Tx K mg A) : FnOk P w K mg base CX0 1 A.f_p_order A.fd_p_order ["one", "other"] (spOf K 2 a_p_order) := by
  refine fn_mir [] 4 rfl (by decide) (by decide) T.F_p_order sc_p_order fun cdv Ar outer s H E hr => ?_
  refine ⟨_, _, (pss_cons (ps_set (i := 2) sc_p_order.nd rfl (.inl rfl) (pe_op k_mul (pe_ix (k_ix (K := K) rfl) (pv 0) pe_int (fun _ _ => rfl)) (pe_ix (k_ix (K := K) rfl) (pv 1) pe_int (fun _ _ => rfl))))
    (pss_cons (ps_set (i := 3) sc_p_order.nd rfl (.inl rfl) (pe_op k_mul (pe_ix (k_ix (K := K) rfl) (pv 1) pe_int (fun _ _ => rfl)) (pe_ix (k_ix (K := K) rfl) (pv 0) pe_int (fun _ _ => rfl))))
    (pss_cons (ps_if (pt_cmpR op_lt (pv 2) (pv 3) (nomark _))
      (pss_one (ps_ret (pe_un un_neg pe_int)))
      pss_nil)
    (pss_cons (ps_if (pt_cmpR op_gt (pv 2) (pv 3) (nomark _))
      (pss_one (ps_ret pe_int))
      pss_nil)
    (pss_one (ps_ret pe_int)))))), by infer_instance, fun ds n Q hl hA => ?_⟩
  obtain ⟨x, y, k, m, rfl, bx, bY, hk, hm, q⟩ := hA
  refine ⟨mulA bx.1 bY.2 (by omega) (by omega), mulA bY.1 bx.2 (by omega) (by omega), ?_⟩
  unfold ordI at q
  refine dIte (fun e => ?_) fun e => dIte (fun e2 => ?_) fun e2 => ?_
  · rw [if_pos ((cross_lt x y).mp e)] at q
    exact q
  · rw [if_neg (fun z => e ((cross_lt x y).mpr z)), if_pos ((cross_lt y x).mp e2)] at q
    exact q
  · rw [if_neg (fun z => e ((cross_lt x y).mpr z)), if_neg (fun z => e2 ((cross_lt y x).mpr z))] at q
    exact q
theorem kon_NOUGHT' {K : PySem.W.Frag} {a : Addr} (h : ∀ H, SqT K H a [.int 0, .int 1]) : Kon K a (sh 0) := ⟨fun W H => .tup (h H) (.cons (.int _) (.cons (.int _) .nil))⟩

/-! ### spots in the mirror -/
def spt (x y : Rat) : D := .tup [sh x, sh y]
theorem bdq_int {n : Nat} {p : Int} (h : Bd n p) (hn : 0 < n) : BdQ n (p : Rat) := ⟨h, Nat.one_lt_two_pow (by omega)⟩
def a_along (f : Int → Int → Rat → Rat → Rat) : ASp := fun ds n Q => ∃ (p q : Int) (x y : Rat) (k d m : Nat), ds = [.tup [.int p, .int q], spt x y] ∧ Bd m p ∧ Bd m q ∧ Bq k d x ∧ Bq k d y ∧ k + m ≤ 20000 ∧ d ≤ 8800 ∧ Q (sh (f p q x y)) n
def a_p_along : ASp := a_along fun p q x y => p * x + q * y
theorem ok_p_along (T : Tx K mg A) : FnOk P w K mg base CX0 5 A.f_p_along A.fd_p_along ["way", "spot"] (spOf K 2 a_p_along) := by
  refine fn_mir [] 6 rfl (by decide) (by decide) T.F_p_along sc_p_along fun cdv Ar outer s H E hr => ?_
  refine ⟨_, _, (pss_cons (ps_asg (pv 0) (k_gtup (K := K) (m := 2) rfl rfl (pgs_cons (pg_name (i := 2) sc_p_along.nd rfl (.inl rfl)) (pgs_cons (pg_name (i := 3) sc_p_along.nd rfl (.inl rfl)) pgs_nil))))
    (pss_cons (ps_asg (pv 1) (k_gtup (K := K) (m := 2) rfl rfl (pgs_cons (pg_name (i := 4) sc_p_along.nd rfl (.inl rfl)) (pgs_cons (pg_name (i := 5) sc_p_along.nd rfl (.inl rfl)) pgs_nil))))
    (pss_one (ps_ret (pe_call (ok_p_plus (P := P) (K := K) T) (hr.mono (by decide)) (by rfl) T.g_p_plus T.F_p_plus.kp T.b_p_plus .nil pass0 (pa_cons (pe_call (ok_p_times (P := P) (K := K) T) (hr.mono (by decide)) (by rfl) T.g_p_times T.F_p_times.kp T.b_p_times .nil pass0 (pa_cons (pe_tup (pa_cons (pv 2) (pa_cons pe_int pa_nil))) (pa_cons (pv 4) pa_nil))) (pa_cons (pe_call (ok_p_times (P := P) (K := K) T) (hr.mono (by decide)) (by rfl) T.g_p_times T.F_p_times.kp T.b_p_times .nil pass0 (pa_cons (pe_tup (pa_cons (pv 3) (pa_cons pe_int pa_nil))) (pa_cons (pv 5) pa_nil))) pa_nil))))))), by infer_instance, fun ds n Q hl hA => ?_⟩
  obtain ⟨p, q, x, y, k, d, m, rfl, bp, bq, bx, bY, hk, hd, Qk⟩ := hA
  refine ⟨(p : Rat), x, m, 1, k, d, rfl, bq_int bp, bx, by omega, by omega, by decide, by omega, ?_⟩
  refine ⟨(q : Rat), y, m, 1, k, d, rfl, bq_int bq, bY, by omega, by omega, by decide, by omega, ?_⟩
  exact ⟨_, _, m + k, 1 + d, m + k, 1 + d, rfl, (bq_int bp).mul bx, (bq_int bq).mul bY, by omega, by omega, by omega, by omega, .inl (by omega), Qk⟩
def a_spot2 (f : Rat → Rat → Rat) : ASp := fun ds n Q => ∃ (x y x' y' : Rat) (k d m e : Nat), ds = [spt x y, spt x' y'] ∧ Bq k d x ∧ Bq k d y ∧ Bq m e x' ∧ Bq m e y' ∧ k ≤ 25000 ∧ m ≤ 25000 ∧ d ≤ 8900 ∧ e ≤ 8900 ∧ Q (spt (f x x') (f y y')) n
def a_p_spot_minus : ASp := a_spot2 (· - ·)
theorem ok_p_spot_minus (T : Tx K mg A) : FnOk P w K mg base CX0 6 A.f_p_spot_minus A.fd_p_spot_minus ["one", "other"] (spOf K 2 a_p_spot_minus) := by
  refine fn_mir [] 2 rfl (by decide) (by decide) T.F_p_spot_minus sc_p_spot_minus fun cdv Ar outer s H E hr => ?_
  refine ⟨_, _, (pss_one (ps_ret (pe_tup (pa_cons (pe_call (ok_p_minus (P := P) (K := K) T) (hr.mono (by decide)) (by rfl) T.g_p_minus T.F_p_minus.kp T.b_p_minus .nil pass0 (pa_cons (pe_ix (k_ix (K := K) rfl) (pv 0) pe_int (fun _ _ => rfl)) (pa_cons (pe_ix (k_ix (K := K) rfl) (pv 1) pe_int (fun _ _ => rfl)) pa_nil))) (pa_cons (pe_call (ok_p_minus (P := P) (K := K) T) (hr.mono (by decide)) (by rfl) T.g_p_minus T.F_p_minus.kp T.b_p_minus .nil pass0 (pa_cons (pe_ix (k_ix (K := K) rfl) (pv 0) pe_int (fun _ _ => rfl)) (pa_cons (pe_ix (k_ix (K := K) rfl) (pv 1) pe_int (fun _ _ => rfl)) pa_nil))) pa_nil))))), by infer_instance, fun ds n Q hl hA => ?_⟩
  obtain ⟨x, y, x', y', k, d, m, e, rfl, b1, b2, b3, b4, hk, hm, hd, he, q⟩ := hA
  exact ⟨x, x', k, d, m, e, rfl, b1, b3, hk, hm, by omega, by omega, .inl hd, y, y', k, d, m, e, rfl, b2, b4, hk, hm, by omega, by omega, .inl hd, q⟩

/-! ### the hull -/
def leftI (a b c : Pt) : Int := (b.1 - a.1) * (c.2 - a.2) - (b.2 - a.2) * (c.1 - a.1)
def PtB (p : Pt) : Prop := -10000000 ≤ p.1 ∧ p.1 ≤ 10000000 ∧ -10000000 ≤ p.2 ∧ p.2 ≤ 10000000
def a_l_left : ASp := fun ds n Q => ∃ a b c : Pt, ds = [pt a, pt b, pt c] ∧ PtB a ∧ PtB b ∧ PtB c ∧ Q (.int (leftI a b c)) n
theorem ok_l_left (T : Tx K mg A) : FnOk P w K mg base CX0 1 A.f_l_left A.fd_l_left ["_law_a", "_law_b", "_law_c"] (spOf K 3 a_l_left) := by
  refine fn_mir [] 3 rfl (by decide) (by decide) T.F_l_left sc_l_left fun cdv Ar outer s H E hr => ?_
  refine ⟨_, _, (pss_one (ps_ret (pe_op op_sub (pe_op k_mul (pe_op op_sub (pe_ix (k_ix (K := K) rfl) (pv 1) pe_int (fun _ _ => rfl)) (pe_ix (k_ix (K := K) rfl) (pv 0) pe_int (fun _ _ => rfl))) (pe_op op_sub (pe_ix (k_ix (K := K) rfl) (pv 2) pe_int (fun _ _ => rfl)) (pe_ix (k_ix (K := K) rfl) (pv 0) pe_int (fun _ _ => rfl)))) (pe_op k_mul (pe_op op_sub (pe_ix (k_ix (K := K) rfl) (pv 1) pe_int (fun _ _ => rfl)) (pe_ix (k_ix (K := K) rfl) (pv 0) pe_int (fun _ _ => rfl))) (pe_op op_sub (pe_ix (k_ix (K := K) rfl) (pv 2) pe_int (fun _ _ => rfl)) (pe_ix (k_ix (K := K) rfl) (pv 0) pe_int (fun _ _ => rfl))))))), by infer_instance, fun ds n Q hl hA => ?_⟩
  obtain ⟨a, b, c, rfl, ba, bb, bc, q⟩ := hA
  unfold PtB at ba bb bc
  exact ⟨.inl (.inl ⟨by omega, by omega⟩), .inl (.inl ⟨by omega, by omega⟩), q⟩
/-- the half hull, its last point first -/
def popR (p : Pt) : List Pt → List Pt
  | b :: a :: r => if leftI a b p ≤ 0 then popR p (a :: r) else b :: a :: r
  | s => s
def halfS (st : List Pt) (ps : List Pt) : List Pt := ps.foldl (fun st p => p :: popR p st) st
def halfR (ps : List Pt) : List Pt := halfS [] ps
theorem popR_sub (p : Pt) : ∀ st : List Pt, ∀ x ∈ popR p st, x ∈ st
  | [], x, h => h
  | [b], x, h => h
  | b :: a :: r, x, h => by
    unfold popR at h
    split at h
    · exact List.mem_cons_of_mem _ (popR_sub p (a :: r) x h)
    · exact h
theorem popR_len (p : Pt) : ∀ st : List Pt, (popR p st).length ≤ st.length
  | [] => Nat.le_refl _
  | [b] => Nat.le_refl _
  | b :: a :: r => by
    unfold popR
    split
    · exact Nat.le_succ_of_le (popR_len p (a :: r))
    · exact Nat.le_refl _
theorem halfS_sub : ∀ (ps st : List Pt), ∀ x ∈ halfS st ps, x ∈ st ∨ x ∈ ps
  | [], st, x, h => .inl h
  | p :: ps, st, x, h => by
    rcases halfS_sub ps (p :: popR p st) x h with h | h
    · rcases List.mem_cons.mp h with rfl | h
      · exact .inr List.mem_cons_self
      · exact .inl (popR_sub p st x h)
    · exact .inr (List.mem_cons_of_mem _ h)
theorem halfS_len : ∀ (ps st : List Pt), (halfS st ps).length ≤ st.length + ps.length
  | [], st => Nat.le_refl _
  | p :: ps, st => by
    have h1 := halfS_len ps (p :: popR p st)
    have h2 := popR_len p st
    rw [List.length_cons] at h1 ⊢
    show (halfS (p :: popR p st) ps).length ≤ _
    omega
theorem atI_m1 {xs : List D} {a b : D} : atI (xs ++ [a, b]) (-1) = some b := by
  have := atI_last (xs ++ [a]) b
  rw [List.append_assoc] at this
  exact this
theorem atI_m2 {xs : List D} {a b : D} : atI (xs ++ [a, b]) (-2) = some a := by
  have hl : (xs ++ [a, b]).length = xs.length + 2 := by simp
  unfold atI ixN
  rw [if_neg (by omega), if_pos (by omega), hl]
  show (xs ++ [a, b])[(-2 + ((xs.length + 2 : Nat) : Int)).toNat]? = some a
  have e : (-2 + ((xs.length + 2 : Nat) : Int)).toNat = xs.length := by omega
  rw [e, List.getElem?_append_right (Nat.le_refl _), Nat.sub_self]
  rfl
theorem cutL_last (xs : List D) (a : D) : cutL (xs ++ [a]) none (some (-1)) = xs := by
  unfold cutL
  have hl : (xs ++ [a]).length = xs.length + 1 := by simp
  rw [HT.sIx_none]
  have e : HT.sIx (xs ++ [a]).length (xs ++ [a]).length (some (-1)) = xs.length := by
    rw [hl]
    unfold HT.sIx
    simp
    omega
  rw [e, List.drop_zero, Nat.sub_zero, List.take_left]
/-- a stack of points, the last first -/
def stk (st : List Pt) : List D := st.reverse.map pt
theorem stk_two (a b : Pt) (r : List Pt) : stk (b :: a :: r) = stk r ++ [pt a, pt b] := by
  unfold stk
  simp
theorem stk_one (a : Pt) (r : List Pt) : stk (a :: r) = stk r ++ [pt a] := by
  unfold stk
  simp
theorem stk_len (st : List Pt) : (stk st).length = st.length := by
  unfold stk
  rw [List.length_map, List.length_reverse]
theorem cut_nil : cutL [] none (some (-1)) = [] := by
  unfold cutL
  simp
def a_l_half : ASp := fun ds n Q => ∃ ps : List Pt, ds = [.lst (ps.map pt)] ∧ (∀ p ∈ ps, PtB p) ∧ ps.length ≤ 100 ∧ Q (.lst (stk (halfR ps).tail)) n
theorem ok_l_half (T : Tx K mg A) : FnOk P w K mg base CX0 2 A.f_l_half A.fd_l_half ["_law_points"] (spOf K 1 a_l_half) := by
  refine fn_mir [] 3 rfl (by decide) (by decide) T.F_l_half sc_l_half fun cdv Ar outer s H E hr => ?_
  refine ⟨_, _, (pss_cons (ps_set (i := 1) sc_l_half.nd rfl (.inl rfl) (pe_lst pa_nil))
    (pss_cons (ps_for PassesOwn.never rfl (k_iter (K := K) rfl (pv 0)) (pg_name (i := 2) sc_l_half.nd rfl (.inl rfl))
      (pss_cons (ps_while PassesOwn.never (PW.pt (pw_and (pt_cmpR op_gt (pe_callB (k_len (K := K) rfl) (by rfl) T.m_len (by decide +kernel) (pa_cons (pv 1) pa_nil)) pe_int (nomark _)) (pw_and1 (pt_cmpR op_le (pe_call (ok_l_left (P := P) (K := K) T) (hr.mono (by decide)) (by rfl) T.g_l_left T.F_l_left.kp T.b_l_left .nil pass0 (pa_cons (pe_ix (k_ixS (K := K) rfl) (pv 1) (pe_un un_neg pe_int) (fun _ _ => rfl)) (pa_cons (pe_ix (k_ixS (K := K) rfl) (pv 1) (pe_un un_neg pe_int) (fun _ _ => rfl)) (pa_cons (pv 2) pa_nil)))) pe_int (nomark _)))))
      (pss_one (ps_set (i := 1) sc_l_half.nd rfl (.inl rfl) (pe_slice (k_sl (K := K) rfl) (pv 1) po_none (po_some (pe_un un_neg pe_int))))))
    (pss_one (ps_set (i := 1) sc_l_half.nd rfl (.inl rfl) (pe_op (k_add (K := K) rfl) (pv 1) (pe_lst (pa_cons (pv 2) pa_nil)))))))
    (pss_one (ps_ret (pe_slice (k_sl (K := K) rfl) (pv 1) po_none (po_some (pe_un un_neg pe_int))))))), by infer_instance, fun ds n Q hl hA => ?_⟩
  obtain ⟨ps, rfl, hB, hlen, q⟩ := hA
  refine aFor_ind (fun ds ρ n' => n' = n ∧ ∃ (qs st : List Pt) (y : Option D), ds = qs.map pt ∧ ρ = [some (.lst (ps.map pt)), some (.lst (stk st)), y] ∧ halfS st qs = halfR ps ∧ (∀ p ∈ st, PtB p) ∧ (∀ p ∈ qs, PtB p) ∧ st.length + qs.length ≤ 100) ?_ ?_ ⟨rfl, ps, [], none, rfl, rfl, rfl, (fun p h => by cases h), hB, by simpa using hlen⟩
  · rintro d r _ n' ⟨rfl, qs, st, y, hq, rfl, he, hs, hqs, hl⟩ ih
    obtain ⟨p, qs, rfl, rfl, rfl⟩ : ∃ p qs', qs = p :: qs' ∧ d = pt p ∧ r = qs'.map pt := by
      cases qs with
      | nil => cases hq
      | cons p qs => cases hq; exact ⟨p, qs, rfl, rfl, rfl⟩
    have bp := hqs p List.mem_cons_self
    rw [List.length_cons] at hl
    refine ⟨fun m ρ m' => m' = n' ∧ ∃ st', ρ = [some (.lst (ps.map pt)), some (.lst (stk st')), some (pt p)] ∧ m = st'.length ∧ popR p st' = popR p st ∧ (∀ p ∈ st', PtB p) ∧ st'.length ≤ st.length, ⟨_, rfl, st, rfl, rfl, rfl, hs, Nat.le_refl _⟩, ?_⟩
    rintro m ρ k ⟨hk, st', rfl, rfl, hp, hs', hl'⟩
    subst hk
    have done : popR p st' = st' → k = k ∧ ∃ (qs' st : List Pt) (y : Option D), qs.map pt = qs'.map pt ∧ [some (D.lst (ps.map pt)), some (.lst (stk st' ++ [pt p])), some (pt p)] = [some (.lst (ps.map pt)), some (.lst (stk st)), y] ∧ halfS st qs' = halfR ps ∧ (∀ p ∈ st, PtB p) ∧ (∀ p ∈ qs', PtB p) ∧ st.length + qs'.length ≤ 100 := fun hfix => by
      refine ⟨rfl, qs, p :: st', _, rfl, by rw [stk_one], ?_, ?_, fun x hx => hqs x (List.mem_cons_of_mem _ hx), ?_⟩
      · rw [← he]
        show halfS (p :: st') qs = halfS (p :: popR p st) qs
        rw [← hp, hfix]
      · intro x hx
        rcases List.mem_cons.mp hx with rfl | hx
        · exact bp
        · exact hs' x hx
      · rw [List.length_cons]
        omega
    have hsz : (stk st').length + 1 ≤ 1000000 := by rw [stk_len]; omega
    match st', hp, hs', hl', done, hsz with
    | [], _, _, _, done, hsz => exact dIte (fun e => absurd e (by decide)) fun _ => aF ⟨hsz, ih _ _ (done rfl)⟩
    | [x], _, _, _, done, hsz => exact dIte (fun e => absurd e (show ¬ (1 : Int) < ((1 : Nat) : Int) by decide)) fun _ => aF ⟨hsz, ih _ _ (done rfl)⟩
    | b :: a :: r, hp, hs', hl', done, hsz =>
      rw [stk_two] at done hsz ⊢
      have hlen2 : (1 : Int) < ((stk r ++ [pt a, pt b]).length : Int) := by
        rw [List.length_append]
        show (1 : Int) < (((stk r).length + 2 : Nat) : Int)
        omega
      refine dIte (fun _ => ?_) fun e => absurd hlen2 e
      refine aIx_lst atI_m2 ?_
      refine aIx_lst atI_m1 ?_
      refine ⟨a, b, p, rfl, hs' a (List.mem_cons_of_mem _ List.mem_cons_self), hs' b List.mem_cons_self, bp, ?_⟩
      refine dIte (fun e => ?_) fun e => ?_
      · refine ⟨(a :: r).length, Nat.lt_succ_self _, rfl, a :: r, ?_, rfl, ?_, fun x hx => hs' x (List.mem_cons_of_mem _ hx), Nat.le_of_succ_le hl'⟩
        · have e2 : stk r ++ [pt a, pt b] = stk (a :: r) ++ [pt b] := by rw [stk_one, List.append_assoc]; rfl
          show [some (D.lst (ps.map pt)), some (.lst (cutL (stk r ++ [pt a, pt b]) none (some (-1)))), some (pt p)] = _
          rw [e2, cutL_last]
        · rw [← hp]
          conv => rhs; unfold popR
          rw [if_pos e]
      · refine ⟨hsz, ih _ _ (done ?_)⟩
        unfold popR
        rw [if_neg e]
  · rintro _ n' ⟨rfl, qs, st, y, hq, rfl, he, hs, hqs, hl⟩
    cases qs with
    | cons p qs => cases hq
    | nil =>
      have e : st = halfR ps := he
      subst e
      show Q (.lst (cutL (stk (halfR ps)) none (some (-1)))) _
      cases h : halfR ps with
      | nil => rw [h] at q; exact q
      | cons a r =>
        rw [h] at q
        rw [stk_one, cutL_last]
        exact q
def hullOf (rs : List Pt) : List Pt :=
  if ((halfR rs).tail.reverse ++ (halfR rs.reverse).tail.reverse).length < 3 then [(0, 0), (2, 0), (0, 2)] else (halfR rs).tail.reverse ++ (halfR rs.reverse).tail.reverse

/-! ### the hull is convex -/
def lexLt (p q : Pt) : Prop := p.1 < q.1 ∨ (p.1 = q.1 ∧ p.2 < q.2)
theorem cross_id (ux uy wx wy zx zy : Int) : ux * (wx * zy - wy * zx) = wx * (ux * zy - uy * zx) - zx * (ux * wy - uy * wx) := by grind
theorem mul_nn {a b : Int} (h : 0 ≤ a) (g : 0 ≤ b) : 0 ≤ a * b := Int.mul_nonneg h g
theorem pos_of {a b : Int} (h : 0 < a) (g : 0 ≤ a * b) : 0 ≤ b := by
  rcases Int.lt_or_le b 0 with z | z
  · have := Int.mul_neg_of_pos_of_neg h z
    omega
  · exact z
theorem pos_of' {a b : Int} (h : 0 < a) (g : 0 < a * b) : 0 < b := by
  rcases Int.lt_or_le 0 b with z | z
  · exact z
  · have := Int.mul_nonpos_of_nonneg_of_nonpos (Int.le_of_lt h) z
    omega
theorem lemB {ux uy wx wy zx zy : Int} (hu : 0 < ux ∨ (ux = 0 ∧ 0 < uy)) (hw : 0 < wx ∨ (wx = 0 ∧ 0 ≤ wy)) (hz : 0 < zx ∨ (zx = 0 ∧ 0 ≤ zy)) (h1 : ux * wy - uy * wx ≤ 0) (h2 : 0 ≤ ux * zy - uy * zx) : 0 ≤ wx * zy - wy * zx := by
  have w0 : 0 ≤ wx := by omega
  have z0 : 0 ≤ zx := by omega
  rcases hu with hu | ⟨rfl, hu⟩
  · refine pos_of hu ?_
    rw [cross_id ux uy wx wy zx zy]
    have a := mul_nn w0 h2
    have b := mul_nn z0 (show 0 ≤ -(ux * wy - uy * wx) by omega)
    rw [Int.mul_neg] at b
    omega
  · have e : uy * zx ≤ 0 := by
      rw [Int.zero_mul] at h2
      omega
    have zx0 : zx = 0 := by
      rcases Int.lt_or_eq_of_le z0 with z | z
      · have := Int.mul_pos hu z
        omega
      · exact z.symm
    subst zx0
    have zy0 : 0 ≤ zy := by omega
    have := mul_nn w0 zy0
    rw [Int.mul_zero]
    omega
theorem lemA {ux uy vx vy wx wy : Int} (hu : 0 < ux ∨ (ux = 0 ∧ 0 < uy)) (hv : 0 < vx ∨ (vx = 0 ∧ 0 < vy)) (hw : 0 < wx ∨ (wx = 0 ∧ 0 ≤ wy)) (h1 : 0 < ux * vy - uy * vx) (h2 : 0 < vx * wy - vy * wx) : 0 < ux * wy - uy * wx := by
  have u0 : 0 ≤ ux := by omega
  have w0 : 0 ≤ wx := by omega
  rcases hv with hv | ⟨rfl, hv⟩
  · refine pos_of' hv ?_
    have id : vx * (ux * wy - uy * wx) = ux * (vx * wy - vy * wx) + wx * (ux * vy - uy * vx) := by grind
    rw [id]
    have a := mul_nn u0 (Int.le_of_lt h2)
    have b := mul_nn w0 (Int.le_of_lt h1)
    rcases hu with hu | ⟨rfl, hu⟩
    · have := Int.mul_pos hu h2
      omega
    · rcases hw with hw | ⟨rfl, hw⟩
      · have := Int.mul_pos hw h1
        omega
      · exfalso
        rw [Int.zero_mul] at h1
        have := Int.mul_pos hu hv
        omega
  · exfalso
    rw [Int.zero_mul] at h2
    have := mul_nn (Int.le_of_lt hv) w0
    omega
theorem left_vec (a b c : Pt) : leftI a b c = (b.1 - a.1) * (c.2 - b.2) - (b.2 - a.2) * (c.1 - b.1) := by
  unfold leftI
  grind
theorem left_self (a b : Pt) : leftI a b a = 0 ∧ leftI a b b = 0 := by
  unfold leftI
  constructor <;> grind
/-- a chain, its last point first: it goes on in order, turns left, and all of P lie not to its right -/
def Chain (P : List Pt) : List Pt → Prop
  | [] => False
  | [_] => True
  | b :: a :: r => lexLt a b ∧ (∀ c ∈ P, 0 ≤ leftI a b c) ∧ (∀ z r', r = z :: r' → 0 < leftI z a b) ∧ Chain P (a :: r)
theorem Chain.more {P : List Pt} {p : Pt} : ∀ {r : List Pt} {b a : Pt}, Chain P (b :: a :: r) → lexLe b p → 0 < leftI a b p → Chain (p :: P) (b :: a :: r)
  | [], b, a, h, hp, hl => ⟨h.1, fun c hc => by
      rcases List.mem_cons.mp hc with rfl | hc
      · exact Int.le_of_lt hl
      · exact h.2.1 c hc, fun z r' e => (by cases e), trivial⟩
  | z :: r, b, a, h, hp, hl => by
    have hzab := h.2.2.1 z r rfl
    have hza : lexLt z a := h.2.2.2.1
    have hab := h.1
    refine ⟨h.1, fun c hc => ?_, h.2.2.1, Chain.more h.2.2.2 ?_ ?_⟩
    · rcases List.mem_cons.mp hc with rfl | hc
      · exact Int.le_of_lt hl
      · exact h.2.1 c hc
    · unfold lexLe lexLt at *
      omega
    · -- z, a, b, p turn left
      rw [left_vec] at hzab hl
      have key := lemA (ux := a.1 - z.1) (uy := a.2 - z.2) (vx := b.1 - a.1) (vy := b.2 - a.2) (wx := p.1 - b.1) (wy := p.2 - b.2) (by unfold lexLt at hza; omega) (by unfold lexLt at hab; omega) (by unfold lexLe at hp; omega) hzab hl
      have e : leftI z a p = ((a.1 - z.1) * (b.2 - a.2) - (a.2 - z.2) * (b.1 - a.1)) + ((a.1 - z.1) * (p.2 - b.2) - (a.2 - z.2) * (p.1 - b.1)) := by
        unfold leftI
        grind
      omega
theorem leftB {t b p c : Pt} (hu : lexLt t b) (hw : lexLe t p) (hz : lexLe t c) (h1 : leftI t b p ≤ 0) (h2 : 0 ≤ leftI t b c) : 0 ≤ leftI t p c := by
  unfold leftI at *
  unfold lexLt lexLe at *
  exact lemB (ux := b.1 - t.1) (uy := b.2 - t.2) (by omega) (by omega) (by omega) h1 h2
theorem leftC {a t p c : Pt} (hu : lexLt a t) (hw : lexLe t p) (hz : lexLe c t) (h1 : 0 ≤ leftI a t p) (h2 : 0 ≤ leftI a t c) : 0 ≤ leftI t p c := by
  have k := lemB (ux := t.1 - a.1) (uy := t.2 - a.2) (wx := t.1 - c.1) (wy := t.2 - c.2) (zx := p.1 - t.1) (zy := p.2 - t.2) (by unfold lexLt at hu; omega) (by unfold lexLe at hz; omega) (by unfold lexLe at hw; omega)
    (by
      have e : (t.1 - a.1) * (t.2 - c.2) - (t.2 - a.2) * (t.1 - c.1) = - leftI a t c := by
        unfold leftI
        grind
      omega)
    (by
      have e : (t.1 - a.1) * (p.2 - t.2) - (t.2 - a.2) * (p.1 - t.1) = leftI a t p := by
        unfold leftI
        grind
      omega)
  have e : (t.1 - c.1) * (p.2 - t.2) - (t.2 - c.2) * (p.1 - t.1) = leftI t p c := by
    unfold leftI
    grind
  omega
theorem lex_total (c t : Pt) : lexLe c t ∨ lexLe t c := by
  unfold lexLe
  omega
theorem lex_lt {c t : Pt} (h : lexLe c t) (n : c ≠ t) : lexLt c t := by
  have : ¬ (c.1 = t.1 ∧ c.2 = t.2) := fun e => n (Prod.ext e.1 e.2)
  unfold lexLe at h
  unfold lexLt
  omega
theorem lex_anti {c t : Pt} (h : lexLe c t) (g : lexLe t c) : c = t := by
  unfold lexLe at h g
  exact Prod.ext (by omega) (by omega)
theorem lex_trans {a b c : Pt} (h : lexLe a b) (g : lexLe b c) : lexLe a c := by
  unfold lexLe at *
  omega
/-- the top of the stack, before a push of p -/
def TopOk (P : List Pt) (p t : Pt) : Prop := (∀ c ∈ P, lexLe c t) ∨ ∃ b, lexLt t b ∧ (∀ c ∈ P, 0 ≤ leftI t b c) ∧ leftI t b p ≤ 0
theorem TopOk.left {P : List Pt} {p t : Pt} (h : TopOk P p t) (hp : lexLe t p) {c : Pt} (hc : c ∈ P) (g : lexLe t c) : 0 ≤ leftI t p c := by
  rcases h with h | ⟨b, h1, h2, h3⟩
  · rw [lex_anti (h c hc) g]
    exact Int.le_of_eq (left_self t p).1.symm
  · exact leftB h1 hp g h3 (h2 c hc)
theorem pop_chain {P : List Pt} {p m : Pt} (hm : ∀ c ∈ P, lexLe m c) (hmp : lexLt m p) : ∀ (r : List Pt) (t : Pt), Chain P (t :: r) → (∀ x ∈ t :: r, lexLe x p) → (t :: r).getLast? = some m → TopOk P p t →
    Chain (p :: P) (p :: popR p (t :: r)) ∧ (popR p (t :: r)).getLast? = some m
  | [], t, hc, hx, hl, ht => by
    have e : t = m := by simpa using hl
    subst e
    refine ⟨⟨hmp, fun c hc => ?_, fun z r' e => (by cases e), trivial⟩, rfl⟩
    rcases List.mem_cons.mp hc with rfl | hc
    · exact Int.le_of_eq (left_self t c).2.symm
    · exact ht.left (hx t (List.mem_cons_self ..)) hc (hm c hc)
  | a :: r, t, hc, hx, hl, ht => by
    have hat := hc.1
    by_cases g : leftI a t p ≤ 0
    · have e : popR p (t :: a :: r) = popR p (a :: r) := by
        conv => lhs; unfold popR
        rw [if_pos g]
      rw [e]
      exact pop_chain hm hmp r a hc.2.2.2 (fun x h => hx x (List.mem_cons_of_mem _ h)) (by simpa using hl) (.inr ⟨t, hat, hc.2.1, g⟩)
    · have e : popR p (t :: a :: r) = t :: a :: r := by
        unfold popR
        rw [if_neg g]
      rw [e]
      have htp : lexLe t p := hx t (List.mem_cons_self ..)
      have gp : 0 < leftI a t p := by omega
      refine ⟨⟨lex_lt htp fun e => ?_, fun c hc' => ?_, fun z r' e => ?_, hc.more htp gp⟩, hl⟩
      · subst e
        have := (left_self a t).2
        omega
      · rcases List.mem_cons.mp hc' with rfl | hc'
        · exact Int.le_of_eq (left_self t c).2.symm
        · rcases lex_total c t with g2 | g2
          · exact leftC hat htp g2 (Int.le_of_lt gp) (hc.2.1 c hc')
          · exact ht.left htp hc' g2
      · obtain ⟨rfl, rfl⟩ := List.cons.inj e
        exact gp
/-- the stack, when the points P are done -/
def StOk (P : List Pt) (m : Pt) (st : List Pt) : Prop :=
  (∀ c ∈ P, lexLe m c) ∧ m ∈ P ∧ (∀ x ∈ st, x ∈ P) ∧
  (((st = [m] ∨ st = [m, m]) ∧ ∀ c ∈ P, c = m) ∨ (∃ t a r, st = t :: a :: r ∧ Chain P st ∧ st.getLast? = some m ∧ ∀ c ∈ P, lexLe c t))
theorem StOk.push {P : List Pt} {m p : Pt} {st : List Pt} (h : StOk P m st) (hp : ∀ c ∈ P, lexLe c p) : StOk (p :: P) m (p :: popR p st) := by
  obtain ⟨h1, h2, h3, h4⟩ := h
  have h1' : ∀ c ∈ p :: P, lexLe m c := fun c hc => by
    rcases List.mem_cons.mp hc with rfl | hc
    · exact hp m h2
    · exact h1 c hc
  refine ⟨h1', List.mem_cons_of_mem _ h2, fun x hx => ?_, ?_⟩
  · rcases List.mem_cons.mp hx with rfl | hx
    · exact List.mem_cons_self ..
    · exact List.mem_cons_of_mem _ (h3 x (popR_sub p st x hx))
  rcases h4 with ⟨h4, h5⟩ | ⟨t, a, r, rfl, h5, h6, h7⟩
  · have e : popR p st = [m] := by
      rcases h4 with rfl | rfl
      · rfl
      · have : leftI m m p = 0 := by
          unfold leftI
          grind
        unfold popR
        rw [if_pos (by omega)]
        rfl
    rw [e]
    by_cases g : p = m
    · subst g
      exact .inl ⟨.inr rfl, fun c hc => by
        rcases List.mem_cons.mp hc with rfl | hc
        · rfl
        · exact h5 c hc⟩
    · refine .inr ⟨p, m, [], rfl, ⟨lex_lt (hp m h2) (fun e => g e.symm), fun c hc => ?_, fun z r' e => (by cases e), trivial⟩, rfl, fun c hc => ?_⟩
      · rcases List.mem_cons.mp hc with rfl | hc
        · exact Int.le_of_eq (left_self m c).2.symm
        · rw [h5 c hc]
          exact Int.le_of_eq (left_self m p).1.symm
      · rcases List.mem_cons.mp hc with rfl | hc
        · unfold lexLe
          omega
        · exact hp c hc
  · have hmt : lexLt m t := by
      refine lex_lt (h7 m h2) fun e => ?_
      subst e
      have h8 := h5.1
      have h9 := h1 a (h3 a (by simp))
      unfold lexLt at h8
      unfold lexLe at h9
      omega
    have hmp : lexLt m p := by
      have := hp t (h3 t (by simp))
      unfold lexLt lexLe at *
      omega
    obtain ⟨k1, k2⟩ := pop_chain h1 hmp (a :: r) t h5 (fun x hx => hp x (h3 x hx)) h6 (.inl h7)
    have hpp : ∀ c ∈ p :: P, lexLe c p := fun c hc => by
      rcases List.mem_cons.mp hc with rfl | hc
      · unfold lexLe
        omega
      · exact hp c hc
    cases hq : popR p (t :: a :: r) with
    | nil =>
      rw [hq] at k2
      cases k2
    | cons y ys =>
      rw [hq] at k1 k2
      exact .inr ⟨p, y, ys, rfl, k1, (by simpa using k2), hpp⟩
theorem StOk.all : ∀ (qs P : List Pt) (m : Pt) (st : List Pt), StOk P m st → qs.Pairwise lexLe → (∀ c ∈ P, ∀ q ∈ qs, lexLe c q) → ∃ P' : List Pt, (∀ c ∈ P, c ∈ P') ∧ (∀ c ∈ qs, c ∈ P') ∧ (∀ c ∈ P', c ∈ P ∨ c ∈ qs) ∧ StOk P' m (halfS st qs)
  | [], P, m, st, h, _, _ => ⟨P, fun c h => h, (fun c h => by cases h), (fun c h => .inl h), h⟩
  | p :: qs, P, m, st, h, hs, hP => by
    obtain ⟨s1, s2⟩ := List.pairwise_cons.mp hs
    obtain ⟨P', k1, k2, k4, k3⟩ := StOk.all qs (p :: P) m (p :: popR p st) (h.push fun c hc => hP c hc p (List.mem_cons_self ..)) s2 (fun c hc q hq => by
      rcases List.mem_cons.mp hc with rfl | hc
      · exact s1 q hq
      · exact hP c hc q (List.mem_cons_of_mem _ hq))
    exact ⟨P', fun c hc => k1 c (List.mem_cons_of_mem _ hc), fun c hc => by
      rcases List.mem_cons.mp hc with rfl | hc
      · exact k1 c (List.mem_cons_self ..)
      · exact k2 c hc, fun c hc => by
      rcases k4 c hc with h | h
      · rcases List.mem_cons.mp h with rfl | h
        · exact .inr (List.mem_cons_self ..)
        · exact .inl h
      · exact .inr (List.mem_cons_of_mem _ h), k3⟩
theorem half_ok (m : Pt) (qs : List Pt) (hs : (m :: qs).Pairwise lexLe) : ∃ P : List Pt, (∀ c ∈ m :: qs, c ∈ P) ∧ (∀ c ∈ P, c ∈ m :: qs) ∧ StOk P m (halfR (m :: qs)) := by
  obtain ⟨s1, s2⟩ := List.pairwise_cons.mp hs
  have h0 : StOk [m] m [m] := ⟨fun c hc => by
    have : c = m := by simpa using hc
    subst this
    unfold lexLe
    omega, by simp, fun x h => h, .inl ⟨.inl rfl, fun c hc => by simpa using hc⟩⟩
  obtain ⟨P, k1, k2, k4, k3⟩ := StOk.all qs [m] m [m] h0 s2 (fun c hc q hq => by
    have : c = m := by simpa using hc
    subst this
    exact s1 q hq)
  exact ⟨P, fun c hc => by
    rcases List.mem_cons.mp hc with rfl | hc
    · exact k1 c (by simp)
    · exact k2 c hc, fun c hc => by
    rcases k4 c hc with h | h
    · have : c = m := by simpa using h
      subst this
      exact List.mem_cons_self ..
    · exact List.mem_cons_of_mem _ h, k3⟩
/-! the other half: turned by half a turn -/
def neg (p : Pt) : Pt := (-p.1, -p.2)
theorem left_neg (a b c : Pt) : leftI (neg a) (neg b) (neg c) = leftI a b c := by
  unfold leftI neg
  grind
theorem pop_neg (p : Pt) : ∀ st : List Pt, popR (neg p) (st.map neg) = (popR p st).map neg
  | [] => rfl
  | [a] => rfl
  | b :: a :: r => by
    show popR (neg p) (neg b :: neg a :: r.map neg) = _
    unfold popR
    rw [left_neg]
    by_cases g : leftI a b p ≤ 0
    · rw [if_pos g, if_pos g]
      exact pop_neg p (a :: r)
    · rw [if_neg g, if_neg g]
      rfl
theorem half_neg : ∀ (ps st : List Pt), halfS (st.map neg) (ps.map neg) = (halfS st ps).map neg
  | [], st => rfl
  | p :: ps, st => by
    show halfS (neg p :: popR (neg p) (st.map neg)) (ps.map neg) = (halfS (p :: popR p st) ps).map neg
    rw [pop_neg]
    exact half_neg ps (p :: popR p st)
theorem neg_neg' (p : Pt) : neg (neg p) = p := by
  unfold neg
  exact Prod.ext (by simp) (by simp)
def Steps (E : Pt → Pt → Prop) : List Pt → Prop
  | a :: b :: r => E a b ∧ Steps E (b :: r)
  | _ => True
theorem Steps.snoc {E : Pt → Pt → Prop} {a b : Pt} (h : E a b) : ∀ l : List Pt, Steps E (l ++ [a]) → Steps E (l ++ [a, b])
  | [], _ => ⟨h, trivial⟩
  | [c], g => ⟨g.1, h, trivial⟩
  | c :: d :: l, g => ⟨g.1, Steps.snoc h (d :: l) g.2⟩
theorem Steps.join {E : Pt → Pt → Prop} {a : Pt} {r : List Pt} (h : Steps E (a :: r)) : ∀ l : List Pt, Steps E (l ++ [a]) → Steps E (l ++ a :: r)
  | [], _ => h
  | [c], g => ⟨g.1, h⟩
  | c :: d :: l, g => ⟨g.1, Steps.join h (d :: l) g.2⟩
theorem Steps.rev {E : Pt → Pt → Prop} : ∀ l : List Pt, Steps (fun b a => E a b) l → Steps E l.reverse
  | [], _ => trivial
  | [c], _ => trivial
  | b :: a :: r, h => by
    have := Steps.rev (a :: r) h.2
    rw [List.reverse_cons] at this
    rw [List.reverse_cons, List.reverse_cons, List.append_assoc]
    exact this.snoc h.1
theorem Steps.zip {E : Pt → Pt → Prop} (x : Pt) : ∀ h : List Pt, Steps E (h ++ [x]) → ∀ e ∈ h.zip (h.drop 1 ++ [x]), E e.1 e.2
  | [], _, e, he => by cases he
  | [a], g, e, he => by
    have : e = (a, x) := by simpa using he
    subst this
    exact g.1
  | a :: b :: r, g, e, he => by
    have : e = (a, b) ∨ e ∈ (b :: r).zip (r ++ [x]) := by simpa using he
    rcases this with rfl | he
    · exact g.1
    · exact Steps.zip x (b :: r) g.2 e he
def SideOk (P : List Pt) (a b : Pt) : Prop := a ≠ b ∧ ∀ c ∈ P, 0 ≤ leftI a b c
theorem lexLt.ne {a b : Pt} (h : lexLt a b) : a ≠ b := fun e => by
  subst e
  unfold lexLt at h
  omega
theorem Chain.steps {P : List Pt} : ∀ st : List Pt, Chain P st → Steps (fun b a => SideOk P a b) st
  | [], _ => trivial
  | [_], _ => trivial
  | b :: a :: r, h => ⟨⟨h.1.ne, h.2.1⟩, Chain.steps (a :: r) h.2.2.2⟩
theorem SideOk.neg {P : List Pt} {a b : Pt} (h : SideOk (P.map R.neg) (R.neg a) (R.neg b)) : SideOk P a b :=
  ⟨fun e => h.1 (by rw [e]), fun c hc => by
    have := h.2 (R.neg c) (List.mem_map.mpr ⟨c, hc, rfl⟩)
    rwa [left_neg] at this⟩
theorem SideOk.sub {P P' : List Pt} (h : ∀ c ∈ P, c ∈ P') {a b : Pt} (g : SideOk P' a b) : SideOk P a b := ⟨g.1, fun c hc => g.2 c (h c hc)⟩
theorem Steps.mono {E F : Pt → Pt → Prop} (h : ∀ a b, E a b → F a b) : ∀ l : List Pt, Steps E l → Steps F l
  | [], _ => trivial
  | [_], _ => trivial
  | _ :: b :: r, g => ⟨h _ _ g.1, Steps.mono h (b :: r) g.2⟩
theorem Steps.map {E : Pt → Pt → Prop} (f : Pt → Pt) : ∀ l : List Pt, Steps E (l.map f) → Steps (fun a b => E (f a) (f b)) l
  | [], _ => trivial
  | [_], _ => trivial
  | _ :: b :: r, g => ⟨g.1, Steps.map f (b :: r) g.2⟩
/-- a shape that is right: no corner lies right of a side, and no side is nought -/
def Convex (cs : List Pt) : Prop := ∀ e ∈ cs.zip (cs.drop 1 ++ cs.take 1), SideOk cs e.1 e.2
theorem half_side {m : Pt} {qs : List Pt} (hs : (m :: qs).Pairwise lexLe) : (∃ M r, halfR (m :: qs) = M :: r ∧ r.getLast? = some m ∧ Steps (SideOk (m :: qs)) (r.reverse ++ [M]) ∧ (∀ c ∈ m :: qs, lexLe c M) ∧ M ∈ m :: qs ∧ (∀ c ∈ r, c ∈ m :: qs) ∧ m ≠ M) ∨ ((halfR (m :: qs)).tail.length ≤ 1 ∧ ∀ c ∈ m :: qs, c = m) := by
  obtain ⟨P, k1, k0, k2, k3, k4, k5⟩ := half_ok m qs hs
  rcases k5 with ⟨k5, k6⟩ | ⟨t, a, r, e, k5, k6, k7⟩
  · refine .inr ⟨?_, fun c hc => k6 c (k1 c hc)⟩
    rcases k5 with e | e <;> rw [e] <;> simp
  · rw [e] at k4 k5 k6
    refine .inl ⟨t, a :: r, e, ?_, ?_, fun c hc => k7 c (k1 c hc), k0 t (k4 t (by simp)), fun c hc => k0 c (k4 c (List.mem_cons_of_mem _ hc)), fun e => ?_⟩
    · simpa using k6
    · have := Steps.rev _ (Chain.steps _ k5)
      rw [List.reverse_cons] at this
      exact Steps.mono (fun a b g => g.sub k1) _ this
    · subst e
      have h8 := k5.1
      have h9 := k2 a (k4 a (by simp))
      unfold lexLt at h8
      unfold lexLe at h9
      omega
theorem last_rev {r : List Pt} {m : Pt} (h : r.getLast? = some m) : ∃ r', r.reverse = m :: r' := by
  rw [List.getLast?_eq_head?_reverse] at h
  cases e : r.reverse with
  | nil => rw [e] at h; cases h
  | cons x xs =>
    rw [e] at h
    have : x = m := by simpa using h
    exact ⟨xs, by rw [this]⟩
theorem lex_neg {a b : Pt} (h : lexLe a b) : lexLe (neg b) (neg a) := by
  unfold lexLe neg at *
  simp only
  omega
theorem hull_convex {rs : List Pt} (hs : rs.Pairwise lexLe) : Convex (hullOf rs) ∧ 3 ≤ (hullOf rs).length := by
  unfold hullOf
  split
  · refine ⟨fun e he => ?_, by decide⟩
    have he' : e = ((0, 0), (2, 0)) ∨ e = ((2, 0), (0, 2)) ∨ e = ((0, 2), (0, 0)) := by simpa using he
    rcases he' with rfl | rfl | rfl <;> refine ⟨by decide, fun c hc => ?_⟩ <;> (have hc' : c = (0, 0) ∨ c = (2, 0) ∨ c = (0, 2) := by simpa using hc) <;> rcases hc' with rfl | rfl | rfl <;> decide
  rename_i hlen
  refine ⟨?_, by omega⟩
  cases rs with
  | nil => exact absurd (by decide) hlen
  | cons m qs =>
  obtain ⟨x, ys, hx⟩ : ∃ x ys, (m :: qs).reverse = x :: ys := by
    cases e : (m :: qs).reverse with
    | nil => simp at e
    | cons x ys => exact ⟨x, ys, rfl⟩
  have mem : ∀ c, c ∈ m :: qs ↔ c ∈ x :: ys := fun c => by rw [← hx, List.mem_reverse]
  have hd : (x :: ys).Pairwise (fun a b => lexLe b a) := by
    rw [← hx]
    exact List.pairwise_reverse.mpr hs
  have hn : (neg x :: ys.map neg).Pairwise lexLe := by
    have : ((x :: ys).map neg).Pairwise lexLe := List.pairwise_map.mpr (hd.imp fun h => lex_neg h)
    exact this
  have en : halfR (neg x :: ys.map neg) = (halfR (x :: ys)).map neg := half_neg (x :: ys) []
  have hmin : ∀ c ∈ m :: qs, lexLe m c := fun c hc => by
    rcases List.mem_cons.mp hc with rfl | hc
    · unfold lexLe
      omega
    · exact (List.pairwise_cons.mp hs).1 c hc
  have hmax : ∀ c ∈ m :: qs, lexLe c x := fun c hc => by
    rcases List.mem_cons.mp ((mem c).mp hc) with rfl | hc
    · unfold lexLe
      omega
    · exact (List.pairwise_cons.mp hd).1 c hc
  rw [hx] at hlen ⊢
  rcases half_side hs with ⟨M, r, e, h1, h2, h3, h4, h5, h6⟩ | ⟨h1, h2⟩
  · have hM : M = x := lex_anti (hmax M h4) (h3 x ((mem x).mpr (List.mem_cons_self ..)))
    subst hM
    rcases half_side hn with ⟨N, s, e', g1, g2, g3, g4, g5, g6⟩ | ⟨g1, g2⟩
    · rw [en] at e'
      cases hU : halfR (M :: ys) with
      | nil => rw [hU] at e'; cases e'
      | cons u us =>
      rw [hU] at e'
      obtain ⟨eN, es⟩ := List.cons.inj e'
      have inv : ∀ c, c ∈ neg M :: ys.map neg → neg c ∈ m :: qs := fun c hc => by
        obtain ⟨d, hd, rfl⟩ := List.mem_map.mp (show c ∈ (M :: ys).map neg from hc)
        rw [neg_neg']
        exact (mem d).mpr hd
      have hu : u = m := by
        refine lex_anti ?_ ?_
        · have := lex_neg (g3 (neg m) ((List.mem_map (l := M :: ys)).mpr ⟨m, (mem m).mp (List.mem_cons_self ..), rfl⟩))
          rw [← eN, neg_neg', neg_neg'] at this
          exact this
        · have := inv N g4
          rw [← eN, neg_neg'] at this
          exact hmin u this
      subst hu
      have hus : us.getLast? = some M := by
        rw [← es] at g1
        rw [List.getLast?_map] at g1
        cases hq : us.getLast? with
        | none => rw [hq] at g1; cases g1
        | some y =>
          rw [hq] at g1
          have : neg y = neg M := by simpa using g1
          have := congrArg neg this
          rw [neg_neg', neg_neg'] at this
          rw [this]
      have st2 : Steps (SideOk (u :: qs)) (us.reverse ++ [u]) := by
        have k : Steps (SideOk ((M :: ys).map neg)) ((us.reverse ++ [u]).map neg) := by
          rw [← es, ← eN] at g2
          simpa using g2
        exact Steps.mono (fun a b g => (SideOk.neg g).sub fun c hc => (mem c).mp hc) _ (Steps.map neg _ k)
      obtain ⟨r', hr⟩ := last_rev h1
      obtain ⟨us', hus'⟩ := last_rev hus
      rw [e]
      show Convex (r.reverse ++ us.reverse)
      have all : Steps (SideOk (u :: qs)) ((r.reverse ++ us.reverse) ++ [u]) := by
        rw [hus', List.append_assoc]
        rw [hus'] at st2
        exact Steps.join st2 _ h2
      have sub : ∀ c ∈ r.reverse ++ us.reverse, c ∈ u :: qs := fun c hc => by
        rcases List.mem_append.mp hc with hc | hc
        · exact h5 c (List.mem_reverse.mp hc)
        · have := inv (neg c) (g5 (neg c) (by rw [← es]; exact List.mem_map.mpr ⟨c, List.mem_reverse.mp hc, rfl⟩))
          rwa [neg_neg'] at this
      intro p hp
      refine SideOk.sub sub (Steps.zip u _ all p ?_)
      have tk : (r.reverse ++ us.reverse).take 1 = [u] := by
        rw [hr]
        rfl
      rw [tk] at hp
      exact hp
    · exfalso
      have q1 := g2 (neg m) ((List.mem_map (l := M :: ys)).mpr ⟨m, (mem m).mp (List.mem_cons_self ..), rfl⟩)
      have := congrArg neg q1
      rw [neg_neg', neg_neg'] at this
      exact h6 this
  · rcases half_side hn with ⟨N, s, e', g1, g2, g3, g4, g5, g6⟩ | ⟨g1, g2⟩
    · exfalso
      obtain ⟨d, hd, rfl⟩ := List.mem_map.mp (show N ∈ (x :: ys).map neg from g4)
      rw [h2 d ((mem d).mpr hd), h2 x ((mem x).mpr (List.mem_cons_self ..))] at g6
      exact g6 rfl
    · exfalso
      apply hlen
      rw [en] at g1
      simp only [List.length_append, List.length_reverse, List.length_tail, List.length_map] at h1 g1 ⊢
      omega

/-! ### no two sides of a hull go the same way -/
def crs (u v : Pt) : Int := u.1 * v.2 - u.2 * v.1
def lexP (u : Pt) : Prop := 0 < u.1 ∨ (u.1 = 0 ∧ 0 < u.2)
def Nsd (u v : Pt) : Prop := crs u v ≠ 0 ∨ (lexP u ∧ lexP (neg v)) ∨ (lexP v ∧ lexP (neg u))
theorem nsd_opp {u v : Pt} (h : lexP u) (g : lexP (neg v)) : Nsd u v := .inr (.inl ⟨h, g⟩)
theorem Nsd.opp {u v : Pt} (h : Nsd u v) (z : crs u v = 0) : (lexP u ∧ lexP (neg v)) ∨ (lexP v ∧ lexP (neg u)) := h.resolve_left fun n => n z
def vec (a b : Pt) : Pt := (b.1 - a.1, b.2 - a.2)
def eds : List Pt → List Pt
  | a :: b :: r => vec a b :: eds (b :: r)
  | _ => []
def edsR : List Pt → List Pt
  | b :: a :: r => vec a b :: edsR (a :: r)
  | _ => []
theorem eds_join (a : Pt) (r : List Pt) : ∀ l : List Pt, eds (l ++ a :: r) = eds (l ++ [a]) ++ eds (a :: r)
  | [] => rfl
  | [c] => rfl
  | c :: d :: l => by
    have := eds_join a r (d :: l)
    show vec c d :: eds (d :: l ++ a :: r) = (vec c d :: eds (d :: l ++ [a])) ++ _
    rw [this]
    rfl
theorem eds_rev : ∀ st : List Pt, eds st.reverse = (edsR st).reverse
  | [] => rfl
  | [_] => rfl
  | b :: a :: r => by
    have ih := eds_rev (a :: r)
    rw [List.reverse_cons] at ih
    rw [List.reverse_cons, List.reverse_cons, List.append_assoc]
    show eds (r.reverse ++ a :: [b]) = _
    rw [eds_join, ih]
    show _ = (vec a b :: edsR (a :: r)).reverse
    rw [List.reverse_cons]
    rfl
theorem chain_pw {P : List Pt} : ∀ st : List Pt, Chain P st → (edsR st).Pairwise (fun u v => 0 < crs v u) ∧ ∀ u ∈ edsR st, lexP u
  | [], h => h.elim
  | [_], _ => ⟨List.Pairwise.nil, fun u hu => by cases hu⟩
  | b :: a :: r, h => by
    obtain ⟨hlt, _, hturn, hc⟩ := h
    obtain ⟨pw, lp⟩ := chain_pw (a :: r) hc
    have lu : lexP (vec a b) := by
      unfold lexLt at hlt
      unfold lexP vec
      simp only
      omega
    refine ⟨List.pairwise_cons.mpr ⟨fun v hv => ?_, pw⟩, fun u hu => ?_⟩
    · cases r with
      | nil => cases hv
      | cons z r' =>
        have ht : 0 < crs (vec z a) (vec a b) := by
          have := hturn z r' rfl
          rw [left_vec] at this
          exact this
        have lz : lexP (vec z a) := lp _ (List.mem_cons_self ..)
        rcases List.mem_cons.mp (show v ∈ vec z a :: edsR (z :: r') from hv) with rfl | hv'
        · exact ht
        · have h1 : 0 < crs v (vec z a) := (List.pairwise_cons.mp pw).1 v hv'
          exact lemA (lp v (List.mem_cons_of_mem _ hv')) lz (by unfold lexP at lu; omega) h1 ht
    · rcases List.mem_cons.mp (show u ∈ vec a b :: edsR (a :: r) from hu) with rfl | hu'
      · exact lu
      · exact lp u hu'
theorem vec_neg (a b : Pt) : vec (neg a) (neg b) = neg (vec a b) := by
  unfold vec neg
  exact Prod.ext (by simp only; omega) (by simp only; omega)
theorem edsR_neg : ∀ st : List Pt, edsR (st.map neg) = (edsR st).map neg
  | [] => rfl
  | [_] => rfl
  | b :: a :: r => by
    show vec (neg a) (neg b) :: edsR ((a :: r).map neg) = neg (vec a b) :: (edsR (a :: r)).map neg
    rw [vec_neg, edsR_neg (a :: r)]
theorem crs_neg (u v : Pt) : crs (neg u) (neg v) = crs u v := by
  unfold crs neg
  simp only
  rw [Int.neg_mul_neg, Int.neg_mul_neg]
def Dst (cs : List Pt) : Prop := (eds (cs ++ cs.take 1)).Pairwise Nsd
theorem half_side2 {m : Pt} {qs : List Pt} (hs : (m :: qs).Pairwise lexLe) : (∃ M r, halfR (m :: qs) = M :: r ∧ r.getLast? = some m ∧ ((edsR (M :: r)).Pairwise (fun u v => 0 < crs v u) ∧ ∀ u ∈ edsR (M :: r), lexP u) ∧ (∀ c ∈ m :: qs, lexLe c M) ∧ M ∈ m :: qs ∧ (∀ c ∈ r, c ∈ m :: qs) ∧ m ≠ M) ∨ ((halfR (m :: qs)).tail.length ≤ 1 ∧ ∀ c ∈ m :: qs, c = m) := by
  obtain ⟨P, k1, k0, k2, k3, k4, k5⟩ := half_ok m qs hs
  rcases k5 with ⟨k5, k6⟩ | ⟨t, a, r, e, k5, k6, k7⟩
  · refine .inr ⟨?_, fun c hc => k6 c (k1 c hc)⟩
    rcases k5 with e | e <;> rw [e] <;> simp
  · rw [e] at k4 k5 k6
    refine .inl ⟨t, a :: r, e, ?_, chain_pw _ k5, fun c hc => k7 c (k1 c hc), k0 t (k4 t (by simp)), fun c hc => k0 c (k4 c (List.mem_cons_of_mem _ hc)), fun e => ?_⟩
    · simpa using k6
    · subst e
      have h8 := k5.1
      have h9 := k2 a (k4 a (by simp))
      unfold lexLt at h8
      unfold lexLe at h9
      omega
theorem nsd_of {u v : Pt} (h : 0 < crs u v) : Nsd u v := .inl (by omega)
theorem hull_dst {rs : List Pt} (hs : rs.Pairwise lexLe) : Dst (hullOf rs) := by
  unfold hullOf
  split
  · unfold Dst
    show [((2 : Int), (0 : Int)), (-2, 2), (0, -2)].Pairwise Nsd
    simp only [List.pairwise_cons, List.mem_cons, List.not_mem_nil, or_false, forall_eq_or_imp, forall_eq, List.Pairwise.nil, and_true, false_implies, implies_true]
    refine ⟨⟨.inl (by decide), .inl (by decide)⟩, .inl (by decide)⟩
  rename_i hlen
  cases rs with
  | nil => exact absurd (by decide) hlen
  | cons m qs =>
  obtain ⟨x, ys, hx⟩ : ∃ x ys, (m :: qs).reverse = x :: ys := by
    cases e : (m :: qs).reverse with
    | nil => simp at e
    | cons x ys => exact ⟨x, ys, rfl⟩
  have mem : ∀ c, c ∈ m :: qs ↔ c ∈ x :: ys := fun c => by rw [← hx, List.mem_reverse]
  have hd : (x :: ys).Pairwise (fun a b => lexLe b a) := by
    rw [← hx]
    exact List.pairwise_reverse.mpr hs
  have hn : (neg x :: ys.map neg).Pairwise lexLe := by
    have : ((x :: ys).map neg).Pairwise lexLe := List.pairwise_map.mpr (hd.imp fun h => lex_neg h)
    exact this
  have en : halfR (neg x :: ys.map neg) = (halfR (x :: ys)).map neg := half_neg (x :: ys) []
  have hmin : ∀ c ∈ m :: qs, lexLe m c := fun c hc => by
    rcases List.mem_cons.mp hc with rfl | hc
    · unfold lexLe
      omega
    · exact (List.pairwise_cons.mp hs).1 c hc
  have hmax : ∀ c ∈ m :: qs, lexLe c x := fun c hc => by
    rcases List.mem_cons.mp ((mem c).mp hc) with rfl | hc
    · unfold lexLe
      omega
    · exact (List.pairwise_cons.mp hd).1 c hc
  rw [hx] at hlen ⊢
  rcases half_side2 hs with ⟨M, r, e, h1, h2, h3, h4, h5, h6⟩ | ⟨h1, h2⟩
  · have hM : M = x := lex_anti (hmax M h4) (h3 x ((mem x).mpr (List.mem_cons_self ..)))
    subst hM
    rcases half_side2 hn with ⟨N, s, e', g1, g2, g3, g4, g5, g6⟩ | ⟨g1, g2⟩
    · rw [en] at e'
      cases hU : halfR (M :: ys) with
      | nil => rw [hU] at e'; cases e'
      | cons u us =>
      rw [hU] at e'
      obtain ⟨eN, es⟩ := List.cons.inj e'
      have inv : ∀ c, c ∈ neg M :: ys.map neg → neg c ∈ m :: qs := fun c hc => by
        obtain ⟨d, hd, rfl⟩ := List.mem_map.mp (show c ∈ (M :: ys).map neg from hc)
        rw [neg_neg']
        exact (mem d).mpr hd
      have hu : u = m := by
        refine lex_anti ?_ ?_
        · have := lex_neg (g3 (neg m) ((List.mem_map (l := M :: ys)).mpr ⟨m, (mem m).mp (List.mem_cons_self ..), rfl⟩))
          rw [← eN, neg_neg', neg_neg'] at this
          exact this
        · have := inv N g4
          rw [← eN, neg_neg'] at this
          exact hmin u this
      subst hu
      have hus : us.getLast? = some M := by
        rw [← es] at g1
        rw [List.getLast?_map] at g1
        cases hq : us.getLast? with
        | none => rw [hq] at g1; cases g1
        | some y =>
          rw [hq] at g1
          have : neg y = neg M := by simpa using g1
          have := congrArg neg this
          rw [neg_neg', neg_neg'] at this
          rw [this]
      obtain ⟨r', hr⟩ := last_rev h1
      obtain ⟨us', hus'⟩ := last_rev hus
      rw [e]
      show Dst (r.reverse ++ us.reverse)
      have tk : (r.reverse ++ us.reverse).take 1 = [u] := by
        rw [hr]
        rfl
      have e2 : eds ((r.reverse ++ us.reverse) ++ [u]) = eds (M :: r).reverse ++ eds (u :: us).reverse := by
        rw [List.reverse_cons, List.reverse_cons, hus', List.append_assoc]
        exact eds_join M (us' ++ [u]) r.reverse
      have g2' : (edsR (u :: us)).Pairwise (fun u v => 0 < crs v u) ∧ ∀ v ∈ edsR (u :: us), lexP (neg v) := by
        rw [← es, ← eN, show neg u :: us.map neg = (u :: us).map neg from rfl, edsR_neg] at g2
        refine ⟨List.Pairwise.imp (fun {a b} h => ?_) (List.pairwise_map.mp g2.1), fun v hv => g2.2 _ (List.mem_map.mpr ⟨v, hv, rfl⟩)⟩
        rw [crs_neg] at h
        exact h
      unfold Dst
      rw [tk, e2, eds_rev, eds_rev]
      refine List.pairwise_append.mpr ⟨List.pairwise_reverse.mpr (h2.1.imp fun h => nsd_of h), List.pairwise_reverse.mpr (g2'.1.imp fun h => nsd_of h), fun a ha b hb => nsd_opp (h2.2 a (List.mem_reverse.mp ha)) (g2'.2 b (List.mem_reverse.mp hb))⟩
    · exfalso
      have q1 := g2 (neg m) ((List.mem_map (l := M :: ys)).mpr ⟨m, (mem m).mp (List.mem_cons_self ..), rfl⟩)
      have := congrArg neg q1
      rw [neg_neg', neg_neg'] at this
      exact h6 this
  · rcases half_side2 hn with ⟨N, s, e', g1, g2, g3, g4, g5, g6⟩ | ⟨g1, g2⟩
    · exfalso
      obtain ⟨d, hd, rfl⟩ := List.mem_map.mp (show N ∈ (x :: ys).map neg from g4)
      rw [h2 d ((mem d).mpr hd), h2 x ((mem x).mpr (List.mem_cons_self ..))] at g6
      exact g6 rfl
    · exfalso
      apply hlen
      rw [en] at g1
      simp only [List.length_append, List.length_reverse, List.length_tail, List.length_map] at h1 g1 ⊢
      omega

/-! ### sorted(set(..)) of pairs -/
section
open PySem PySem.Spec PyProof.Rows L2
def kI (h : Heap) (v : Value) : Int × Int := ((TS.intsOf h v).getD 0 0, (TS.intsOf h v).getD 1 0)
theorem kI_is {P : Program} {w : World} {h : Heap} {b : Addr} {x y : Int} (t : IsT P w h [x, y] b) : kI h (.ref b) = (x, y) := by
  unfold kI
  have e : TS.intsOf h (.ref b) = [x, y] := (tupInts_of t).ints
  rw [e]
  rfl
theorem pair_of_isT {P : Program} {w : World} {h : Heap} {b : Addr} {x y : Int} (t : IsT P w h [x, y] b) : Srt.IsPair h (.ref b) x y := by
  obtain ⟨o, items, n, ho, hc, hd, hi⟩ := t
  have h2 := ints_of_items hi
  obtain ⟨l⟩ := items
  cases h2 with
  | cons _ t1 h3 =>
    cases h3 with
    | cons _ t2 h4 =>
      cases h4
      exact ⟨b, o, t1, t2, n, rfl, ho, hc, hd⟩
theorem sorted_setP {P : Program} {w : World} {A : Around} {E : Value → Shared → Prop} {s : Shared} {a : Addr} {L : List (Addr × List Int)} {es : Array (Int × Value)} {ep : Nat} {t : SetTable} {Q : Value → Shared → Prop} (R : SetTR P w s.heap a L es ep t) (hh : A.handled = none)
    (hB : ∀ p ∈ L, ∃ x y, p.2 = [x, y])
    (hQ : ∀ s' p (out : Array Value) (c : Nat) (L' : List (Addr × List Int)), (∀ b o, s.heap.get? b = some o → s'.heap.get? b = some o) → s'.gens = s.gens → s'.os = s.os → s.heap.objs.size ≤ p →
      s'.heap.get? p = some (seqObj "list" out c) → out.toList = L'.map (fun q => Value.ref q.1) → L'.Perm L → L'.Pairwise (fun q r => SrtO.lexB (r.2.getD 0 0, r.2.getD 1 0) (q.2.getD 0 0, q.2.getD 1 0) = false) → Q (.ref p) s') :
    wpAny (model P w) A (call (.builtin "sorted") [.ref a]) Q E s := by
  obtain ⟨o, ho, hex, hd⟩ := R.ob
  have hsz := R.size
  have hfew := R.few
  refine Calls.call_function_entry kind_sorted plain_sorted entry_sorted (args_sorted1 _) ?_
  unfold Builtin.«sorted»
  refine wpAny_bind (m := checkCount "sorted" 1 1 _) (wpAny_pure ?_)
  refine wpAny_bind (collect_set (A := A.in1) hh ⟨o, ho, hex.1, hd⟩ R.fits (by unfold scanBound; omega) R.tab.ris R.led fun s1 vs k1 hz g1 o1 pm => ?_)
  have hes : es.toList.map (·.2) = L.map fun q => Value.ref q.1 := by
    rw [R.rows]
    unfold rowsOf
    rw [List.map_map] <;> rfl
  rw [hes] at pm
  have ord : ∀ vs : List Value, (∀ v ∈ vs, ∃ q ∈ L, v = Value.ref q.1) → ∃ L1 : List (Addr × List Int), vs = L1.map (fun q => Value.ref q.1) ∧ ∀ q ∈ L1, q ∈ L := by
    intro vs
    induction vs with
    | nil => intro _; exact ⟨[], rfl, fun q hq => (by cases hq)⟩
    | cons v vs ih =>
      intro hv
      obtain ⟨q, hq, e⟩ := hv v List.mem_cons_self
      obtain ⟨L1, e1, hs⟩ := ih fun u hu => hv u (List.mem_cons_of_mem _ hu)
      refine ⟨q :: L1, by rw [List.map_cons, e, e1], fun r hr => ?_⟩
      rcases List.mem_cons.mp hr with z | z
      · rw [z]; exact hq
      · exact hs r z
  have one : ∀ q ∈ L, ∀ r ∈ L, q.1 = r.1 → q = r := fun q hq r hr e => by
    have a1 := R.tup q hq
    have a2 := R.tup r hr
    rw [e] at a1
    have e2 : q.2 = r.2 := a1.inj a2
    exact Prod.ext e e2
  have perm_of : ∀ L1 : List (Addr × List Int), (∀ q ∈ L1, q ∈ L) → (L1.map (fun q => Value.ref q.1)).Perm (L.map fun q => Value.ref q.1) → L1.Perm L := by
    intro L1 hs pm1
    have nL : L.Nodup := nodup_of_map R.nd
    have nref : (L.map fun q => Value.ref q.1).Nodup := by
      refine List.pairwise_map.mpr (List.Pairwise.imp_of_mem (fun {q r} hq hr hne e => ?_) nL)
      injection e with e
      exact hne (one q hq r hr e)
    have n1 : L1.Nodup := nodup_of_map (pm1.nodup_iff.mpr nref)
    refine (List.perm_ext_iff_of_nodup n1 nL).mpr fun q => ⟨hs q, fun hq => ?_⟩
    have hm : Value.ref q.1 ∈ L1.map (fun q => Value.ref q.1) := pm1.mem_iff.mpr (List.mem_map.mpr ⟨q, hq, rfl⟩)
    obtain ⟨r, hr, e⟩ := List.mem_map.mp hm
    injection e with e
    rw [← one r (hs r hr) q hq e]
    exact hr
  have hvl : vs.length < 64 := by rw [pm.length_eq, List.length_map]; exact hfew
  have hvz : vs.length ≤ sizeLine := by rw [sizeLine_eq]; omega
  refine wpAny_bind (wpAny_newList ?_ hvz)
  have hoL : (s1.heap.push (seqObj "list" vs.toArray 0)).get? s1.heap.objs.size = some (seqObj "list" vs.toArray 0) := Heap.get?_push_size _ rfl
  have tk : ∀ q ∈ L, IsT P w (s1.heap.push (seqObj "list" vs.toArray 0)) q.2 q.1 := fun q hq => isT_keep (R.tup q hq) fun b u e => Heap.get?_push_of_some _ (k1 b u e)
  have x : ∀ v ∈ vs, Srt.IsPair (s1.heap.push (seqObj "list" vs.toArray 0)) v (kI (s1.heap.push (seqObj "list" vs.toArray 0)) v).1 (kI (s1.heap.push (seqObj "list" vs.toArray 0)) v).2 := fun v hv => by
    obtain ⟨q, hq, e⟩ := List.mem_map.mp (pm.mem_iff.mp hv)
    obtain ⟨a1, a2, e2⟩ := hB q hq
    have t1 := tk q hq
    rw [e2] at t1
    rw [← e, kI_is t1]
    exact pair_of_isT t1
  refine wpAny_bind (wpAny_holding (wpAny_call_entry slot_list_sort ⟨_, hoL, rfl⟩ entry_list_sort (SrtO.list_sort_ord (s := { s1 with heap := s1.heap.push (seqObj "list" vs.toArray 0) }) (SrtO.swo_lex (kI (s1.heap.push (seqObj "list" vs.toArray 0)))) hoL hvz (fun h2 => SrtO.pairs_sortableO (by omega) x fun o e => ?_) fun out hs hb => ⟨_, rfl, ?_⟩) (args_list_sort _)))
  · have e' : some o = some (seqObj "list" vs.toArray 0) := e.symm.trans hoL
    cases e'
    intro c
    exact absurd (Value.type.inj c) (by decide)
  obtain ⟨c, hc⟩ := sortedHeap_at (vs := vs) (out := out.toArray) hoL
  obtain ⟨L', e', hs'⟩ := ord out fun v hv => by
    obtain ⟨q, hq, e⟩ := List.mem_map.mp (pm.mem_iff.mp (hb.perm.mem_iff.mp hv))
    exact ⟨q, hq, e.symm⟩
  have pL : L'.Perm L := perm_of L' hs' (by rw [← e']; exact hb.perm.trans pm)
  have pw : L'.Pairwise (fun q r => SrtO.lexB (r.2.getD 0 0, r.2.getD 1 0) (q.2.getD 0 0, q.2.getD 1 0) = false) := by
    rw [e'] at hs
    have kk : ∀ q ∈ L', kI (s1.heap.push (seqObj "list" vs.toArray 0)) (.ref q.1) = (q.2.getD 0 0, q.2.getD 1 0) := fun q hq => by
      obtain ⟨a1, a2, e2⟩ := hB q (hs' q hq)
      have t1 := tk q (hs' q hq)
      rw [e2] at t1
      rw [kI_is t1, e2]
      rfl
    refine List.Pairwise.imp_of_mem (fun {q r} hq hr hle => ?_) (List.pairwise_map.mp hs)
    rw [← kk q hq, ← kk r hr]
    exact hle
  refine wpAny_pure ⟨_, rfl, hQ _ s1.heap.objs.size out.toArray c L' (fun b u e => ?_) g1 o1 hz hc (by simpa using e') pL pw⟩
  have q := k1 b u e
  have hlt := Heap.lt_size q
  show (sortedHeap (s1.heap.push (seqObj "list" vs.toArray 0)) s1.heap.objs.size vs out.toArray).get? b = some u
  rw [sortedHeap_old (Nat.ne_of_lt hlt) (by rw [size_push']; exact Nat.lt_succ_of_lt hlt)]
  exact Heap.get?_push_of_some _ q
def rSortP2 (K : PySem.W.Frag) (P : Program) (w : World) : List V → Hp → VK → Prop := fun vs H Q => ∃ (a : Addr) (L : List (Addr × List Int)), vs = [V.ref a] ∧ H a = some (SetTO P w a L) ∧ (∀ p ∈ L, SqT K H p.1 (p.2.map V.int)) ∧
  (∀ p ∈ L, ∃ x y, p.2 = [x, y]) ∧
  ∀ (L' : List (Addr × List Int)) (p : Addr), L'.Perm L → (L'.map (·.2)).Nodup → L'.length < 64 → L'.Pairwise (fun q r => SrtO.lexB (r.2.getD 0 0, r.2.getD 1 0) (q.2.getD 0 0, q.2.getD 1 0) = false) → H p = none → Q (.ref p) (upd H p (.lst (L'.map fun q => V.ref q.1)))
theorem cr_sortP2 {X : Cx} (hc : X.calm = true) : CallR X (.builtin "sorted") (rSortP2 X.K X.prog X.w) := by
  intro pins s σ H vs us Q I r h
  obtain ⟨a, L, rfl, ha, hk, hB, q⟩ := h
  have R0 : SetT0 X.prog X.w s.heap a L := (I.hok a _ ha).1
  obtain ⟨es, ep, t, R⟩ := R0.full fun p hp => I.isT (hk p hp)
  rw [Vals.ref1 r]
  refine sorted_setP R (I.ok.hd hc) hB fun s' p out c L' k g o hp hg hout pm pw => ?_
  have hfew : L'.length < 64 := by rw [pm.length_eq]; exact R.few
  have hlen : (L'.map fun q => V.ref q.1).length ≤ sizeLine := by rw [List.length_map, sizeLine_eq]; omega
  have hn : H p = none := I.hok.fresh hp
  have hv : Vals (L'.map fun q => V.ref q.1) out.toList := by rw [hout]; exact vals_of_refs L'
  have J : Inv X pins σ (upd H p (.lst (L'.map fun q => V.ref q.1))) { s with heap := s'.heap, gens := s'.gens, drawn := s'.drawn, toks := s'.toks } :=
    I.call (ch := []) (Un.laid k hp hn) (I.hok.laid k hp ⟨hlen, out.toList, c, hv, hg⟩) (by rw [g]; exact I.bare) (fun _ z => nomatch z)
  have e : s' = { s with heap := s'.heap, gens := s'.gens, drawn := s'.drawn, toks := s'.toks } := by
    cases s'
    cases s
    cases o
    rfl
  rw [e]
  exact ⟨.ref p, _, J, rfl, q L' p pm ((pm.map (·.2)).nodup_iff.mpr R.nd) hfew pw hn⟩
end

/-! ### sorted(set(..)) of pairs in the mirror -/
section
variable {K : PySem.W.Frag}
def rSetT (K : PySem.W.Frag) (P : Program) (w : World) : List V → Hp → VK → Prop := rSetOfT K P w
theorem k_setT {X : Cx} (hK : X.K = K) (hc : X.calm = true) (hu : X.A.units + 64 < cLine) : CallR X (.type "set") (rSetT K X.prog X.w) := hK ▸ cr_setOfT hc hu
theorem k_sortT {X : Cx} (hK : X.K = K) (hc : X.calm = true) : CallR X (.builtin "sorted") (rSortP2 K X.prog X.w) := hK ▸ cr_sortP2 hc
theorem pts_ks {W : Wd} {H : Hp} : ∀ {ps : List Pt} {us : List V}, AtAll K W H us (ps.map pt) → ∃ ks : List (Addr × List Int), us = (ks.map fun p => V.ref p.1) ∧ ks.map (·.2) = ps.map (fun p => [p.1, p.2]) ∧ ∀ k ∈ ks, SqT K H k.1 (k.2.map V.int) ∧ ∃ p : Pt, k.2 = [p.1, p.2] ∧ At K W H (.ref k.1) (pt p)
  | [], _, h => by cases h; exact ⟨[], rfl, rfl, fun z hz => by cases hz⟩
  | p :: ps, _, h => by
    cases h with
    | @cons v vs _ _ a r =>
      obtain ⟨ks, h1, h2, h3⟩ := pts_ks r
      have a' := a
      cases a' with
      | @tup t xs _ s b =>
        cases b with
        | cons b1 b =>
          cases b with
          | cons b2 b =>
            cases b
            cases b1
            cases b2
            refine ⟨(t, [p.1, p.2]) :: ks, by rw [List.map_cons, h1], by rw [List.map_cons, h2, List.map_cons], fun k hk => ?_⟩
            rcases List.mem_cons.mp hk with rfl | hk
            · exact ⟨s, p, rfl, a⟩
            · exact h3 k hk
theorem ks_at {W : Wd} {H : Hp} : ∀ {L : List (Addr × List Int)}, (∀ k ∈ L, ∃ p : Pt, k.2 = [p.1, p.2] ∧ At K W H (.ref k.1) (pt p)) → AtAll K W H (L.map fun q => V.ref q.1) ((L.map fun q => ((q.2.getD 0 0, q.2.getD 1 0) : Pt)).map pt)
  | [], _ => .nil
  | k :: L, h => by
    obtain ⟨p, e, a⟩ := h k List.mem_cons_self
    refine .cons ?_ (ks_at fun z hz => h z (List.mem_cons_of_mem _ hz))
    show At K W H (.ref k.1) (pt (k.2.getD 0 0, k.2.getD 1 0))
    rw [e]
    exact a
def aSS (f : AE) : AE := fun ρ n Q => f ρ n fun d n1 => ∃ ps : List Pt, d = .lst (ps.map pt) ∧ ps.length < 64 ∧ ∀ rs : List Pt, rs.Nodup → (∀ p, p ∈ rs ↔ p ∈ ps) → rs.Pairwise lexLe → Q (.lst (rs.map pt)) n1
instance {P : Program} {w : World} {te : TE} {f : AE} [DE K te f] : DE K (tCB (rSortP2 K P w) (tCons (tCB (rSetT K P w) (tCons te tNil)) tNil)) (aSS f) := ⟨fun W σ ρ n H Q Qa hQ hE o h =>
  DE.run (te := te) (f := f) W σ ρ n H _ _ (fun d n1 h1 H1 x l1 o1 ax => by
    obtain ⟨ps, rfl, hl, q⟩ := h1
    cases ax with
    | @lst l us _ nr s a =>
      obtain ⟨ks, rfl, h2, h3⟩ := pts_ks a
      have hkl : ks.length = ps.length := by simpa using congrArg List.length h2
      refine ⟨l, ks, rfl, SqL.of s, fun p hp => (h3 p hp).1, by omega, fun c L hc hL1 hL2 => ?_⟩
      have s1 : Same H1 (upd H1 c (SetTO P w c L)) := same_upd hc
      refine ⟨c, L, rfl, upd_same, fun p hp => Same.seqT s1 (h3 p (hL1 p hp)).1, fun p hp => ?_, fun L' p pm nd hlen pw hp => ?_⟩
      · obtain ⟨_, z, e, _⟩ := h3 p (hL1 p hp)
        exact ⟨_, _, e⟩
      · have o2 := o1.same s1
        have hin : ∀ k ∈ L', k ∈ ks := fun k hk => hL1 k (pm.mem_iff.mp hk)
        have hshape : ∀ k ∈ L', k.2 = [k.2.getD 0 0, k.2.getD 1 0] := fun k hk => by
          obtain ⟨_, z, e, _⟩ := h3 k (hin k hk)
          rw [e]
          rfl
        refine ((hQ.le l1).le (Wd.le_same s1)).new o2 (q (L'.map fun q => (q.2.getD 0 0, q.2.getD 1 0)) ?_ ?_ ?_) hp ?_
        · refine List.pairwise_map.mpr (List.Pairwise.imp_of_mem (fun {a b} ha hb hne e => hne ?_) (List.pairwise_map.mp nd))
          have e1 := congrArg Prod.fst e
          have e2 := congrArg Prod.snd e
          simp only at e1 e2
          rw [hshape a ha, hshape b hb, e1, e2]
        · intro p
          constructor
          · intro hm
            obtain ⟨k, hk, e⟩ := List.mem_map.mp hm
            have : k.2 ∈ ps.map (fun p => [p.1, p.2]) := by rw [← h2]; exact List.mem_map.mpr ⟨k, hin k hk, rfl⟩
            obtain ⟨z, hz, ez⟩ := List.mem_map.mp this
            rw [← ez] at e
            rw [← e]
            exact hz
          · intro hm
            have : [p.1, p.2] ∈ ks.map (·.2) := by rw [h2]; exact List.mem_map.mpr ⟨p, hm, rfl⟩
            obtain ⟨k, hk, e⟩ := List.mem_map.mp this
            have h4 := hL2 k hk
            rw [e] at h4
            obtain ⟨k', hk', e'⟩ := List.mem_map.mp h4
            refine List.mem_map.mpr ⟨k', pm.mem_iff.mpr hk', ?_⟩
            rw [e']
            rfl
        · refine List.pairwise_map.mpr (pw.imp fun {a b} h => ?_)
          have := SrtO.lexB_no.mp h
          unfold lexLe
          simp only at this ⊢
          omega
        · refine .lst (o2.fresh hp) upd_same ?_
          refine AtAll.le o2 (Wd.le_same (same_upd hp)) _ ?_
          refine ks_at fun k hk => ?_
          obtain ⟨_, z, e, az⟩ := h3 k (hin k hk)
          exact ⟨z, e, At.le o1 (Wd.le_same s1) _ az⟩) hE o h⟩
end

/-! ### lists that a call tells, new ones: they may be built on -/
section
variable {K : PySem.W.Frag} {ow : List Nat} {Wx : WX}
def WantsN (K : PySem.W.Frag) (W : Wd) (H : Hp) (Qa : D → Nat → Prop) (Q : VK) : Prop := ∀ d n', Qa d n' → ∀ H' v, W.le H H' → W.ok K n' H' → At K W H' v d → (∀ a, v = .ref a → H a = none) → Q v H'
/-- the promise of a def that tells a new list -/
def spNew (K : PySem.W.Frag) (k : Nat) (A : ASp) : Sp := fun vs H Q _ => ∃ (W : Wd) (n : Nat) (ds : List D) (Qa : D → Nat → Prop), AtAll K W H vs ds ∧ ds.length = k ∧ W.ok K n H ∧ WantsN K W H Qa Q ∧ A ds n Qa
theorem new_plain {P : Program} {w : World} {mg : Str → Option Value} {base : Heap} {CX : CXT} {j k : Nat} {f : Addr} {fd : FuncData} {ps : List Str} {A : ASp} (F : FnOk P w K mg base CX j f fd ps (spNew K k A)) : FnOk P w K mg base CX j f fd ps (spOf K k A) := F.imp fun vs H Q E ⟨W, n, ds, Qa, a, hl, o, hQ, h⟩ => ⟨W, n, ds, Qa, a, hl, o, fun d n' q H' v l o' av _ => hQ d n' q H' v l o' av, h⟩
theorem pss_assoc {X : Cx} {ss : List Stmt} {t u v : TS} (h : PSs X ss (tSeq t (tSeq u v))) : PSs X ss (tSeq (tSeq t u) v) := h
theorem fn_mirN {P : Program} {w : World} {mg : Str → Option Value} {base : Heap} {x qual : Str} {st : Stmt} {f : Addr} {fd : FuncData} {N ps : List Str} {k : Nat} {A : ASp} (ow : List Nat) (kk i : Nat) (hk : N.length = kk) (hp : ps.length ≤ kk) (ho : ∀ i ∈ ow, ps.length ≤ i) (hi : i ∈ ow) (F : Fun K x qual st f fd) (S : FnScope N ps (defScope st))
    (hbody : ∀ (cdv : Value) (Ar : Around) (outer : List Env) (s : Shared) (H : Hp) (E : XK), Room k (Ar.deeper (envOfC qual (defScope st) s.heap.objs.size f cdv)) →
      ∃ (t : TS) (fa : AS), PSs (cxOf CX0 P w K mg base N qual (defScope st) f cdv Ar outer s H E).nox (defBody st) (tSeq t (tRet (tVar i))) ∧ DS K W0 ow t fa ∧ ∀ ds n Q, ds.length = ps.length → A ds n Q → fa { nx := fun ρ n' => ∃ d, eGet ρ i = some d ∧ Q d n', rt := fun _ _ => False } (startA kk ds) n) : FnOk P w K mg base CX0 (k + 1) f fd ps (spNew K ps.length A) := by
  refine F.ok S (fun vs H Q E h => ?_) (fun cdv Ar outer s H vs Q E hr h => ?_)
  · obtain ⟨W, n, ds, Qa, a, hl, _⟩ := h
    rw [a.length, hl]
  · obtain ⟨W, n, ds, Qa, a, hl, o, hQ, hA⟩ := h
    obtain ⟨t, fa, h1, h2, h3⟩ := hbody cdv Ar outer s H E hr
    refine ⟨_, h1, ?_⟩
    refine DS.run (Wx := W0) (ow := ow) (t := t) (f := fa) W [] (L2.start N vs) (startA kk ds) n H _ { nx := fun ρ n' => ∃ d, eGet ρ i = some d ∧ Qa d n', rt := fun _ _ => False } ⟨fun ρ' n' ⟨d, e, q⟩ U' σ' H' stp sok => ?_, fun d n' q => q.elim, fun _ _ q => q.elim, fun _ _ q => q.elim, fun _ _ _ _ _ q => q.elim⟩ (start_ok hk (by omega) (fun i hi => by rw [hl]; exact ho i hi) a o) (h3 ds n Qa hl hA)
    obtain ⟨u, hu, e1, _⟩ := sok.own i d hi e
    obtain ⟨v, e2, av⟩ := sok.opn.2 i d e
    refine ⟨v, e2, hQ d n' q H' v (le_start stp) sok.base av fun b hb => ?_⟩
    rw [e1] at e2
    have : V.ref u.1 = v := Option.some.inj (Option.some.inj e2)
    rw [hb] at this
    have hub : u.1 = b := V.ref.inj this
    rw [← hub]
    exact stp.new u.1 (Wd.rs_plus.mpr (.inl (List.mem_map.mpr ⟨u, hu, rfl⟩))) (fun z => sok.nr u hu (by
      rcases Wd.rs_plus.mp z with z | z
      · cases z
      · exact z))
/-- things without lists -/
inductive Flt : D → Prop
  | int (i : Int) : Flt (.int i)
  | str (x : Str) : Flt (.str x)
  | pair (i j : Int) : Flt (.tup [.int i, .int j])
def less (H : Hp) (a : Addr) : Hp := fun x => if x = a then none else H x
theorem less_ne {H : Hp} {a x : Addr} (h : x ≠ a) : less H a x = H x := if_neg h
theorem less_same {H : Hp} {a : Addr} : less H a a = none := if_pos rfl
theorem less_back {H : Hp} {a : Addr} {o : HO} (h : H a = some o) : upd (less H a) a o = H := by
  funext x
  by_cases e : x = a
  · subst e; rw [upd_same, h]
  · rw [upd_ne e, less_ne e]
theorem sqt_less {H : Hp} {a x : Addr} {us xs : List V} (ha : H a = some (.lst us)) (h : SqT K H x xs) : SqT K (less H a) x xs := by
  rcases h with (h | ⟨o, h⟩) | h
  · exact .inl (.inl (by rw [less_ne (fun e => by rw [e, ha] at h; cases h)]; exact h))
  · exact .inl (.inr ⟨o, by rw [less_ne (fun e => by rw [e, ha] at h; cases h)]; exact h⟩)
  · exact .inr h
theorem flt_less {W : Wd} {H : Hp} {a : Addr} {us : List V} (ha : H a = some (.lst us)) : ∀ {d : D} {v : V}, Flt d → At K W H v d → At K W (less H a) v d
  | _, _, .int i, h => by cases h; exact .int i
  | _, _, .str x, h => by cases h; exact .str x
  | _, _, .pair i j, h => by
    cases h with
    | tup s b =>
      cases b with
      | cons b1 b =>
        cases b with
        | cons b2 b =>
          cases b
          cases b1
          cases b2
          exact .tup (sqt_less ha s) (.cons (.int i) (.cons (.int j) .nil))
theorem fltAll_less {W : Wd} {H : Hp} {a : Addr} {us : List V} (ha : H a = some (.lst us)) : ∀ {ds : List D} {vs : List V}, (∀ d ∈ ds, Flt d) → AtAll K W H vs ds → AtAll K W (less H a) vs ds
  | [], _, _, h => by cases h; exact .nil
  | d :: ds, _, hf, h => by
    cases h with
    | cons b r => exact .cons (flt_less ha (hf d List.mem_cons_self) b) (fltAll_less ha (fun x hx => hf x (List.mem_cons_of_mem _ hx)) r)
theorem ok_less {W : Wd} {n : Nat} {H : Hp} {a : Addr} {us : List V} (o : W.ok K n H) (ha : H a = some (.lst us)) (nr : ¬ W.rs a) : W.ok K n (less H a) := by
  refine ⟨fun d b e => ?_, fun p hp => ?_, o.dis⟩
  · obtain ⟨c, ⟨⟨s, ns, cs, i, k, h1, h2, h3, h4⟩, ne⟩, l⟩ := o.deck d b e
    have nd : d ≠ a := fun z => nr (.inl ⟨d, b, e, .inl z.symm⟩)
    have nb : b ≠ a := fun z => nr (.inl ⟨d, b, e, .inr z.symm⟩)
    refine ⟨c, ⟨⟨s, ns, cs, i, k, by rw [less_ne nd]; exact h1, by rw [less_ne nb]; exact h2, ?_, h4⟩, ne⟩, l⟩
    rcases h3 with ⟨ob, h⟩ | h
    · exact .inl ⟨ob, by rw [less_ne (fun z => by rw [z, ha] at h; cases h)]; exact h⟩
    · exact .inr h
  · obtain ⟨h1, h2⟩ := o.owns p hp
    have np : p.1 ≠ a := fun z => nr (.inr (List.mem_map.mpr ⟨p, hp, z⟩))
    exact ⟨by rw [less_ne np]; exact h1, h2⟩
def tOwnC (K : PySem.W.Frag) (i k : Nat) (A : ASp) (E : XK) (ta : TA) : TS := tAsg (tCall (spNew K k A) [] E ta) (gName i)
theorem k_ownC {X : Cx} {st : Stmt} {i k : Nat} {A : ASp} {E : XK} {ta : TA} (h : PS X st (tAsg (tCall (spNew K k A) [] E ta) (gName i))) : PS X st (tOwnC K i k A E ta) := h
def aOwnC (ow : List Nat) (i k : Nat) (A : ASp) (g : AA) : AS := fun E ρ n => g (wipeA ρ ow) n fun ds n1 => match Nat.beq ds.length k, ow.contains i with
  | true, true => A ds n1 fun d n2 => ∃ es, d = .lst es ∧ (∀ e ∈ es, Flt e) ∧ E.nx (eSet ρ i (some (.lst es))) n2
  | _, _ => False
instance {i k : Nat} {A : ASp} {E0' : XK} {ta : TA} {g : AA} [DA K ta g] : DS K Wx ow (tOwnC K i k A E0' ta) (aOwnC ow i k A g) := ⟨fun W U σ ρ n H E Ea hD s h =>
  DA.run (te := ta) (f := g) (W.plus U) σ _ n H _ _ (fun ds n1 h1 H1 vs l1 o1 ax => by
    rw [List.append_nil]
    split at h1
    · rename_i hb hc
      refine ⟨W.plus U, n1, ds, _, ax, Nat.eq_of_beq_eq_true hb, o1, ?_, h1⟩
      rintro d n2 ⟨es, rfl, hf, q⟩ H2 v l2 o2 av fresh
      cases av with
      | @lst a us _ nr ha as =>
        have h0 : H1 a = none := fresh a rfl
        have l3 : (W.plus U).le H1 (less H2 a) := fun x ob r e => by
          rw [less_ne (fun z => by rw [z, h0] at e; cases e)]
          exact l2 x ob r e
        have o3 := ok_less o2 ha nr
        obtain ⟨st, s2⟩ := ((s.le l1 o1).le l3 o3).new (List.contains_iff_mem.mp hc) less_same (fltAll_less ha hf as)
        rw [less_back ha] at st s2
        exact hD.nx _ _ q _ _ _ (((Stp.hid l1).trans (Stp.hid l3)).trans st) s2
    · exact h1.elim) s.hid s.ok h⟩
/-! the rest of a def in which the built lists are only read -/
def tOpenS (t : TS) : TS := t
theorem k_openS {X : Cx} {ss : List Stmt} {t : TS} (h : PSs X ss t) : PSs X ss (tOpenS t) := h
def aOpenS (f : AS) : AS := fun E ρ n => f { nx := fun _ _ => False, rt := E.rt } ρ n
instance {t : TS} {f : AS} [DS K Wx [] t f] : DS K Wx ow (tOpenS t) (aOpenS f) := ⟨fun W U σ ρ n H E Ea hD s h =>
  DS.run (Wx := Wx) (ow := []) (t := t) (f := f) W [] σ ρ n H E { nx := fun _ _ => False, rt := Ea.rt } ⟨fun _ _ q => q.elim, fun d n' q U1 H1 H' v st l2 o' a' => hD.rt d n' q U H H' v Stp.refl ((le_start st).trans l2) o' a', fun _ _ q => q.elim, fun _ _ q => q.elim, fun _ _ _ _ _ q => q.elim⟩
    ⟨List.nodup_nil, fun u hu => (by cases hu), s.base, s.opn.1, fun i d _ he => s.opn.2 i d he, fun i d hi _ => (by cases hi), fun i j p hi _ _ _ _ => (by cases hi)⟩ h⟩
end

/-! ### built lists that begin as a sum of lists, or go on as one -/
section
variable {K : PySem.W.Frag} {ow : List Nat} {Wx : WX}
def tOwnP (K : PySem.W.Frag) (i : Nat) (ta tb : TE) : TS := tAsg (tOp (rAddA K) ta tb) (gName i)
theorem k_ownP {X : Cx} {st : Stmt} {i : Nat} {ta tb : TE} (h : PS X st (tAsg (tOp (rAddA K) ta tb) (gName i))) : PS X st (tOwnP K i ta tb) := h
def aOwnP (ow : List Nat) (i : Nat) (fa fb : AE) : AS := fun E ρ n => fa (wipeA ρ ow) n fun d n1 => fb (wipeA ρ ow) n1 fun e n2 => match d, e, ow.contains i with
  | .lst ds, .lst es, true => ds.length + es.length ≤ 1000000 ∧ E.nx (eSet ρ i (some (.lst (ds ++ es)))) n2
  | _, _, _ => False
instance {i : Nat} {ta tb : TE} {fa fb : AE} [DE K ta fa] [DE K tb fb] : DS K Wx ow (tOwnP K i ta tb) (aOwnP ow i fa fb) := ⟨fun W U σ ρ n H E Ea hD s h =>
  DE.run (te := ta) (f := fa) (W.plus U) σ _ n H _ _ (fun d n1 h1 H1 x l1 o1 ax => DE.run (te := tb) (f := fb) (W.plus U) σ _ n1 H1 _ _ (fun e n2 h2 H2 y l2 o2 ay => by
    split at h2
    · rename_i ds es hc
      have ax2 := At.le o1 l2 _ ax
      cases ax2 with
      | lst r s1 a =>
        cases ay with
        | lst r' s2 a' =>
          refine .inl (.inr ⟨_, _, _, _, rfl, rfl, s1, s2, ?_, fun p hp => ?_⟩)
          · rw [a.length, a'.length]
            exact Nat.le_trans h2.1 lim
          · obtain ⟨st, s3⟩ := ((s.le l1 o1).le l2 o2).new (List.contains_iff_mem.mp hc) hp (a.append a')
            exact hD.nx _ _ h2.2 _ _ _ (((Stp.hid l1).trans (Stp.hid l2)).trans st) s3
    · exact h2.elim) (s.hid.le s.ok l1) o1 h1) s.hid s.ok h⟩
def tOwnA (K : PySem.W.Frag) (i : Nat) (tb : TE) : TS := tAsg (tOp (rAddA K) (tVar i) tb) (gName i)
theorem k_ownA {X : Cx} {st : Stmt} {i : Nat} {tb : TE} (h : PS X st (tAsg (tOp (rAddA K) (tVar i) tb) (gName i))) : PS X st (tOwnA K i tb) := h
def aOwnA (ow : List Nat) (i : Nat) (fb : AE) : AS := fun E ρ n => match eGet ρ i, ow.contains i with
  | some (.lst ds), true => fb (wipeA ρ ow) n fun e n2 => (match e with
    | .lst es => ds.length + es.length ≤ 1000000 ∧ E.nx (eSet ρ i (some (.lst (ds ++ es)))) n2
    | _ => False)
  | _, _ => False
instance {i : Nat} {tb : TE} {fb : AE} [DE K tb fb] : DS K Wx ow (tOwnA K i tb) (aOwnA ow i fb) := ⟨fun W U σ ρ n H E Ea hD s h => by
  unfold aOwnA at h
  split at h
  · rename_i ds he hc
    have hi := List.contains_iff_mem.mp hc
    obtain ⟨u, hu, e1, a0⟩ := s.own i _ hi he
    refine ⟨_, e1, DE.run (te := tb) (f := fb) (W.plus U) σ _ n H _ _ (fun e n2 h2 H2 y l2 o2 ay => ?_) s.hid s.ok h⟩
    have s2 := s.le l2 o2
    obtain ⟨u', hu', e1', a⟩ := s2.own i _ hi he
    have eu : u.1 = u'.1 := by
      rw [e1] at e1'
      exact V.ref.inj (Option.some.inj (Option.some.inj e1'))
    have hp1 := (s2.ok.owns _ (List.mem_append_left _ hu')).1
    rw [← eu] at hp1
    obtain ⟨p, ob⟩ := u'
    split at h2
    · rename_i es
      cases a with
      | lst a =>
        cases ay with
        | lst r' s3 a' =>
          refine .inl (.inr ⟨_, _, _, _, rfl, rfl, hp1, s3, ?_, fun q hq => ?_⟩)
          · rw [a.length, a'.length]
            exact Nat.le_trans h2.1 lim
          · obtain ⟨st, s4⟩ := s2.new hi hq (a.append a')
            exact hD.nx _ _ h2.2 _ _ _ ((Stp.hid l2).trans st) s4
    · exact h2.elim
  · exact h.elim⟩
end

/-! ### shapes, ways, fractions -/
def partD (a b : Int) : D := .tup [.int (a / gcdI a b), .int (b / gcdI a b)]
theorem part_sh {a b : Int} (hb : 0 < b) : partD a b = sh (Rat.divInt a b) := by
  obtain ⟨h1, h2, _, _⟩ := low_is (a := a) (b := b) hb
  exact sh_of h1 (by omega) h2
theorem small_log {m : Int} (h0 : 0 < m) (h1 : m ≤ 4000000) : m.natAbs.log2 < 9000 := by
  have e : (2 : Nat) ^ 22 = 4194304 := by decide
  exact Nat.lt_of_lt_of_le (log2_lt (k := 22) (by omega) (by decide)) (by decide)
theorem bd_abs {k : Nat} {r n : Int} (h1 : n.natAbs < 2 ^ k) (h2 : -n ≤ r) (h3 : r ≤ n) : Bd k r := by
  unfold Bd
  omega
theorem long_bd {r : Int} {k : Nat} (h0 : 0 ≤ r) (h1 : r < (1000 : Int) ^ k) : Bd (10 * k) r := by
  unfold Bd
  have e : (1000 : Nat) ^ k ≤ 2 ^ (10 * k) := by
    rw [Nat.pow_mul]
    exact Nat.pow_le_pow_left (by decide) k
  have h2 : ((r.natAbs : Nat) : Int) < ((1000 ^ k : Nat) : Int) := by
    rw [Int.natCast_pow]
    have : ((1000 : Nat) : Int) = 1000 := rfl
    rw [this]
    omega
  omega
def fr (a b : Int) : D := .tup [.int a, .int b]
def val (a b : Int) : Rat := (a : Rat) / (b : Rat)
theorem val_eq {a b : Int} (hb : 0 < b) : val a b = Rat.divInt a b := by
  unfold val
  rw [Rat.divInt_eq_div]
/-- a fraction: two numbers, the second above nought, so many bits at most, worth q -/
def Fq (k : Nat) (d : D) (q : Rat) : Prop := ∃ a b : Int, d = fr a b ∧ Bd k a ∧ Bd k b ∧ 0 < b ∧ q = Rat.divInt a b
theorem Fq.le {k m : Nat} {d : D} {q : Rat} (h : Fq k d q) (l : k ≤ m) : Fq m d q := by
  obtain ⟨a, b, e, h1, h2, h3, h4⟩ := h
  exact ⟨a, b, e, h1.le l, h2.le l, h3, h4⟩
theorem fq_sh {k : Nat} {q : Rat} (h : BdQ k q) : Fq k (sh q) q := ⟨q.num, q.den, rfl, h.1, h.2, den_pos q, by rw [Rat.divInt_ofNat]; exact (Rat.mkRat_self q).symm⟩
theorem fq_int {k : Nat} {i : Int} (h : Bd k i) (hk : 0 < k) : Fq k (fr i 1) (i : Rat) := ⟨i, 1, rfl, h, Nat.one_lt_two_pow (by omega), by decide, by rw [Rat.divInt_eq_div]; show (i : Rat) = (i : Rat) / 1; grind⟩
def Sq (k : Nat) (d : D) (x y : Rat) : Prop := ∃ u v, d = .tup [u, v] ∧ Fq k u x ∧ Fq k v y
theorem Sq.le {k m : Nat} {d : D} {x y : Rat} (h : Sq k d x y) (l : k ≤ m) : Sq m d x y := by
  obtain ⟨u, v, e, h1, h2⟩ := h
  exact ⟨u, v, e, h1.le l, h2.le l⟩
theorem sq_spt {k : Nat} {x y : Rat} (h : BdQ k x) (g : BdQ k y) : Sq k (spt x y) x y := ⟨_, _, rfl, fq_sh h, fq_sh g⟩
theorem sq_int {k : Nat} {i j : Int} (h : Bd k i) (g : Bd k j) (hk : 0 < k) : Sq k (.tup [fr i 1, fr j 1]) i j := ⟨_, _, rfl, fq_int h hk, fq_int g hk⟩
def Next (cs : List Pt) : Prop := ∀ e ∈ cs.zip (cs.drop 1 ++ cs.take 1), e.1 ≠ e.2
def PtS (p : Pt) : Prop := -3000000 ≤ p.1 ∧ p.1 ≤ 3000000 ∧ -3000000 ≤ p.2 ∧ p.2 ≤ 3000000
def ShOk (cs : List Pt) : Prop := 3 ≤ cs.length ∧ cs.length ≤ 16 ∧ (∀ p ∈ cs, PtS p) ∧ Next cs ∧ Dst cs ∧ Convex cs
theorem next4 {a b c d : Pt} (h1 : a ≠ b) (h2 : b ≠ c) (h3 : c ≠ d) (h4 : d ≠ a) : Next [a, b, c, d] := fun e he => by
  have : e = (a, b) ∨ e = (b, c) ∨ e = (c, d) ∨ e = (d, a) := by simpa using he
  rcases this with rfl | rfl | rfl | rfl <;> assumption
theorem ne_x {a b c d : Int} (h : a ≠ c) : ((a, b) : Pt) ≠ (c, d) := fun e => h (congrArg Prod.fst e)
theorem ne_y {a b c d : Int} (h : b ≠ d) : ((a, b) : Pt) ≠ (c, d) := fun e => h (congrArg Prod.snd e)
theorem pw4 {R : Pt → Pt → Prop} {a b c d : Pt} (h1 : R a b) (h2 : R a c) (h3 : R a d) (h4 : R b c) (h5 : R b d) (h6 : R c d) : [a, b, c, d].Pairwise R := by
  simp only [List.pairwise_cons, List.mem_cons, List.not_mem_nil, or_false, forall_eq_or_imp, forall_eq, List.Pairwise.nil, and_true, false_implies, implies_true]
  exact ⟨⟨h1, h2, h3⟩, ⟨h4, h5⟩, h6⟩
theorem box_dst {x y u v : Int} (hu : 0 < u) (hv : 0 < v) : Dst [(x, y), (x + u, y), (x + u, y + v), (x, y + v)] := by
  have e : eds ([(x, y), (x + u, y), (x + u, y + v), (x, y + v)] ++ List.take 1 [(x, y), (x + u, y), (x + u, y + v), (x, y + v)]) = [(u, 0), (0, v), (-u, 0), (0, -v)] := by
    show [vec (x, y) (x + u, y), vec (x + u, y) (x + u, y + v), vec (x + u, y + v) (x, y + v), vec (x, y + v) (x, y)] = _
    unfold vec
    simp only
    rw [show x + u - x = u by omega, show y - y = (0 : Int) by omega, show x + u - (x + u) = (0 : Int) by omega, show y + v - y = v by omega, show x - (x + u) = -u by omega, show y + v - (y + v) = (0 : Int) by omega, show x - x = (0 : Int) by omega, show y - (y + v) = -v by omega]
  unfold Dst
  rw [e]
  have p := Int.mul_pos hu hv
  have lx : ∀ a b : Int, 0 < a → lexP (a, b) := fun a b h => .inl h
  have ly : ∀ b : Int, 0 < b → lexP (0, b) := fun b h => .inr ⟨rfl, h⟩
  have n1 : lexP (neg (-u, 0)) := .inl (by show 0 < -(-u); omega)
  have n2 : lexP (neg (0, -v)) := .inr ⟨rfl, by show 0 < -(-v); omega⟩
  refine pw4 (nsd_of ?_) (nsd_opp (lx _ _ hu) n1) (nsd_opp (lx _ _ hu) n2) (nsd_opp (ly _ hv) n1) (nsd_opp (ly _ hv) n2) (nsd_of ?_)
  · show 0 < u * v - 0 * 0
    omega
  · show 0 < -u * -v - 0 * 0
    rw [Int.neg_mul_neg]
    omega
theorem tri_dst : Dst [(-1, 0), (2, 0), (0, 2)] := by
  unfold Dst
  show [((3 : Int), (0 : Int)), (-2, 2), (-1, -2)].Pairwise Nsd
  simp only [List.pairwise_cons, List.mem_cons, List.not_mem_nil, or_false, forall_eq_or_imp, forall_eq, List.Pairwise.nil, and_true, false_implies, implies_true]
  exact ⟨⟨.inl (by decide), .inl (by decide)⟩, .inl (by decide)⟩
theorem turn4 {a b c d p q : Int} (ha : 0 < a) (hb : 0 < b) (hc : 0 < c) (hd : 0 < d) (hp : 0 < p) (hq : 0 < q) : [((a, -b) : Pt), (p, 0), (c, d), (0, q)].Pairwise (fun u v => 0 < crs u v) := by
  have m1 := Int.mul_pos hb hp
  have m2 := Int.mul_pos ha hd
  have m3 := Int.mul_pos hb hc
  have m4 := Int.mul_pos ha hq
  have m5 := Int.mul_pos hp hd
  have m6 := Int.mul_pos hp hq
  have m7 := Int.mul_pos hc hq
  refine pw4 ?_ ?_ ?_ ?_ ?_ ?_ <;> (unfold crs; simp only; grind)
theorem turn4n {a b c d p q : Int} (ha : 0 < a) (hb : 0 < b) (hc : 0 < c) (hd : 0 < d) (hp : 0 < p) (hq : 0 < q) : [((-a, b) : Pt), (-p, 0), (-c, -d), (0, -q)].Pairwise (fun u v => 0 < crs u v) := by
  have m1 := Int.mul_pos hb hp
  have m2 := Int.mul_pos ha hd
  have m3 := Int.mul_pos hb hc
  have m4 := Int.mul_pos ha hq
  have m5 := Int.mul_pos hp hd
  have m6 := Int.mul_pos hp hq
  have m7 := Int.mul_pos hc hq
  refine pw4 ?_ ?_ ?_ ?_ ?_ ?_ <;> (unfold crs; simp only; grind)
theorem eight_dst {m c0 c1 c2 c3 c4 c5 c6 c7 : Int} (h0 : 1 ≤ c0 ∧ c0 ≤ m) (h1 : 1 ≤ c1 ∧ c1 ≤ m) (h2 : 1 ≤ c2 ∧ c2 ≤ m) (h3 : 1 ≤ c3 ∧ c3 ≤ m) (h4 : 1 ≤ c4 ∧ c4 ≤ m) (h5 : 1 ≤ c5 ∧ c5 ≤ m) (h6 : 1 ≤ c6 ∧ c6 ≤ m) (h7 : 1 ≤ c7 ∧ c7 ≤ m) : Dst [(0, c0), (c1, 0), (2 * m + 1 - c2, 0), (2 * m + 1, c3), (2 * m + 1, 2 * m + 1 - c4), (2 * m + 1 - c5, 2 * m + 1), (c6, 2 * m + 1), (0, 2 * m + 1 - c7)] := by
  have e : eds ([(0, c0), (c1, 0), (2 * m + 1 - c2, 0), (2 * m + 1, c3), (2 * m + 1, 2 * m + 1 - c4), (2 * m + 1 - c5, 2 * m + 1), (c6, 2 * m + 1), (0, 2 * m + 1 - c7)] ++ List.take 1 [(0, c0), (c1, 0), (2 * m + 1 - c2, 0), (2 * m + 1, c3), (2 * m + 1, 2 * m + 1 - c4), (2 * m + 1 - c5, 2 * m + 1), (c6, 2 * m + 1), (0, 2 * m + 1 - c7)])
      = [(c1, -c0), (2 * m + 1 - c2 - c1, 0), (c2, c3), (0, 2 * m + 1 - c4 - c3)] ++ [(-c5, c4), (-(2 * m + 1 - c5 - c6), 0), (-c6, -c7), (0, -(2 * m + 1 - c7 - c0))] := by
    show [vec (0, c0) (c1, 0), vec (c1, 0) (2 * m + 1 - c2, 0), vec (2 * m + 1 - c2, 0) (2 * m + 1, c3), vec (2 * m + 1, c3) (2 * m + 1, 2 * m + 1 - c4), vec (2 * m + 1, 2 * m + 1 - c4) (2 * m + 1 - c5, 2 * m + 1), vec (2 * m + 1 - c5, 2 * m + 1) (c6, 2 * m + 1), vec (c6, 2 * m + 1) (0, 2 * m + 1 - c7), vec (0, 2 * m + 1 - c7) (0, c0)] = _
    unfold vec
    simp only [List.cons_append, List.nil_append, List.cons.injEq, Prod.mk.injEq, and_true]
    (repeat' apply And.intro) <;> first | trivial | omega
  unfold Dst
  rw [e]
  refine List.pairwise_append.mpr ⟨(turn4 (by omega) (by omega) (by omega) (by omega) (by omega) (by omega)).imp fun h => nsd_of h, (turn4n (by omega) (by omega) (by omega) (by omega) (by omega) (by omega)).imp fun h => nsd_of h, fun a ha b hb => nsd_opp ?_ ?_⟩
  · simp only [List.mem_cons, List.not_mem_nil, or_false] at ha
    rcases ha with rfl | rfl | rfl | rfl <;> (unfold lexP; simp only [true_and]; omega)
  · simp only [List.mem_cons, List.not_mem_nil, or_false] at hb
    rcases hb with rfl | rfl | rfl | rfl <;> (unfold lexP neg; simp only [true_and]; omega)
theorem box_cvx {x y u v : Int} (hu : 0 < u) (hv : 0 < v) : Convex [(x, y), (x + u, y), (x + u, y + v), (x, y + v)] := fun e he => by
  have huv : 0 ≤ u * v := Int.mul_nonneg (by omega) (by omega)
  have : e = ((x, y), (x + u, y)) ∨ e = ((x + u, y), (x + u, y + v)) ∨ e = ((x + u, y + v), (x, y + v)) ∨ e = ((x, y + v), (x, y)) := by simpa using he
  rcases this with rfl | rfl | rfl | rfl
  all_goals
    refine ⟨fun z => by have := congrArg Prod.fst z; have := congrArg Prod.snd z; simp only at *; omega, fun c hc => ?_⟩
    have hc' : c = (x, y) ∨ c = (x + u, y) ∨ c = (x + u, y + v) ∨ c = (x, y + v) := by simpa using hc
    rcases hc' with rfl | rfl | rfl | rfl <;> (unfold leftI; simp only; grind)
theorem slant {a b x y : Int} (ha : 0 ≤ a) (hb : 0 ≤ b) (hx : 0 ≤ x) (hy : 0 ≤ y) (h : a ≤ x ∨ b ≤ y) : 0 ≤ b * x + a * y - a * b := by
  have h1 : 0 ≤ b * x := Int.mul_nonneg hb hx
  have h2 : 0 ≤ a * y := Int.mul_nonneg ha hy
  rcases h with h | h
  · have : b * a ≤ b * x := Int.mul_le_mul_of_nonneg_left h hb
    have e : b * a = a * b := Int.mul_comm _ _
    omega
  · have : a * b ≤ a * y := Int.mul_le_mul_of_nonneg_left h ha
    omega
theorem eight_cvx {m c0 c1 c2 c3 c4 c5 c6 c7 : Int} (h0 : 1 ≤ c0 ∧ c0 ≤ m) (h1 : 1 ≤ c1 ∧ c1 ≤ m) (h2 : 1 ≤ c2 ∧ c2 ≤ m) (h3 : 1 ≤ c3 ∧ c3 ≤ m) (h4 : 1 ≤ c4 ∧ c4 ≤ m) (h5 : 1 ≤ c5 ∧ c5 ≤ m) (h6 : 1 ≤ c6 ∧ c6 ≤ m) (h7 : 1 ≤ c7 ∧ c7 ≤ m) :
    Convex [(0, c0), (c1, 0), (2 * m + 1 - c2, 0), (2 * m + 1, c3), (2 * m + 1, 2 * m + 1 - c4), (2 * m + 1 - c5, 2 * m + 1), (c6, 2 * m + 1), (0, 2 * m + 1 - c7)] := fun e he => by
  obtain ⟨W, hW⟩ : ∃ W, 2 * m + 1 = W := ⟨_, rfl⟩
  rw [hW] at he ⊢
  have inb : ∀ c ∈ [((0 : Int), c0), (c1, 0), (W - c2, 0), (W, c3), (W, W - c4), (W - c5, W), (c6, W), (0, W - c7)], (0 ≤ c.1 ∧ c.1 ≤ W ∧ 0 ≤ c.2 ∧ c.2 ≤ W) ∧ (c1 ≤ c.1 ∨ c0 ≤ c.2) ∧ (c.1 ≤ W - c2 ∨ c3 ≤ c.2) ∧ (c.1 ≤ W - c5 ∨ c.2 ≤ W - c4) ∧ (c6 ≤ c.1 ∨ c.2 ≤ W - c7) := fun c hc => by
    simp only [List.mem_cons, List.not_mem_nil, or_false] at hc
    rcases hc with rfl | rfl | rfl | rfl | rfl | rfl | rfl | rfl <;> (simp only; omega)
  simp only [List.drop_succ_cons, List.drop_zero, List.take_succ_cons, List.take_zero, List.cons_append, List.nil_append, List.zip_cons_cons, List.zip_nil_left, List.mem_cons, List.not_mem_nil, or_false] at he
  have mn : ∀ {a b : Int}, 0 ≤ a → 0 ≤ b → 0 ≤ a * b := fun h g => Int.mul_nonneg h g
  rcases he with rfl | rfl | rfl | rfl | rfl | rfl | rfl | rfl
  · refine ⟨ne_x (by omega), fun c hc => ?_⟩
    obtain ⟨b, g1, g2, g3, g4⟩ := inb c hc
    have := slant (a := c1) (b := c0) (x := c.1) (y := c.2) (by omega) (by omega) (by omega) (by omega) g1
    unfold leftI
    simp only
    grind
  · refine ⟨ne_x (by omega), fun c hc => ?_⟩
    obtain ⟨b, g1, g2, g3, g4⟩ := inb c hc
    have := mn (a := W - c2 - c1) (b := c.2) (by omega) (by omega)
    unfold leftI
    simp only
    grind
  · refine ⟨ne_x (by omega), fun c hc => ?_⟩
    obtain ⟨b, g1, g2, g3, g4⟩ := inb c hc
    have := slant (a := c2) (b := c3) (x := W - c.1) (y := c.2) (by omega) (by omega) (by omega) (by omega) (by omega)
    unfold leftI
    simp only
    grind
  · refine ⟨ne_y (by omega), fun c hc => ?_⟩
    obtain ⟨b, g1, g2, g3, g4⟩ := inb c hc
    have := mn (a := W - c4 - c3) (b := W - c.1) (by omega) (by omega)
    unfold leftI
    simp only
    grind
  · refine ⟨ne_x (by omega), fun c hc => ?_⟩
    obtain ⟨b, g1, g2, g3, g4⟩ := inb c hc
    have := slant (a := c5) (b := c4) (x := W - c.1) (y := W - c.2) (by omega) (by omega) (by omega) (by omega) (by omega)
    unfold leftI
    simp only
    grind
  · refine ⟨ne_x (by omega), fun c hc => ?_⟩
    obtain ⟨b, g1, g2, g3, g4⟩ := inb c hc
    have := mn (a := W - c5 - c6) (b := W - c.2) (by omega) (by omega)
    unfold leftI
    simp only
    grind
  · refine ⟨ne_x (by omega), fun c hc => ?_⟩
    obtain ⟨b, g1, g2, g3, g4⟩ := inb c hc
    have := slant (a := c6) (b := c7) (x := c.1) (y := W - c.2) (by omega) (by omega) (by omega) (by omega) (by omega)
    unfold leftI
    simp only
    grind
  · refine ⟨ne_y (by omega), fun c hc => ?_⟩
    obtain ⟨b, g1, g2, g3, g4⟩ := inb c hc
    have := mn (a := W - c7 - c0) (b := c.1) (by omega) (by omega)
    unfold leftI
    simp only
    grind
theorem tri_cvx : Convex [(-1, 0), (2, 0), (0, 2)] := fun e he => by
  have he' : e = ((-1, 0), (2, 0)) ∨ e = ((2, 0), (0, 2)) ∨ e = ((0, 2), (-1, 0)) := by simpa using he
  rcases he' with rfl | rfl | rfl <;> refine ⟨by decide, fun c hc => ?_⟩ <;> (have hc' : c = (-1, 0) ∨ c = (2, 0) ∨ c = (0, 2) := by simpa using hc) <;> rcases hc' with rfl | rfl | rfl <;> decide
theorem room65 {k : Nat} {A : Around} (r : Room k A) : A.units + 65 < cLine := by
  have := r.un
  omega
def rNIP (K : PySem.W.Frag) : R2 := rNotInD K
theorem k_notInP {X : Cx} (hK : X.K = K) (hu : X.A.units + 65 < cLine) : OpR X (compareOp .NotIn) (rNIP K) := hK ▸ op_notInD hu
theorem pt_isD : ∀ ws : List Pt, isDAll (ws.map pt) = true
  | [] => rfl
  | w :: ws => by
    show ((pt w).isD && isDAll (ws.map pt)) = true
    rw [pt_isD ws]
    rfl
theorem pt_lay : ∀ ws : List Pt, PyData.canLayAll0 (pdAll (ws.map pt)) = true ∧ PyData.depthAll (pdAll (ws.map pt)) ≤ 1
  | [] => ⟨rfl, Nat.zero_le _⟩
  | w :: ws => by
    obtain ⟨h1, h2⟩ := pt_lay ws
    refine ⟨?_, ?_⟩
    · show (PyData.canLay0 (pt w).pd && PyData.canLayAll0 (pdAll (ws.map pt))) = true
      rw [h1]
      rfl
    · show max (PyData.depth (pt w).pd) (PyData.depthAll (pdAll (ws.map pt))) ≤ 1
      exact Nat.max_le.mpr ⟨by show PyData.depth (.tuple [.int w.1, .int w.2]) ≤ 1; simp [PyData.depth, PyData.depthAll], h2⟩
theorem pt_shaped (ws : List Pt) : SeqAt.shaped (.list (pdAll (ws.map pt))) = true := by
  obtain ⟨h1, h2⟩ := pt_lay ws
  unfold SeqAt.shaped
  refine Bool.and_eq_true_iff.mpr ⟨h1, decide_eq_true ?_⟩
  show PyData.depthAll (pdAll (ws.map pt)) + 1 ≤ 64
  omega
theorem pt_eqv (v w : Pt) : PyData.eqv (pt v).pd (pt w).pd = decide (v = w) := by
  show PyData.eqv (.tuple [.int v.1, .int v.2]) (.tuple [.int w.1, .int w.2]) = _
  simp only [PyData.eqv, PyData.eqvAll, Bool.and_true]
  by_cases h : v = w
  · subst h
    simp
  · rw [decide_eq_false h]
    have : ¬ (v.1 = w.1 ∧ v.2 = w.2) := fun z => h (Prod.ext z.1 z.2)
    by_cases h1 : v.1 = w.1
    · have h2 : v.2 ≠ w.2 := fun z => this ⟨h1, z⟩
      simp [h2]
    · simp [h1]
theorem pt_any (w : Pt) : ∀ ws : List Pt, ((pdAll (ws.map pt)).any fun z => PyData.eqv z (pt w).pd) = decide (w ∈ ws)
  | [] => by simp [pdAll]
  | v :: ws => by
    show (PyData.eqv (pt v).pd (pt w).pd || (pdAll (ws.map pt)).any fun z => PyData.eqv z (pt w).pd) = _
    rw [pt_any w ws, pt_eqv]
    by_cases h1 : v = w
    · subst h1
      simp
    · have h2 : ¬ w = v := fun z => h1 z.symm
      by_cases h3 : w ∈ ws
      · simp [h3]
      · simp [h1, h2, h3]
def aNIP : D → D → Nat → (D → Nat → Prop) → Prop := fun d e n Q => ∃ (w : Pt) (ws : List Pt), d = pt w ∧ e = .lst (ws.map pt) ∧ Q (.bl (decide (w ∉ ws))) n
instance : D2 K (rNIP K) aNIP := ⟨fun W n H x y d e Q Qa hQ o ax ay h => by
  obtain ⟨w, ws, rfl, rfl, h⟩ := h
  exact ⟨(pt w).pd, pdAll (ws.map pt), At.dp (pt w) rfl ax, At.dp (.lst (ws.map pt)) (pt_isD ws) ay, (by simp [SeqAt.shaped, pt, D.pd, pdAll, PyData.canLay0, PyData.canLayAll0, PyData.depth, PyData.depthAll]), pt_shaped ws, by rw [pt_any]; exact hQ.now o (by rw [← decide_not]; exact h) (.bl _)⟩⟩
/-- ways: two whole numbers, not both nought -/
def WyS (k : Nat) (w : Pt) : Prop := Bd k w.1 ∧ Bd k w.2
def wayI (p q : Int) : Pt := (p / gcdI p q, q / gcdI p q)
theorem wayI_wys {p q : Int} {k : Nat} (h0 : ¬ (p = 0 ∧ q = 0)) (bp : Bd k p) (bq : Bd k q) : WyS k (wayI p q) := ⟨bp.of_le (div_natAbs_le (gcdI_pos2 h0) (gcdI_dvd_l _ _)), bq.of_le (div_natAbs_le (gcdI_pos2 h0) (gcdI_dvd_r _ _))⟩
theorem next_at {cs : List Pt} (h : Next cs) {k : Nat} (hk : k < cs.length) : cs[k]'hk ≠ cs[(k + 1) % cs.length]'(Nat.mod_lt _ (by omega)) := by
  have hl : (cs.drop 1 ++ cs.take 1).length = cs.length := by simp; omega
  have hz : k < (cs.zip (cs.drop 1 ++ cs.take 1)).length := by rw [List.length_zip, hl]; omega
  have := h _ (List.getElem_mem hz)
  rw [List.getElem_zip] at this
  simp only at this
  intro e
  refine this ?_
  rw [e]
  by_cases hk1 : k + 1 < cs.length
  · rw [List.getElem_append_left (by simp; omega), List.getElem_drop]
    congr 1
    rw [Nat.mod_eq_of_lt hk1]
    omega
  · have hk2 : k + 1 = cs.length := by omega
    rw [List.getElem_append_right (by simp; omega), List.getElem_take]
    congr 1
    rw [hk2, Nat.mod_self]
    simp
    omega
def prs (cs : List Pt) : List (Pt × Pt) := cs.zip (cs.drop 1 ++ cs.take 1)
def wyE (e : Pt × Pt) : Pt := wayI (e.2.2 - e.1.2) (e.1.1 - e.2.1)
def waysOf (cs : List Pt) : List Pt := (prs cs).map wyE
theorem prs_len {cs : List Pt} (h : cs ≠ []) : (prs cs).length = cs.length := by
  unfold prs
  rw [List.length_zip, List.length_append, List.length_drop, List.length_take]
  have : 0 < cs.length := List.length_pos_iff.mpr h
  omega
theorem prs_get {cs : List Pt} {k : Nat} (hk : k < cs.length) : (prs cs)[k]? = some (cs[k]'hk, cs[(k + 1) % cs.length]'(Nat.mod_lt _ (by omega))) := by
  have hl : (cs.drop 1 ++ cs.take 1).length = cs.length := by simp; omega
  have hz : k < (cs.zip (cs.drop 1 ++ cs.take 1)).length := by rw [List.length_zip, hl]; omega
  unfold prs
  rw [List.getElem?_eq_getElem hz, List.getElem_zip]
  congr 2
  by_cases hk1 : k + 1 < cs.length
  · rw [List.getElem_append_left (by simp; omega), List.getElem_drop]
    congr 1
    rw [Nat.mod_eq_of_lt hk1]
    omega
  · have hk2 : k + 1 = cs.length := by omega
    rw [List.getElem_append_right (by simp; omega), List.getElem_take]
    congr 1
    rw [hk2, Nat.mod_self]
    simp
    omega
theorem prs_ok {cs : List Pt} (h : ShOk cs) : ∀ e ∈ prs cs, e.1 ≠ e.2 ∧ PtS e.1 ∧ PtS e.2 := fun e he => by
  refine ⟨h.2.2.2.1 e he, h.2.2.1 _ (List.of_mem_zip he).1, h.2.2.1 _ ?_⟩
  rcases List.mem_append.mp (List.of_mem_zip he).2 with h1 | h1
  · exact List.mem_of_mem_drop h1
  · exact List.mem_of_mem_take h1
theorem ways_wys {cs : List Pt} (h : ShOk cs) : ∀ w ∈ waysOf cs, WyS 23 w := fun w hw => by
  obtain ⟨e, he, rfl⟩ := List.mem_map.mp hw
  obtain ⟨h1, h2, h3⟩ := prs_ok h e he
  unfold PtS at h2 h3
  exact wayI_wys (fun z => h1 (Prod.ext (by omega) (by omega))) (bd_abs (n := 6000000) (by decide) (by omega) (by omega)) (bd_abs (n := 6000000) (by decide) (by omega) (by omega))
theorem eds_zip (x : Pt) : ∀ h : List Pt, eds (h ++ [x]) = (h.zip (h.drop 1 ++ [x])).map (fun e => vec e.1 e.2)
  | [] => rfl
  | [a] => rfl
  | a :: b :: r => by
    have := eds_zip x (b :: r)
    show vec a b :: eds (b :: r ++ [x]) = vec a b :: ((b :: r).zip (r ++ [x])).map _
    rw [this]
    rfl
theorem way_same {u v : Pt} (hu : u ≠ (0, 0)) (hv : v ≠ (0, 0)) (e : wayI u.2 (-u.1) = wayI v.2 (-v.1)) : ¬ Nsd u v := by
  have h1 : ¬ (u.2 = 0 ∧ -u.1 = 0) := fun z => hu (Prod.ext (by show u.1 = 0; omega) z.1)
  have h2 : ¬ (v.2 = 0 ∧ -v.1 = 0) := fun z => hv (Prod.ext (by show v.1 = 0; omega) z.1)
  have g1 := gcdI_pos2 h1
  have g2 := gcdI_pos2 h2
  have a1 := div_mul (gcdI_dvd_l u.2 (-u.1))
  have a2 := div_mul (gcdI_dvd_r u.2 (-u.1))
  have b1 := div_mul (gcdI_dvd_l v.2 (-v.1))
  have b2 := div_mul (gcdI_dvd_r v.2 (-v.1))
  have e1 := congrArg Prod.fst e
  have e2 := congrArg Prod.snd e
  unfold wayI at e1 e2
  simp only at e1 e2
  rw [← e1] at b1
  rw [← e2] at b2
  generalize gcdI u.2 (-u.1) = g at *
  generalize gcdI v.2 (-v.1) = g' at *
  generalize u.2 / g = p at *
  generalize -u.1 / g = q at *
  obtain ⟨u1, u2⟩ := u
  obtain ⟨v1, v2⟩ := v
  simp only at *
  intro hn
  have hc : crs (u1, u2) (v1, v2) = 0 := by
    unfold crs
    simp only
    have eu : u1 = -(g * q) := by omega
    have ev : v1 = -(g' * q) := by omega
    rw [eu, ev, ← a1, ← b1]
    grind
  have ho := hn.opp hc
  unfold lexP neg at ho
  simp only at ho
  rcases Int.lt_trichotomy q 0 with hq | hq | hq
  · have := Int.mul_neg_of_pos_of_neg g2 hq
    have := Int.mul_neg_of_pos_of_neg g1 hq
    omega
  · subst hq
    rw [Int.mul_zero] at a2 b2
    rcases Int.lt_trichotomy p 0 with hp | hp | hp
    · have := Int.mul_neg_of_pos_of_neg g1 hp
      have := Int.mul_neg_of_pos_of_neg g2 hp
      omega
    · subst hp
      rw [Int.mul_zero] at a1
      omega
    · have := Int.mul_pos g2 hp
      have := Int.mul_pos g1 hp
      omega
  · have := Int.mul_pos g1 hq
    have := Int.mul_pos g2 hq
    omega
theorem ways_nodup {cs : List Pt} (h : ShOk cs) : (waysOf cs).Nodup := by
  have hd := h.2.2.2.2.1
  have hne : cs ≠ [] := fun z => by have := h.1; rw [z] at this; simp at this
  unfold Dst at hd
  obtain ⟨x, r, rfl⟩ : ∃ x r, cs = x :: r := by
    cases cs with
    | nil => exact absurd rfl hne
    | cons x r => exact ⟨x, r, rfl⟩
  have et : (x :: r).take 1 = [x] := rfl
  rw [et, eds_zip x (x :: r)] at hd
  refine List.pairwise_map.mpr (List.Pairwise.imp_of_mem (fun {e f} he hf hn z => ?_) (List.pairwise_map.mp hd))
  obtain ⟨h1, _⟩ := prs_ok h e he
  obtain ⟨h2, _⟩ := prs_ok h f hf
  have nz : ∀ e : Pt × Pt, e.1 ≠ e.2 → vec e.1 e.2 ≠ (0, 0) := fun e h z => h (by
    have z1 := congrArg Prod.fst z
    have z2 := congrArg Prod.snd z
    unfold vec at z1 z2
    simp only at z1 z2
    exact Prod.ext (by omega) (by omega))
  refine way_same (nz e h1) (nz f h2) ?_ hn
  have ew : ∀ e : Pt × Pt, wayI (vec e.1 e.2).2 (-(vec e.1 e.2).1) = wyE e := fun e => by
    unfold vec wyE
    simp only
    rw [show -(e.2.1 - e.1.1) = e.1.1 - e.2.1 by omega]
  rw [ew, ew]
  exact z
structure Bw where
  nm : D
  cs : List Pt
  m : Int
  rail : D
  px : Rat
  py : Rat
  x : Rat
  y : Rat
def Bw.d (b : Bw) : D := .tup [b.nm, .tup (b.cs.map pt), .int b.m, b.rail, spt b.px b.py, spt b.x b.y]
def Bw.ok (k m : Nat) (b : Bw) : Prop := ShOk b.cs ∧ BdQ k b.px ∧ BdQ k b.py ∧ BdQ m b.x ∧ BdQ m b.y
def ngP (w : Pt) : Pt := (-w.1, -w.2)
theorem ngP_ngP (w : Pt) : ngP (ngP w) = w := by unfold ngP; simp
theorem ng_wys {w : Pt} {k : Nat} (h : WyS k w) : WyS k (ngP w) := ⟨h.1.neg, h.2.neg⟩
/-- the ways of a pair: each once, in order -/
structure PwOk (as bs rs : List Pt) : Prop where
  nd : rs.Nodup
  mem : ∀ p, p ∈ rs ↔ p ∈ as ∨ ngP p ∈ bs
  ord : rs.Pairwise lexLe
theorem PwOk.uniq {as bs rs rs' : List Pt} (h : PwOk as bs rs) (g : PwOk as bs rs') : rs = rs' :=
  List.Perm.eq_of_pairwise (fun a b _ _ h1 h2 => lex_anti h1 h2) h.ord g.ord ((List.perm_ext_iff_of_nodup h.nd g.nd).mpr fun p => by rw [h.mem, g.mem])
theorem PwOk.sub {as bs rs : List Pt} (h : PwOk as bs rs) {F : Pt → Prop} (h1 : ∀ w ∈ as, F w) (h2 : ∀ w ∈ bs, F (ngP w)) : ∀ w ∈ rs, F w := fun w hw => by
  rcases (h.mem w).mp hw with g | g
  · exact h1 w g
  · have := h2 _ g
    rwa [ngP_ngP] at this
theorem joinE_len : ∀ ps : List (List Nat), (TL.joinL [] ps).length = (ps.map (·.length)).sum
  | [] => rfl
  | [p] => by simp [TL.joinL]
  | p :: q :: r => by
    have := joinE_len (q :: r)
    show (p ++ ([] ++ TL.joinL [] (q :: r))).length = _
    rw [List.nil_append, List.length_append, this]
    simp
theorem joinE (ys : List Str) : (Txt.join (Str.ofString "") ys).length = (ys.map (·.length)).sum := by
  have e0 : TL.tl (Str.ofString "") = [] := by decide +kernel
  have h : (TL.tl (Txt.join (Str.ofString "") ys)).length = (ys.map (·.length)).sum := by
    rw [TL.join_eq, TL.tl_join, e0, joinE_len, List.map_map]
    congr 1
  rw [← h]
  show (Txt.join (Str.ofString "") ys).cps.size = (Txt.join (Str.ofString "") ys).cps.toList.length
  simp
theorem letters_at {i : Int} (h0 : 0 ≤ i) (h1 : i < 26) : ∃ c, atI (Str.ofString "abcdefghijklmnopqrstuvwxyz").cps.toList i = some c := by
  have hl : (Str.ofString "abcdefghijklmnopqrstuvwxyz").cps.toList.length = 26 := by decide +kernel
  obtain ⟨x, _, h⟩ := pick_at (xs := (Str.ofString "abcdefghijklmnopqrstuvwxyz").cps.toList) h0 (by rw [hl]; exact h1)
  exact ⟨x, h⟩
theorem aIx_str {z : Str} {i : Int} {c n : Nat} {Q : D → Nat → Prop} (hl : z.length ≤ 1000000) (e : atI z.cps.toList i = some c) (q : Q (.str ⟨#[c]⟩) n) : aIxS (.str z) (.int i) n Q := by
  unfold aIxS
  refine ⟨hl, ?_⟩
  rw [e]
  exact q
theorem cutS_len (z : Str) (l u : Option Int) : (cutS z l u).length ≤ z.length := by
  show (cutS z l u).cps.size ≤ z.cps.size
  unfold cutS
  rw [List.size_toArray, List.length_take, List.length_drop]
  have : z.cps.toList.length = z.cps.size := by simp
  omega
theorem str_app_len (a b : Str) : (a ++ b).length = a.length + b.length := strLen_append a b

theorem cutL_tail (d : D) (r : List D) : cutL (d :: r) (some 1) none = r := by
  unfold cutL
  rw [HT.sIx_none]
  have e : HT.sIx (d :: r).length 0 (some 1) = 1 := by
    unfold HT.sIx
    simp
  rw [e]
  show (List.drop 1 (d :: r)).take ((d :: r).length - 1) = r
  rw [List.drop_succ_cons, List.drop_zero, List.length_cons, Nat.add_sub_cancel, List.take_length]
theorem aIx_lst0 {d : D} {r : List D} {n : Nat} {Q : D → Nat → Prop} (q : Q d n) : aIx (.lst (d :: r)) (.int 0) n Q := by
  have e : atI (d :: r) 0 = some d := atI_nat (j := 0) rfl
  show (match atI (d :: r) 0 with
    | some d => Q d n
    | none => False)
  rw [e]
  exact q
/-! ### the ways of a pair -/
def a_p_way_of : ASp := fun ds n Q => ∃ (p q : Int) (k : Nat), ds = [.int p, .int q] ∧ ¬ (p = 0 ∧ q = 0) ∧ Bd k p ∧ Bd k q ∧ k ≤ 8900 ∧ Q (pt (wayI p q)) n
theorem ok_p_way_of (T : Tx K mg A) : FnOk P w K mg base CX0 4 A.f_p_way_of A.fd_p_way_of ["p", "q"] (spOf K 2 a_p_way_of) := by
  refine fn_mir [] 3 rfl (by decide) (by decide) T.F_p_way_of sc_p_way_of fun cdv Ar outer s H E hr => ?_
  refine ⟨_, _, (pss_cons (ps_set (i := 2) sc_p_way_of.nd rfl (.inl rfl) (pe_call (ok_p_common_divisor (P := P) (K := K) T) (hr.mono (by decide)) (by rfl) T.g_p_common_divisor T.F_p_common_divisor.kp T.b_p_common_divisor .nil pass0 (pa_cons (pv 0) (pa_cons (pv 1) pa_nil))))
    (pss_cons (ps_if (pt_cmpR (k_eq (K := K) rfl hr.units) (pv 2) pe_int (nomark _))
      (pss_one ps_never)
      pss_nil)
    (pss_one (ps_ret (pe_tup (pa_cons (pe_op k_fdiv (pv 0) (pv 2)) (pa_cons (pe_op k_fdiv (pv 1) (pv 2)) pa_nil))))))), by infer_instance, fun ds n Q hl hA => ?_⟩
  obtain ⟨p, q, k, rfl, h0, bp, bq, hk, Qk⟩ := hA
  have g0 := gcdI_pos2 h0
  have gb := gcdI_bd2 bp bq h0
  refine ⟨p, q, rfl, bp.le (by omega), bq.le (by omega), dIte (fun e => absurd e (by omega)) fun _ => ?_⟩
  exact ⟨divA gb g0 (by omega), divA gb g0 (by omega), Qk⟩
def prD (e : Pt × Pt) : D := .tup [pt e.1, pt e.2]
theorem zipD_prs : ∀ as bs : List Pt, zipD (as.map pt) (bs.map pt) = (as.zip bs).map prD
  | [], _ => by simp [zipD]
  | _ :: _, [] => by simp [zipD]
  | a :: as, b :: bs => by
    rw [List.map_cons, List.map_cons, zipD, zipD_prs as bs]
    rfl
theorem sIx_one {n d : Nat} (h : 1 ≤ n) : HT.sIx n d (some 1) = 1 := by
  unfold HT.sIx
  simp
  omega
theorem cut_drop {xs : List D} (h : 1 ≤ xs.length) : cutL xs (some 1) none = xs.drop 1 := by
  unfold cutL
  rw [HT.sIx_none, sIx_one h, ← List.length_drop, List.take_length]
theorem cut_take {xs : List D} (h : 1 ≤ xs.length) : cutL xs none (some 1) = xs.take 1 := by
  unfold cutL
  rw [HT.sIx_none, sIx_one h, List.drop_zero, Nat.sub_zero]
def a_p_side_ends : ASp := fun ds n Q => ∃ cs : List Pt, (ds = [.tup (cs.map pt)] ∨ ds = [.lst (cs.map pt)]) ∧ 3 ≤ cs.length ∧ cs.length ≤ 16 ∧ Q (.lst ((prs cs).map prD)) n
theorem ok_p_side_ends (T : Tx K mg A) : FnOk P w K mg base CX0 1 A.f_p_side_ends A.fd_p_side_ends ["corners"] (spOf K 1 a_p_side_ends) := by
  refine fn_mir [] 1 rfl (by decide) (by decide) T.F_p_side_ends sc_p_side_ends fun cdv Ar outer s H E hr => ?_
  refine ⟨_, _, (pss_one (ps_ret (k_lzipA (K := K) rfl rfl (by rfl) T.m_list (by rfl) T.m_zip (pa_cons (pv 0) (pa_cons (pe_op (k_add (K := K) rfl) (pe_slice (k_sl (K := K) rfl) (pv 0) (po_some pe_int) po_none) (pe_slice (k_sl (K := K) rfl) (pv 0) po_none (po_some pe_int))) pa_nil))))), by infer_instance, fun ds n Q hl hA => ?_⟩
  obtain ⟨cs, hds, h3, h16, q⟩ := hA
  have hl : (cs.map pt).length = cs.length := List.length_map _
  have e1 := cut_drop (xs := cs.map pt) (by omega)
  have e2 := cut_take (xs := cs.map pt) (by omega)
  have e3 : (cs.map pt).drop 1 ++ (cs.map pt).take 1 = (cs.drop 1 ++ cs.take 1).map pt := by rw [List.map_append, List.map_drop, List.map_take]
  rcases hds with rfl | rfl
  · refine ⟨fun z => ?_, fun z => ?_, fun z => ?_, ?_, ?_, ?_, ?_⟩
    · have := z.1
      rw [sIx_one (by omega)] at this
      cases this
    · have := z.2
      rw [sIx_one (by omega)] at this
      omega
    · rw [e1] at z
      have := congrArg List.length z
      rw [List.length_drop] at this
      simp at this
      omega
    · rw [e1, e2, List.length_drop, List.length_take]
      omega
    · rw [e1, e2, List.length_append, List.length_drop, List.length_take]
      omega
    · omega
    · show Q (.lst (zipD (cs.map pt) (cutL (cs.map pt) (some 1) none ++ cutL (cs.map pt) none (some 1)))) n
      rw [e1, e2, e3, zipD_prs]
      exact q
  · refine ⟨?_, ?_, ?_, ?_⟩
    · rw [e1, e2, List.length_drop, List.length_take]
      omega
    · rw [e1, e2, List.length_append, List.length_drop, List.length_take]
      omega
    · omega
    · show Q (.lst (zipD (cs.map pt) (cutL (cs.map pt) (some 1) none ++ cutL (cs.map pt) none (some 1)))) n
      rw [e1, e2, e3, zipD_prs]
      exact q
def a_p_outwards : ASp := fun ds n Q => ∃ e : Pt × Pt, ds = [pt e.1, pt e.2] ∧ e.1 ≠ e.2 ∧ PtS e.1 ∧ PtS e.2 ∧ Q (pt (wyE e)) n
theorem ok_p_outwards (T : Tx K mg A) : FnOk P w K mg base CX0 5 A.f_p_outwards A.fd_p_outwards ["start", "end"] (spOf K 2 a_p_outwards) := by
  refine fn_mir [] 6 rfl (by decide) (by decide) T.F_p_outwards sc_p_outwards fun cdv Ar outer s H E hr => ?_
  refine ⟨_, _, (pss_cons (ps_asg (pv 0) (k_gtup (K := K) (m := 2) rfl rfl (pgs_cons (pg_name (i := 2) sc_p_outwards.nd rfl (.inl rfl)) (pgs_cons (pg_name (i := 3) sc_p_outwards.nd rfl (.inl rfl)) pgs_nil))))
    (pss_cons (ps_asg (pv 1) (k_gtup (K := K) (m := 2) rfl rfl (pgs_cons (pg_name (i := 4) sc_p_outwards.nd rfl (.inl rfl)) (pgs_cons (pg_name (i := 5) sc_p_outwards.nd rfl (.inl rfl)) pgs_nil))))
    (pss_one (ps_ret (pe_call (ok_p_way_of (P := P) (K := K) T) (hr.mono (by decide)) (by rfl) T.g_p_way_of T.F_p_way_of.kp T.b_p_way_of .nil pass0 (pa_cons (pe_op op_sub (pv 5) (pv 3)) (pa_cons (pe_op op_sub (pv 2) (pv 4)) pa_nil))))))), by infer_instance, fun ds n Q hl hA => ?_⟩
  obtain ⟨e, rfl, h1, h2, h3, q⟩ := hA
  unfold PtS at h2 h3
  exact ⟨e.2.2 - e.1.2, e.1.1 - e.2.1, 23, rfl, fun z => h1 (Prod.ext (by omega) (by omega)), bd_abs (n := 6000000) (by decide) (by omega) (by omega), bd_abs (n := 6000000) (by decide) (by omega) (by omega), by decide, q⟩
def a_p_sides : ASp := fun ds n Q => ∃ cs : List Pt, ds = [.tup (cs.map pt)] ∧ ShOk cs ∧ Q (.tup ((waysOf cs).map pt)) n
theorem ok_p_sides (T : Tx K mg A) : FnOk P w K mg base CX0 6 A.f_p_sides A.fd_p_sides ["shape"] (spOf K 1 a_p_sides) := by
  refine fn_mir [] 3 rfl (by decide) (by decide) T.F_p_sides sc_p_sides fun cdv Ar outer s H E hr => ?_
  refine ⟨_, _, (pss_one (ps_ret (pe_callTy (k_tuple (K := K) rfl) (by rfl) T.m_tuple (by decide +kernel) (pa_cons (pe_lc (own := [("start", 1), ("end", 2)]) rfl sc_p_sides.nd (k_iter (K := K) rfl (pe_call (ok_p_side_ends (P := P) (K := K) T) (hr.mono (by decide)) (by rfl) T.g_p_side_ends T.F_p_side_ends.kp T.b_p_side_ends .nil pass0 (pa_cons (pv 0) pa_nil))) (blkOk_by (own := [("start", 1), ("end", 2)]) (N := ["shape", "start", "end"]) (sc := defScope s_p_sides) (by decide +kernel)) (fun _ _ _ _ _ => (k_gtup (K := K) (m := 2) rfl rfl (pgs_cons (pg_name (i := 1) sc_p_sides.nd rfl (Or.inl rfl)) (pgs_cons (pg_name (i := 2) sc_p_sides.nd rfl (Or.inl rfl)) pgs_nil)))) (fun _ _ _ _ _ => pts_nil) (fun _ _ _ _ _ => (pe_call (ok_p_outwards (P := P) (K := K) T) (hr.mono (by decide)) (by rfl) T.g_p_outwards T.F_p_outwards.kp T.b_p_outwards .nil pass0 (pa_cons (pv 1) (pa_cons (pv 2) pa_nil))))) pa_nil)))), by infer_instance, fun ds n Q hl hA => ?_⟩
  obtain ⟨cs, rfl, hS, q⟩ := hA
  have h16 := hS.2.1
  have hl := prs_len (cs := cs) (fun z => by have := hS.1; rw [z] at this; simp at this)
  refine ⟨cs, .inl rfl, hS.1, hS.2.1, by rw [List.length_map]; omega, ?_⟩
  refine aLc_ind (fun acc ds m => m = n ∧ ∃ us vs : List (Pt × Pt), prs cs = us ++ vs ∧ ds = vs.map prD ∧ acc = (us.map wyE).map pt) ?_ ?_ ⟨rfl, [], prs cs, rfl, rfl, rfl⟩
  · rintro acc d r m ⟨rfl, us, vs, e0, e, rfl⟩ ih
    cases vs with
    | nil => cases e
    | cons v vs =>
    obtain ⟨rfl, rfl⟩ := List.cons.inj e
    obtain ⟨h1, h2, h3⟩ := prs_ok hS v (by rw [e0]; exact List.mem_append_right _ List.mem_cons_self)
    refine aT ⟨v, rfl, h1, h2, h3, ih _ _ ⟨rfl, us ++ [v], vs, by rw [e0]; simp, rfl, by rw [List.map_append, List.map_append]; rfl⟩⟩
  · rintro acc m ⟨rfl, us, vs, e0, e, rfl⟩
    cases vs with
    | cons v vs => cases e
    | nil =>
    rw [List.append_nil] at e0
    show Q (.tup ((us.map wyE).map pt)) _
    rw [← e0]
    exact q
/-! ### gaps -/
def dot (w c : Pt) : Int := w.1 * c.1 + w.2 * c.2
def IsMax (w : Pt) (cs : List Pt) (m : Int) : Prop := (∃ c ∈ cs, m = dot w c) ∧ ∀ c ∈ cs, dot w c ≤ m
theorem IsMax.uniq {w : Pt} {cs : List Pt} {m m' : Int} (h : IsMax w cs m) (g : IsMax w cs m') : m = m' := by
  obtain ⟨⟨c, hc, rfl⟩, h2⟩ := h
  obtain ⟨⟨e, he, rfl⟩, g2⟩ := g
  have := h2 e he
  have := g2 c hc
  omega
def mx (w : Pt) : List Pt → Int
  | [] => 0
  | [c] => dot w c
  | c :: d :: r => max (dot w c) (mx w (d :: r))
theorem mx_is {w : Pt} : ∀ {cs : List Pt}, cs ≠ [] → IsMax w cs (mx w cs)
  | [], h => absurd rfl h
  | [c], _ => ⟨⟨c, List.mem_cons_self, rfl⟩, fun x hx => by rw [List.mem_singleton.mp hx]; exact Int.le_refl _⟩
  | c :: d :: r, _ => by
    obtain ⟨⟨e, he, h1⟩, h2⟩ := mx_is (w := w) (cs := d :: r) (fun z => nomatch z)
    refine ⟨?_, fun x hx => ?_⟩
    · show ∃ c' ∈ c :: d :: r, max (dot w c) (mx w (d :: r)) = dot w c'
      rcases Int.le_total (dot w c) (mx w (d :: r)) with h | h
      · rw [Int.max_eq_right h]
        exact ⟨e, List.mem_cons_of_mem _ he, h1⟩
      · rw [Int.max_eq_left h]
        exact ⟨c, List.mem_cons_self, rfl⟩
    · show dot w x ≤ max (dot w c) (mx w (d :: r))
      rcases List.mem_cons.mp hx with rfl | hx
      · exact Int.le_max_left _ _
      · exact Int.le_trans (h2 x hx) (Int.le_max_right _ _)
theorem ShOk.ne {cs : List Pt} (h : ShOk cs) : cs ≠ [] := fun z => by have := h.1; rw [z] at this; simp at this
theorem bd_pt {p : Int} (h1 : -3000000 ≤ p) (h2 : p ≤ 3000000) : Bd 22 p := bd_abs (n := 3000000) (by decide) h1 h2
theorem dot_bd {w c : Pt} {k : Nat} (hw : WyS k w) (hc : PtS c) : Bd (k + 23) (dot w c) := by
  unfold PtS at hc
  exact ((hw.1.mul (bd_pt hc.1 hc.2.1)).add (hw.2.mul (bd_pt hc.2.2.1 hc.2.2.2))).le (by omega)
theorem mx_bd {w : Pt} {cs : List Pt} {k : Nat} (hw : WyS k w) (hc : ShOk cs) : Bd (k + 23) (mx w cs) := by
  obtain ⟨⟨c, h1, h2⟩, _⟩ := mx_is (w := w) hc.ne
  rw [h2]
  exact dot_bd hw (hc.2.2.1 c h1)
def a_p_reach : ASp := fun ds n Q => ∃ (cs : List Pt) (w : Pt), ds = [.tup (cs.map pt), pt w] ∧ ShOk cs ∧ WyS 8000 w ∧ Q (.int (mx w cs)) n
theorem ok_p_reach (T : Tx K mg A) : FnOk P w K mg base CX0 1 A.f_p_reach A.fd_p_reach ["shape", "way"] (spOf K 2 a_p_reach) := by
  refine fn_mir [] 6 rfl (by decide) (by decide) T.F_p_reach sc_p_reach fun cdv Ar outer s H E hr => ?_
  refine ⟨_, _, (pss_cons (ps_asg (pv 1) (k_gtup (K := K) (m := 2) rfl rfl (pgs_cons (pg_name (i := 2) sc_p_reach.nd rfl (.inr rfl)) (pgs_cons (pg_name (i := 3) sc_p_reach.nd rfl (.inr rfl)) pgs_nil))))
    (pss_one (ps_ret (pe_callB (k_max1 (K := K) rfl rfl) (by rfl) T.m_max (by decide +kernel) (pa_cons (pe_lc (own := [("x", 4), ("y", 5)]) rfl sc_p_reach.nd (k_iter (K := K) rfl (pv 0)) (blkOk_by (own := [("x", 4), ("y", 5)]) (N := ["shape", "way", "p", "q", "x", "y"]) (sc := defScope s_p_reach) (by decide +kernel)) (fun _ _ _ _ _ => (k_gtup (K := K) (m := 2) rfl rfl (pgs_cons (pg_name (i := 4) sc_p_reach.nd rfl (Or.inl rfl)) (pgs_cons (pg_name (i := 5) sc_p_reach.nd rfl (Or.inl rfl)) pgs_nil)))) (fun _ _ _ _ _ => pts_nil) (fun _ _ _ _ _ => (pe_op (k_add (K := K) rfl) (pe_op k_mul (pv 2) (pv 4)) (pe_op k_mul (pv 3) (pv 5))))) pa_nil))))), by infer_instance, fun ds n Q hl hA => ?_⟩
  obtain ⟨cs, w, rfl, hc, hw, q⟩ := hA
  have h16 := hc.2.1
  refine ⟨by rw [List.length_map]; omega, ?_⟩
  refine aLc_ind (fun acc ds m => m = n ∧ ∃ us vs : List Pt, cs = us ++ vs ∧ ds = vs.map pt ∧ acc = us.map fun c => D.int (dot w c)) ?_ ?_ ⟨rfl, [], cs, rfl, rfl, rfl⟩
  · rintro acc d r m ⟨rfl, us, vs, rfl, e, rfl⟩ ih
    cases vs with
    | nil => cases e
    | cons v vs =>
    obtain ⟨rfl, rfl⟩ := List.cons.inj e
    have hp := hc.2.2.1 v (List.mem_append_right _ List.mem_cons_self)
    unfold PtS at hp
    refine aT ⟨mulA hw.1 (bd_pt hp.1 hp.2.1) (by decide) (by decide), mulA hw.2 (bd_pt hp.2.2.1 hp.2.2.2) (by decide) (by decide), ih _ _ ⟨rfl, us ++ [v], vs, by simp, rfl, by rw [List.map_append]; rfl⟩⟩
  · rintro acc m ⟨rfl, us, vs, rfl, e, rfl⟩
    cases vs with
    | cons v vs => cases e
    | nil =>
    rw [List.append_nil] at hc q
    refine ⟨us.map (dot w), by rw [List.map_map]; rfl, by rw [List.length_map]; have := hc.1; omega, fun m h1 h2 => ?_⟩
    have : IsMax w us m := by
      obtain ⟨c, h3, h4⟩ := List.mem_map.mp h1
      exact ⟨⟨c, h3, h4.symm⟩, fun x hx => h2 _ (List.mem_map.mpr ⟨x, hx, rfl⟩)⟩
    rw [this.uniq (mx_is hc.ne)]
    exact q
def wid (b c : Bw) (w : Pt) : Int := mx w b.cs + mx (ngP w) c.cs

/-- two rows, and how long their differences' numbers are -/
structure Two (kp ks : Nat) (b c : Bw) : Prop where
  sb : ShOk b.cs
  sc : ShOk c.cs
  b1 : BdQ 8000 b.px
  b2 : BdQ 8000 b.py
  b3 : BdQ 8000 b.x
  b4 : BdQ 8000 b.y
  c1 : BdQ 8000 c.px
  c2 : BdQ 8000 c.py
  c3 : BdQ 8000 c.x
  c4 : BdQ 8000 c.y
  px : BdQ kp (c.px - b.px)
  py : BdQ kp (c.py - b.py)
  vx : BdQ ks (c.x - b.x)
  vy : BdQ ks (c.y - b.y)
  lim : kp + ks ≤ 4300
theorem Two.of {b c : Bw} {k m k' m' kp ks : Nat} (hb : b.ok k m) (hc : c.ok k' m') (h1 : k + k' + 1 ≤ kp) (h2 : m + m' + 1 ≤ ks) (h3 : kp + ks ≤ 4300) : Two kp ks b c :=
  ⟨hb.1, hc.1, hb.2.1.le (by omega), hb.2.2.1.le (by omega), hb.2.2.2.1.le (by omega), hb.2.2.2.2.le (by omega), hc.2.1.le (by omega), hc.2.2.1.le (by omega), hc.2.2.2.1.le (by omega), hc.2.2.2.2.le (by omega), (hc.2.1.sub hb.2.1).le (by omega), (hc.2.2.1.sub hb.2.2.1).le (by omega), (hc.2.2.2.1.sub hb.2.2.2.1).le (by omega), (hc.2.2.2.2.sub hb.2.2.2.2).le (by omega), h3⟩
theorem bdq_swap {k : Nat} {x y : Rat} (h : BdQ k (x - y)) : BdQ k (y - x) := by
  have e : y - x = -(x - y) := by grind
  rw [e]
  exact h.neg
theorem Two.sym {b c : Bw} {kp ks : Nat} (h : Two kp ks b c) : Two kp ks c b :=
  ⟨h.sc, h.sb, h.c1, h.c2, h.c3, h.c4, h.b1, h.b2, h.b3, h.b4, bdq_swap h.px, bdq_swap h.py, bdq_swap h.vx, bdq_swap h.vy, h.lim⟩
def ofx (b c : Bw) (t : Rat) : Rat := c.px - b.px + (c.x - b.x) * t
def ofy (b c : Bw) (t : Rat) : Rat := c.py - b.py + (c.y - b.y) * t
def gapQ (b c : Bw) (w : Pt) (t : Rat) : Rat := (w.1 : Rat) * ofx b c t + (w.2 : Rat) * ofy b c t - ((wid b c w : Int) : Rat)
def rtQ (b c : Bw) (w : Pt) : Rat := (w.1 : Rat) * (c.x - b.x) + (w.2 : Rat) * (c.y - b.y)
theorem gapQ_lin (b c : Bw) (w : Pt) (t : Rat) : gapQ b c w t = gapQ b c w 0 + rtQ b c w * t := by
  unfold gapQ rtQ ofx ofy
  grind
theorem gapQ_sym (b c : Bw) (w : Pt) (t : Rat) : gapQ c b (ngP w) t = gapQ b c w t := by
  have e : wid c b (ngP w) = wid b c w := by
    unfold wid
    rw [ngP_ngP, Int.add_comm]
  unfold gapQ
  rw [e]
  unfold ofx ofy ngP
  simp only
  rw [Rat.intCast_neg, Rat.intCast_neg]
  grind
theorem rtQ_sym (b c : Bw) (w : Pt) : rtQ c b (ngP w) = rtQ b c w := by
  unfold rtQ ngP
  simp only
  rw [Rat.intCast_neg, Rat.intCast_neg]
  grind
theorem wid_bd {b c : Bw} {w : Pt} {k : Nat} (hb : ShOk b.cs) (hc : ShOk c.cs) (hw : WyS k w) : Bd (k + 24) (wid b c w) := (mx_bd hw hb).add (mx_bd (ng_wys hw) hc)
theorem Two.off {b c : Bw} {t : Rat} {kp ks kt : Nat} (h : Two kp ks b c) (ht : BdQ kt t) : Bq (kp + ks + kt + 1) (kp + ks + kt) (ofx b c t) ∧ Bq (kp + ks + kt + 1) (kp + ks + kt) (ofy b c t) :=
  ⟨(h.px.q.add (h.vx.mul ht).q (s := kp + ks + kt) (by omega) (by omega)).le (Nat.le_refl _) (by omega), (h.py.q.add (h.vy.mul ht).q (s := kp + ks + kt) (by omega) (by omega)).le (Nat.le_refl _) (by omega)⟩
theorem Two.gap {b c : Bw} {w : Pt} {t : Rat} {kp ks kt kw : Nat} (h : Two kp ks b c) (hw : WyS kw w) (ht : BdQ kt t) : Bq (2 * (kp + ks + kt) + kw + 3) (2 * (kp + ks + kt) + 2) ((w.1 : Rat) * ofx b c t + (w.2 : Rat) * ofy b c t) ∧ Bq (2 * (kp + ks + kt) + kw + 28) (2 * (kp + ks + kt) + 3) (gapQ b c w t) := by
  obtain ⟨h1, h2⟩ := h.off ht
  have g1 := ((bq_int hw.1).mul h1).add ((bq_int hw.2).mul h2) (s := 2 * (kp + ks + kt) + kw + 2) (by omega) (by omega)
  have g1' : Bq (2 * (kp + ks + kt) + kw + 3) (2 * (kp + ks + kt) + 2) ((w.1 : Rat) * ofx b c t + (w.2 : Rat) * ofy b c t) := g1.le (by omega) (by omega)
  have g2 : Bq (kw + 24) 1 ((wid b c w : Int) : Rat) := bq_int (wid_bd h.sb h.sc hw)
  exact ⟨g1', (g1'.sub g2 (s := 2 * (kp + ks + kt) + kw + 27) (by omega) (by omega)).le (by omega) (by omega)⟩

/-! CUT -/
/-! ### what the shapes' sides make of a plane -/
def dq (p q : Rat) (a : Pt) : Rat := p * (a.1 : Rat) + q * (a.2 : Rat)
theorem dq_dot (w a : Pt) : dq (w.1 : Rat) (w.2 : Rat) a = ((dot w a : Int) : Rat) := by
  unfold dq dot
  rw [Rat.intCast_add, Rat.intCast_mul, Rat.intCast_mul]
theorem flat_crs {p q : Rat} (h0 : p ≠ 0 ∨ q ≠ 0) {u v : Pt} (hu : p * (u.1 : Rat) + q * (u.2 : Rat) = 0) (hv : p * (v.1 : Rat) + q * (v.2 : Rat) = 0) : crs u v = 0 := by
  have e : ((crs u v : Int) : Rat) = (u.1 : Rat) * (v.2 : Rat) - (u.2 : Rat) * (v.1 : Rat) := by
    unfold crs
    rw [Rat.intCast_sub, Rat.intCast_mul, Rat.intCast_mul]
  have z : ((crs u v : Int) : Rat) = ((0 : Int) : Rat) := by
    rw [e]
    show _ = (0 : Rat)
    generalize (u.1 : Rat) = a at *
    generalize (u.2 : Rat) = b at *
    generalize (v.1 : Rat) = c at *
    generalize (v.2 : Rat) = d at *
    rcases h0 with h | h
    · have : p * (a * d - b * c) = 0 := by grind
      rcases Rat.mul_eq_zero.mp this with z | z
      · exact absurd z h
      · exact z
    · have : q * (a * d - b * c) = 0 := by grind
      rcases Rat.mul_eq_zero.mp this with z | z
      · exact absurd z h
      · exact z
  exact Rat.intCast_inj.mp z
theorem vec_flat {p q : Rat} {a b : Pt} (h : dq p q a = dq p q b) : p * ((vec a b).1 : Rat) + q * ((vec a b).2 : Rat) = 0 := by
  unfold vec
  simp only
  rw [Rat.intCast_sub, Rat.intCast_sub]
  unfold dq at h
  grind
theorem not_flat {cs : List Pt} (h : ShOk cs) {p q : Rat} (h0 : p ≠ 0 ∨ q ≠ 0) : ∃ a ∈ cs, ∃ b ∈ cs, dq p q a < dq p q b := by
  obtain ⟨x, y, z, r, rfl⟩ : ∃ x y z r, cs = x :: y :: z :: r := by
    match cs, h.1 with
    | [], h => exact absurd h (by decide)
    | [_], h => exact absurd h (by simp)
    | [_, _], h => exact absurd h (by simp)
    | x :: y :: z :: r, _ => exact ⟨x, y, z, r, rfl⟩
  have hd := h.2.2.2.2.1
  rcases Classical.em (∃ a ∈ x :: y :: z :: r, ∃ b ∈ x :: y :: z :: r, dq p q a < dq p q b) with g | g
  · exact g
  · exfalso
    have eq : ∀ a ∈ x :: y :: z :: r, ∀ b ∈ x :: y :: z :: r, dq p q a = dq p q b := fun a ha b hb => by
      rcases Rat.le_total (a := dq p q a) (b := dq p q b) with l | l
      · exact Classical.byContradiction fun n => g ⟨a, ha, b, hb, Rat.lt_of_le_of_ne l n⟩
      · exact Classical.byContradiction fun n => g ⟨b, hb, a, ha, Rat.lt_of_le_of_ne l fun z => n z.symm⟩
    unfold Dst at hd
    obtain ⟨z', hz', tl, e⟩ : ∃ z' ∈ x :: y :: z :: r, ∃ tl, eds ((x :: y :: z :: r) ++ List.take 1 (x :: y :: z :: r)) = vec x y :: vec y z :: vec z z' :: tl := by
      cases r with
      | nil => exact ⟨x, by simp, [], rfl⟩
      | cons w r => exact ⟨w, by simp, _, rfl⟩
    rw [e] at hd
    have f1 := vec_flat (eq x (by simp) y (by simp))
    have f2 := vec_flat (eq y (by simp) z (by simp))
    have f3 := vec_flat (eq z (by simp) z' hz')
    simp only [List.pairwise_cons] at hd
    obtain ⟨d1, d2, d3, _⟩ := hd
    have n12 := d1 (vec y z) (by simp)
    have n13 := d1 (vec z z') (by simp)
    have n23 := d2 (vec z z') (by simp)
    have o12 := n12.opp (flat_crs h0 f1 f2)
    have o13 := n13.opp (flat_crs h0 f1 f3)
    have o23 := n23.opp (flat_crs h0 f2 f3)
    unfold lexP at o12 o13 o23
    have h9 : ∀ q : Pt, (neg q).1 = -q.1 ∧ (neg q).2 = -q.2 := fun q => ⟨rfl, rfl⟩
    have g1 := h9 (vec x y)
    have g2 := h9 (vec y z)
    have g3 := h9 (vec z z')
    omega

/-! ### the corner that lies farthest along a way, and its two sides -/
theorem rat_pos_iff {B x : Rat} (h : 0 < B) : 0 < B * x ↔ 0 < x := by
  constructor
  · intro h1
    rcases Rat.le_total (a := x) (b := 0) with z | z
    · have h2 : B * x ≤ B * 0 := Rat.mul_le_mul_of_nonneg_left z (Rat.le_of_lt h)
      rw [Rat.mul_zero] at h2
      exact absurd h1 (Rat.not_lt.mpr h2)
    · refine Rat.lt_of_le_of_ne z fun e => ?_
      rw [← e, Rat.mul_zero] at h1
      exact absurd h1 (by decide)
  · intro h1
    exact Rat.mul_pos h h1
theorem rat_neg_iff {B x : Rat} (h : 0 < B) : B * x < 0 ↔ x < 0 := by
  have := rat_pos_iff (x := -x) h
  have e : B * -x = -(B * x) := by grind
  rw [e] at this
  constructor
  · intro h1
    have : 0 < -x := this.mp (by grind)
    grind
  · intro h1
    have : 0 < -(B * x) := this.mpr (by grind)
    grind
theorem rat_nn_iff {B x : Rat} (h : 0 < B) : 0 ≤ B * x ↔ 0 ≤ x := by
  have := rat_neg_iff (x := x) h
  constructor
  · intro h1
    exact Rat.not_lt.mp fun z => absurd h1 (Rat.not_le.mpr (this.mpr z))
  · intro h1
    exact Rat.not_lt.mp fun z => absurd h1 (Rat.not_le.mpr (this.mp z))
theorem cast_lt0 {a : Int} : ((a : Int) : Rat) < 0 ↔ a < 0 := Rat.intCast_lt_intCast (b := 0)
theorem cast_nn {a : Int} : (0 : Rat) ≤ ((a : Int) : Rat) ↔ 0 ≤ a := Rat.intCast_le_intCast (a := 0)
theorem ring_sum (F : Pt → Rat) (y : Pt) : ∀ (x : Pt) (r : List Pt), ((((x :: r).zip (r ++ [y])).map fun e => F e.2 - F e.1)).sum = F y - F x
  | x, [] => by
    simp only [List.nil_append, List.zip_cons_cons, List.zip_nil_right, List.map_cons, List.map_nil, List.sum_cons, List.sum_nil]
    grind
  | x, z :: r => by
    have := ring_sum F y z r
    rw [List.cons_append, List.zip_cons_cons, List.map_cons, List.sum_cons, this]
    grind
theorem prs_sum {cs : List Pt} (h : cs ≠ []) (F : Pt → Rat) : ((prs cs).map fun e => F e.2 - F e.1).sum = 0 := by
  cases cs with
  | nil => exact absurd rfl h
  | cons x r =>
    have := ring_sum F x x r
    rw [show prs (x :: r) = (x :: r).zip (r ++ [x]) from rfl, this]
    grind
/-- the way of a side, times its divisor -/
theorem wyE_val0 {e : Pt × Pt} (h : e.1 ≠ e.2) : ∃ g : Int, 0 < g ∧ (wyE e).1 * g = e.2.2 - e.1.2 ∧ (wyE e).2 * g = e.1.1 - e.2.1 := by
  have g0 := gcdI_pos2 (p := e.2.2 - e.1.2) (q := e.1.1 - e.2.1) fun z => h (Prod.ext (by omega) (by omega))
  exact ⟨_, g0, Int.ediv_mul_cancel (gcdI_dvd_l _ _), Int.ediv_mul_cancel (gcdI_dvd_r _ _)⟩
theorem list_max {α : Type} (f : α → Rat) : ∀ {l : List α}, l ≠ [] → ∃ a ∈ l, ∀ b ∈ l, f b ≤ f a
  | [], h => absurd rfl h
  | [a], _ => ⟨a, List.mem_cons_self, fun b hb => by rw [List.mem_singleton.mp hb]; exact Rat.le_refl⟩
  | a :: b :: r, _ => by
    obtain ⟨c, hc, h⟩ := list_max f (l := b :: r) (fun z => nomatch z)
    rcases Rat.le_total (a := f a) (b := f c) with z | z
    · refine ⟨c, List.mem_cons_of_mem _ hc, fun x hx => ?_⟩
      rcases List.mem_cons.mp hx with rfl | hx
      · exact z
      · exact h x hx
    · refine ⟨a, List.mem_cons_self, fun x hx => ?_⟩
      rcases List.mem_cons.mp hx with rfl | hx
      · exact Rat.le_refl
      · have := h x hx
        grind
/-! ### when it is over -/
def cr (a b c d : Rat) : Rat := a * d - b * c
theorem left_crs2 (p a b : Pt) : leftI p a b = crs (vec p a) (vec a b) := by
  unfold leftI crs vec
  simp only
  grind
theorem corner_sides {cs : List Pt} (h : ShOk cs) {a : Pt} (ha : a ∈ cs) : ∃ p n : Pt, p ∈ cs ∧ n ∈ cs ∧ (p, a) ∈ prs cs ∧ (a, n) ∈ prs cs ∧ 0 < crs (vec p a) (vec a n) := by
  obtain ⟨k, hk, rfl⟩ := List.mem_iff_getElem.mp ha
  have h3 := h.1
  have hl0 : 0 < cs.length := by omega
  obtain ⟨j, hj, ej⟩ : ∃ j, j < cs.length ∧ (j + 1) % cs.length = k := by
    by_cases z : k = 0
    · exact ⟨cs.length - 1, by omega, by rw [z, Nat.sub_add_cancel (by omega), Nat.mod_self]⟩
    · exact ⟨k - 1, by omega, by rw [Nat.sub_add_cancel (by omega), Nat.mod_eq_of_lt hk]⟩
  have g1 := prs_get hj
  have g2 := prs_get hk
  have hn : (k + 1) % cs.length < cs.length := Nat.mod_lt _ hl0
  have e1 : cs[(j + 1) % cs.length]'(Nat.mod_lt _ hl0) = cs[k] := by congr 1
  rw [e1] at g1
  refine ⟨cs[j], cs[(k + 1) % cs.length]'hn, List.getElem_mem _, List.getElem_mem _, List.mem_iff_getElem?.mpr ⟨j, g1⟩, List.mem_iff_getElem?.mpr ⟨k, g2⟩, ?_⟩
  obtain ⟨P, hP⟩ : ∃ P, cs[j] = P := ⟨_, rfl⟩
  obtain ⟨a, hA⟩ : ∃ a, cs[k] = a := ⟨_, rfl⟩
  obtain ⟨N, hN⟩ : ∃ N, cs[(k + 1) % cs.length]'hn = N := ⟨_, rfl⟩
  rw [hP, hA] at g1
  rw [hA, hN] at g2
  rw [hP, hA, hN]
  have m1 : (P, a) ∈ prs cs := List.mem_iff_getElem?.mpr ⟨j, g1⟩
  have m2 : (a, N) ∈ prs cs := List.mem_iff_getElem?.mpr ⟨k, g2⟩
  have hcv := h.2.2.2.2.2
  have s1 := (hcv (P, a) m1).2
  have s2 := (hcv (a, N) m2).2
  have hNc : N ∈ cs := by rw [← hN]; exact List.getElem_mem _
  have hge : 0 ≤ crs (vec P a) (vec a N) := by
    rw [← left_crs2]
    exact s1 N hNc
  refine Int.lt_iff_le_and_ne.mpr ⟨hge, fun z => ?_⟩
  -- two sides beside one another on one line
  have hjk : j ≠ k := fun z => by
    subst z
    rcases Nat.lt_or_ge (j + 1) cs.length with h5 | h5
    · rw [Nat.mod_eq_of_lt h5] at ej
      omega
    · have : j + 1 = cs.length := by omega
      rw [this, Nat.mod_self] at ej
      omega
  have hne1 := (prs_ok h _ m1).1
  have hne2 := (prs_ok h _ m2).1
  have hd := h.2.2.2.2.1
  unfold Dst at hd
  have hed : eds (cs ++ cs.take 1) = (prs cs).map fun e => vec e.1 e.2 := by
    cases cs with
    | nil => exact absurd h3 (by decide)
    | cons x r => exact eds_zip x (x :: r)
  rw [hed, List.pairwise_iff_getElem] at hd
  have hpl : (prs cs).length = cs.length := prs_len (fun z => by rw [z] at h3; simp at h3)
  have q1 : ((prs cs).map fun e => vec e.1 e.2)[j]'(by rw [List.length_map, hpl]; exact hj) = vec P a := by
    rw [List.getElem_map]
    have := (List.getElem?_eq_some_iff.mp g1).2
    rw [this]
  have q2 : ((prs cs).map fun e => vec e.1 e.2)[k]'(by rw [List.length_map, hpl]; exact hk) = vec a N := by
    rw [List.getElem_map]
    have := (List.getElem?_eq_some_iff.mp g2).2
    rw [this]
  have opp : (lexP (vec P a) ∧ lexP (neg (vec a N))) ∨ (lexP (vec a N) ∧ lexP (neg (vec P a))) := by
    rcases Nat.lt_or_gt_of_ne hjk with l | l
    · have := hd j k (by rw [List.length_map, hpl]; exact hj) (by rw [List.length_map, hpl]; exact hk) l
      rw [q1, q2] at this
      exact this.opp z.symm
    · have := hd k j (by rw [List.length_map, hpl]; exact hk) (by rw [List.length_map, hpl]; exact hj) l
      rw [q1, q2] at this
      refine (this.opp ?_).symm
      have : crs (vec a N) (vec P a) = -crs (vec P a) (vec a N) := by unfold crs; grind
      omega
  have flat : ∀ b ∈ cs, crs (vec P a) (vec a b) = 0 := fun b hb => by
    have l1 := s1 b hb
    have l2 := s2 b hb
    rw [left_crs2] at l1
    have l2' : 0 ≤ crs (vec a N) (vec a b) := by
      have e5 : leftI a N b = crs (vec a N) (vec a b) := by
        unfold leftI crs vec
        simp only
      rw [← e5]
      exact l2
    generalize vec P a = E at *
    generalize vec a N = F at *
    generalize vec a b = Z at *
    obtain ⟨x1, y1⟩ := E
    obtain ⟨x2, y2⟩ := F
    obtain ⟨zx, zy⟩ := Z
    unfold crs at *
    unfold lexP neg at opp
    simp only at *
    have hz : x1 * y2 = y1 * x2 := by omega
    have idX : x1 * (x2 * zy - y2 * zx) = x2 * (x1 * zy - y1 * zx) := by grind
    have idY : y1 * (x2 * zy - y2 * zx) = y2 * (x1 * zy - y1 * zx) := by grind
    generalize x2 * zy - y2 * zx = B at *
    generalize x1 * zy - y1 * zx = C at *
    have nlt : ∀ {s t : Int}, 0 < s → t < 0 → s * B = t * C → C = 0 := fun hs ht e => by
      have h5 := Int.mul_nonneg (show 0 ≤ _ from Int.le_of_lt hs) l2'
      have h6 := Int.mul_nonneg (show 0 ≤ _ from Int.le_of_lt (Int.neg_pos_of_neg ht)) l1
      rw [Int.neg_mul, ← e] at h6
      have h7 : _ * B = 0 := Int.le_antisymm (by omega) h5
      rw [h7] at e
      rcases Int.mul_eq_zero.mp e.symm with z | z
      · omega
      · exact z
    rcases opp with ⟨o1, o2⟩ | ⟨o1, o2⟩
    · rcases o1 with o1 | ⟨o1, o1'⟩
      · have : x2 < 0 := by
          rcases o2 with o2 | ⟨o2, o2'⟩
          · omega
          · have : x2 = 0 := by omega
            rw [this, Int.mul_zero] at hz
            rcases Int.mul_eq_zero.mp hz with z | z <;> omega
        exact nlt o1 this idX
      · have : x2 = 0 := by
          rw [o1, Int.zero_mul] at hz
          rcases Int.mul_eq_zero.mp hz.symm with z | z <;> omega
        exact nlt o1' (by omega) idY
    · have nlt2 : ∀ {s t : Int}, s < 0 → 0 < t → s * B = t * C → C = 0 := fun {s t} hs ht e => nlt (s := -s) (t := -t) (by omega) (by omega) (by rw [Int.neg_mul, Int.neg_mul, e])
      rcases o1 with o1 | ⟨o1, o1'⟩
      · have : x1 < 0 := by
          rcases o2 with o2 | ⟨o2, o2'⟩
          · omega
          · have : x1 = 0 := by omega
            rw [this, Int.zero_mul] at hz
            rcases Int.mul_eq_zero.mp hz.symm with z | z <;> omega
        exact nlt2 this o1 idX
      · have : x1 = 0 := by
          rw [o1, Int.mul_zero] at hz
          rcases Int.mul_eq_zero.mp hz with z | z <;> omega
        exact nlt2 (by omega) o1' idY
  obtain ⟨b1, hb1, b2, hb2, hlt⟩ := not_flat h (p := -((vec P a).2 : Rat)) (q := ((vec P a).1 : Rat)) (by
    rcases Classical.em ((vec P a).1 = 0) with z5 | z5
    · left
      intro z6
      have z7 : (vec P a).2 = 0 := Rat.intCast_inj.mp (show ((vec P a).2 : Rat) = ((0 : Int) : Rat) by show _ = (0 : Rat); grind)
      refine hne1 ?_
      unfold vec at z5 z7
      simp only at z5 z7
      exact Prod.ext (by simp only; omega) (by simp only; omega)
    · exact .inr fun z6 => z5 (Rat.intCast_inj.mp (show _ = ((0 : Int) : Rat) from z6)))
  have dqv : ∀ b ∈ cs, dq (-((vec P a).2 : Rat)) ((vec P a).1 : Rat) b = dq (-((vec P a).2 : Rat)) ((vec P a).1 : Rat) a := fun b hb => by
    have := flat b hb
    have e6 : ((crs (vec P a) (vec a b) : Int) : Rat) = dq (-((vec P a).2 : Rat)) ((vec P a).1 : Rat) b - dq (-((vec P a).2 : Rat)) ((vec P a).1 : Rat) a := by
      unfold crs dq
      rw [Rat.intCast_sub, Rat.intCast_mul, Rat.intCast_mul]
      have v1 : ((vec a b).1 : Rat) = (b.1 : Rat) - (a.1 : Rat) := Rat.intCast_sub _ _
      have v2 : ((vec a b).2 : Rat) = (b.2 : Rat) - (a.2 : Rat) := Rat.intCast_sub _ _
      rw [v1, v2]
      grind
    rw [this] at e6
    have e7 : (0 : Rat) = dq (-((vec P a).2 : Rat)) ((vec P a).1 : Rat) b - dq (-((vec P a).2 : Rat)) ((vec P a).1 : Rat) a := e6
    grind
  rw [dqv b1 hb1, dqv b2 hb2] at hlt
  exact absurd hlt Rat.lt_irrefl
theorem side_way {cs : List Pt} (h : ShOk cs) {p a : Pt} (m : (p, a) ∈ prs cs) : ∃ g : Rat, 0 < g ∧ ((wyE (p, a)).1 : Rat) * g = (a.2 : Rat) - (p.2 : Rat) ∧ ((wyE (p, a)).2 : Rat) * g = (p.1 : Rat) - (a.1 : Rat) := by
  obtain ⟨g, g0, h1, h2⟩ := wyE_val0 (prs_ok h _ m).1
  refine ⟨(g : Rat), (Rat.intCast_lt_intCast (a := 0)).mpr g0, ?_, ?_⟩
  · rw [← Rat.intCast_mul, h1, Rat.intCast_sub]
  · rw [← Rat.intCast_mul, h2, Rat.intCast_sub]
theorem side_max {cs : List Pt} (h : ShOk cs) {p a b : Pt} (m : (p, a) ∈ prs cs) (hb : b ∈ cs) : dq (wyE (p, a)).1 (wyE (p, a)).2 b ≤ dq (wyE (p, a)).1 (wyE (p, a)).2 a ∧ dq (wyE (p, a)).1 (wyE (p, a)).2 b ≤ dq (wyE (p, a)).1 (wyE (p, a)).2 p := by
  obtain ⟨g, g0, e1, e2⟩ := side_way h m
  have hl := (h.2.2.2.2.2 (p, a) m).2 b hb
  have hl' : (0 : Rat) ≤ ((leftI p a b : Int) : Rat) := cast_nn.mpr hl
  have el : ((leftI p a b : Int) : Rat) = ((a.1 : Rat) - (p.1 : Rat)) * ((b.2 : Rat) - (p.2 : Rat)) - ((a.2 : Rat) - (p.2 : Rat)) * ((b.1 : Rat) - (p.1 : Rat)) := by
    unfold leftI
    rw [Rat.intCast_sub, Rat.intCast_mul, Rat.intCast_mul, Rat.intCast_sub, Rat.intCast_sub, Rat.intCast_sub, Rat.intCast_sub]
  rw [el] at hl'
  unfold dq
  generalize ((wyE (p, a)).1 : Rat) = x at *
  generalize ((wyE (p, a)).2 : Rat) = y at *
  have k1 : 0 ≤ g * (x * (a.1 : Rat) + y * (a.2 : Rat) - (x * (b.1 : Rat) + y * (b.2 : Rat))) := by
    have : g * (x * (a.1 : Rat) + y * (a.2 : Rat) - (x * (b.1 : Rat) + y * (b.2 : Rat))) = (x * g) * ((a.1 : Rat) - (b.1 : Rat)) + (y * g) * ((a.2 : Rat) - (b.2 : Rat)) := by grind
    rw [this, e1, e2]
    grind
  have k2 : 0 ≤ g * (x * (p.1 : Rat) + y * (p.2 : Rat) - (x * (b.1 : Rat) + y * (b.2 : Rat))) := by
    have : g * (x * (p.1 : Rat) + y * (p.2 : Rat) - (x * (b.1 : Rat) + y * (b.2 : Rat))) = (x * g) * ((p.1 : Rat) - (b.1 : Rat)) + (y * g) * ((p.2 : Rat) - (b.2 : Rat)) := by grind
    rw [this, e1, e2]
    grind
  have := (rat_nn_iff g0).mp k1
  have := (rat_nn_iff g0).mp k2
  grind
/-- the corner that lies farthest along u, and the ways of its two sides -/
theorem vertex {cs : List Pt} (h : ShOk cs) (ux uy : Rat) : ∃ a ∈ cs, ∃ w1 ∈ waysOf cs, ∃ w2 ∈ waysOf cs, (∀ b ∈ cs, dq ux uy b ≤ dq ux uy a) ∧ 0 ≤ cr w1.1 w1.2 ux uy ∧ 0 ≤ cr ux uy w2.1 w2.2 ∧ 0 < cr w1.1 w1.2 w2.1 w2.2 ∧ (∀ b ∈ cs, dq w1.1 w1.2 b ≤ dq w1.1 w1.2 a) ∧ ∀ b ∈ cs, dq w2.1 w2.2 b ≤ dq w2.1 w2.2 a := by
  obtain ⟨a, ha, hmax⟩ := list_max (dq ux uy) h.ne
  obtain ⟨p, n, hp, hn, m1, m2, hx⟩ := corner_sides h ha
  obtain ⟨g1, g10, e1, e2⟩ := side_way h m1
  obtain ⟨g2, g20, f1, f2⟩ := side_way h m2
  have hap := hmax p hp
  have han := hmax n hn
  have hxq : (0 : Rat) < ((crs (vec p a) (vec a n) : Int) : Rat) := (Rat.intCast_lt_intCast (a := 0)).mpr hx
  have ex : ((crs (vec p a) (vec a n) : Int) : Rat) = ((a.1 : Rat) - (p.1 : Rat)) * ((n.2 : Rat) - (a.2 : Rat)) - ((a.2 : Rat) - (p.2 : Rat)) * ((n.1 : Rat) - (a.1 : Rat)) := by
    unfold crs vec
    simp only
    rw [Rat.intCast_sub, Rat.intCast_mul, Rat.intCast_mul, Rat.intCast_sub, Rat.intCast_sub, Rat.intCast_sub, Rat.intCast_sub]
  rw [ex] at hxq
  refine ⟨a, ha, wyE (p, a), List.mem_map.mpr ⟨_, m1, rfl⟩, wyE (a, n), List.mem_map.mpr ⟨_, m2, rfl⟩, hmax, ?_, ?_, ?_, fun b hb => (side_max h m1 hb).1, fun b hb => (side_max h m2 hb).2⟩
  · refine (rat_nn_iff g10).mp ?_
    unfold dq at hap
    unfold cr
    generalize ((wyE (p, a)).1 : Rat) = x at *
    generalize ((wyE (p, a)).2 : Rat) = y at *
    have : g1 * (x * uy - y * ux) = (x * g1) * uy - (y * g1) * ux := by grind
    rw [this, e1, e2]
    grind
  · refine (rat_nn_iff g20).mp ?_
    unfold dq at han
    unfold cr
    generalize ((wyE (a, n)).1 : Rat) = x at *
    generalize ((wyE (a, n)).2 : Rat) = y at *
    have : g2 * (ux * y - uy * x) = ux * (y * g2) - uy * (x * g2) := by grind
    rw [this, f1, f2]
    grind
  · refine (rat_pos_iff (Rat.mul_pos g10 g20)).mp ?_
    unfold cr
    generalize ((wyE (p, a)).1 : Rat) = x at *
    generalize ((wyE (p, a)).2 : Rat) = y at *
    generalize ((wyE (a, n)).1 : Rat) = x' at *
    generalize ((wyE (a, n)).2 : Rat) = y' at *
    have : g1 * g2 * (x * y' - y * x') = (x * g1) * (y' * g2) - (y * g1) * (x' * g2) := by grind
    rw [this, e1, e2, f1, f2]
    grind
theorem cone_max {w1x w1y w2x w2y px py : Rat} (h1 : 0 ≤ cr w1x w1y px py) (h2 : 0 ≤ cr px py w2x w2y) (h3 : 0 < cr w1x w1y w2x w2y) {a b : Pt} (g1 : dq w1x w1y b ≤ dq w1x w1y a) (g2 : dq w2x w2y b ≤ dq w2x w2y a) : dq px py b ≤ dq px py a := by
  have e : cr w1x w1y w2x w2y * (dq px py a - dq px py b) = cr px py w2x w2y * (dq w1x w1y a - dq w1x w1y b) + cr w1x w1y px py * (dq w2x w2y a - dq w2x w2y b) := by
    unfold cr dq
    grind
  have k1 := Rat.mul_nonneg h2 (show 0 ≤ dq w1x w1y a - dq w1x w1y b by grind)
  have k2 := Rat.mul_nonneg h1 (show 0 ≤ dq w2x w2y a - dq w2x w2y b by grind)
  have := (rat_nn_iff h3).mp (show 0 ≤ cr w1x w1y w2x w2y * (dq px py a - dq px py b) by rw [e]; grind)
  grind
theorem mx_of {w : Pt} {cs : List Pt} (hne : cs ≠ []) {a : Pt} (ha : a ∈ cs) (h : ∀ b ∈ cs, dq w.1 w.2 b ≤ dq w.1 w.2 a) : ((mx w cs : Int) : Rat) = dq w.1 w.2 a := by
  have : IsMax w cs (dot w a) := ⟨⟨a, ha, rfl⟩, fun c hc => by
    have := h c hc
    rw [dq_dot, dq_dot] at this
    exact Rat.intCast_le_intCast.mp this⟩
  rw [(mx_is hne).uniq this, dq_dot]


/-! ### shapes begun elsewhere -/
def dt (u v : Pt) : Int := u.1 * v.1 + u.2 * v.2
theorem sg1 {a b c d : Int} (h : a * d - b * c = 0) (hu : 0 < a ∨ (a = 0 ∧ 0 < b)) (hv : 0 < -c ∨ (-c = 0 ∧ 0 < -d)) : a * c + b * d < 0 := by
  rcases hu with ha | ⟨rfl, hb⟩
  · rcases hv with hc | ⟨hc, hd⟩
    · have h1 : a * c < 0 := Int.mul_neg_of_pos_of_neg ha (by omega)
      have h2 : b * d ≤ 0 := by
        rcases Int.lt_trichotomy b 0 with hb | hb | hb
        · have h3 : 0 < b * c := Int.mul_pos_of_neg_of_neg hb (by omega)
          have h4 : 0 < d := Int.pos_of_mul_pos_right (a := a) (by omega) ha
          exact Int.le_of_lt (Int.mul_neg_of_neg_of_pos hb h4)
        · rw [hb]; simp
        · have h3 : b * c < 0 := Int.mul_neg_of_pos_of_neg hb (by omega)
          have h4 : d < 0 := Int.not_le.mp fun z => by
            have := Int.mul_nonneg (Int.le_of_lt ha) z
            omega
          exact Int.le_of_lt (Int.mul_neg_of_pos_of_neg hb h4)
      omega
    · obtain rfl : c = 0 := by omega
      have := Int.mul_neg_of_pos_of_neg ha (show d < 0 by omega)
      omega
  · rcases hv with hc | ⟨hc, hd⟩
    · have := Int.mul_neg_of_pos_of_neg hb (show c < 0 by omega)
      omega
    · have := Int.mul_neg_of_pos_of_neg hb (show d < 0 by omega)
      omega
theorem sg2 {a b c d : Int} (h : a * d - b * c = 0) (hd : a * c + b * d < 0) (ha : 0 < a ∨ (a = 0 ∧ 0 < b)) : 0 < -c ∨ (-c = 0 ∧ 0 < -d) := by
  refine Classical.byContradiction fun z => ?_
  have hv : (0 < c ∨ (c = 0 ∧ 0 < d)) ∨ (c = 0 ∧ d = 0) := by omega
  rcases hv with hv | ⟨rfl, rfl⟩
  · have := sg1 (a := a) (b := b) (c := -c) (d := -d) (by grind) ha (by omega)
    grind
  · simp at hd
theorem nsd_iff {u v : Pt} : Nsd u v ↔ crs u v ≠ 0 ∨ dt u v < 0 := by
  obtain ⟨a, b⟩ := u
  obtain ⟨c, d⟩ := v
  constructor
  · intro h
    by_cases hz : crs (a, b) (c, d) = 0
    · refine .inr ?_
      have hz' : a * d - b * c = 0 := hz
      rcases h.opp hz with ⟨l1, l2⟩ | ⟨l1, l2⟩
      · exact sg1 hz' l1 l2
      · have := sg1 (a := c) (b := d) (c := a) (d := b) (by grind) l1 l2
        show a * c + b * d < 0
        grind
    · exact .inl hz
  · rintro (h | h)
    · exact .inl h
    · by_cases hz : crs (a, b) (c, d) = 0
      · have hz' : a * d - b * c = 0 := hz
        have h' : a * c + b * d < 0 := h
        by_cases hl : 0 < a ∨ (a = 0 ∧ 0 < b)
        · exact .inr (.inl ⟨hl, sg2 hz' h' hl⟩)
        · have hl2 : 0 < -a ∨ (-a = 0 ∧ 0 < -b) := by
            have : ¬ (a = 0 ∧ b = 0) := fun ⟨x, y⟩ => by subst x y; simp at h'
            omega
          have h3 := sg2 (a := -a) (b := -b) (c := -c) (d := -d) (by grind) (by grind) hl2
          exact .inr (.inr ⟨show 0 < c ∨ (c = 0 ∧ 0 < d) by omega, hl2⟩)
      · exact .inl hz
theorem nsd_symm {u v : Pt} (h : Nsd u v) : Nsd v u := by
  rw [nsd_iff] at h ⊢
  unfold crs dt at *
  rcases h with h | h
  · exact .inl (by grind)
  · exact .inr (by grind)
/-- what a shape is, by its corners and its sides -/
theorem shok_of {cs : List Pt} (h3 : 3 ≤ cs.length) (h16 : cs.length ≤ 16) (hb : ∀ p ∈ cs, PtS p) (hd : ((prs cs).map fun e => vec e.1 e.2).Pairwise Nsd) (hc : ∀ e ∈ prs cs, e.1 ≠ e.2 ∧ ∀ p ∈ cs, 0 ≤ leftI e.1 e.2 p) : ShOk cs := by
  refine ⟨h3, h16, hb, fun e he => (hc e he).1, ?_, fun e he => ⟨(hc e he).1, (hc e he).2⟩⟩
  unfold Dst
  match cs, h3, hd with
  | x :: r, _, hd =>
    rw [show (x :: r).take 1 = [x] from rfl, eds_zip x (x :: r)]
    exact hd
theorem shok_at {cs : List Pt} (h : ShOk cs) : ((prs cs).map fun e => vec e.1 e.2).Pairwise Nsd ∧ ∀ e ∈ prs cs, e.1 ≠ e.2 ∧ ∀ p ∈ cs, 0 ≤ leftI e.1 e.2 p := by
  obtain ⟨h3, h16, hb, hn, hd, hc⟩ := h
  refine ⟨?_, fun e he => ⟨(hc e he).1, (hc e he).2⟩⟩
  unfold Dst at hd
  match cs, h3, hd with
  | x :: r, _, hd =>
    rw [show (x :: r).take 1 = [x] from rfl, eds_zip x (x :: r)] at hd
    exact hd
/-- begun one corner later -/
theorem prs_rot1 (x : Pt) (r : List Pt) : (prs (r ++ [x])).Perm (prs (x :: r)) := by
  cases r with
  | nil => exact List.Perm.refl _
  | cons y s =>
    have e1 : prs (y :: s ++ [x]) = (y :: s).zip (s ++ [x]) ++ [(x, y)] := by
      show ((y :: s) ++ [x]).zip (((s ++ [x]) ++ [y])) = _
      rw [List.zip_append (by simp)]
      rfl
    have e2 : prs (x :: y :: s) = (x, y) :: (y :: s).zip (s ++ [x]) := rfl
    rw [e1, e2]
    exact List.perm_append_singleton _ _
theorem rot_step {l : List Pt} {j : Nat} (hj : j < l.length) : ∃ x r, l.drop j ++ l.take j = x :: r ∧ l.drop (j + 1) ++ l.take (j + 1) = r ++ [x] := by
  refine ⟨l[j], l.drop (j + 1) ++ l.take j, ?_, ?_⟩
  · rw [List.drop_eq_getElem_cons hj]
    rfl
  · rw [List.append_assoc, List.take_succ_eq_append_getElem hj]
theorem prs_rot {l : List Pt} : ∀ {j : Nat}, j ≤ l.length → (prs (l.drop j ++ l.take j)).Perm (prs l)
  | 0, _ => by simp
  | j + 1, h => by
    obtain ⟨x, r, e1, e2⟩ := rot_step (l := l) (j := j) (by omega)
    have ih := prs_rot (l := l) (j := j) (by omega)
    rw [e1] at ih
    rw [e2]
    exact (prs_rot1 x r).trans ih
theorem rot_perm {l : List Pt} (j : Nat) : (l.drop j ++ l.take j).Perm l := by
  have := List.perm_append_comm (l₁ := l.drop j) (l₂ := l.take j)
  rwa [List.take_append_drop] at this
theorem shok_rot {cs : List Pt} (h : ShOk cs) {j : Nat} (hj : j ≤ cs.length) : ShOk (cs.drop j ++ cs.take j) := by
  obtain ⟨hN, hC⟩ := shok_at h
  have hp := rot_perm (l := cs) j
  have he := prs_rot hj
  refine shok_of (by have := h.1; have := hp.length_eq; omega) (by have := h.2.1; have := hp.length_eq; omega) (fun q hq => h.2.2.1 q (hp.mem_iff.mp hq)) ?_ (fun e he' => ?_)
  · exact ((he.map fun e => vec e.1 e.2).pairwise_iff nsd_symm).mpr hN
  · obtain ⟨h1, h2⟩ := hC e (he.mem_iff.mp he')
    exact ⟨h1, fun q hq => h2 q (hp.mem_iff.mp hq)⟩

/-! ### a shape's corners lie strictly to the left of each side but its own two -/
theorem sgn_ge {D k X Y : Int} (hD : 0 < D) (e : D * X = k * Y) (hX : 0 ≤ X) (hk : 0 < k) : 0 ≤ Y := by
  rcases (show Y < 0 ∨ 0 ≤ Y by omega) with h | h
  · have h1 := Int.mul_neg_of_pos_of_neg hk h
    have h2 := Int.mul_nonneg (Int.le_of_lt hD) hX
    omega
  · exact h
theorem dot_pos {u : Pt} (h : u ≠ (0, 0)) : 0 < u.1 * u.1 + u.2 * u.2 := by
  have h1 : 0 ≤ u.1 * u.1 := by
    rcases Int.le_total 0 u.1 with z | z
    · exact Int.mul_nonneg z z
    · exact Int.mul_nonneg_of_nonpos_of_nonpos z z
  have h2 : 0 ≤ u.2 * u.2 := by
    rcases Int.le_total 0 u.2 with z | z
    · exact Int.mul_nonneg z z
    · exact Int.mul_nonneg_of_nonpos_of_nonpos z z
  rcases (show 0 < u.1 * u.1 + u.2 * u.2 ∨ u.1 * u.1 + u.2 * u.2 ≤ 0 by omega) with z | z
  · exact z
  · exfalso
    have e1 : u.1 * u.1 = 0 := by omega
    have e2 : u.2 * u.2 = 0 := by omega
    exact h (Prod.ext (by rcases Int.mul_eq_zero.mp e1 with z | z <;> exact z) (by rcases Int.mul_eq_zero.mp e2 with z | z <;> exact z))
theorem lex_dot {u v : Pt} (h1 : lexP u) (h2 : lexP (neg v)) (z : crs u v = 0) : u.1 * v.1 + u.2 * v.2 < 0 := by
  obtain ⟨a, b⟩ := u
  obtain ⟨c, d⟩ := v
  unfold lexP neg at *
  unfold crs at z
  simp only at *
  rcases h1 with h1 | ⟨rfl, h1⟩
  · rcases h2 with h2 | ⟨h2, h3⟩
    · have k1 : a * c < 0 := Int.mul_neg_of_pos_of_neg h1 (by omega)
      have e : a * (-(b * d)) = (-c) * (b * b) := by grind
      have bb : 0 ≤ b * b := by
        rcases Int.le_total 0 b with z | z
        · exact Int.mul_nonneg z z
        · exact Int.mul_nonneg_of_nonpos_of_nonpos z z
      have k2 : 0 ≤ -(b * d) := by
        have e' : (-c) * (b * b) = a * (-(b * d)) := e.symm
        rcases (show -(b * d) < 0 ∨ 0 ≤ -(b * d) by omega) with h | h
        · have h5 := Int.mul_neg_of_pos_of_neg h1 h
          have h6 := Int.mul_nonneg (show 0 ≤ -c by omega) bb
          omega
        · exact h
      omega
    · have hc : c = 0 := by omega
      subst hc
      have hd : a * d = 0 := by omega
      rcases Int.mul_eq_zero.mp hd with z | z <;> omega
  · have hc : b * c = 0 := by omega
    rcases Int.mul_eq_zero.mp hc with z | rfl
    · omega
    · have := Int.mul_neg_of_pos_of_neg h1 (show d < 0 by omega)
      omega
theorem edge_opp {cs : List Pt} (h : ShOk cs) {i j : Nat} {e f : Pt × Pt} (hi : (prs cs)[i]? = some e) (hj : (prs cs)[j]? = some f) (hij : i ≠ j) (z : crs (vec e.1 e.2) (vec f.1 f.2) = 0) : (vec e.1 e.2).1 * (vec f.1 f.2).1 + (vec e.1 e.2).2 * (vec f.1 f.2).2 < 0 := by
  have hd := h.2.2.2.2.1
  have hne : cs ≠ [] := fun z => by have := h.1; rw [z] at this; simp at this
  unfold Dst at hd
  obtain ⟨x, r, rfl⟩ : ∃ x r, cs = x :: r := by
    cases cs with
    | nil => exact absurd rfl hne
    | cons x r => exact ⟨x, r, rfl⟩
  have et : (x :: r).take 1 = [x] := rfl
  rw [et, eds_zip x (x :: r)] at hd
  have hd' : (prs (x :: r)).Pairwise (fun e f => Nsd (vec e.1 e.2) (vec f.1 f.2)) := List.pairwise_map.mp hd
  have one : ∀ (i j : Nat) (e f : Pt × Pt), (prs (x :: r))[i]? = some e → (prs (x :: r))[j]? = some f → i < j → crs (vec e.1 e.2) (vec f.1 f.2) = 0 → (vec e.1 e.2).1 * (vec f.1 f.2).1 + (vec e.1 e.2).2 * (vec f.1 f.2).2 < 0 := fun i j e f hi hj lt z => by
    obtain ⟨li, ei⟩ := List.getElem?_eq_some_iff.mp hi
    obtain ⟨lj, ej⟩ := List.getElem?_eq_some_iff.mp hj
    have n := List.pairwise_iff_getElem.mp hd' i j li lj lt
    rw [ei, ej] at n
    rcases n.opp z with ⟨l1, l2⟩ | ⟨l1, l2⟩
    · exact lex_dot l1 l2 z
    · have z' : crs (vec f.1 f.2) (vec e.1 e.2) = 0 := by unfold crs at z ⊢; grind
      have := lex_dot l1 l2 z'
      grind
  rcases Nat.lt_or_gt_of_ne hij with lt | lt
  · exact one i j e f hi hj lt z
  · have z' : crs (vec f.1 f.2) (vec e.1 e.2) = 0 := by unfold crs at z ⊢; grind
    have := one j i f e hj hi lt z'
    grind
theorem left_crs (a b c : Pt) : leftI a b c = crs (vec a b) (vec a c) := by
  unfold leftI crs vec
  rfl
theorem vec_ne {a b : Pt} (h : a ≠ b) : vec a b ≠ (0, 0) := fun z => h (by
  have z1 := congrArg Prod.fst z
  have z2 := congrArg Prod.snd z
  unfold vec at z1 z2
  simp only at z1 z2
  exact Prod.ext (by omega) (by omega))
/-- no two sides lie on one line -/
theorem no_par {cs : List Pt} (h : ShOk cs) {i j : Nat} {e f : Pt × Pt} (hi : (prs cs)[i]? = some e) (hj : (prs cs)[j]? = some f) (hij : i ≠ j) (z : crs (vec e.1 e.2) (vec f.1 f.2) = 0) (l : leftI e.1 e.2 f.1 = 0) : False := by
  have t := edge_opp h hi hj hij z
  obtain ⟨ne, ce⟩ := h.2.2.2.2.2 e (List.mem_of_getElem? hi)
  obtain ⟨nf, cf⟩ := h.2.2.2.2.2 f (List.mem_of_getElem? hj)
  have hv := vec_ne ne
  have hD := dot_pos hv
  have all : ∀ x ∈ cs, leftI e.1 e.2 x = 0 := fun x hx => by
    have h1 := ce x hx
    have h2 := cf x hx
    have e3 : ((vec e.1 e.2).1 * (vec e.1 e.2).1 + (vec e.1 e.2).2 * (vec e.1 e.2).2) * leftI f.1 f.2 x = (-((vec e.1 e.2).1 * (vec f.1 f.2).1 + (vec e.1 e.2).2 * (vec f.1 f.2).2)) * (-(leftI e.1 e.2 x)) := by
      unfold leftI crs vec at *
      simp only at *
      grind
    have := sgn_ge hD e3 h2 (by omega)
    omega
  have h0 : ((-(vec e.1 e.2).2 : Int) : Rat) ≠ 0 ∨ (((vec e.1 e.2).1 : Int) : Rat) ≠ 0 := by
    rcases Classical.em ((vec e.1 e.2).1 = 0) with z1 | z1
    · rcases Classical.em ((vec e.1 e.2).2 = 0) with z2 | z2
      · exact absurd (Prod.ext z1 z2) hv
      · exact .inl fun y => z2 (by have := Rat.intCast_inj.mp (show ((-(vec e.1 e.2).2 : Int) : Rat) = ((0 : Int) : Rat) from y); omega)
    · exact .inr fun y => z1 (Rat.intCast_inj.mp (show (((vec e.1 e.2).1 : Int) : Rat) = ((0 : Int) : Rat) from y))
  obtain ⟨a, ha, b, hb, lt⟩ := not_flat h h0
  have w : ∀ x ∈ cs, dq ((-(vec e.1 e.2).2 : Int) : Rat) (((vec e.1 e.2).1 : Int) : Rat) x = (((-(vec e.1 e.2).2) * e.1.1 + (vec e.1 e.2).1 * e.1.2 : Int) : Rat) := fun x hx => by
    have := all x hx
    unfold dq
    rw [← Rat.intCast_mul, ← Rat.intCast_mul, ← Rat.intCast_add, Rat.intCast_inj]
    unfold leftI vec at *
    simp only at *
    grind
  rw [w a ha, w b hb] at lt
  exact Rat.lt_irrefl lt
theorem prs_fst {cs : List Pt} (h : cs ≠ []) {c : Pt} (hc : c ∈ cs) : ∃ (k : Nat) (f : Pt × Pt), (prs cs)[k]? = some f ∧ f.1 = c := by
  obtain ⟨k, hk, rfl⟩ := List.mem_iff_getElem.mp hc
  have hl := prs_len h
  refine ⟨k, (prs cs)[k]'(by omega), List.getElem?_eq_getElem _, ?_⟩
  unfold prs
  rw [List.getElem_zip]
theorem prs_snd {cs : List Pt} (h : cs ≠ []) {c : Pt} (hc : c ∈ cs) : ∃ (k : Nat) (f : Pt × Pt), (prs cs)[k]? = some f ∧ f.2 = c := by
  have hc' : c ∈ cs.drop 1 ++ cs.take 1 := by
    rw [← List.take_append_drop 1 cs] at hc
    rcases List.mem_append.mp hc with z | z
    · exact List.mem_append_right _ z
    · exact List.mem_append_left _ z
  obtain ⟨k, hk, rfl⟩ := List.mem_iff_getElem.mp hc'
  have hl := prs_len h
  have hlen : (cs.drop 1 ++ cs.take 1).length = cs.length := by
    rw [List.length_append, List.length_drop, List.length_take]
    have : 0 < cs.length := List.length_pos_iff.mpr h
    omega
  refine ⟨k, (prs cs)[k]'(by omega), List.getElem?_eq_getElem _, ?_⟩
  unfold prs
  rw [List.getElem_zip]
theorem strict_left {cs : List Pt} (h : ShOk cs) {e : Pt × Pt} (he : e ∈ prs cs) {c : Pt} (hc : c ∈ cs) (n1 : c ≠ e.1) (n2 : c ≠ e.2) : 0 < leftI e.1 e.2 c := by
  have hne : cs ≠ [] := fun z => by have := h.1; rw [z] at this; simp at this
  obtain ⟨i, hi⟩ := List.mem_iff_getElem?.mp he
  obtain ⟨ne, ce⟩ := h.2.2.2.2.2 e he
  have hD := dot_pos (vec_ne ne)
  rcases Int.lt_or_eq_of_le (ce c hc) with g | g
  · exact g
  exfalso
  have he1 : e.1 ∈ cs := (List.of_mem_zip he).1
  have he2 : e.2 ∈ cs := by
    have := (List.of_mem_zip he).2
    rcases List.mem_append.mp this with z | z
    · exact List.mem_of_mem_drop z
    · exact List.mem_of_mem_take z
  obtain ⟨⟨a1, a2⟩, ⟨b1, b2⟩⟩ := e
  obtain ⟨c1, c2⟩ := c
  simp only at *
  have hg : (b1 - a1) * (c2 - a2) - (b2 - a2) * (c1 - a1) = 0 := g.symm
  have hD' : 0 < (b1 - a1) * (b1 - a1) + (b2 - a2) * (b2 - a2) := hD
  obtain ⟨d1, hd1⟩ : ∃ d1, b1 - a1 = d1 := ⟨_, rfl⟩
  obtain ⟨d2, hd2⟩ : ∃ d2, b2 - a2 = d2 := ⟨_, rfl⟩
  obtain ⟨x1, hx1⟩ : ∃ x1, c1 - a1 = x1 := ⟨_, rfl⟩
  obtain ⟨x2, hx2⟩ : ∃ x2, c2 - a2 = x2 := ⟨_, rfl⟩
  rw [hd1, hd2, hx1, hx2] at hg
  rw [hd1, hd2] at hD'
  obtain ⟨D, eD⟩ : ∃ D, d1 * d1 + d2 * d2 = D := ⟨_, rfl⟩
  obtain ⟨s, es⟩ : ∃ s, d1 * x1 + d2 * x2 = s := ⟨_, rfl⟩
  rw [eD] at hD'
  have v1 : D * x1 = s * d1 := by grind
  have v2 : D * x2 = s * d2 := by grind
  have cz : ∀ {i' j' : Nat} {f : Pt × Pt}, (prs cs)[j']? = some f → i ≠ j' → crs (d1, d2) (vec f.1 f.2) = 0 → leftI (a1, a2) (b1, b2) f.1 = 0 → False := fun {i' j' f} hj hn z l => no_par h hi hj hn (by unfold vec crs at *; simp only at *; rw [hd1, hd2]; exact z) l
  rcases Int.lt_trichotomy s 0 with hs | hs | hs
  · obtain ⟨k, ⟨⟨z1, z2⟩, f2⟩, hk, rfl⟩ := prs_snd hne he1
    obtain ⟨_, cf⟩ := h.2.2.2.2.2 _ (List.mem_of_getElem? hk)
    have q1 : 0 ≤ (a1 - z1) * (c2 - z2) - (a2 - z2) * (c1 - z1) := cf _ hc
    have q2 : 0 ≤ d1 * (z2 - a2) - d2 * (z1 - a1) := by rw [← hd1, ← hd2]; exact ce _ ((List.of_mem_zip (List.mem_of_getElem? hk)).1)
    have e3 : D * ((a1 - z1) * (c2 - z2) - (a2 - z2) * (c1 - z1)) = (-s) * (d1 * (a2 - z2) - d2 * (a1 - z1)) := by grind
    have q3 := sgn_ge hD' e3 q1 (by omega)
    have q4 : d1 * (a2 - z2) - d2 * (a1 - z1) = 0 := by
      have : d1 * (z2 - a2) - d2 * (z1 - a1) = -(d1 * (a2 - z2) - d2 * (a1 - z1)) := by grind
      omega
    refine cz (i' := 0) hk (fun z => ?_) q4 ?_
    · subst z
      rw [hi] at hk
      have := congrArg (fun o => o.map Prod.snd) hk
      simp at this
      exact ne (Prod.ext (by simp only; omega) (by simp only; omega))
    · show (b1 - a1) * (z2 - a2) - (b2 - a2) * (z1 - a1) = 0
      rw [hd1, hd2]
      grind
  · subst hs
    have y1 : D * x1 = 0 := by rw [v1]; omega
    have y2 : D * x2 = 0 := by rw [v2]; omega
    have r1 : x1 = 0 := by rcases Int.mul_eq_zero.mp y1 with z | z <;> omega
    have r2 : x2 = 0 := by rcases Int.mul_eq_zero.mp y2 with z | z <;> omega
    exact n1 (Prod.ext (by simp only; omega) (by simp only; omega))
  rcases Int.lt_trichotomy s D with hs2 | hs2 | hs2
  · obtain ⟨k, ⟨f1, ⟨z1, z2⟩⟩, hk, rfl⟩ := prs_fst hne hc
    obtain ⟨_, cf⟩ := h.2.2.2.2.2 _ (List.mem_of_getElem? hk)
    have q1 : 0 ≤ (z1 - c1) * (a2 - c2) - (z2 - c2) * (a1 - c1) := cf _ he1
    have q2 : 0 ≤ (z1 - c1) * (b2 - c2) - (z2 - c2) * (b1 - c1) := cf _ he2
    have e3 : D * ((z1 - c1) * (a2 - c2) - (z2 - c2) * (a1 - c1)) = s * (d1 * (z2 - c2) - d2 * (z1 - c1)) := by grind
    have e4 : D * ((z1 - c1) * (b2 - c2) - (z2 - c2) * (b1 - c1)) = (D - s) * (-(d1 * (z2 - c2) - d2 * (z1 - c1))) := by grind
    have q3 := sgn_ge hD' e3 q1 hs
    have q4 := sgn_ge hD' e4 q2 (by omega)
    refine cz (i' := 0) hk (fun z => ?_) (show d1 * (z2 - c2) - d2 * (z1 - c1) = 0 by omega) ?_
    · subst z
      rw [hi] at hk
      have := congrArg (fun o => o.map Prod.fst) hk
      simp at this
      exact n1 (Prod.ext (by simp only; omega) (by simp only; omega))
    · show (b1 - a1) * (c2 - a2) - (b2 - a2) * (c1 - a1) = 0
      rw [hd1, hd2, hx1, hx2]
      exact hg
  · subst hs2
    have y1 : s * (x1 - d1) = 0 := by grind
    have y2 : s * (x2 - d2) = 0 := by grind
    have r1 : x1 = d1 := by rcases Int.mul_eq_zero.mp y1 with z | z <;> omega
    have r2 : x2 = d2 := by rcases Int.mul_eq_zero.mp y2 with z | z <;> omega
    exact n2 (Prod.ext (by simp only; omega) (by simp only; omega))
  · obtain ⟨k, ⟨f1, ⟨z1, z2⟩⟩, hk, rfl⟩ := prs_fst hne he2
    obtain ⟨_, cf⟩ := h.2.2.2.2.2 _ (List.mem_of_getElem? hk)
    have q1 : 0 ≤ (z1 - b1) * (c2 - b2) - (z2 - b2) * (c1 - b1) := cf _ hc
    have q2 : 0 ≤ d1 * (z2 - a2) - d2 * (z1 - a1) := by
      rw [← hd1, ← hd2]
      refine ce (z1, z2) ?_
      have := (List.of_mem_zip (List.mem_of_getElem? hk)).2
      rcases List.mem_append.mp this with z | z
      · exact List.mem_of_mem_drop z
      · exact List.mem_of_mem_take z
    have e3 : D * ((z1 - b1) * (c2 - b2) - (z2 - b2) * (c1 - b1)) = (s - D) * (-(d1 * (z2 - b2) - d2 * (z1 - b1))) := by grind
    have q3 := sgn_ge hD' e3 q1 (by omega)
    have q5 : d1 * (z2 - a2) - d2 * (z1 - a1) = d1 * (z2 - b2) - d2 * (z1 - b1) := by grind
    refine cz (i' := 0) hk (fun z => ?_) (show d1 * (z2 - b2) - d2 * (z1 - b1) = 0 by omega) ?_
    · subst z
      rw [hi] at hk
      have := congrArg (fun o => o.map Prod.fst) hk
      simp at this
      exact ne (Prod.ext (by simp only; omega) (by simp only; omega))
    · show (b1 - a1) * (b2 - a2) - (b2 - a2) * (b1 - a1) = 0
      grind

/-- no corner comes twice -/
theorem corners_nodup {cs : List Pt} (h : ShOk cs) : cs.Nodup := by
  have hne : cs ≠ [] := fun z => by have := h.1; rw [z] at this; simp at this
  have hl := prs_len hne
  refine List.pairwise_iff_getElem.mpr fun i j hi hj lt e => ?_
  have gi : (prs cs)[i]? = some ((prs cs)[i]'(by omega)) := List.getElem?_eq_getElem _
  have gj : (prs cs)[j]? = some ((prs cs)[j]'(by omega)) := List.getElem?_eq_getElem _
  have fi : ((prs cs)[i]'(by omega)).1 = cs[i] := by unfold prs; rw [List.getElem_zip]
  have fj : ((prs cs)[j]'(by omega)).1 = cs[j] := by unfold prs; rw [List.getElem_zip]
  generalize (prs cs)[i]'(by omega) = f at gi fi
  generalize (prs cs)[j]'(by omega) = g at gj fj
  obtain ⟨nf, cf⟩ := h.2.2.2.2.2 f (List.mem_of_getElem? gi)
  obtain ⟨ng, cg⟩ := h.2.2.2.2.2 g (List.mem_of_getElem? gj)
  have snd : ∀ f : Pt × Pt, f ∈ prs cs → f.2 ∈ cs := fun f hf => by
    rcases List.mem_append.mp (List.of_mem_zip hf).2 with z | z
    · exact List.mem_of_mem_drop z
    · exact List.mem_of_mem_take z
  have h1 := cf _ (snd _ (List.mem_of_getElem? gj))
  have h2 := cg _ (snd _ (List.mem_of_getElem? gi))
  have e1 : f.1 = g.1 := by rw [fi, fj, e]
  obtain ⟨⟨a1, a2⟩, ⟨b1, b2⟩⟩ := f
  obtain ⟨⟨c1, c2⟩, ⟨d1, d2⟩⟩ := g
  simp only at e1
  obtain ⟨rfl, rfl⟩ := Prod.mk.inj e1
  unfold leftI at h1 h2
  simp only at h1 h2
  refine no_par h gi gj (Nat.ne_of_lt lt) ?_ ?_
  · unfold crs vec
    simp only
    have : (d1 - a1) * (b2 - a2) - (d2 - a2) * (b1 - a1) = -((b1 - a1) * (d2 - a2) - (b2 - a2) * (d1 - a1)) := by grind
    omega
  · unfold leftI
    simp only
    grind
/-- so many corners lie strictly to the left of a side -/
theorem left_count {cs : List Pt} (h : ShOk cs) {e : Pt × Pt} (he : e ∈ prs cs) : (cs.filter fun c => decide (0 < leftI e.1 e.2 c)).length = cs.length - 2 := by
  have nd := corners_nodup h
  obtain ⟨ne, ce⟩ := h.2.2.2.2.2 e he
  have he1 : e.1 ∈ cs := (List.of_mem_zip he).1
  have he2 : e.2 ∈ cs := by
    rcases List.mem_append.mp (List.of_mem_zip he).2 with z | z
    · exact List.mem_of_mem_drop z
    · exact List.mem_of_mem_take z
  have eq : cs.filter (fun c => decide (0 < leftI e.1 e.2 c)) = (cs.erase e.1).erase e.2 := by
    rw [(nd.erase e.1).erase_eq_filter, nd.erase_eq_filter, List.filter_filter]
    refine List.filter_congr fun c hc => ?_
    rcases Classical.em (c = e.1) with rfl | n1
    · have : leftI e.1 e.2 e.1 = 0 := by unfold leftI; grind
      simp [this]
    · rcases Classical.em (c = e.2) with rfl | n2
      · have : leftI e.1 e.2 e.2 = 0 := by unfold leftI; grind
        simp [this]
      · have := strict_left h he hc n1 n2
        simp [this, n1, n2]
  rw [eq, List.length_erase_of_mem, List.length_erase_of_mem he1]
  · omega
  · exact (nd.mem_erase_iff).mpr ⟨fun z => ne z.symm, he2⟩

/-! ### the hull begins at its least point -/
theorem popR_bot (p a : Pt) : ∀ l : List Pt, ∃ l', popR p (l ++ [a]) = l' ++ [a]
  | [] => ⟨[], rfl⟩
  | [b] => by
    show ∃ l', popR p (b :: a :: []) = l' ++ [a]
    unfold popR
    split
    · exact ⟨[], rfl⟩
    · exact ⟨[b], rfl⟩
  | b :: c :: l => by
    show ∃ l', popR p (b :: c :: (l ++ [a])) = l' ++ [a]
    unfold popR
    split
    · exact popR_bot p a (c :: l)
    · exact ⟨b :: c :: l, rfl⟩
theorem halfS_bot (a : Pt) : ∀ (ps l : List Pt), ∃ l', halfS (l ++ [a]) ps = l' ++ [a] ∧ (l ≠ [] ∨ ps ≠ [] → l' ≠ [])
  | [], l => ⟨l, rfl, fun h => h.resolve_right fun z => z rfl⟩
  | p :: ps, l => by
    obtain ⟨m, e⟩ := popR_bot p a l
    obtain ⟨l', e', n⟩ := halfS_bot a ps (p :: m)
    refine ⟨l', ?_, fun _ => n (.inl (by simp))⟩
    show halfS (p :: popR p (l ++ [a])) ps = _
    rw [e]
    exact e'
theorem halfR_first {a b : Pt} {ps : List Pt} : ∃ l, (halfR (a :: b :: ps)).tail.reverse = a :: l := by
  obtain ⟨l', e, n⟩ := halfS_bot a (b :: ps) []
  have hn := n (.inr (by simp))
  have e2 : halfR (a :: b :: ps) = l' ++ [a] := e
  cases l' with
  | nil => exact absurd rfl hn
  | cons x l' =>
    rw [e2]
    exact ⟨l'.reverse, by simp⟩
/-- the first corner is the least -/
def Fst (cs : List Pt) : Prop := ∃ a l, cs = a :: l ∧ ∀ p ∈ cs, lexLe a p
theorem hull_fst {rs : List Pt} (h : rs.Pairwise lexLe) : Fst (hullOf rs) := by
  unfold hullOf
  split
  · exact ⟨(0, 0), _, rfl, fun p hp => by
      have hp' : p = (0, 0) ∨ p = (2, 0) ∨ p = (0, 2) := by simpa using hp
      rcases hp' with rfl | rfl | rfl <;> (unfold lexLe; decide)⟩
  · rename_i hl
    have hmem : ∀ x ∈ (halfR rs).tail.reverse ++ (halfR rs.reverse).tail.reverse, x ∈ rs := fun x hx => by
      rcases List.mem_append.mp hx with h | h
      · rcases halfS_sub rs [] x (List.mem_of_mem_tail (List.mem_reverse.mp h)) with h | h
        · cases h
        · exact h
      · rcases halfS_sub rs.reverse [] x (List.mem_of_mem_tail (List.mem_reverse.mp h)) with h | h
        · cases h
        · exact List.mem_reverse.mp h
    match rs, h, hl, hmem with
    | [], _, hl, _ => exact absurd (by decide) hl
    | [a], _, hl, _ => exact absurd (show (2 : Nat) - 2 < 3 by decide) hl
    | a :: b :: ps, h, hl, hmem =>
      obtain ⟨l, e⟩ := halfR_first (a := a) (b := b) (ps := ps)
      refine ⟨a, l ++ (halfR (a :: b :: ps).reverse).tail.reverse, by rw [e]; rfl, fun p hp => ?_⟩
      rcases List.mem_cons.mp (hmem p hp) with rfl | hp'
      · exact .inr ⟨rfl, Int.le_refl _⟩
      · exact (List.pairwise_cons.mp h).1 p hp'

/-! CUT -/
/-! ### within, as the program looks -/
theorem ord_lt {x y : Rat} : ordI x y < 0 ↔ x < y := by
  unfold ordI
  split
  · rename_i h
    exact ⟨fun _ => h, fun _ => by decide⟩
  · rename_i h
    refine ⟨fun z => ?_, fun z => absurd z h⟩
    split at z <;> exact absurd z (by decide)
def WIn (cs : List Pt) (X Y : Rat) : Prop := ∀ e ∈ prs cs, ((wyE e).1 : Rat) * X + ((wyE e).2 : Rat) * Y < ((dot (wyE e) e.1 : Int) : Rat)
theorem wyE_val {cs : List Pt} (h : ShOk cs) {e : Pt × Pt} (he : e ∈ prs cs) : ∃ g : Int, 0 < g ∧ (wyE e).1 * g = e.2.2 - e.1.2 ∧ (wyE e).2 * g = e.1.1 - e.2.1 := by
  have hne := (prs_ok h e he).1
  have nz : ¬ (e.2.2 - e.1.2 = 0 ∧ e.1.1 - e.2.1 = 0) := fun z => hne (Prod.ext (by omega) (by omega))
  exact ⟨gcdI (e.2.2 - e.1.2) (e.1.1 - e.2.1), gcdI_pos2 nz, Int.ediv_mul_cancel (gcdI_dvd_l _ _), Int.ediv_mul_cancel (gcdI_dvd_r _ _)⟩
theorem mx_side {cs : List Pt} (h : ShOk cs) {e : Pt × Pt} (he : e ∈ prs cs) : mx (wyE e) cs = dot (wyE e) e.1 := by
  obtain ⟨g, g0, e1, e2⟩ := wyE_val h he
  have h1 : e.1 ∈ cs := (List.of_mem_zip he).1
  refine (mx_is h.ne).uniq ⟨⟨e.1, h1, rfl⟩, fun c hc => ?_⟩
  have hcx := (h.2.2.2.2.2 e he).2 c hc
  have k1 : g * (dot (wyE e) e.1 - dot (wyE e) c) = leftI e.1 e.2 c := by
    unfold dot leftI
    have : g * ((wyE e).1 * e.1.1 + (wyE e).2 * e.1.2 - ((wyE e).1 * c.1 + (wyE e).2 * c.2)) = ((wyE e).1 * g) * (e.1.1 - c.1) + ((wyE e).2 * g) * (e.1.2 - c.2) := by grind
    rw [this, e1, e2]
    grind
  rw [← k1] at hcx
  have := Int.nonneg_of_mul_nonneg_right hcx g0
  omega
def a_p_within : ASp := fun ds n Q => ∃ (cs : List Pt) (px py sx sy : Rat), ds = [.tup (cs.map pt), spt px py, spt sx sy] ∧ ShOk cs ∧ BdQ 200 px ∧ BdQ 200 py ∧ BdQ 200 sx ∧ BdQ 200 sy ∧ (WIn cs (sx - px) (sy - py) → Q (.bl true) n) ∧ (¬ WIn cs (sx - px) (sy - py) → Q (.bl false) n)
theorem ok_p_within (T : Tx K mg A) : FnOk P w K mg base CX0 7 A.f_p_within A.fd_p_within ["shape", "place", "spot"] (spOf K 3 a_p_within) := by
  refine fn_mir [] 5 rfl (by decide) (by decide) T.F_p_within sc_p_within fun cdv Ar outer s H E hr => ?_
  refine ⟨_, _, (pss_cons (ps_set (i := 3) sc_p_within.nd rfl (.inr rfl) (pe_call (ok_p_spot_minus (P := P) (K := K) T) (hr.mono (by decide)) (by rfl) T.g_p_spot_minus T.F_p_spot_minus.kp T.b_p_spot_minus .nil pass0 (pa_cons (pv 2) (pa_cons (pv 1) pa_nil))))
    (pss_one (ps_ret (pe_callB (k_all (K := K) rfl rfl) (by rfl) T.m_all (by decide +kernel) (pa_cons (pe_lc (own := [("way", 4)]) rfl sc_p_within.nd (k_iter (K := K) rfl (pe_call (ok_p_sides (P := P) (K := K) T) (hr.mono (by decide)) (by rfl) T.g_p_sides T.F_p_sides.kp T.b_p_sides .nil pass0 (pa_cons (pv 0) pa_nil))) (blkOk_by (own := [("way", 4)]) (N := ["shape", "place", "spot", "seen", "way"]) (sc := defScope s_p_within) (by decide +kernel)) (fun _ _ _ _ _ => (pg_name (i := 4) sc_p_within.nd rfl (Or.inl rfl))) (fun _ _ _ _ _ => pts_nil) (fun _ _ _ _ _ => (pe_cmpR op_lt (pe_call (ok_p_order (P := P) (K := K) T) (hr.mono (by decide)) (by rfl) T.g_p_order T.F_p_order.kp T.b_p_order .nil pass0 (pa_cons (pe_call (ok_p_along (P := P) (K := K) T) (hr.mono (by decide)) (by rfl) T.g_p_along T.F_p_along.kp T.b_p_along .nil pass0 (pa_cons (pv 4) (pa_cons (pv 3) pa_nil))) (pa_cons (pe_tup (pa_cons (pe_call (ok_p_reach (P := P) (K := K) T) (hr.mono (by decide)) (by rfl) T.g_p_reach T.F_p_reach.kp T.b_p_reach .nil pass0 (pa_cons (pv 0) (pa_cons (pv 4) pa_nil))) (pa_cons pe_int pa_nil))) pa_nil))) pe_int (nomark _)))) pa_nil))))), by infer_instance, fun ds n Q hl hA => ?_⟩
  obtain ⟨cs, px, py, sx, sy, rfl, hS, b1, b2, b3, b4, q1, q2⟩ := hA
  refine ⟨sx, sy, px, py, 200, 200, 200, 200, rfl, b3.q, b4.q, b1.q, b2.q, by decide, by decide, by decide, by decide, ?_⟩
  have bX := b3.q.sub b1.q (s := 400) (by decide) (by decide)
  have bY := b4.q.sub b2.q (s := 400) (by decide) (by decide)
  have h16 := hS.2.1
  have hl := prs_len (cs := cs) (fun z => by have := hS.1; rw [z] at this; simp at this)
  refine ⟨cs, rfl, hS, ?_⟩
  refine ⟨by unfold waysOf; rw [List.length_map, List.length_map]; omega, ?_⟩
  refine aLc_ind (fun acc ds j => j = n ∧ ∃ us vs : List (Pt × Pt), prs cs = us ++ vs ∧ ds = vs.map (fun e => pt (wyE e)) ∧ acc = (us.map fun e => decide (((wyE e).1 : Rat) * (sx - px) + ((wyE e).2 : Rat) * (sy - py) < ((dot (wyE e) e.1 : Int) : Rat))).map D.bl) ?_ ?_ ⟨rfl, [], prs cs, rfl, by unfold waysOf; rw [List.map_map]; rfl, rfl⟩
  · rintro acc d r j ⟨rfl, us, vs, e0, e, rfl⟩ ih
    cases vs with
    | nil => cases e
    | cons v vs =>
    obtain ⟨rfl, rfl⟩ := List.cons.inj e
    have hv : v ∈ prs cs := by rw [e0]; exact List.mem_append_right _ List.mem_cons_self
    have hw : WyS 23 (wyE v) := ways_wys hS _ (List.mem_map.mpr ⟨v, hv, rfl⟩)
    refine aT ⟨(wyE v).1, (wyE v).2, sx - px, sy - py, 401, 400, 23, rfl, hw.1, hw.2, bX.le (by decide) (by decide), bY.le (by decide) (by decide), by decide, by decide, ?_⟩
    refine ⟨cs, wyE v, rfl, hS, ⟨hw.1.le (by decide), hw.2.le (by decide)⟩, ?_⟩
    have bA := ((bq_int hw.1).mul bX).add ((bq_int hw.2).mul bY) (s := 2000) (by decide) (by decide)
    have bM : BdQ 100 ((mx (wyE v) cs : Int) : Rat) := bdq_int ((mx_bd hw hS).le (by decide)) (by decide)
    refine ⟨_, ((mx (wyE v) cs : Int) : Rat), 3000, 100, rfl, (bA.le (show _ ≤ 3000 by decide) (show _ ≤ 3000 by decide)).b (Nat.le_refl _), bM, by decide, by decide, ?_⟩
    rw [mx_side hS hv]
    have el : decide (ordI (((wyE v).1 : Rat) * (sx - px) + ((wyE v).2 : Rat) * (sy - py)) ((dot (wyE v) v.1 : Int) : Rat) < 0) = decide (((wyE v).1 : Rat) * (sx - px) + ((wyE v).2 : Rat) * (sy - py) < ((dot (wyE v) v.1 : Int) : Rat)) := decide_eq_decide.mpr ord_lt
    exact ih _ _ ⟨rfl, us ++ [v], vs, by rw [e0]; simp, rfl, by rw [List.map_append, List.map_append, List.map_singleton, List.map_singleton, ← el]⟩
  · rintro acc j ⟨rfl, us, vs, e0, e, rfl⟩
    cases vs with
    | cons v vs => cases e
    | nil =>
    rw [List.append_nil] at e0
    subst e0
    refine ⟨_, rfl, ?_⟩
    by_cases h : WIn cs (sx - px) (sy - py)
    · have : (((prs cs).map fun e => decide (((wyE e).1 : Rat) * (sx - px) + ((wyE e).2 : Rat) * (sy - py) < ((dot (wyE e) e.1 : Int) : Rat))).all id) = true := by
        rw [List.all_map]
        exact List.all_eq_true.mpr fun e he => decide_eq_true (h e he)
      refine (show Q (.bl (((prs cs).map fun e => decide (((wyE e).1 : Rat) * (sx - px) + ((wyE e).2 : Rat) * (sy - py) < ((dot (wyE e) e.1 : Int) : Rat))).all id)) j from ?_)
      rw [this]
      exact q1 h
    · have : (((prs cs).map fun e => decide (((wyE e).1 : Rat) * (sx - px) + ((wyE e).2 : Rat) * (sy - py) < ((dot (wyE e) e.1 : Int) : Rat))).all id) = false := by
        refine Bool.eq_false_iff.mpr fun z => h fun e he => ?_
        rw [List.all_map] at z
        exact of_decide_eq_true (List.all_eq_true.mp z e he)
      refine (show Q (.bl (((prs cs).map fun e => decide (((wyE e).1 : Rat) * (sx - px) + ((wyE e).2 : Rat) * (sy - py) < ((dot (wyE e) e.1 : Int) : Rat))).all id)) j from ?_)
      rw [this]
      exact q2 h
abbrev a_l_gcd : ASp := a_gcd
theorem ok_l_gcd (T : Tx K mg A) : FnOk P w K mg base CX0 1 A.f_l_gcd A.fd_l_gcd ["_law_one", "_law_other"] (spOf K 2 a_l_gcd) := by
  refine fn_mir [] 3 rfl (by decide) (by decide) T.F_l_gcd sc_l_gcd fun cdv Ar outer s H E hr => ?_
  refine ⟨_, _, (pss_cons (ps_set (i := 0) sc_l_gcd.nd rfl (.inl rfl) (pe_callB k_abs (by rfl) T.m_abs (by decide +kernel) (pa_cons (pv 0) pa_nil)))
    (pss_cons (ps_set (i := 1) sc_l_gcd.nd rfl (.inl rfl) (pe_callB k_abs (by rfl) T.m_abs (by decide +kernel) (pa_cons (pv 1) pa_nil)))
    (pss_cons (ps_while PassesOwn.never (pt_cmpR op_gt (pv 1) pe_int (nomark _))
      (pss_cons (ps_set (i := 2) sc_l_gcd.nd rfl (.inl rfl) (pe_op op_mod (pv 0) (pv 1)))
    (pss_cons (ps_set (i := 0) sc_l_gcd.nd rfl (.inl rfl) (pv 1))
    (pss_one (ps_set (i := 1) sc_l_gcd.nd rfl (.inl rfl) (pv 2))))))
    (pss_one (ps_ret (pv 0)))))), by infer_instance, fun ds n Q hl hA => ?_⟩
  obtain ⟨a, b, rfl, q⟩ := hA
  refine ⟨fun m ρ n' => ∃ (x y : Nat) (z : Option D), ρ = [some (.int (x : Int)), some (.int (y : Int)), z] ∧ m = y ∧ n' = n ∧ Nat.gcd x y = Nat.gcd a.natAbs b.natAbs, ⟨_, a.natAbs, b.natAbs, none, by rw [← abs_nat, ← abs_nat]; rfl, rfl, rfl, rfl⟩, ?_⟩
  rintro m _ _ ⟨x, y, z, rfl, rfl, rfl, g⟩
  refine dIte (fun h => ?_) (fun h => ?_)
  · refine ⟨(show (0 : Int) < m by omega), x % m, Nat.mod_lt _ (by omega), m, x % m, _, rfl, rfl, rfl, ?_⟩
    rw [← g, Nat.gcd_comm x m, Nat.gcd_rec m x, Nat.gcd_comm]
  · have hm : m = 0 := by omega
    subst hm
    have e : (x : Int) = gcdI a b := by
      unfold gcdI
      rw [← g, Nat.gcd_zero_right]
    show Q (.int (x : Int)) _
    rw [e]
    exact q
@[irreducible] def a_l_share : ASp := fun ds n Q => ∃ (a b : Int) (k : Nat), ds = [.int a, .int b] ∧ 0 < b ∧ 0 < gcdI a b ∧ Bd k (gcdI a b) ∧ k < 9000 ∧ Q (partD a b) n
theorem ok_l_share (T : Tx K mg A) : FnOk P w K mg base CX0 2 A.f_l_share A.fd_l_share ["_law_top", "_law_bottom"] (spOf K 2 a_l_share) := by
  refine fn_mir [] 3 rfl (by decide) (by decide) T.F_l_share sc_l_share fun cdv Ar outer s H E hr => ?_
  refine ⟨_, _, (pss_cons (ps_if (pt_cmpR op_lt (pv 1) pe_int (nomark _))
      (pss_cons (ps_set (i := 0) sc_l_share.nd rfl (.inl rfl) (pe_un un_neg (pv 0)))
    (pss_one (ps_set (i := 1) sc_l_share.nd rfl (.inl rfl) (pe_un un_neg (pv 1)))))
      pss_nil)
    (pss_cons (ps_set (i := 2) sc_l_share.nd rfl (.inl rfl) (pe_call (ok_l_gcd (P := P) (K := K) T) (hr.mono (by decide)) (by rfl) T.g_l_gcd T.F_l_gcd.kp T.b_l_gcd .nil pass0 (pa_cons (pv 0) (pa_cons (pv 1) pa_nil))))
    (pss_one (ps_ret (pe_tup (pa_cons (pe_op k_fdiv (pv 0) (pv 2)) (pa_cons (pe_op k_fdiv (pv 1) (pv 2)) pa_nil))))))), by infer_instance, fun ds n Q hl hA => ?_⟩
  unfold a_l_share at hA
  obtain ⟨a, b, k, rfl, b0, g0, gb, hk, q⟩ := hA
  refine dIte (fun z => absurd z (by omega)) fun _ => ?_
  exact ⟨a, b, rfl, divA gb g0 hk, divA gb g0 hk, q⟩
theorem share_ok {a b : Int} {k n : Nat} {Q : D → Nat → Prop} (hb : 0 < b) (bb : Bd k b) (hk : k < 9000) (q : Q (sh (Rat.divInt a b)) n) : a_l_share [.int a, .int b] n Q := by
  unfold a_l_share
  exact ⟨a, b, k, rfl, hb, gcdI_pos (by omega), gcdI_bd bb (by omega), hk, by rw [part_sh hb]; exact q⟩
/-! ### shapes -/
theorem tri2_dst : Dst [(0, 0), (2, 0), (0, 2)] := by
  unfold Dst
  show [((2 : Int), (0 : Int)), (-2, 2), (0, -2)].Pairwise Nsd
  simp only [List.pairwise_cons, List.mem_cons, List.not_mem_nil, or_false, forall_eq_or_imp, forall_eq, List.Pairwise.nil, and_true, false_implies, implies_true]
  exact ⟨⟨.inl (by decide), .inl (by decide)⟩, .inl (by decide)⟩
theorem tri2_cvx : Convex [(0, 0), (2, 0), (0, 2)] := fun e he => by
  have he' : e = ((0, 0), (2, 0)) ∨ e = ((2, 0), (0, 2)) ∨ e = ((0, 2), (0, 0)) := by simpa using he
  rcases he' with rfl | rfl | rfl <;> refine ⟨by decide, fun c hc => ?_⟩ <;> (have hc' : c = (0, 0) ∨ c = (2, 0) ∨ c = (0, 2) := by simpa using hc) <;> rcases hc' with rfl | rfl | rfl <;> decide
def PtR (p : Pt) : Prop := -1000000 ≤ p.1 ∧ p.1 ≤ 1000000 ∧ -1000000 ≤ p.2 ∧ p.2 ≤ 1000000
def a_l_hull : ASp := fun ds k Q => ∃ ps : List Pt, ds = [.lst (ps.map pt)] ∧ ps.length ≤ 8 ∧ (∀ p ∈ ps, -1000000 ≤ p.1 ∧ p.1 ≤ 1000000 ∧ -1000000 ≤ p.2 ∧ p.2 ≤ 1000000) ∧ ∀ cs, ShOk cs → Fst cs → cs.length ≤ 8 → (∀ p ∈ cs, PtR p) → Q (.tup (cs.map pt)) k
theorem ok_l_hull (T : Tx K mg A) : FnOk P w K mg base CX0 3 A.f_l_hull A.fd_l_hull ["_law_points"] (spOf K 1 a_l_hull) := by
  refine fn_mir [] 3 rfl (by decide) (by decide) T.F_l_hull sc_l_hull fun cdv Ar outer s H E hr => ?_
  refine ⟨_, _, (pss_cons (ps_set (i := 1) sc_l_hull.nd rfl (.inl rfl) (pe_callB (k_sortP (K := K) rfl) (by rfl) T.m_sorted (by decide +kernel) (pa_cons (pv 0) pa_nil)))
    (pss_cons (ps_set (i := 2) sc_l_hull.nd rfl (.inl rfl) (pe_callTy (k_tuple (K := K) rfl) (by rfl) T.m_tuple (by decide +kernel) (pa_cons (pe_op (k_add (K := K) rfl) (pe_call (ok_l_half (P := P) (K := K) T) (hr.mono (by decide)) (by rfl) T.g_l_half T.F_l_half.kp T.b_l_half .nil pass0 (pa_cons (pv 1) pa_nil)) (pe_call (ok_l_half (P := P) (K := K) T) (hr.mono (by decide)) (by rfl) T.g_l_half T.F_l_half.kp T.b_l_half .nil pass0 (pa_cons (k_rev (K := K) rfl (pv 1)) pa_nil))) pa_nil)))
    (pss_cons (ps_if (pt_cmpR op_lt (pe_callB (k_len (K := K) rfl) (by rfl) T.m_len (by decide +kernel) (pa_cons (pv 2) pa_nil)) pe_int (nomark _))
      (pss_one (ps_ret (pe_tup (pa_cons (pe_tup (pa_cons pe_int (pa_cons pe_int pa_nil))) (pa_cons (pe_tup (pa_cons pe_int (pa_cons pe_int pa_nil))) (pa_cons (pe_tup (pa_cons pe_int (pa_cons pe_int pa_nil))) pa_nil))))))
      pss_nil)
    (pss_one (ps_ret (pv 2)))))), by infer_instance, fun ds n Q hl hA => ?_⟩
  obtain ⟨ps, rfl, hl, hp, q⟩ := hA
  refine ⟨ps, rfl, fun rs hr hrs => ?_⟩
  have hrB : ∀ p ∈ rs, PtB p := fun p h => by have := hp p (hr.mem_iff.mp h); unfold PtB; omega
  have hrl : rs.length ≤ 8 := by have := hr.length_eq; omega
  refine ⟨rs, rfl, hrB, by omega, ?_⟩
  refine ⟨rs.reverse, by rw [List.map_reverse], fun p h => hrB p (List.mem_reverse.mp h), by rw [List.length_reverse]; omega, ?_⟩
  have hraw : ∀ x ∈ (halfR rs).tail.reverse ++ (halfR rs.reverse).tail.reverse, x ∈ rs := fun x hx => by
    rcases List.mem_append.mp hx with h | h
    · rcases halfS_sub rs [] x (List.mem_of_mem_tail (List.mem_reverse.mp h)) with h | h
      · cases h
      · exact h
    · rcases halfS_sub rs.reverse [] x (List.mem_of_mem_tail (List.mem_reverse.mp h)) with h | h
      · cases h
      · exact List.mem_reverse.mp h
  have hlen1 := halfS_len rs []
  have hlen2 := halfS_len rs.reverse []
  have hrawl : ((halfR rs).tail.reverse ++ (halfR rs.reverse).tail.reverse).length ≤ 16 := by
    rw [List.length_append, List.length_reverse, List.length_reverse, List.length_tail, List.length_tail]
    have e1 : (halfR rs).length ≤ rs.length := by show (halfS [] rs).length ≤ _; simpa using hlen1
    have e2 : (halfR rs.reverse).length ≤ rs.length := by show (halfS [] rs.reverse).length ≤ _; simpa using hlen2
    omega
  have hc := hull_convex hrs
  have hd := hull_dst hrs
  have hf := hull_fst hrs
  unfold hullOf at hc hd hf
  have el : stk (halfR rs).tail ++ stk (halfR rs.reverse).tail = ((halfR rs).tail.reverse ++ (halfR rs.reverse).tail.reverse).map pt := by
    rw [List.map_append]
    rfl
  refine ⟨?_, ?_⟩
  · have h := congrArg List.length el
    rw [List.length_append, List.length_map] at h
    omega
  generalize (halfR rs).tail.reverse ++ (halfR rs.reverse).tail.reverse = cs at *
  show aIte (decide (((stk (halfR rs).tail ++ stk (halfR rs.reverse).tail).length : Int) < 3)) _ (Q (.tup (stk (halfR rs).tail ++ stk (halfR rs.reverse).tail)) n)
  rw [el, List.length_map]
  refine dIte (fun e3 => ?_) fun e3 => ?_
  · exact q [(0, 0), (2, 0), (0, 2)] ⟨by decide, by decide, by unfold PtS; decide, by unfold Next; decide, tri2_dst, tri2_cvx⟩ ⟨(0, 0), _, rfl, fun p hp => by
      have hp' : p = (0, 0) ∨ p = (2, 0) ∨ p = (0, 2) := by simpa using hp
      rcases hp' with rfl | rfl | rfl <;> (unfold lexLe; decide)⟩ (by decide) (by unfold PtR; decide)
  · rw [if_neg (by omega)] at hc hd hf
    have ok : ShOk cs := ⟨hc.2, hrawl, fun p h => by have := hp p (hr.mem_iff.mp (hraw p h)); unfold PtS; omega, fun e he => (hc.1 e he).1, hd, hc.1⟩
    exact q cs ok hf (Nat.le_trans ((corners_nodup ok).length_le_of_subset (l₂ := rs) hraw) hrl) fun p h => hp p (hr.mem_iff.mp (hraw p h))
/-! CUT -/
theorem cut8 (ps : List Pt) : cutL (ps.map pt) (some (-8)) none = (ps.drop ((ps.length : Int) - 8).toNat).map pt := by
  have e : HT.sIx (ps.map pt).length 0 (some (-8)) = ((ps.length : Int) - 8).toNat := by
    rw [List.length_map]
    show (if (-8 : Int) < 0 then ((-8 : Int) + (ps.length : Int)).toNat else min (-8 : Int).toNat ps.length) = _
    rw [if_pos (by decide)]
    congr 1
  unfold cutL
  rw [HT.sIx_none, e, ← List.length_drop, List.take_length, List.map_drop]
def a_l_shape : ASp := fun ds n Q => ds = [.deck] ∧ 100 ≤ n ∧ ∀ (cs : List Pt) (n' : Nat), ShOk cs → Fst cs → cs.length ≤ 8 → (∀ p ∈ cs, PtR p) → n ≤ n' + 60 → Q (.tup (cs.map pt)) n'
theorem ok_l_shape (T : Tx K mg A) : FnOk P w K mg base CX0 4 A.f_l_shape A.fd_l_shape ["_law_deck_here"] (spOf K 1 a_l_shape) := by
  refine fn_mir [5] 8 rfl (by decide) (by decide) T.F_l_shape sc_l_shape fun cdv Ar outer s H E hr => ?_
  refine ⟨_, _, (pss_cons (ps_set (i := 1) sc_l_shape.nd rfl (.inl rfl) (pe_call (ok_l_take (P := P) (K := K) T) (hr.mono (by decide)) (by rfl) T.g_l_take T.F_l_take.kp T.b_l_take .nil pass0 (pa_cons (pv 0) (pa_cons pe_int pa_nil))))
    (pss_cons (ps_set (i := 2) sc_l_shape.nd rfl (.inl rfl) (pe_ix (k_ixS (K := K) rfl) (pe_lst (pa_cons pe_int (pa_cons pe_int (pa_cons pe_int pa_nil)))) (pe_call (ok_l_take (P := P) (K := K) T) (hr.mono (by decide)) (by rfl) T.g_l_take T.F_l_take.kp T.b_l_take .nil pass0 (pa_cons (pv 0) (pa_cons pe_int pa_nil))) (fun _ _ => rfl)))
    (pss_cons (ps_if (pt_cmpR (k_eq (K := K) rfl hr.units) (pv 1) pe_int (nomark _))
      (pss_cons (ps_set (i := 3) sc_l_shape.nd rfl (.inr rfl) (pe_op (k_add (K := K) rfl) pe_int (pe_call (ok_l_take (P := P) (K := K) T) (hr.mono (by decide)) (by rfl) T.g_l_take T.F_l_take.kp T.b_l_take .nil pass0 (pa_cons (pv 0) (pa_cons (pv 2) pa_nil)))))
    (pss_cons (ps_set (i := 4) sc_l_shape.nd rfl (.inr rfl) (pe_op (k_add (K := K) rfl) pe_int (pe_call (ok_l_take (P := P) (K := K) T) (hr.mono (by decide)) (by rfl) T.g_l_take T.F_l_take.kp T.b_l_take .nil pass0 (pa_cons (pv 0) (pa_cons (pv 2) pa_nil)))))
    (pss_one (ps_ret (pe_tup (pa_cons (pe_tup (pa_cons pe_int (pa_cons pe_int pa_nil))) (pa_cons (pe_tup (pa_cons (pv 3) (pa_cons pe_int pa_nil))) (pa_cons (pe_tup (pa_cons (pv 3) (pa_cons (pv 4) pa_nil))) (pa_cons (pe_tup (pa_cons pe_int (pa_cons (pv 4) pa_nil))) pa_nil)))))))))
      pss_nil)
    (pss_cons (ps_if (pt_cmpR (k_eq (K := K) rfl hr.units) (pv 1) pe_int (nomark _))
      (pss_cons (ps_set (i := 3) sc_l_shape.nd rfl (.inr rfl) (pe_op (k_add (K := K) rfl) pe_int (pe_call (ok_l_take (P := P) (K := K) T) (hr.mono (by decide)) (by rfl) T.g_l_take T.F_l_take.kp T.b_l_take .nil pass0 (pa_cons (pv 0) (pa_cons pe_int pa_nil)))))
    (pss_cons (ps_set (i := 4) sc_l_shape.nd rfl (.inr rfl) (pe_op (k_add (K := K) rfl) pe_int (pe_call (ok_l_take (P := P) (K := K) T) (hr.mono (by decide)) (by rfl) T.g_l_take T.F_l_take.kp T.b_l_take .nil pass0 (pa_cons (pv 0) (pa_cons pe_int pa_nil)))))
    (pss_one (ps_ret (pe_call (ok_l_hull (P := P) (K := K) T) (hr.mono (by decide)) (by rfl) T.g_l_hull T.F_l_hull.kp T.b_l_hull .nil pass0 (pa_cons (pe_lc (own := [("_law_k", 7)]) rfl sc_l_shape.nd (pi_range2 (by rfl) T.m_range (pa_cons (pe_un un_neg pe_int) (pa_cons pe_int pa_nil))) (blkOk_by (own := [("_law_k", 7)]) (N := ["_law_deck_here", "_law_kind", "_law_span", "_law_wide", "_law_high", "_law_points", "_law_turn", "_law_k"]) (sc := defScope s_l_shape) (by decide +kernel)) (fun _ _ _ _ _ => (pg_name (i := 7) sc_l_shape.nd rfl (Or.inl rfl))) (fun _ _ _ _ _ => pts_nil) (fun _ _ _ _ _ => (pe_tup (pa_cons (pe_op k_mul (pe_op k_mul (pv 3) (pv 7)) (pv 7)) (pa_cons (pe_op k_mul (pv 4) (pv 7)) pa_nil))))) pa_nil))))))
      pss_nil)
    (pss_cons (k_own (ps_set (i := 5) sc_l_shape.nd rfl (.inl rfl) (pe_lst (pa_cons (pe_tup (pa_cons (pv 2) (pa_cons pe_int pa_nil))) (pa_cons (pe_tup (pa_cons pe_int (pa_cons (pv 2) pa_nil))) (pa_cons (pe_tup (pa_cons (pe_un un_neg (pv 2)) (pa_cons pe_int pa_nil))) (pa_cons (pe_tup (pa_cons pe_int (pa_cons (pe_un un_neg (pv 2)) pa_nil))) pa_nil)))))))
    (pss_cons (ps_for PassesOwn.never rfl (pi_range1 (by rfl) T.m_range (pa_cons (pe_ix (k_ixS (K := K) rfl) (pe_lst (pa_cons pe_int (pa_cons pe_int pa_nil))) (pe_op op_sub (pv 1) pe_int) (fun _ _ => rfl)) pa_nil)) (pg_name (i := 6) sc_l_shape.nd rfl (.inl rfl))
      (pss_one (k_app (K := K) rfl (ps_expr (pe_bm PySem.F.plainAttrs_list PySem.F.slot_list_append PySem.F.type_list_append mt_append (pv 5) (pa_cons (pe_tup (pa_cons (pe_op op_sub (pe_call (ok_l_take (P := P) (K := K) T) (hr.mono (by decide)) (by rfl) T.g_l_take T.F_l_take.kp T.b_l_take .nil pass0 (pa_cons (pv 0) (pa_cons (pe_op (k_add (K := K) rfl) (pe_op k_mul pe_int (pv 2)) pe_int) pa_nil))) (pv 2)) (pa_cons (pe_op op_sub (pe_call (ok_l_take (P := P) (K := K) T) (hr.mono (by decide)) (by rfl) T.g_l_take T.F_l_take.kp T.b_l_take .nil pass0 (pa_cons (pv 0) (pa_cons (pe_op (k_add (K := K) rfl) (pe_op k_mul pe_int (pv 2)) pe_int) pa_nil))) (pv 2)) pa_nil))) pa_nil))))))
    (pss_one (ps_ret (pe_call (ok_l_hull (P := P) (K := K) T) (hr.mono (by decide)) (by rfl) T.g_l_hull T.F_l_hull.kp T.b_l_hull .nil pass0 (pa_cons (pe_slice (k_sl (K := K) rfl) (pv 5) (po_some (pe_un un_neg pe_int)) po_none) pa_nil)))))))))), by infer_instance, fun ds n Q hl hA => ?_⟩
  obtain ⟨rfl, hn, q⟩ := hA
  refine ⟨4, rfl, by decide, by decide, by omega, fun kd lk uk => ?_⟩
  refine ⟨3, rfl, by decide, by decide, by omega, fun r l u => ?_⟩
  obtain ⟨sp, hs0, hs1, hat⟩ : ∃ sp : Int, 1 ≤ sp ∧ sp ≤ 1000000 ∧ atI [D.int 4, D.int 30, D.int 1000000] r = some (D.int sp) := by
    obtain rfl | rfl | rfl : r = 0 ∨ r = 1 ∨ r = 2 := by omega
    · exact ⟨4, by decide, by decide, rfl⟩
    · exact ⟨30, by decide, by decide, rfl⟩
    · exact ⟨1000000, by decide, by decide, rfl⟩
  refine aIx_lst hat ?_
  refine dIte (fun e => ?_) fun e => dIte (fun e2 => ?_) fun e2 => ?_
  · refine ⟨sp, rfl, by omega, small_log (by omega) (by omega), by omega, fun wd lw uw => ?_⟩
    refine ⟨sp, rfl, by omega, small_log (by omega) (by omega), by omega, fun hg lh uh => ?_⟩
    have hb := box_dst (x := 0) (y := 0) (u := 1 + wd) (v := 1 + hg) (by omega) (by omega)
    have hc := box_cvx (x := 0) (y := 0) (u := 1 + wd) (v := 1 + hg) (by omega) (by omega)
    rw [Int.zero_add, Int.zero_add] at hb hc
    refine q [(0, 0), (1 + wd, 0), (1 + wd, 1 + hg), (0, 1 + hg)] _ ⟨by simp, by simp, fun p hp => ?_, next4 (ne_x (by omega)) (ne_y (by omega)) (ne_x (by omega)) (ne_y (by omega)), hb, hc⟩ ⟨(0, 0), _, rfl, fun p hp => ?_⟩ (by simp) (fun p hp => ?_) (by omega)
    · simp only [List.mem_cons, List.not_mem_nil, or_false] at hp
      rcases hp with rfl | rfl | rfl | rfl <;> (unfold PtS; simp only; omega)
    · simp only [List.mem_cons, List.not_mem_nil, or_false] at hp
      rcases hp with rfl | rfl | rfl | rfl <;> first | exact .inr ⟨rfl, by simp only; omega⟩ | exact .inl (by simp only; omega)
    · simp only [List.mem_cons, List.not_mem_nil, or_false] at hp
      rcases hp with rfl | rfl | rfl | rfl <;> (unfold PtR; simp only; omega)
  · refine ⟨9, rfl, by decide, by decide, by omega, fun wd lw uw => ?_⟩
    refine ⟨99, rfl, by decide, by decide, by omega, fun hg lh uh => ?_⟩
    refine ⟨⟨by decide, by decide, by decide, by decide⟩, by rw [rangeD_length]; decide, ?_⟩
    refine aLc_ind (fun acc ds m => m = n - 1 - 1 - 1 - 1 ∧ ∃ (ps : List Pt) (i : Int) (c : Nat), acc = ps.map pt ∧ ds = rangeD i c ∧ ps.length + c = 8 ∧ -4 ≤ i ∧ i + c = 4 ∧ ∀ p ∈ ps, -1000000 ≤ p.1 ∧ p.1 ≤ 1000000 ∧ -1000000 ≤ p.2 ∧ p.2 ≤ 1000000) ?_ ?_ ⟨rfl, [], -4, 8, rfl, rfl, rfl, by decide, by decide, fun c h => by cases h⟩
    · rintro acc d r' m ⟨rfl, ps, i, c, rfl, e5, hl, hi0, hi1, hp⟩ ih
      cases c with
      | zero => cases e5
      | succ c =>
      obtain ⟨rfl, rfl⟩ := List.cons.inj e5
      have hi : i = -4 ∨ i = -3 ∨ i = -2 ∨ i = -1 ∨ i = 0 ∨ i = 1 ∨ i = 2 ∨ i = 3 := by omega
      have k1 : -1000 ≤ (1 + wd) * i ∧ (1 + wd) * i ≤ 1000 := by rcases hi with rfl | rfl | rfl | rfl | rfl | rfl | rfl | rfl <;> omega
      have k2 : -1000 ≤ (1 + wd) * i * i ∧ (1 + wd) * i * i ≤ 1000 := by rcases hi with rfl | rfl | rfl | rfl | rfl | rfl | rfl | rfl <;> omega
      have k3 : -1000 ≤ (1 + hg) * i ∧ (1 + hg) * i ≤ 1000 := by rcases hi with rfl | rfl | rfl | rfl | rfl | rfl | rfl | rfl <;> omega
      have bw : Bd 30 (1 + wd) := bd_abs (n := 1000) (by decide) (by omega) (by omega)
      have bh : Bd 30 (1 + hg) := bd_abs (n := 1000) (by decide) (by omega) (by omega)
      have bi : Bd 30 i := bd_abs (n := 1000) (by decide) (by omega) (by omega)
      have bwi : Bd 30 ((1 + wd) * i) := bd_abs (n := 1000) (by decide) k1.1 k1.2
      refine aT ⟨mulA bw bi (by decide) (by decide), mulA bwi bi (by decide) (by decide), mulA bh bi (by decide) (by decide), ih _ _ ⟨rfl, ps ++ [((1 + wd) * i * i, (1 + hg) * i)], i + 1, c, by rw [List.map_append]; rfl, rfl, by rw [List.length_append]; simp; omega, by omega, by omega, fun p h => ?_⟩⟩
      rcases List.mem_append.mp h with h | h
      · exact hp p h
      · rw [List.mem_singleton.mp h]
        exact ⟨by simp only; omega, by simp only; omega, by simp only; omega, by simp only; omega⟩
    · rintro acc m ⟨rfl, ps, i, c, rfl, e5, hl, hi0, hi1, hp⟩
      exact ⟨ps, rfl, by omega, hp, fun cs ok f8 l8 r8 => q cs _ ok f8 l8 r8 (by omega)⟩
  · obtain ⟨mn, hm0, hm1, hat2⟩ : ∃ mn : Int, 4 ≤ mn ∧ mn ≤ 8 ∧ atI [D.int 4, D.int 8] (kd - 2) = some (D.int mn) := by
      obtain rfl | rfl : kd = 2 ∨ kd = 3 := by omega
      · exact ⟨4, by decide, by decide, rfl⟩
      · exact ⟨8, by decide, by decide, rfl⟩
    refine aIx_lst hat2 ?_
    refine ⟨⟨by omega, by omega⟩, ?_⟩
    have hsp : Bd 30 sp := bd_abs (n := 1000000) (by decide) (by omega) (by omega)
    have h2 : Bd 30 (2 : Int) := bd_abs (n := 2) (by decide) (by decide) (by decide)
    refine aFor_ind (fun ds ρ m => ∃ (ps : List Pt) (y6 : Option D), ρ = [some .deck, some (.int kd), some (.int sp), none, none, some (.lst (ps.map pt)), y6, none] ∧ 4 ≤ ps.length ∧ ps.length + ds.length ≤ 12 ∧ n + 8 ≤ m + 2 + 2 * ps.length ∧ ∀ p ∈ ps, -1000000 ≤ p.1 ∧ p.1 ≤ 1000000 ∧ -1000000 ≤ p.2 ∧ p.2 ≤ 1000000) ?_ ?_ ⟨[(sp, 0), (0, sp), (-sp, 0), (0, -sp)], none, rfl, by simp, by rw [rangeD_length]; simp; omega, by simp; omega, fun p hp => ?_⟩
    · rintro d r' _ m ⟨ps, y6, rfl, h4, hl, hm, hp⟩ ih
      rw [List.length_cons] at hl
      refine ⟨mulA h2 hsp (by decide) (by decide), 2 * sp + 1, rfl, by omega, small_log (by omega) (by omega), by omega, fun a la ua => ?_⟩
      refine ⟨mulA h2 hsp (by decide) (by decide), 2 * sp + 1, rfl, by omega, small_log (by omega) (by omega), by omega, fun b lb ub => ?_⟩
      refine ⟨by rw [List.length_map]; omega, ih _ _ ⟨ps ++ [(a - sp, b - sp)], some d, by rw [List.map_append]; rfl, by rw [List.length_append]; omega, by rw [List.length_append]; simp; omega, by rw [List.length_append]; simp; omega, fun p h => ?_⟩⟩
      rcases List.mem_append.mp h with h | h
      · exact hp p h
      · rw [List.mem_singleton.mp h]
        exact ⟨by simp only; omega, by simp only; omega, by simp only; omega, by simp only; omega⟩
    · rintro _ m ⟨ps, y6, rfl, h4, hl, hm, hp⟩
      exact ⟨ps.drop ((ps.length : Int) - 8).toNat, congrArg (fun z => [D.lst z]) (cut8 ps), by rw [List.length_drop]; omega, fun p h => hp p (List.mem_of_mem_drop h), fun cs ok f8 l8 r8 => q cs _ ok f8 l8 r8 (by simp at hl; omega)⟩
    · simp only [List.mem_cons, List.not_mem_nil, or_false] at hp
      rcases hp with rfl | rfl | rfl | rfl <;> exact ⟨by simp only; omega, by simp only; omega, by simp only; omega, by simp only; omega⟩
theorem wayI_nz {p q : Int} (h : ¬ (p = 0 ∧ q = 0)) : ¬ ((wayI p q).1 = 0 ∧ (wayI p q).2 = 0) := fun z => h (by
  have e1 : p / gcdI p q * gcdI p q = p := Int.ediv_mul_cancel (gcdI_dvd_l _ _)
  have e2 : q / gcdI p q * gcdI p q = q := Int.ediv_mul_cancel (gcdI_dvd_r _ _)
  have z1 : p / gcdI p q = 0 := z.1
  have z2 : q / gcdI p q = 0 := z.2
  rw [z1, Int.zero_mul] at e1
  rw [z2, Int.zero_mul] at e2
  exact ⟨e1.symm, e2.symm⟩)
def a_l_way : ASp := fun ds n Q => ds = [.deck] ∧ 10 ≤ n ∧ ∀ (w : Pt) (n' : Nat), WyS 8000 w → ¬ (w.1 = 0 ∧ w.2 = 0) → n ≤ n' + 5 → Q (pt w) n'
theorem ok_l_way (T : Tx K mg A) : FnOk P w K mg base CX0 4 A.f_l_way A.fd_l_way ["_law_deck_here"] (spOf K 1 a_l_way) := by
  refine fn_mir [] 4 rfl (by decide) (by decide) T.F_l_way sc_l_way fun cdv Ar outer s H E hr => ?_
  refine ⟨_, _, (pss_cons (ps_set (i := 1) sc_l_way.nd rfl (.inl rfl) (pe_op op_sub (pe_call (ok_l_take (P := P) (K := K) T) (hr.mono (by decide)) (by rfl) T.g_l_take T.F_l_take.kp T.b_l_take .nil pass0 (pa_cons (pv 0) (pa_cons pe_int pa_nil))) pe_int))
    (pss_cons (ps_set (i := 2) sc_l_way.nd rfl (.inl rfl) (pe_ix (k_ixS (K := K) rfl) (pe_lst (pa_cons (pe_op op_sub (pe_call (ok_l_take (P := P) (K := K) T) (hr.mono (by decide)) (by rfl) T.g_l_take T.F_l_take.kp T.b_l_take .nil pass0 (pa_cons (pv 0) (pa_cons pe_int pa_nil))) pe_int) (pa_cons pe_int (pa_cons pe_int (pa_cons (pv 1) pa_nil))))) (pe_call (ok_l_take (P := P) (K := K) T) (hr.mono (by decide)) (by rfl) T.g_l_take T.F_l_take.kp T.b_l_take .nil pass0 (pa_cons (pv 0) (pa_cons pe_int pa_nil))) (fun _ _ => rfl)))
    (pss_cons (ps_if (PW.pt (pw_and (pt_cmpR (k_eq (K := K) rfl hr.units) (pv 1) pe_int (nomark _)) (pw_and1 (pt_cmpR (k_eq (K := K) rfl hr.units) (pv 2) pe_int (nomark _)))))
      (pss_one (ps_ret (pe_tup (pa_cons pe_int (pa_cons (pe_un un_neg pe_int) pa_nil)))))
      pss_nil)
    (pss_cons (ps_set (i := 3) sc_l_way.nd rfl (.inl rfl) (pe_call (ok_l_gcd (P := P) (K := K) T) (hr.mono (by decide)) (by rfl) T.g_l_gcd T.F_l_gcd.kp T.b_l_gcd .nil pass0 (pa_cons (pv 1) (pa_cons (pv 2) pa_nil))))
    (pss_one (ps_ret (pe_tup (pa_cons (pe_op k_fdiv (pv 1) (pv 3)) (pa_cons (pe_op k_fdiv (pv 2) (pv 3)) pa_nil))))))))), by infer_instance, fun ds n Q hl hA => ?_⟩
  obtain ⟨rfl, hn, q⟩ := hA
  refine ⟨2000001, rfl, by decide, by decide, by omega, fun p lp up => ?_⟩
  refine ⟨2000001, rfl, by decide, by decide, by omega, fun q0 lq uq => ?_⟩
  refine ⟨4, rfl, by decide, by decide, by omega, fun r lr ur => ?_⟩
  obtain ⟨qq, hq0, hq1, hat⟩ : ∃ qq : Int, -1000000 ≤ qq ∧ qq ≤ 1000000 ∧ atI [D.int (q0 - 1000000), D.int 0, D.int 1, D.int (p - 1000000)] r = some (D.int qq) := by
    obtain rfl | rfl | rfl | rfl : r = 0 ∨ r = 1 ∨ r = 2 ∨ r = 3 := by omega
    · exact ⟨_, by omega, by omega, rfl⟩
    · exact ⟨0, by decide, by decide, rfl⟩
    · exact ⟨1, by decide, by decide, rfl⟩
    · exact ⟨_, by omega, by omega, rfl⟩
  refine aIx_lst hat ?_
  have bp : Bd 21 (p - 1000000) := bd_abs (n := 1000000) (by decide) (by omega) (by omega)
  have bq : Bd 21 qq := bd_abs (n := 1000000) (by decide) (by omega) (by omega)
  refine dIte (fun e3 => dIte (fun e4 => ?_) fun e4 => ?_) fun e3 => ?_
  · exact q (0, -1) _ ⟨(bd_abs (k := 21) (n := 1) (r := 0) (by decide) (by decide) (by decide)).le (by decide), (bd_abs (k := 21) (n := 1) (r := -1) (by decide) (by decide) (by decide)).le (by decide)⟩ (by decide) (by omega)
  · have h0 : ¬ (p - 1000000 = 0 ∧ qq = 0) := fun z => e4 z.2
    have g0 := gcdI_pos2 h0
    have gb := gcdI_bd2 bp bq h0
    exact ⟨p - 1000000, qq, rfl, divA gb g0 (by decide), divA gb g0 (by decide), q (wayI (p - 1000000) qq) _ ⟨(wayI_wys h0 bp bq).1.le (by decide), (wayI_wys h0 bp bq).2.le (by decide)⟩ (wayI_nz h0) (by omega)⟩
  · have h0 : ¬ (p - 1000000 = 0 ∧ qq = 0) := fun z => e3 z.1
    have g0 := gcdI_pos2 h0
    have gb := gcdI_bd2 bp bq h0
    exact aF ⟨p - 1000000, qq, rfl, divA gb g0 (by decide), divA gb g0 (by decide), q (wayI (p - 1000000) qq) _ ⟨(wayI_wys h0 bp bq).1.le (by decide), (wayI_wys h0 bp bq).2.le (by decide)⟩ (wayI_nz h0) (by omega)⟩

/-! CUT -/
/-! ### the look at a shape that is one -/
def a_p_is_whole : ASp := fun ds n Q => ∃ x : Int, ds = [.int x] ∧ Q (.bl true) n
theorem ok_p_is_whole (T : Tx K mg A) : FnOk P w K mg base CX0 1 A.f_p_is_whole A.fd_p_is_whole ["thing"] (spOf K 1 a_p_is_whole) := by
  refine fn_mir [] 1 rfl (by decide) (by decide) T.F_p_is_whole sc_p_is_whole fun cdv Ar outer s H E hr => ?_
  refine ⟨_, _, (pss_one (ps_ret (pe_and (pe_callB (k_isi (K := K) rfl) (by rfl) T.m_isinstance (by decide +kernel) (pa_cons (pv 0) (pa_cons (k_ty (t := .int) (by rfl) T.m_int (by decide +kernel)) pa_nil))) (pe_one (pe_not (pe_callB (k_isi (K := K) rfl) (by rfl) T.m_isinstance (by decide +kernel) (pa_cons (pv 0) (pa_cons (k_ty (t := .bl) (by rfl) T.m_bool (by decide +kernel)) pa_nil)))))))), by infer_instance, fun ds n Q hl hA => ?_⟩
  obtain ⟨x, rfl, q⟩ := hA
  exact (show (isiB Ty.int Ty.int = true → Q (.bl (!isiB Ty.int Ty.bl)) n) ∧ (isiB Ty.int Ty.int = false → Q _ n) from ⟨fun _ => q, fun h => by cases h⟩)
def a_p_in_reach : ASp := fun ds n Q => ∃ x : Int, ds = [.int x] ∧ -1000000 ≤ x ∧ x ≤ 1000000 ∧ Q (.bl true) n
theorem ok_p_in_reach (T : Tx K mg A) : FnOk P w K mg base CX0 2 A.f_p_in_reach A.fd_p_in_reach ["thing"] (spOf K 1 a_p_in_reach) := by
  refine fn_mir [] 1 rfl (by decide) (by decide) T.F_p_in_reach sc_p_in_reach fun cdv Ar outer s H E hr => ?_
  refine ⟨_, _, (pss_one (ps_ret (pe_and (pe_call (ok_p_is_whole (P := P) (K := K) T) (hr.mono (by decide)) (by rfl) T.g_p_is_whole T.F_p_is_whole.kp T.b_p_is_whole .nil pass0 (pa_cons (pv 0) pa_nil)) (pe_one (pe_chain op_le op_le (pe_un un_neg (pe_glob (v := .int 1000000) (by rfl) T.g_REACH ⟨_, rfl⟩)) (pv 0) (pe_glob (v := .int 1000000) (by rfl) T.g_REACH ⟨_, rfl⟩)))))), by infer_instance, fun ds n Q hl hA => ?_⟩
  obtain ⟨x, rfl, h1, h2, q⟩ := hA
  refine ⟨x, rfl, ?_⟩
  refine aT ?_
  exact (show (decide (-1000000 ≤ x) = true → Q (.bl (decide (x ≤ 1000000))) n) ∧ (decide (-1000000 ≤ x) = false → Q (.bl false) n) from ⟨fun _ => by rw [decide_eq_true h2]; exact q, fun z => absurd z (by rw [decide_eq_true h1]; decide)⟩)
def a_p_is_left : ASp := fun ds n Q => ∃ a b c : Pt, ds = [pt a, pt b, pt c] ∧ PtS a ∧ PtS b ∧ PtS c ∧ Q (.bl (decide (0 < leftI a b c))) n
theorem ok_p_is_left (T : Tx K mg A) : FnOk P w K mg base CX0 1 A.f_p_is_left A.fd_p_is_left ["start", "end", "corner"] (spOf K 3 a_p_is_left) := by
  refine fn_mir [] 9 rfl (by decide) (by decide) T.F_p_is_left sc_p_is_left fun cdv Ar outer s H E hr => ?_
  refine ⟨_, _, (pss_cons (ps_asg (pv 0) (k_gtup (K := K) (m := 2) rfl rfl (pgs_cons (pg_name (i := 3) sc_p_is_left.nd rfl (.inl rfl)) (pgs_cons (pg_name (i := 4) sc_p_is_left.nd rfl (.inl rfl)) pgs_nil))))
    (pss_cons (ps_asg (pv 1) (k_gtup (K := K) (m := 2) rfl rfl (pgs_cons (pg_name (i := 5) sc_p_is_left.nd rfl (.inl rfl)) (pgs_cons (pg_name (i := 6) sc_p_is_left.nd rfl (.inl rfl)) pgs_nil))))
    (pss_cons (ps_asg (pv 2) (k_gtup (K := K) (m := 2) rfl rfl (pgs_cons (pg_name (i := 7) sc_p_is_left.nd rfl (.inl rfl)) (pgs_cons (pg_name (i := 8) sc_p_is_left.nd rfl (.inl rfl)) pgs_nil))))
    (pss_one (ps_ret (pe_cmpR op_gt (pe_op op_sub (pe_op k_mul (pe_op op_sub (pv 5) (pv 3)) (pe_op op_sub (pv 8) (pv 4))) (pe_op k_mul (pe_op op_sub (pv 6) (pv 4)) (pe_op op_sub (pv 7) (pv 3)))) pe_int (nomark _))))))), by infer_instance, fun ds n Q hl hA => ?_⟩
  obtain ⟨a, b, c, rfl, ha, hb, hc, q⟩ := hA
  unfold PtS at ha hb hc
  have B : ∀ i : Int, -6000000 ≤ i → i ≤ 6000000 → Bd 23 i := fun i h1 h2 => bd_abs (n := 6000000) (by decide) h1 h2
  exact ⟨mulA (B _ (by omega) (by omega)) (B _ (by omega) (by omega)) (by decide) (by decide), mulA (B _ (by omega) (by omega)) (B _ (by omega) (by omega)) (by decide) (by decide), q⟩
def a_p_is_side : ASp := fun ds n Q => ∃ (cs : List Pt) (e : Pt × Pt), ds = [.lst (cs.map pt), pt e.1, pt e.2] ∧ ShOk cs ∧ e ∈ prs cs ∧ Q (.bl true) n
theorem ok_p_is_side (T : Tx K mg A) : FnOk P w K mg base CX0 2 A.f_p_is_side A.fd_p_is_side ["corners", "start", "end"] (spOf K 3 a_p_is_side) := by
  refine fn_mir [] 4 rfl (by decide) (by decide) T.F_p_is_side sc_p_is_side fun cdv Ar outer s H E hr => ?_
  refine ⟨_, _, (pss_one (ps_ret (pe_cmpR (k_eq (K := K) rfl hr.units) (pe_callB (k_len (K := K) rfl) (by rfl) T.m_len (by decide +kernel) (pa_cons (pe_lc (own := [("corner", 3)]) rfl sc_p_is_side.nd (k_iter (K := K) rfl (pv 0)) (blkOk_by (own := [("corner", 3)]) (N := ["corners", "start", "end", "corner"]) (sc := defScope s_p_is_side) (by decide +kernel)) (fun _ _ _ _ _ => (pg_name (i := 3) sc_p_is_side.nd rfl (Or.inl rfl))) (fun _ _ _ _ _ => (pts_one (pt_val (pe_call (ok_p_is_left (P := P) (K := K) T) (hr.mono (by decide)) (by rfl) T.g_p_is_left T.F_p_is_left.kp T.b_p_is_left .nil pass0 (pa_cons (pv 1) (pa_cons (pv 2) (pa_cons (pv 3) pa_nil))))))) (fun _ _ _ _ _ => (pv 3))) pa_nil)) (pe_op op_sub (pe_callB (k_len (K := K) rfl) (by rfl) T.m_len (by decide +kernel) (pa_cons (pv 0) pa_nil)) pe_int) (nomark _)))), by infer_instance, fun ds n Q hl hA => ?_⟩
  obtain ⟨cs, e, rfl, hS, he, q⟩ := hA
  have h3 := hS.1
  have h16 := hS.2.1
  obtain ⟨_, p1, p2⟩ := prs_ok hS e he
  refine ⟨by rw [List.length_map]; omega, ?_⟩
  refine aLc_ind (fun acc ds m => m = n ∧ ∃ us vs : List Pt, cs = us ++ vs ∧ ds = vs.map pt ∧ acc = (us.filter fun c => decide (0 < leftI e.1 e.2 c)).map pt) ?_ ?_ ⟨rfl, [], cs, rfl, rfl, rfl⟩
  · rintro acc d r m ⟨rfl, us, vs, e0, e', rfl⟩ ih
    cases vs with
    | nil => cases e'
    | cons v vs =>
    obtain ⟨rfl, rfl⟩ := List.cons.inj e'
    refine ⟨e.1, e.2, v, rfl, p1, p2, hS.2.2.1 v (by rw [e0]; exact List.mem_append_right _ List.mem_cons_self), ?_⟩
    refine dIte (fun z => ih _ _ ⟨rfl, us ++ [v], vs, by rw [e0]; simp, rfl, ?_⟩) fun z => ih _ _ ⟨rfl, us ++ [v], vs, by rw [e0]; simp, rfl, ?_⟩
    · rw [List.filter_append, List.map_append, List.filter_cons_of_pos (by simpa using z)]
      rfl
    · rw [List.filter_append, List.map_append, List.filter_cons_of_neg (by simpa using z)]
      simp
  · rintro acc m ⟨rfl, us, vs, e0, e', rfl⟩
    cases vs with
    | cons v vs => cases e'
    | nil =>
    rw [List.append_nil] at e0
    rw [← e0]
    have hc := left_count hS he
    have el : ((((cs.filter fun c => decide (0 < leftI e.1 e.2 c)).map pt).length : Int) = ((cs.map pt).length : Int) - 2) := by
      rw [List.length_map, List.length_map, hc]
      omega
    refine (show Q (.bl (decide ((((cs.filter fun c => decide (0 < leftI e.1 e.2 c)).map pt).length : Int) = ((cs.map pt).length : Int) - 2))) m from ?_)
    rw [decide_eq_true el]
    exact q
theorem aNe {b : Bool} {p q : Prop} (h : b = true) (k : q) : aIte (!b) p q := by
  subst h
  exact aF k
def a_p_look_corner : ASp := fun ds n Q => ∃ c : Pt, ds = [pt c] ∧ PtR c ∧ Q (pt c) n
theorem ok_p_look_corner (T : Tx K mg A) : FnOk P w K mg base CX0 3 A.f_p_look_corner A.fd_p_look_corner ["thing"] (spOf K 1 a_p_look_corner) := by
  refine fn_mir [] 3 rfl (by decide) (by decide) T.F_p_look_corner sc_p_look_corner fun cdv Ar outer s H E hr => ?_
  refine ⟨_, _, (pss_cons (ps_if (PW.pt (pw_or (pt_not (pt_val (pe_callB (k_isiS (K := K) rfl) (by rfl) T.m_isinstance (by decide +kernel) (pa_cons (pv 0) (pa_cons (pe_tup (pa_cons (k_ty (t := .lst) (by rfl) T.m_list (by decide +kernel)) (pa_cons (k_ty (t := .tup) (by rfl) T.m_tuple (by decide +kernel)) pa_nil))) pa_nil))))) (pw_or1 (pt_cmpR (k_ne (K := K) rfl hr.units) (pe_callB (k_len (K := K) rfl) (by rfl) T.m_len (by decide +kernel) (pa_cons (pv 0) pa_nil)) pe_int (nomark _)))))
      (pss_one ps_never)
      pss_nil)
    (pss_cons (ps_asg (pv 0) (k_gtup (K := K) (m := 2) rfl rfl (pgs_cons (pg_name (i := 1) sc_p_look_corner.nd rfl (.inl rfl)) (pgs_cons (pg_name (i := 2) sc_p_look_corner.nd rfl (.inl rfl)) pgs_nil))))
    (pss_cons (ps_if (PW.pt (pw_or (pt_not (pt_val (pe_call (ok_p_in_reach (P := P) (K := K) T) (hr.mono (by decide)) (by rfl) T.g_p_in_reach T.F_p_in_reach.kp T.b_p_in_reach .nil pass0 (pa_cons (pv 1) pa_nil)))) (pw_or1 (pt_not (pt_val (pe_call (ok_p_in_reach (P := P) (K := K) T) (hr.mono (by decide)) (by rfl) T.g_p_in_reach T.F_p_in_reach.kp T.b_p_in_reach .nil pass0 (pa_cons (pv 2) pa_nil)))))))
      (pss_one ps_never)
      pss_nil)
    (pss_one (ps_ret (pe_tup (pa_cons (pv 1) (pa_cons (pv 2) pa_nil)))))))), by infer_instance, fun ds n Q hl hA => ?_⟩
  obtain ⟨c, rfl, h, q⟩ := hA
  unfold PtR at h
  refine ⟨⟨(fun z => nomatch z), (fun z => nomatch z), (fun z => nomatch z), (fun z => nomatch z)⟩, aF (aNe (decide_eq_true rfl) ?_)⟩
  exact ⟨c.1, rfl, h.1, h.2.1, aF ⟨c.2, rfl, h.2.2.1, h.2.2.2, aF q⟩⟩
theorem pt_lt {v p : Pt} (h : MM.ltK 1 (pt v).kt (pt p).kt = false) : ¬ (v.1 < p.1 ∨ v.1 = p.1 ∧ v.2 < p.2) := by
  have e : MM.ltK 1 (pt v).kt (pt p).kt = (if MM.eqK 0 (.n v.1) (.n p.1) = true then (if MM.eqK 0 (.n v.2) (.n p.2) = true then MM.ltL (MM.eqK 0) (MM.ltK 0) [] [] else MM.ltK 0 (.n v.2) (.n p.2)) else MM.ltK 0 (.n v.1) (.n p.1)) := rfl
  rw [e, MM.eqK_n, MM.eqK_n, MM.ltK_n, MM.ltK_n] at h
  intro z
  rcases z with z | ⟨z1, z2⟩
  · rw [if_neg (by simp; omega)] at h
    exact absurd h (by simp; omega)
  · rw [if_pos (by simp; omega), if_neg (by simp; omega)] at h
    exact absurd h (by simp; omega)
theorem pt_pld (ps : List Pt) (m : Pt) : PlD (ps.map pt) (pt m) := ⟨rfl, pt_isD ps, by simp [SeqAt.shaped, pt, D.pd, pdAll, PyData.canLay0, PyData.canLayAll0, PyData.depth, PyData.depthAll], pt_shaped ps⟩
theorem shp_n (d : Nat) (i j : Int) : MM.shp d (.n i) (.n j) := by cases d <;> trivial
theorem shp2 {d : Nat} {x y x' y' : MM.KT} (h1 : MM.shp d x x') (h2 : MM.shp d y y') : MM.shp (d + 1) (.t [x, y]) (.t [x', y']) := by
  refine ⟨rfl, fun j u v hu hv => ?_⟩
  match j, hu, hv with
  | 0, hu, hv => cases hu; cases hv; exact h1
  | 1, hu, hv => cases hu; cases hv; exact h2
theorem pt_kd (c : Pt) : (pt c).kd 1 := fun y hy => by
  have : y = .int c.1 ∨ y = .int c.2 := by simpa using hy
  rcases this with rfl | rfl <;> trivial
theorem cut_fr {xs : List D} {k : Nat} (h : k ≤ xs.length) : cutL xs (some (k : Int)) none = xs.drop k := by
  unfold cutL
  rw [HT.sIx_none, HT.sIx_nat, Nat.min_eq_left h, ← List.length_drop, List.take_length]
theorem cut_to {xs : List D} {k : Nat} (h : k ≤ xs.length) : cutL xs none (some (k : Int)) = xs.take k := by
  unfold cutL
  rw [HT.sIx_none, HT.sIx_nat, Nat.min_eq_left h, List.drop_zero, Nat.sub_zero]
def a_p_look_shape : ASp := fun ds n Q => ∃ cs : List Pt, ds = [.lst (cs.map pt)] ∧ ShOk cs ∧ cs.length ≤ 8 ∧ (∀ p ∈ cs, PtR p) ∧ ∀ j v, cs[j]? = some v → (∀ p ∈ cs, ¬ (p.1 < v.1 ∨ p.1 = v.1 ∧ p.2 < v.2)) → Q (.tup ((cs.drop j ++ cs.take j).map pt)) n
theorem ok_p_look_shape (T : Tx K mg A) : FnOk P w K mg base CX0 4 A.f_p_look_shape A.fd_p_look_shape ["thing"] (spOf K 1 a_p_look_shape) := by
  refine fn_mir [] 6 rfl (by decide) (by decide) T.F_p_look_shape sc_p_look_shape fun cdv Ar outer s H E hr => ?_
  refine ⟨_, _, (pss_cons (ps_if (PW.pt (pw_or (pt_not (pt_val (pe_callB (k_isiS (K := K) rfl) (by rfl) T.m_isinstance (by decide +kernel) (pa_cons (pv 0) (pa_cons (pe_tup (pa_cons (k_ty (t := .lst) (by rfl) T.m_list (by decide +kernel)) (pa_cons (k_ty (t := .tup) (by rfl) T.m_tuple (by decide +kernel)) pa_nil))) pa_nil))))) (pw_or1 (pt_not (pt_chain op_le op_le pe_int (pe_callB (k_len (K := K) rfl) (by rfl) T.m_len (by decide +kernel) (pa_cons (pv 0) pa_nil)) (pe_glob (v := .int 8) (by rfl) T.g_CORNERS ⟨_, rfl⟩))))))
      (pss_one ps_never)
      pss_nil)
    (pss_cons (ps_set (i := 1) sc_p_look_shape.nd rfl (.inr rfl) (pe_lc (own := [("corner", 3)]) rfl sc_p_look_shape.nd (k_iter (K := K) rfl (pv 0)) (blkOk_by (own := [("corner", 3)]) (N := ["thing", "corners", "first", "corner", "start", "end"]) (sc := defScope s_p_look_shape) (by decide +kernel)) (fun _ _ _ _ _ => (pg_name (i := 3) sc_p_look_shape.nd rfl (Or.inl rfl))) (fun _ _ _ _ _ => pts_nil) (fun _ _ _ _ _ => (pe_call (ok_p_look_corner (P := P) (K := K) T) (hr.mono (by decide)) (by rfl) T.g_p_look_corner T.F_p_look_corner.kp T.b_p_look_corner .nil pass0 (pa_cons (pv 3) pa_nil)))))
    (pss_cons (ps_if (pt_not (pt_val (pe_callB (k_all (K := K) rfl rfl) (by rfl) T.m_all (by decide +kernel) (pa_cons (pe_lc (own := [("start", 4), ("end", 5)]) rfl sc_p_look_shape.nd (k_iter (K := K) rfl (pe_call (ok_p_side_ends (P := P) (K := K) T) (hr.mono (by decide)) (by rfl) T.g_p_side_ends T.F_p_side_ends.kp T.b_p_side_ends .nil pass0 (pa_cons (pv 1) pa_nil))) (blkOk_by (own := [("start", 4), ("end", 5)]) (N := ["thing", "corners", "first", "corner", "start", "end"]) (sc := defScope s_p_look_shape) (by decide +kernel)) (fun _ _ _ _ _ => (k_gtup (K := K) (m := 2) rfl rfl (pgs_cons (pg_name (i := 4) sc_p_look_shape.nd rfl (Or.inl rfl)) (pgs_cons (pg_name (i := 5) sc_p_look_shape.nd rfl (Or.inl rfl)) pgs_nil)))) (fun _ _ _ _ _ => pts_nil) (fun _ _ _ _ _ => (pe_call (ok_p_is_side (P := P) (K := K) T) (hr.mono (by decide)) (by rfl) T.g_p_is_side T.F_p_is_side.kp T.b_p_is_side .nil pass0 (pa_cons (pv 1) (pa_cons (pv 4) (pa_cons (pv 5) pa_nil)))))) pa_nil))))
      (pss_one ps_never)
      pss_nil)
    (pss_cons (ps_set (i := 2) sc_p_look_shape.nd rfl (.inl rfl) (k_idxD (K := K) rfl (pe_bm PySem.F.plainAttrs_list PySem.F.slot_list_index PySem.F.type_list_index (mt_indexD (room65 hr)) (pv 1) (pa_cons (pe_callB (k_minT (K := K) rfl rfl hr.units) (by rfl) T.m_min (by decide +kernel) (pa_cons (pv 1) pa_nil)) pa_nil))))
    (pss_one (ps_ret (pe_callTy (k_tuple (K := K) rfl) (by rfl) T.m_tuple (by decide +kernel) (pa_cons (pe_op (k_add (K := K) rfl) (pe_slice (k_sl (K := K) rfl) (pv 1) (po_some (pv 2)) po_none) (pe_slice (k_sl (K := K) rfl) (pv 1) po_none (po_some (pv 2)))) pa_nil)))))))), by infer_instance, fun ds n Q hl hA => ?_⟩
  obtain ⟨cs, rfl, hS, h8, hr, q⟩ := hA
  have h3 := hS.1
  have hl : (cs.map pt).length = cs.length := List.length_map _
  refine ⟨⟨(fun z => nomatch z), (fun z => nomatch z), (fun z => nomatch z), (fun z => nomatch z)⟩, aF ⟨fun _ => aNe (decide_eq_true (by rw [hl]; omega)) ?_, fun z => absurd z (by rw [decide_eq_true (by rw [hl]; omega)]; decide)⟩⟩
  refine ⟨by rw [hl]; omega, ?_⟩
  refine aLc_ind (fun acc ds m => m = n ∧ ∃ us vs : List Pt, cs = us ++ vs ∧ ds = vs.map pt ∧ acc = us.map pt) ?_ ?_ ⟨rfl, [], cs, rfl, rfl, rfl⟩
  · rintro acc d r m ⟨rfl, us, vs, e0, e', rfl⟩ ih
    cases vs with
    | nil => cases e'
    | cons v vs =>
    obtain ⟨rfl, rfl⟩ := List.cons.inj e'
    exact aT ⟨v, rfl, hr v (by rw [e0]; exact List.mem_append_right _ List.mem_cons_self), ih _ _ ⟨rfl, us ++ [v], vs, by rw [e0]; simp, rfl, by rw [List.map_append]; rfl⟩⟩
  rintro acc m ⟨rfl, us, vs, e0, e', rfl⟩
  cases vs with
  | cons v vs => cases e'
  | nil =>
  rw [List.append_nil] at e0
  rw [← e0]
  have hpl := prs_len (cs := cs) (fun z => by rw [z] at h3; simp at h3)
  refine ⟨cs, .inr rfl, h3, by omega, by rw [List.length_map]; omega, ?_⟩
  refine aLc_ind (fun acc ds j => j = m ∧ ∃ us vs : List (Pt × Pt), prs cs = us ++ vs ∧ ds = vs.map prD ∧ acc = (us.map fun _ => true).map D.bl) ?_ ?_ ⟨rfl, [], prs cs, rfl, rfl, rfl⟩
  · rintro acc d r j ⟨rfl, us, vs, e0, e', rfl⟩ ih
    cases vs with
    | nil => cases e'
    | cons v vs =>
    obtain ⟨rfl, rfl⟩ := List.cons.inj e'
    exact aT ⟨cs, v, rfl, hS, by rw [e0]; exact List.mem_append_right _ List.mem_cons_self, ih _ _ ⟨rfl, us ++ [v], vs, by rw [e0]; simp, rfl, by rw [List.map_append, List.map_append]; rfl⟩⟩
  rintro acc j ⟨rfl, us, vs, e0, e', rfl⟩
  refine ⟨_, rfl, aNe (show ((us.map fun _ => true).all id) = true by rw [List.all_map]; exact List.all_eq_true.mpr fun _ _ => rfl) ?_⟩
  refine ⟨_, rfl, _, 1, rfl, fun z => ?_, by decide, fun e he => ?_, fun e he e' he' => ?_, fun e he hm => ?_⟩
  · have := congrArg List.length z
    rw [hl] at this
    simp at this
    rw [this] at h3
    simp at h3
  · obtain ⟨p, _, rfl⟩ := List.mem_map.mp he
    exact pt_kd p
  · obtain ⟨p, _, rfl⟩ := List.mem_map.mp he
    obtain ⟨p', _, rfl⟩ := List.mem_map.mp he'
    exact shp2 (shp_n _ _ _) (shp_n _ _ _)
  obtain ⟨p, hp, rfl⟩ := List.mem_map.mp he
  obtain ⟨j', z, g1, g2, g3⟩ := anyD_idx (ds := cs.map pt) (d := pt p) (mem_anyD he (by rw [pt_eqv]; simp))
  have hj : j' < cs.length := by
    obtain ⟨h, _⟩ := List.getElem?_eq_some_iff.mp g1
    simpa using h
  refine ⟨j', z, pt_pld _ _, g1, g2, g3, ?_⟩
  have f1 : cutL (cs.map pt) (some (j' : Int)) none = (cs.drop j').map pt := by rw [cut_fr (by rw [List.length_map]; omega), List.map_drop]
  have f2 : cutL (cs.map pt) none (some (j' : Int)) = (cs.take j').map pt := by rw [cut_to (by rw [List.length_map]; omega), List.map_take]
  have gv : cs[j']? = some p := by
    rw [List.getElem?_map] at g1
    obtain ⟨v, v1, rfl⟩ := Option.map_eq_some_iff.mp g1
    rw [pt_eqv] at g2
    rw [v1, of_decide_eq_true g2]
  refine ⟨by rw [f1, f2]; simp; omega, ?_⟩
  rw [f1, f2, ← List.map_append]
  exact q j' p gv fun x hx => pt_lt (hm (pt x) (List.mem_map_of_mem hx))

/-! CUT -/

/-! CUT -/
/-! ### the law's own looks -/
theorem way_cop {p q : Int} (h : ¬ (p = 0 ∧ q = 0)) : gcdI (wayI p q).1 (wayI p q).2 = 1 := by
  have g := gcdI_pos2 h
  have g' : 0 < Int.gcd p q := by
    have : ((Int.gcd p q : Nat) : Int) = gcdI p q := rfl
    omega
  have := Int.gcd_ediv_gcd_ediv_gcd (i := p) (j := q) g'
  show ((Int.gcd (p / gcdI p q) (q / gcdI p q) : Nat) : Int) = 1
  rw [show gcdI p q = ((Int.gcd p q : Nat) : Int) from rfl, this]
  rfl
theorem wyE_cop {cs : List Pt} (h : ShOk cs) {e : Pt × Pt} (he : e ∈ prs cs) : gcdI (wyE e).1 (wyE e).2 = 1 := way_cop fun z => (prs_ok h e he).1 (Prod.ext (by omega) (by omega))
def a_l_is_way : ASp := fun ds n Q => ∃ w : Pt, ds = [pt w] ∧ gcdI w.1 w.2 = 1 ∧ Q (.bl true) n
theorem ok_l_is_way (T : Tx K mg A) : FnOk P w K mg base CX0 2 A.f_l_is_way A.fd_l_is_way ["_law_thing"] (spOf K 1 a_l_is_way) := by
  refine fn_mir [] 2 rfl (by decide) (by decide) T.F_l_is_way sc_l_is_way fun cdv Ar outer s H E hr => ?_
  refine ⟨_, _, (pss_cons (ps_if (PW.pt (pw_or (pt_not (pt_val (pe_callB (k_isi (K := K) rfl) (by rfl) T.m_isinstance (by decide +kernel) (pa_cons (pv 0) (pa_cons (k_ty (t := .tup) (by rfl) T.m_tuple (by decide +kernel)) pa_nil))))) (pw_or1 (pt_cmpR (k_ne (K := K) rfl hr.units) (pe_callB (k_len (K := K) rfl) (by rfl) T.m_len (by decide +kernel) (pa_cons (pv 0) pa_nil)) pe_int (nomark _)))))
      (pss_one (ps_ret pe_bl))
      pss_nil)
    (pss_cons (ps_for PassesOwn.never rfl (k_iter (K := K) rfl (pv 0)) (pg_name (i := 1) sc_l_is_way.nd rfl (.inl rfl))
      (pss_one (ps_if (PW.pt (pw_or (pt_not (pt_val (pe_callB (k_isi (K := K) rfl) (by rfl) T.m_isinstance (by decide +kernel) (pa_cons (pv 1) (pa_cons (k_ty (t := .int) (by rfl) T.m_int (by decide +kernel)) pa_nil))))) (pw_or1 (pt_val (pe_callB (k_isi (K := K) rfl) (by rfl) T.m_isinstance (by decide +kernel) (pa_cons (pv 1) (pa_cons (k_ty (t := .bl) (by rfl) T.m_bool (by decide +kernel)) pa_nil)))))))
      (pss_one (ps_ret pe_bl))
      pss_nil)))
    (pss_one (ps_ret (pe_cmpR (k_eq (K := K) rfl hr.units) (pe_call (ok_l_gcd (P := P) (K := K) T) (hr.mono (by decide)) (by rfl) T.g_l_gcd T.F_l_gcd.kp T.b_l_gcd .nil pass0 (pa_cons (pe_ix (k_ix (K := K) rfl) (pv 0) pe_int (fun _ _ => rfl)) (pa_cons (pe_ix (k_ix (K := K) rfl) (pv 0) pe_int (fun _ _ => rfl)) pa_nil))) pe_int (nomark _)))))), by infer_instance, fun ds n Q hl hA => ?_⟩
  obtain ⟨w, rfl, g, q⟩ := hA
  refine aF (aNe (decide_eq_true rfl) ?_)
  refine aF (aF ?_)
  refine aF (aF ?_)
  refine ⟨w.1, w.2, rfl, ?_⟩
  show Q (.bl (decide (gcdI w.1 w.2 = 1))) n
  rw [g]
  exact q
def a_l_far : ASp := fun ds n Q => ∃ (cs : List Pt) (w : Pt), ds = [.tup (cs.map pt), pt w] ∧ ShOk cs ∧ WyS 8000 w ∧ Q (.lst (cs.map fun c => D.int (dot w c))) n
theorem ok_l_far (T : Tx K mg A) : FnOk P w K mg base CX0 2 A.f_l_far A.fd_l_far ["_law_shape_here", "_law_way_here"] (spOf K 2 a_l_far) := by
  refine fn_mir [] 5 rfl (by decide) (by decide) T.F_l_far sc_l_far fun cdv Ar outer s H E hr => ?_
  refine ⟨_, _, (pss_cons (ps_set (i := 2) sc_l_far.nd rfl (.inl rfl) (pe_call (ok_p_reach (P := P) (K := K) T) (hr.mono (by decide)) (by rfl) T.g_p_reach T.F_p_reach.kp T.b_p_reach .nil pass0 (pa_cons (pv 0) (pa_cons (pv 1) pa_nil))))
    (pss_cons (ps_setLc (i := 3) (own := [("_law_corner", 4)]) rfl sc_l_far.nd rfl rfl (sw_true rfl rfl rfl (by decide +kernel)) (k_iter (K := K) rfl (pv 0)) (blkOk_by (own := [("_law_corner", 4)]) (N := ["_law_shape_here", "_law_way_here", "_law_found", "_law_rows", "_law_corner"]) (sc := defScope s_l_far) (by decide +kernel)) (fun _ _ _ _ _ => (pg_name (i := 4) sc_l_far.nd rfl (Or.inl rfl))) (fun _ _ _ _ _ => pts_nil) (fun _ _ _ _ _ => (pe_op (k_add (K := K) rfl) (pe_op k_mul (pe_ix (k_ix (K := K) rfl) (pv 1) pe_int (fun _ _ => rfl)) (pe_ix (k_ix (K := K) rfl) (pv 4) pe_int (fun _ _ => rfl))) (pe_op k_mul (pe_ix (k_ix (K := K) rfl) (pv 1) pe_int (fun _ _ => rfl)) (pe_ix (k_ix (K := K) rfl) (pv 4) pe_int (fun _ _ => rfl))))))
    (pss_cons (ps_if (PW.pt (pw_or (pt_not (pt_val (pe_callB (k_isi (K := K) rfl) (by rfl) T.m_isinstance (by decide +kernel) (pa_cons (pv 2) (pa_cons (k_ty (t := .int) (by rfl) T.m_int (by decide +kernel)) pa_nil))))) (pw_or (pt_val (pe_callB (k_isi (K := K) rfl) (by rfl) T.m_isinstance (by decide +kernel) (pa_cons (pv 2) (pa_cons (k_ty (t := .bl) (by rfl) T.m_bool (by decide +kernel)) pa_nil)))) (pw_or1 (pt_cmpR (k_ne (K := K) rfl hr.units) (pv 2) (pe_callB (k_max1 (K := K) rfl rfl) (by rfl) T.m_max (by decide +kernel) (pa_cons (pv 3) pa_nil)) (nomark _))))))
      (pss_one (ps_ret pe_non))
      pss_nil)
    (pss_one (ps_ret (pv 3)))))), by infer_instance, fun ds n Q hl hA => ?_⟩
  obtain ⟨cs, v, rfl, hS, hv, q⟩ := hA
  have h16 := hS.2.1
  refine ⟨cs, v, rfl, hS, hv, ?_⟩
  refine ⟨by rw [List.length_map]; omega, ?_⟩
  refine aLc_ind (fun acc ds j => j = n ∧ ∃ us ws : List Pt, cs = us ++ ws ∧ ds = ws.map pt ∧ acc = us.map fun c => D.int (dot v c)) ?_ ?_ ⟨rfl, [], cs, rfl, rfl, rfl⟩
  · rintro acc d r j ⟨rfl, us, ws, e0, e, rfl⟩ ih
    cases ws with
    | nil => cases e
    | cons x ws =>
    obtain ⟨rfl, rfl⟩ := List.cons.inj e
    have hp := hS.2.2.1 x (by rw [e0]; exact List.mem_append_right _ List.mem_cons_self)
    unfold PtS at hp
    exact aT ⟨mulA hv.1 (bd_pt hp.1 hp.2.1) (by decide) (by decide), mulA hv.2 (bd_pt hp.2.2.1 hp.2.2.2) (by decide) (by decide), ih _ _ ⟨rfl, us ++ [x], ws, by rw [e0]; simp, rfl, by rw [List.map_append]; rfl⟩⟩
  · rintro acc j ⟨rfl, us, ws, e0, e, rfl⟩
    cases ws with
    | cons x ws => cases e
    | nil =>
    rw [List.append_nil] at e0
    refine aF (aF ?_)
    refine ⟨us.map (dot v), by rw [List.map_map]; rfl, by rw [List.length_map, ← e0]; exact Nat.lt_of_lt_of_le (by decide) hS.1, fun mm h1 h2 => ?_⟩
    have : IsMax v us mm := by
      obtain ⟨c, h3, h4⟩ := List.mem_map.mp h1
      exact ⟨⟨c, h3, h4.symm⟩, fun x hx => h2 _ (List.mem_map.mpr ⟨x, hx, rfl⟩)⟩
    rw [← e0] at this
    have e7 : mm = mx v cs := this.uniq (mx_is hS.ne)
    refine aNe (decide_eq_true (e7 ▸ rfl)) ?_
    rw [e0] at q
    exact q
/-- just a side's own two corners lie farthest along its way -/
theorem side_count {cs : List Pt} (h : ShOk cs) {e : Pt × Pt} (he : e ∈ prs cs) : (cs.map (dot (wyE e))).count (dot (wyE e) e.1) = 2 := by
  obtain ⟨g, g0, e1, e2⟩ := wyE_val h he
  have k1 : ∀ c : Pt, g * (dot (wyE e) e.1 - dot (wyE e) c) = leftI e.1 e.2 c := fun c => by
    unfold dot leftI
    have : g * ((wyE e).1 * e.1.1 + (wyE e).2 * e.1.2 - ((wyE e).1 * c.1 + (wyE e).2 * c.2)) = ((wyE e).1 * g) * (e.1.1 - c.1) + ((wyE e).2 * g) * (e.1.2 - c.2) := by grind
    rw [this, e1, e2]
    grind
  have hl := left_count h he
  have hc := (h.2.2.2.2.2 e he).2
  rw [List.count_eq_countP, List.countP_map]
  have e3 : cs.countP ((fun x => x == dot (wyE e) e.1) ∘ dot (wyE e)) = cs.countP fun c => decide (¬ (decide (0 < leftI e.1 e.2 c)) = true) := by
    refine List.countP_congr fun c hcm => ?_
    have h1 := k1 c
    have h2 := hc c hcm
    show (dot (wyE e) c == dot (wyE e) e.1) = true ↔ _
    rw [beq_iff_eq, decide_eq_true_eq, decide_eq_true_eq]
    constructor
    · intro z
      rw [z, Int.sub_self, Int.mul_zero] at h1
      omega
    · intro z
      have z' : g * (dot (wyE e) e.1 - dot (wyE e) c) = 0 := by omega
      rcases Int.mul_eq_zero.mp z' with y | y <;> omega
  rw [e3]
  have e4 := List.length_eq_countP_add_countP (fun c => decide (0 < leftI e.1 e.2 c)) (l := cs)
  rw [List.countP_eq_length_filter, hl] at e4
  have := h.1
  omega
theorem side_end {cs : List Pt} (h : ShOk cs) {e : Pt × Pt} (he : e ∈ prs cs) : dot (wyE e) e.2 = dot (wyE e) e.1 := by
  obtain ⟨g, g0, e1, e2⟩ := wyE_val h he
  have : g * (dot (wyE e) e.1 - dot (wyE e) e.2) = 0 := by
    unfold dot
    have : g * ((wyE e).1 * e.1.1 + (wyE e).2 * e.1.2 - ((wyE e).1 * e.2.1 + (wyE e).2 * e.2.2)) = ((wyE e).1 * g) * (e.1.1 - e.2.1) + ((wyE e).2 * g) * (e.1.2 - e.2.2) := by grind
    rw [this, e1, e2]
    grind
  rcases Int.mul_eq_zero.mp this with y | y <;> omega
theorem enum_cons (j : Nat) (d : D) (r : List D) : enumD j (d :: r) = .tup [.int (j : Int), d] :: enumD (j + 1) r := rfl
/-! CUT -/
def a_l_ways_right : ASp := fun ds n Q => ∃ cs : List Pt, ds = [.tup (cs.map pt), .tup ((waysOf cs).map pt)] ∧ ShOk cs ∧ Q (.bl true) n
theorem ok_l_ways_right (T : Tx K mg A) : FnOk P w K mg base CX0 3 A.f_l_ways_right A.fd_l_ways_right ["_law_shape_here", "_law_ways"] (spOf K 2 a_l_ways_right) := by
  refine fn_mir [] 11 rfl (by decide) (by decide) T.F_l_ways_right sc_l_ways_right fun cdv Ar outer s H E hr => ?_
  refine ⟨_, _, (pss_cons (ps_if (PW.pt (pw_or (pt_not (pt_val (pe_callB (k_isi (K := K) rfl) (by rfl) T.m_isinstance (by decide +kernel) (pa_cons (pv 1) (pa_cons (k_ty (t := .tup) (by rfl) T.m_tuple (by decide +kernel)) pa_nil))))) (pw_or (pt_cmpR (k_ne (K := K) rfl hr.units) (pe_callB (k_len (K := K) rfl) (by rfl) T.m_len (by decide +kernel) (pa_cons (pv 1) pa_nil)) (pe_callB (k_len (K := K) rfl) (by rfl) T.m_len (by decide +kernel) (pa_cons (pv 0) pa_nil)) (nomark _)) (pw_or1 (pt_not (pt_val (pe_callB (k_all (K := K) rfl rfl) (by rfl) T.m_all (by decide +kernel) (pa_cons (pe_lc (own := [("_law_way_here", 5)]) rfl sc_l_ways_right.nd (k_iter (K := K) rfl (pv 1)) (blkOk_by (own := [("_law_way_here", 5)]) (N := ["_law_shape_here", "_law_ways", "_law_x", "_law_y", "_law_k", "_law_way_here", "_law_after", "_law_rows", "_law_p", "_law_q", "_law_times_so"]) (sc := defScope s_l_ways_right) (by decide +kernel)) (fun _ _ _ _ _ => (pg_name (i := 5) sc_l_ways_right.nd rfl (Or.inl rfl))) (fun _ _ _ _ _ => pts_nil) (fun _ _ _ _ _ => (pe_call (ok_l_is_way (P := P) (K := K) T) (hr.mono (by decide)) (by rfl) T.g_l_is_way T.F_l_is_way.kp T.b_l_is_way .nil pass0 (pa_cons (pv 5) pa_nil)))) pa_nil))))))))
      (pss_one (ps_ret pe_bl))
      pss_nil)
    (pss_cons (ps_asg (pe_tup (pa_cons pe_int (pa_cons pe_int pa_nil))) (k_gtup (K := K) (m := 2) rfl rfl (pgs_cons (pg_name (i := 2) sc_l_ways_right.nd rfl (.inl rfl)) (pgs_cons (pg_name (i := 3) sc_l_ways_right.nd rfl (.inl rfl)) pgs_nil))))
    (pss_cons (ps_for PassesOwn.never rfl (k_enumT (K := K) rfl (by rfl) T.m_enumerate (pa_cons (pv 1) pa_nil)) (k_gtup (K := K) (m := 2) rfl rfl (pgs_cons (pg_name (i := 4) sc_l_ways_right.nd rfl (.inl rfl)) (pgs_cons (pg_name (i := 5) sc_l_ways_right.nd rfl (.inl rfl)) pgs_nil)))
      (pss_cons (ps_set (i := 6) sc_l_ways_right.nd rfl (.inl rfl) (pe_op op_mod (pe_op (k_add (K := K) rfl) (pv 4) pe_int) (pe_callB (k_len (K := K) rfl) (by rfl) T.m_len (by decide +kernel) (pa_cons (pv 0) pa_nil))))
    (pss_cons (ps_set (i := 7) sc_l_ways_right.nd rfl (.inl rfl) (pe_call (ok_l_far (P := P) (K := K) T) (hr.mono (by decide)) (by rfl) T.g_l_far T.F_l_far.kp T.b_l_far .nil pass0 (pa_cons (pv 0) (pa_cons (pv 5) pa_nil))))
    (pss_cons (ps_if (PW.pt (pw_or (pt_cmpR k_isN (pv 7) pe_non (nomark _)) (pw_or (pt_cmpR (k_ne (K := K) rfl hr.units) (pe_ix (k_ixS (K := K) rfl) (pv 7) (pv 4) (fun _ _ => rfl)) (pe_ix (k_ixS (K := K) rfl) (pv 7) (pv 6) (fun _ _ => rfl)) (nomark _)) (pw_or (pt_cmpR (k_ne (K := K) rfl hr.units) (k_cntI (K := K) rfl (pe_bm PySem.F.plainAttrs_list PySem.F.slot_list_count PySem.F.type_list_count mt_cntI (pv 7) (pa_cons (pe_ix (k_ixS (K := K) rfl) (pv 7) (pv 4) (fun _ _ => rfl)) pa_nil))) pe_int (nomark _)) (pw_or1 (pt_cmpR (k_ne (K := K) rfl hr.units) (pe_callB (k_max1 (K := K) rfl rfl) (by rfl) T.m_max (by decide +kernel) (pa_cons (pv 7) pa_nil)) (pe_ix (k_ixS (K := K) rfl) (pv 7) (pv 4) (fun _ _ => rfl)) (nomark _)))))))
      (pss_one (ps_ret pe_bl))
      pss_nil)
    (pss_cons (ps_set (i := 8) sc_l_ways_right.nd rfl (.inl rfl) (pe_op op_sub (pe_ix (k_ix (K := K) rfl) (pe_ix (k_ixS (K := K) rfl) (pv 0) (pv 6) (fun _ _ => rfl)) pe_int (fun _ _ => rfl)) (pe_ix (k_ix (K := K) rfl) (pe_ix (k_ixS (K := K) rfl) (pv 0) (pv 4) (fun _ _ => rfl)) pe_int (fun _ _ => rfl))))
    (pss_cons (ps_set (i := 9) sc_l_ways_right.nd rfl (.inl rfl) (pe_op op_sub (pe_ix (k_ix (K := K) rfl) (pe_ix (k_ixS (K := K) rfl) (pv 0) (pv 4) (fun _ _ => rfl)) pe_int (fun _ _ => rfl)) (pe_ix (k_ix (K := K) rfl) (pe_ix (k_ixS (K := K) rfl) (pv 0) (pv 6) (fun _ _ => rfl)) pe_int (fun _ _ => rfl))))
    (pss_cons (ps_set (i := 10) sc_l_ways_right.nd rfl (.inl rfl) (pe_call (ok_l_gcd (P := P) (K := K) T) (hr.mono (by decide)) (by rfl) T.g_l_gcd T.F_l_gcd.kp T.b_l_gcd .nil pass0 (pa_cons (pv 8) (pa_cons (pv 9) pa_nil))))
    (pss_cons (ps_if (pt_cmpR (k_ne (K := K) rfl hr.units) (pe_tup (pa_cons (pe_op k_mul (pe_ix (k_ix (K := K) rfl) (pv 5) pe_int (fun _ _ => rfl)) (pv 10)) (pa_cons (pe_op k_mul (pe_ix (k_ix (K := K) rfl) (pv 5) pe_int (fun _ _ => rfl)) (pv 10)) pa_nil))) (pe_tup (pa_cons (pv 8) (pa_cons (pv 9) pa_nil))) (nomark _))
      (pss_one (ps_ret pe_bl))
      pss_nil)
    (pss_cons (ps_set (i := 2) sc_l_ways_right.nd rfl (.inl rfl) (pe_op (k_add (K := K) rfl) (pv 2) (pe_op k_mul (pe_ix (k_ix (K := K) rfl) (pv 5) pe_int (fun _ _ => rfl)) (pv 10))))
    (pss_one (ps_set (i := 3) sc_l_ways_right.nd rfl (.inl rfl) (pe_op (k_add (K := K) rfl) (pv 3) (pe_op k_mul (pe_ix (k_ix (K := K) rfl) (pv 5) pe_int (fun _ _ => rfl)) (pv 10))))))))))))))
    (pss_one (ps_ret (pe_cmpR (k_eq (K := K) rfl hr.units) (pe_tup (pa_cons (pv 2) (pa_cons (pv 3) pa_nil))) (pe_tup (pa_cons pe_int (pa_cons pe_int pa_nil))) (nomark _))))))), by infer_instance, fun ds n Q hl hA => ?_⟩
  obtain ⟨cs, rfl, hS, q⟩ := hA
  have h3 := hS.1
  have h16 := hS.2.1
  have hne : cs ≠ [] := hS.ne
  have hpl := prs_len hne
  have hwl : (waysOf cs).length = cs.length := by unfold waysOf; rw [List.length_map, hpl]
  refine aF (aNe (decide_eq_true (by rw [List.length_map, List.length_map, hwl])) ?_)
  refine ⟨by rw [List.length_map, hwl]; omega, ?_⟩
  refine aLc_ind (fun acc ds m => m = n ∧ ∃ us vs : List (Pt × Pt), prs cs = us ++ vs ∧ ds = vs.map (fun e => pt (wyE e)) ∧ acc = (us.map fun _ => true).map D.bl) ?_ ?_ ⟨rfl, [], prs cs, rfl, by unfold waysOf; rw [List.map_map]; rfl, rfl⟩
  · rintro acc d r m ⟨rfl, us, vs, e0, e', rfl⟩ ih
    cases vs with
    | nil => cases e'
    | cons v vs =>
    obtain ⟨rfl, rfl⟩ := List.cons.inj e'
    exact aT ⟨wyE v, rfl, wyE_cop hS (by rw [e0]; exact List.mem_append_right _ List.mem_cons_self), ih _ _ ⟨rfl, us ++ [v], vs, by rw [e0]; simp, rfl, by rw [List.map_append, List.map_append]; rfl⟩⟩
  rintro acc m ⟨rfl, us, vs, e0, e', rfl⟩
  refine ⟨_, rfl, aNe (show ((us.map fun _ => true).all id) = true by rw [List.all_map]; exact List.all_eq_true.mpr fun _ _ => rfl) ?_⟩
  clear e0 e' us vs
  obtain ⟨a0, r0, hcs⟩ : ∃ a r, cs = a :: r := by
    cases cs with
    | nil => exact absurd rfl hne
    | cons a r => exact ⟨a, r, rfl⟩
  have h0 : cs[0]'(by omega) = a0 := by subst hcs; rfl
  refine aFor_ind (fun ds ρ k => k = m ∧ ∃ (j : Nat) (x y : Int) (y4 y5 y6 y7 y8 y9 y10 : Option D), ρ = [some (.tup (cs.map pt)), some (.tup ((waysOf cs).map pt)), some (.int x), some (.int y), y4, y5, y6, y7, y8, y9, y10] ∧ ds = enumD j (((prs cs).drop j).map fun e => pt (wyE e)) ∧ j ≤ cs.length ∧ x = (cs[j % cs.length]'(Nat.mod_lt _ (by omega))).2 - a0.2 ∧ y = a0.1 - (cs[j % cs.length]'(Nat.mod_lt _ (by omega))).1) ?_ ?_ ⟨rfl, 0, 0, 0, none, none, none, none, none, none, none, rfl, ?_, Nat.zero_le _, ?_, ?_⟩
  · rintro d r _ k ⟨rfl, j, x, y, y4, y5, y6, y7, y8, y9, y10, rfl, e, hj, ex, ey⟩ ih
    have hlt : j < cs.length := by
      rcases Nat.lt_or_ge j cs.length with h | h
      · exact h
      · rw [List.drop_of_length_le (by omega)] at e
        cases e
    have hpg := prs_get hlt
    have hlt' : j < (prs cs).length := by omega
    rw [List.drop_eq_getElem_cons hlt', List.map_cons, enum_cons] at e
    obtain ⟨rfl, rfl⟩ := List.cons.inj e
    have epg : (prs cs)[j] = (cs[j]'hlt, cs[(j + 1) % cs.length]'(Nat.mod_lt _ (by omega))) := by
      rw [List.getElem?_eq_getElem hlt'] at hpg
      exact Option.some.inj hpg
    have hmem : (cs[j]'hlt, cs[(j + 1) % cs.length]'(Nat.mod_lt _ (by omega))) ∈ prs cs := List.mem_of_getElem? hpg
    have ej : j % cs.length = j := Nat.mod_eq_of_lt hlt
    have hl0 : (0 : Int) < ((cs.map pt).length : Int) := by rw [List.length_map]; omega
    have eaf : ((j : Int) + 1) % ((cs.map pt).length : Int) = (((j + 1) % cs.length : Nat) : Int) := by rw [List.length_map]; first | rfl | simp
    obtain ⟨af, haf⟩ : ∃ af, (j + 1) % cs.length = af := ⟨_, rfl⟩
    have hafl : af < cs.length := by rw [← haf]; exact Nat.mod_lt _ (by omega)
    have hnx : cs[(j + 1) % cs.length]'(Nat.mod_lt _ (by omega)) = cs[af]'hafl := by congr 1
    rw [hnx] at hmem epg
    rw [epg]
    have hx : x = (cs[j]'hlt).2 - a0.2 := by rw [ex]; congr 3
    have hy : y = a0.1 - (cs[j]'hlt).1 := by rw [ey]; congr 3
    have hx2 : (cs[(j + 1) % cs.length]'(Nat.mod_lt _ (by omega))) = cs[af]'hafl := hnx
    have at1 : atI (cs.map pt) (j : Int) = some (pt (cs[j]'hlt)) := atI_nat (by rw [List.getElem?_map, List.getElem?_eq_getElem hlt]; rfl)
    have at2 : atI (cs.map pt) (((j : Int) + 1) % ((cs.map pt).length : Int)) = some (pt (cs[af]'hafl)) := by
      rw [eaf, haf]
      exact atI_nat (by rw [List.getElem?_map, List.getElem?_eq_getElem hafl]; rfl)
    have c1 := hS.2.2.1 _ (List.getElem_mem hlt)
    have c2 := hS.2.2.1 _ (List.getElem_mem hafl)
    have c0 := hS.2.2.1 a0 (by rw [hcs]; exact List.mem_cons_self)
    have hw : WyS 23 (wyE (cs[j]'hlt, cs[af]'hafl)) := ways_wys hS _ (List.mem_map.mpr ⟨_, hmem, rfl⟩)
    have hcount := side_count hS hmem
    have hend := side_end hS hmem
    have hmx := mx_side hS hmem
    have hval : ∃ g : Int, g = gcdI ((cs[af]'hafl).2 - (cs[j]'hlt).2) ((cs[j]'hlt).1 - (cs[af]'hafl).1) ∧ (wyE (cs[j]'hlt, cs[af]'hafl)).1 * g = (cs[af]'hafl).2 - (cs[j]'hlt).2 ∧ (wyE (cs[j]'hlt, cs[af]'hafl)).2 * g = (cs[j]'hlt).1 - (cs[af]'hafl).1 := ⟨_, rfl, Int.ediv_mul_cancel (gcdI_dvd_l _ _), Int.ediv_mul_cancel (gcdI_dvd_r _ _)⟩
    have ra1 : ∀ v : Pt, atI (cs.map fun c => D.int (dot v c)) (j : Int) = some (.int (dot v (cs[j]'hlt))) := fun v => atI_nat (by rw [List.getElem?_map, List.getElem?_eq_getElem hlt]; rfl)
    have ra2 : ∀ v : Pt, atI (cs.map fun c => D.int (dot v c)) (((j : Int) + 1) % ((cs.map pt).length : Int)) = some (.int (dot v (cs[af]'hafl))) := fun v => by
      rw [eaf, haf]
      exact atI_nat (by rw [List.getElem?_map, List.getElem?_eq_getElem hafl]; rfl)
    have ihx := ih
    generalize hP : cs[j]'hlt = P at *
    generalize hN : cs[af]'hafl = N at *
    generalize hV : wyE (P, N) = v at *
    simp only at hcount hend hmx
    obtain ⟨g, eg, v1, v2⟩ := hval
    refine ⟨hl0, ?_⟩
    refine ⟨cs, v, rfl, hS, ⟨hw.1.le (by decide), hw.2.le (by decide)⟩, ?_⟩
    refine aF ?_
    refine aIx_lst (ra1 v) (aIx_lst (ra2 v) (aNe (decide_eq_true hend.symm) ?_))
    refine ⟨cs.map (dot v), by rw [List.map_map]; rfl, aIx_lst (ra1 v) ⟨_, rfl, ?_⟩⟩
    refine aNe (decide_eq_true (by rw [hcount]; rfl)) ?_
    refine ⟨cs.map (dot v), by rw [List.map_map]; rfl, by rw [List.length_map]; omega, fun mm h1 h2 => ?_⟩
    have hmax : IsMax v cs mm := by
      obtain ⟨c, h3, h4⟩ := List.mem_map.mp h1
      exact ⟨⟨c, h3, h4.symm⟩, fun x hx => h2 _ (List.mem_map.mpr ⟨x, hx, rfl⟩)⟩
    have e7 : mm = dot v P := by rw [← hmx]; exact hmax.uniq (mx_is hS.ne)
    refine aIx_lst (ra1 v) (aNe (decide_eq_true e7) ?_)
    refine aIx_tup at2 (aIx_tup at1 (aIx_tup at1 (aIx_tup at2 ?_)))
    refine ⟨N.2 - P.2, P.1 - N.1, rfl, ?_⟩
    rw [← eg]
    unfold PtS at c1 c2 c0
    have B : ∀ i : Int, -6000000 ≤ i → i ≤ 6000000 → Bd 23 i := fun i h1 h2 => bd_abs (n := 6000000) (by decide) h1 h2
    have bg : Bd 24 g := by
      rcases Classical.em (N.2 - P.2 = 0 ∧ P.1 - N.1 = 0) with z | z
      · rw [eg, z.1, z.2]; exact (show Bd 24 (gcdI 0 0) by unfold Bd gcdI; decide)
      · rw [eg]; exact (gcdI_bd2 (B _ (by omega) (by omega)) (B _ (by omega) (by omega)) z).le (by decide)
    refine ⟨mulA hw.1 bg (by decide) (by decide), mulA hw.2 bg (by decide) (by decide), ?_⟩
    refine ⟨⟨rfl, rfl, rfl, rfl⟩, aNe (show PyData.eqv (pt (v.1 * g, v.2 * g)).pd (pt (N.2 - P.2, P.1 - N.1)).pd = true by rw [pt_eqv]; exact decide_eq_true (Prod.ext v1 v2)) ?_⟩
    refine ⟨mulA hw.1 bg (by decide) (by decide), mulA hw.2 bg (by decide) (by decide), ?_⟩
    refine ih _ _ ⟨rfl, j + 1, _, _, _, _, _, _, _, _, _, rfl, rfl, by omega, ?_, ?_⟩
    · rw [hx2]; omega
    · rw [hx2]; omega
  · rintro _ k ⟨rfl, j, x, y, y4, y5, y6, y7, y8, y9, y10, rfl, e, hj, ex, ey⟩
    have : cs.length ≤ j := by
      rcases Nat.lt_or_ge j cs.length with h | h
      · rw [List.drop_eq_getElem_cons (by omega), List.map_cons, enum_cons] at e
        cases e
      · exact h
    have ej : j = cs.length := by omega
    subst ej
    have em : cs.length % cs.length = 0 := Nat.mod_self _
    have e1 : cs[cs.length % cs.length]'(Nat.mod_lt _ (by omega)) = a0 := by rw [← h0]; congr 1
    rw [e1, Int.sub_self] at ex ey
    subst ex ey
    refine ⟨⟨rfl, rfl, rfl, rfl⟩, ?_⟩
    show Q (.bl (PyData.eqv (pt (0, 0)).pd (pt (0, 0)).pd)) k
    rw [pt_eqv]
    exact q
  · show _ = enumD 0 ((prs cs).map fun e => pt (wyE e))
    unfold waysOf
    rw [List.map_map]
    rfl
  · rw [show cs[0 % cs.length]'(Nat.mod_lt _ (by omega)) = a0 by rw [← h0]; congr 1]; omega
  · rw [show cs[0 % cs.length]'(Nat.mod_lt _ (by omega)) = a0 by rw [← h0]; congr 1]; omega

/-! CUT -/
def Pk (k : Nat) (p : Int × Int) : Prop := Bd k p.1 ∧ Bd k p.2
def spD (p : Int × Int) (b : Int) : D := .tup [.int p.1, .int p.2, .int b]
def a_l_point : ASp := fun ds n Q => ∃ cs : List Pt, ds = [.deck, .tup (cs.map pt)] ∧ ShOk cs ∧ 20 ≤ n ∧ ∀ (p : Int × Int) (n' : Nat), Pk 40 p → n ≤ n' + 12 → Q (spD p 40) n'
theorem ok_l_point (T : Tx K mg A) : FnOk P w K mg base CX0 4 A.f_l_point A.fd_l_point ["_law_deck_here", "_law_shape_here"] (spOf K 2 a_l_point) := by
  refine fn_mir [] 11 rfl (by decide) (by decide) T.F_l_point sc_l_point fun cdv Ar outer s H E hr => ?_
  refine ⟨_, _, (pss_cons (ps_set (i := 2) sc_l_point.nd rfl (.inl rfl) (pe_callB (k_len (K := K) rfl) (by rfl) T.m_len (by decide +kernel) (pa_cons (pv 1) pa_nil)))
    (pss_cons (ps_set (i := 3) sc_l_point.nd rfl (.inl rfl) (pe_call (ok_l_take (P := P) (K := K) T) (hr.mono (by decide)) (by rfl) T.g_l_take T.F_l_take.kp T.b_l_take .nil pass0 (pa_cons (pv 0) (pa_cons (pv 2) pa_nil))))
    (pss_cons (ps_set (i := 4) sc_l_point.nd rfl (.inl rfl) (pe_op (k_add (K := K) rfl) (pe_slice (k_slW (K := K) rfl) (pv 1) (po_some (pv 3)) po_none) (pe_slice (k_slW (K := K) rfl) (pv 1) po_none (po_some (pv 3)))))
    (pss_cons (ps_par3 (i := 5) (j := 6) (l := 7) (by rfl) sc_l_point.nd rfl rfl rfl (by decide) (by decide) (by decide) rfl rfl rfl (pa_cons (pe_ix (k_ix (K := K) rfl) (pv 4) pe_int (fun _ _ => rfl)) (pa_cons (pe_ix (k_ix (K := K) rfl) (pv 4) pe_int (fun _ _ => rfl)) (pa_cons (pe_ix (k_ixS (K := K) rfl) (pv 4) (pe_op (k_add (K := K) rfl) pe_int (pe_call (ok_l_take (P := P) (K := K) T) (hr.mono (by decide)) (by rfl) T.g_l_take T.F_l_take.kp T.b_l_take .nil pass0 (pa_cons (pv 0) (pa_cons (pe_op op_sub (pv 2) pe_int) pa_nil)))) (fun _ _ => rfl)) pa_nil))) (by rfl))
    (pss_cons (ps_set (i := 8) sc_l_point.nd rfl (.inl rfl) (pe_op k_mul (pe_call (ok_l_take (P := P) (K := K) T) (hr.mono (by decide)) (by rfl) T.g_l_take T.F_l_take.kp T.b_l_take .nil pass0 (pa_cons (pv 0) (pa_cons pe_int pa_nil))) (pe_call (ok_l_take (P := P) (K := K) T) (hr.mono (by decide)) (by rfl) T.g_l_take T.F_l_take.kp T.b_l_take .nil pass0 (pa_cons (pv 0) (pa_cons pe_int pa_nil)))))
    (pss_cons (ps_set (i := 9) sc_l_point.nd rfl (.inl rfl) (pe_op op_sub (pe_op k_mul (pe_call (ok_l_take (P := P) (K := K) T) (hr.mono (by decide)) (by rfl) T.g_l_take T.F_l_take.kp T.b_l_take .nil pass0 (pa_cons (pv 0) (pa_cons pe_int pa_nil))) (pe_call (ok_l_take (P := P) (K := K) T) (hr.mono (by decide)) (by rfl) T.g_l_take T.F_l_take.kp T.b_l_take .nil pass0 (pa_cons (pv 0) (pa_cons pe_int pa_nil)))) (pe_callTy k_int (by rfl) T.m_int (by decide +kernel) (pa_cons (pe_cmpR (k_eq (K := K) rfl hr.units) (pe_call (ok_l_take (P := P) (K := K) T) (hr.mono (by decide)) (by rfl) T.g_l_take T.F_l_take.kp T.b_l_take .nil pass0 (pa_cons (pv 0) (pa_cons pe_int pa_nil))) pe_int (nomark _)) pa_nil))))
    (pss_cons (ps_set (i := 10) sc_l_point.nd rfl (.inl rfl) (pe_op op_sub (pe_op op_sub pe_int (pv 8)) (pv 9)))
    (pss_one (ps_ret (pe_tup (pa_cons (pe_op (k_add (K := K) rfl) (pe_op (k_add (K := K) rfl) (pe_op k_mul (pv 10) (pe_ix (k_ix (K := K) rfl) (pv 5) pe_int (fun _ _ => rfl))) (pe_op k_mul (pv 8) (pe_ix (k_ix (K := K) rfl) (pv 6) pe_int (fun _ _ => rfl)))) (pe_op k_mul (pv 9) (pe_ix (k_ix (K := K) rfl) (pv 7) pe_int (fun _ _ => rfl)))) (pa_cons (pe_op (k_add (K := K) rfl) (pe_op (k_add (K := K) rfl) (pe_op k_mul (pv 10) (pe_ix (k_ix (K := K) rfl) (pv 5) pe_int (fun _ _ => rfl))) (pe_op k_mul (pv 8) (pe_ix (k_ix (K := K) rfl) (pv 6) pe_int (fun _ _ => rfl)))) (pe_op k_mul (pv 9) (pe_ix (k_ix (K := K) rfl) (pv 7) pe_int (fun _ _ => rfl)))) (pa_cons pe_int pa_nil))))))))))))), by infer_instance, fun ds n Q hl hA => ?_⟩
  obtain ⟨cs, rfl, hS, hn, q⟩ := hA
  obtain ⟨h3, h16, hB, _⟩ := id hS
  have hlen : ((cs.map pt).length : Int) = cs.length := by rw [List.length_map]
  refine ⟨((cs.map pt).length : Int), rfl, by omega, small_log (by omega) (by omega), by omega, fun i li ui => ?_⟩
  obtain ⟨k, rfl⟩ := Int.eq_ofNat_of_zero_le li
  have e1 : cutL (cs.map pt) (some (k : Int)) none = (cs.drop k).map pt := by rw [cut_fr (by omega), List.map_drop]
  have e2 : cutL (cs.map pt) none (some (k : Int)) = (cs.take k).map pt := by rw [cut_to (by omega), List.map_take]
  have hrl : (cs.drop k ++ cs.take k).length = cs.length := by rw [List.length_append, List.length_drop, List.length_take]; omega
  have hrm : ∀ p ∈ cs.drop k ++ cs.take k, PtS p := fun p h => by
    rcases List.mem_append.mp h with h | h
    · exact hB p (List.mem_of_mem_drop h)
    · exact hB p (List.mem_of_mem_take h)
  refine ⟨fun z => ?_, by rw [e1, e2, List.length_map, List.length_map, ← List.length_append]; omega, ?_⟩
  · have := congrArg List.length z
    rw [e1, List.length_map, List.length_drop] at this
    simp at this
    omega
  rw [e1, e2, ← List.map_append]
  generalize cs.drop k ++ cs.take k = ring at hrl hrm
  cases ring with
  | nil => simp at hrl; omega
  | cons a ring =>
  cases ring with
  | nil => simp at hrl; omega
  | cons b rest =>
  simp only [List.length_cons] at hrl
  have at0 : atI ((a :: b :: rest).map pt) 0 = some (pt a) := atI_nat (j := 0) rfl
  have at1 : atI ((a :: b :: rest).map pt) 1 = some (pt b) := atI_nat (j := 1) rfl
  conv => whnf
  rw [at0]
  conv => whnf
  rw [at1]
  refine ⟨((cs.map pt).length : Int) - 2, rfl, by omega, small_log (by omega) (by omega), by omega, fun j lj uj => ?_⟩
  obtain ⟨v, rfl⟩ := Int.eq_ofNat_of_zero_le lj
  have hv : v < rest.length := by omega
  have hat : atI ((a :: b :: rest).map pt) (2 + (v : Int)) = some (pt rest[v]) := by
    rw [show (2 + (v : Int)) = ((v + 2 : Nat) : Int) from by omega]
    exact atI_nat (by rw [List.getElem?_map, List.getElem?_cons_succ, List.getElem?_cons_succ, List.getElem?_eq_getElem hv]; rfl)
  refine aIx_tup hat ?_
  have pa := hrm a (by simp)
  have pb := hrm b (by simp)
  have pc := hrm rest[v] (List.mem_cons_of_mem _ (List.mem_cons_of_mem _ (List.getElem_mem hv)))
  generalize rest[v] = c at pc
  unfold PtS at pa pb pc
  have s5 : ∀ i : Int, -100 ≤ i → i ≤ 100 → Bd 7 i := fun i h1 h2 => bd_abs (n := 100) (by decide) (by omega) (by omega)
  refine ⟨3, rfl, by decide, by decide, by omega, fun o1 l1 u1 => ?_⟩
  refine ⟨9, rfl, by decide, by decide, by omega, fun o2 l2 u2 => ?_⟩
  have m1 : 0 ≤ o1 * o2 ∧ o1 * o2 ≤ 16 := by
    obtain rfl | rfl | rfl : o1 = 0 ∨ o1 = 1 ∨ o1 = 2 := by omega
    all_goals omega
  refine ⟨mulA (s5 o1 (by omega) (by omega)) (s5 o2 (by omega) (by omega)) (by decide) (by decide), ?_⟩
  refine ⟨3, rfl, by decide, by decide, by omega, fun t1 l3 u3 => ?_⟩
  refine ⟨9, rfl, by decide, by decide, by omega, fun t2 l4 u4 => ?_⟩
  have m2 : 0 ≤ t1 * t2 ∧ t1 * t2 ≤ 16 := by
    obtain rfl | rfl | rfl : t1 = 0 ∨ t1 = 1 ∨ t1 = 2 := by omega
    all_goals omega
  refine ⟨mulA (s5 t1 (by omega) (by omega)) (s5 t2 (by omega) (by omega)) (by decide) (by decide), ?_⟩
  refine ⟨9, rfl, by decide, by decide, by omega, fun t3 l5 u5 => ?_⟩
  obtain ⟨z, hz, z0, z1⟩ : ∃ z : Int, (if decide (t3 = 0) = true then (1 : Int) else 0) = z ∧ 0 ≤ z ∧ z ≤ 1 := by
    refine ⟨_, rfl, ?_, ?_⟩ <;> split <;> decide
  obtain ⟨one, h1⟩ : ∃ one, o1 * o2 = one := ⟨_, rfl⟩
  obtain ⟨two, h2⟩ : ∃ two, t1 * t2 - (if decide (t3 = 0) = true then (1 : Int) else 0) = two := ⟨_, rfl⟩
  have w2 : -1 ≤ two ∧ two ≤ 16 := by omega
  rw [h1] at m1
  have B : ∀ i : Int, -3000000 ≤ i → i ≤ 3000000 → Bd 22 i := fun i h1 h2 => bd_abs (n := 3000000) (by decide) h1 h2
  have M : ∀ {i j : Int}, Bd 7 i → Bd 22 j → CMulA i j := fun h g => mulA h g (by decide) (by decide)
  have bS : ∀ r o w x y z : Int, Bd 7 r → Bd 7 o → Bd 7 w → Bd 22 x → Bd 22 y → Bd 22 z → Bd 40 (r * x + o * y + w * z) := fun r o w x y z h1 h2 h3 h4 h5 h6 => (((h1.mul h4).add (h2.mul h5)).add ((h3.mul h6).le (by decide))).le (by decide)
  have br : Bd 7 (40 - o1 * o2 - (t1 * t2 - (if decide (t3 = 0) = true then (1 : Int) else 0))) := s5 _ (by omega) (by omega)
  have bo : Bd 7 (o1 * o2) := s5 _ (by omega) (by omega)
  have bw : Bd 7 (t1 * t2 - (if decide (t3 = 0) = true then (1 : Int) else 0)) := s5 _ (by omega) (by omega)
  have a1 := B a.1 (by omega) (by omega)
  have a2 := B a.2 (by omega) (by omega)
  have b1 := B b.1 (by omega) (by omega)
  have b2 := B b.2 (by omega) (by omega)
  have c1 := B c.1 (by omega) (by omega)
  have c2 := B c.2 (by omega) (by omega)
  refine ⟨M br a1, M bo b1, M bw c1, M br a2, M bo b2, M bw c2, ?_⟩
  exact q (_, _) _ ⟨bS _ _ _ _ _ _ br bo bw a1 b1 c1, bS _ _ _ _ _ _ br bo bw a2 b2 c2⟩ (by omega)
theorem at_sum {x b : Int} (hb : b ≠ 0) (px : Rat) : Rat.divInt (x * (px.den : Int) + px.num * b) (b * (px.den : Int)) - px = Rat.divInt x b := by
  have hd : (px.den : Int) ≠ 0 := by have := den_pos px; omega
  rw [← Rat.divInt_add_divInt x px.num hb hd, Rat.num_divInt_den]
  grind
def a_l_at : ASp := fun ds n Q => ∃ (p : Int × Int) (b : Int) (px py : Rat), ds = [spD p b, spt px py] ∧ Pk 60 p ∧ Bd 60 b ∧ 0 < b ∧ BdQ 64 px ∧ BdQ 64 py ∧ ∀ sx sy : Rat, BdQ 200 sx → BdQ 200 sy → sx - px = Rat.divInt p.1 b → sy - py = Rat.divInt p.2 b → Q (spt sx sy) n
theorem ok_l_at (T : Tx K mg A) : FnOk P w K mg base CX0 3 A.f_l_at A.fd_l_at ["_law_point_here", "_law_place"] (spOf K 2 a_l_at) := by
  refine fn_mir [2] 5 rfl (by decide) (by decide) T.F_l_at sc_l_at fun cdv Ar outer s H E hr => ?_
  refine ⟨_, _, (pss_cons (k_own (ps_set (i := 2) sc_l_at.nd rfl (.inl rfl) (pe_lst pa_nil)))
    (pss_cons (ps_for PassesOwn.never rfl (k_zip (K := K) rfl (by rfl) T.m_zip (pa_cons (pe_slice (k_sl (K := K) rfl) (pv 0) po_none (po_some pe_int)) (pa_cons (pv 1) pa_nil))) (k_gtup (K := K) (m := 2) rfl rfl (pgs_cons (pg_name (i := 3) sc_l_at.nd rfl (.inl rfl)) (pgs_cons (pg_name (i := 4) sc_l_at.nd rfl (.inl rfl)) pgs_nil)))
      (pss_one (k_app (K := K) rfl (ps_expr (pe_bm PySem.F.plainAttrs_list PySem.F.slot_list_append PySem.F.type_list_append mt_append (pv 2) (pa_cons (pe_call (ok_l_share (P := P) (K := K) T) (hr.mono (by decide)) (by rfl) T.g_l_share T.F_l_share.kp T.b_l_share .nil pass0 (pa_cons (pe_op (k_add (K := K) rfl) (pe_op k_mul (pv 3) (pe_ix (k_ix (K := K) rfl) (pv 4) pe_int (fun _ _ => rfl))) (pe_op k_mul (pe_ix (k_ix (K := K) rfl) (pv 4) pe_int (fun _ _ => rfl)) (pe_ix (k_ix (K := K) rfl) (pv 0) pe_int (fun _ _ => rfl)))) (pa_cons (pe_op k_mul (pe_ix (k_ix (K := K) rfl) (pv 0) pe_int (fun _ _ => rfl)) (pe_ix (k_ix (K := K) rfl) (pv 4) pe_int (fun _ _ => rfl))) pa_nil))) pa_nil))))))
    (pss_one (ps_ret (pe_callTy (k_tuple (K := K) rfl) (by rfl) T.m_tuple (by decide +kernel) (pa_cons (pv 2) pa_nil)))))), by infer_instance, fun ds n Q hl hA => ?_⟩
  obtain ⟨⟨x, y⟩, b, px, py, rfl, ⟨hx, hy⟩, hb, b0, b1, b2, q⟩ := hA
  refine ⟨fun z => absurd z.2 (show ¬ (HT.sIx 3 3 (some 2) = 3) by decide), ?_⟩
  have st : ∀ (x : Int) (p : Rat), Bd 60 x → BdQ 64 p → CMulA x p.den ∧ CMulA p.num b ∧ CMulA b p.den ∧ 0 < b * (p.den : Int) ∧ Bd 200 (b * (p.den : Int)) ∧ Bd 200 (x * (p.den : Int) + p.num * b) := fun x p h g => ⟨mulA h g.2 (by decide) (by decide), mulA g.1 hb (by decide) (by decide), mulA hb g.2 (by decide) (by decide), Int.mul_pos b0 (den_pos p), (hb.mul g.2).le (by decide), ((h.mul g.2).add ((g.1.mul hb).le (by decide))).le (by decide)⟩
  obtain ⟨k1, k2, k3, k4, k5, k6⟩ := st x px hx b1
  obtain ⟨l1, l2, l3, l4, l5, l6⟩ := st y py hy b2
  refine ⟨k1, k2, k3, share_ok k4 k5 (by decide) ⟨by simp, ?_⟩⟩
  refine ⟨l1, l2, l3, share_ok l4 l5 (by decide) ⟨by simp, ?_⟩⟩
  exact q _ _ (divInt_bd k4 k6 k5) (divInt_bd l4 l6 l5) (at_sum (by omega) px) (at_sum (by omega) py)
/-! ### below the reach -/
def Blw (cs : List Pt) (ws : List Pt) (p : Int × Int) (b : Int) : Prop := ∀ w ∈ ws, w.1 * p.1 + w.2 * p.2 < mx w cs * b
def a_l_below : ASp := fun ds n Q => ∃ (cs ws : List Pt) (d : D) (p : Int × Int) (b : Int), ds = [.tup (cs.map pt), d, spD p b] ∧ (d = .tup (ws.map pt) ∨ d = .lst (ws.map pt)) ∧ ShOk cs ∧ (∀ w ∈ ws, WyS 8000 w) ∧ Pk 60 p ∧ Bd 60 b ∧ (Blw cs ws p b → Q (.bl true) n) ∧ (¬ Blw cs ws p b → Q (.bl false) n)
theorem ok_l_below (T : Tx K mg A) : FnOk P w K mg base CX0 2 A.f_l_below A.fd_l_below ["_law_shape_here", "_law_ways", "_law_point_here"] (spOf K 3 a_l_below) := by
  refine fn_mir [] 4 rfl (by decide) (by decide) T.F_l_below sc_l_below fun cdv Ar outer s H E hr => ?_
  refine ⟨_, _, (pss_cons (ps_for PassesOwn.never rfl (k_iter (K := K) rfl (pv 1)) (pg_name (i := 3) sc_l_below.nd rfl (.inl rfl))
      (pss_one (ps_if (pt_cmpR op_ge (pe_op (k_add (K := K) rfl) (pe_op k_mul (pe_ix (k_ix (K := K) rfl) (pv 3) pe_int (fun _ _ => rfl)) (pe_ix (k_ix (K := K) rfl) (pv 2) pe_int (fun _ _ => rfl))) (pe_op k_mul (pe_ix (k_ix (K := K) rfl) (pv 3) pe_int (fun _ _ => rfl)) (pe_ix (k_ix (K := K) rfl) (pv 2) pe_int (fun _ _ => rfl)))) (pe_op k_mul (pe_call (ok_p_reach (P := P) (K := K) T) (hr.mono (by decide)) (by rfl) T.g_p_reach T.F_p_reach.kp T.b_p_reach .nil pass0 (pa_cons (pv 0) (pa_cons (pv 3) pa_nil))) (pe_ix (k_ix (K := K) rfl) (pv 2) pe_int (fun _ _ => rfl))) (nomark _))
      (pss_one (ps_ret pe_bl))
      pss_nil)))
    (pss_one (ps_ret pe_bl))), by infer_instance, fun ds n Q hl hA => ?_⟩
  obtain ⟨cs, ws, d, ⟨x, y⟩, b, rfl, hd, hS, hw, ⟨hx, hy⟩, hb, q1, q2⟩ := hA
  rcases hd with rfl | rfl <;>
  (refine aFor_ind (fun ds ρ k => k = n ∧ ∃ (us vs : List Pt) (y1 y3 : Option D), ρ = [some (.tup (cs.map pt)), y1, some (spD (x, y) b), y3] ∧ ws = us ++ vs ∧ ds = vs.map pt ∧ Blw cs us (x, y) b) ?_ ?_ ⟨rfl, [], ws, _, none, rfl, rfl, rfl, fun w hw => by cases hw⟩
   · rintro c r _ k ⟨rfl, us, vs, y1, y3, rfl, e0, e, hu⟩ ih
     cases vs with
     | nil => cases e
     | cons v vs =>
     obtain ⟨rfl, rfl⟩ := List.cons.inj e
     have hv := hw v (by rw [e0]; exact List.mem_append_right _ List.mem_cons_self)
     refine ⟨mulA hv.1 hx (by decide) (by decide), mulA hv.2 hy (by decide) (by decide), cs, v, rfl, hS, hv, mulA ((mx_bd hv hS).le (show _ ≤ 8100 by decide)) hb (by decide) (by decide), ?_⟩
     refine dIte (fun z => ?_) fun z => ?_
     · refine q2 fun h => ?_
       have := h v (by rw [e0]; exact List.mem_append_right _ List.mem_cons_self)
       simp only at this
       have z' : mx v cs * b ≤ v.1 * x + v.2 * y := z
       omega
     · refine ih _ _ ⟨rfl, us ++ [v], vs, y1, some (pt v), rfl, by rw [e0]; simp, rfl, fun w hw' => ?_⟩
       rcases List.mem_append.mp hw' with h | h
       · exact hu w h
       · rw [List.mem_singleton.mp h]
         have z' : ¬ mx v cs * b ≤ v.1 * x + v.2 * y := z
         simp only
         omega
   · rintro _ k ⟨rfl, us, vs, y1, y3, rfl, e0, e, hu⟩
     cases vs with
     | cons v vs => cases e
     | nil =>
     rw [List.append_nil] at e0
     subst e0
     exact q1 hu)
theorem divInt_mul_self {x b : Int} (hb : b ≠ 0) : Rat.divInt x b * (b : Rat) = (x : Rat) := by
  rw [Rat.divInt_eq_div]
  have : (b : Rat) ≠ 0 := by
    intro z
    exact hb (by exact_mod_cast z)
  grind
theorem lt_scale {a b c : Rat} (hc : 0 < c) : a < b ↔ a * c < b * c := by
  constructor
  · intro h
    exact Rat.mul_lt_mul_of_pos_right h hc
  · intro h
    exact Rat.lt_of_mul_lt_mul_right h (Rat.le_of_lt hc)
theorem win_blw {cs : List Pt} (h : ShOk cs) {p : Int × Int} {b : Int} (b0 : 0 < b) : WIn cs (Rat.divInt p.1 b) (Rat.divInt p.2 b) ↔ Blw cs (waysOf cs) p b := by
  have one : ∀ e ∈ prs cs, (((wyE e).1 : Rat) * Rat.divInt p.1 b + ((wyE e).2 : Rat) * Rat.divInt p.2 b < ((dot (wyE e) e.1 : Int) : Rat)) ↔ (wyE e).1 * p.1 + (wyE e).2 * p.2 < mx (wyE e) cs * b := fun e he => by
    have hX := divInt_mul_self (x := p.1) (b := b) (by omega)
    have hY := divInt_mul_self (x := p.2) (b := b) (by omega)
    have hc : (0 : Rat) < (b : Rat) := by exact_mod_cast b0
    rw [mx_side h he, lt_scale hc, Rat.add_mul, Rat.mul_assoc, Rat.mul_assoc, hX, hY, ← Rat.intCast_mul, ← Rat.intCast_mul, ← Rat.intCast_mul, ← Rat.intCast_add, Rat.intCast_lt_intCast]
  constructor
  · intro w v hv
    obtain ⟨e, he, rfl⟩ := List.mem_map.mp hv
    exact (one e he).mp (w e he)
  · intro w e he
    exact (one e he).mpr (w _ (List.mem_map.mpr ⟨e, he, rfl⟩))
/-- within along the sides' ways: within along any way -/
theorem blw_any {cs : List Pt} (h : ShOk cs) {p : Int × Int} {b : Int} (hb : Blw cs (waysOf cs) p b) {u : Pt} (hu : ¬ (u.1 = 0 ∧ u.2 = 0)) : u.1 * p.1 + u.2 * p.2 < mx u cs * b := by
  have huq : (u.1 : Rat) ≠ 0 ∨ (u.2 : Rat) ≠ 0 := by
    rcases Classical.em (u.1 = 0) with z | z
    · exact .inr fun z2 => hu ⟨z, Rat.intCast_inj.mp (show _ = ((0 : Int) : Rat) from z2)⟩
    · exact .inl fun z2 => z (Rat.intCast_inj.mp (show _ = ((0 : Int) : Rat) from z2))
  obtain ⟨a, ha, w1, hw1, w2, hw2, am, a1, a2, a3, aw1, aw2⟩ := vertex h (u.1 : Rat) (u.2 : Rat)
  have val : ∀ w : Pt, w ∈ waysOf cs → (∀ b ∈ cs, dq w.1 w.2 b ≤ dq w.1 w.2 a) → (w.1 : Rat) * (p.1 : Rat) + (w.2 : Rat) * (p.2 : Rat) < dq w.1 w.2 a * (b : Rat) := fun w hw hm => by
    rw [← mx_of h.ne ha hm, ← Rat.intCast_mul, ← Rat.intCast_mul, ← Rat.intCast_mul, ← Rat.intCast_add, Rat.intCast_lt_intCast]
    exact hb w hw
  have v1 := val w1 hw1 aw1
  have v2 := val w2 hw2 aw2
  have goal : (u.1 : Rat) * (p.1 : Rat) + (u.2 : Rat) * (p.2 : Rat) < dq u.1 u.2 a * (b : Rat) := by
    generalize (u.1 : Rat) = ux at *
    generalize (u.2 : Rat) = uy at *
    generalize (w1.1 : Rat) = x1 at *
    generalize (w1.2 : Rat) = y1 at *
    generalize (w2.1 : Rat) = x2 at *
    generalize (w2.2 : Rat) = y2 at *
    generalize (p.1 : Rat) = X at *
    generalize (p.2 : Rat) = Y at *
    generalize (b : Rat) = B at *
    have e : cr x1 y1 x2 y2 * (dq ux uy a * B - (ux * X + uy * Y)) = cr ux uy x2 y2 * (dq x1 y1 a * B - (x1 * X + y1 * Y)) + cr x1 y1 ux uy * (dq x2 y2 a * B - (x2 * X + y2 * Y)) := by
      unfold cr dq
      grind
    have k1 := Rat.mul_nonneg a2 (show 0 ≤ dq x1 y1 a * B - (x1 * X + y1 * Y) by grind)
    have k2 := Rat.mul_nonneg a1 (show 0 ≤ dq x2 y2 a * B - (x2 * X + y2 * Y) by grind)
    have pos : 0 < cr ux uy x2 y2 * (dq x1 y1 a * B - (x1 * X + y1 * Y)) + cr x1 y1 ux uy * (dq x2 y2 a * B - (x2 * X + y2 * Y)) := by
      rcases Classical.em (cr ux uy x2 y2 = 0) with z1 | z1
      · rcases Classical.em (cr x1 y1 ux uy = 0) with z2 | z2
        · exfalso
          have f1 : cr x1 y1 x2 y2 * ux = cr ux uy x2 y2 * x1 + cr x1 y1 ux uy * x2 := by unfold cr; grind
          have f2 : cr x1 y1 x2 y2 * uy = cr ux uy x2 y2 * y1 + cr x1 y1 ux uy * y2 := by unfold cr; grind
          rw [z1, z2, Rat.zero_mul, Rat.zero_mul, Rat.add_zero] at f1 f2
          have nz : cr x1 y1 x2 y2 ≠ 0 := fun z => by rw [z] at a3; exact Rat.lt_irrefl a3
          rcases huq with g | g
          · rcases Rat.mul_eq_zero.mp f1 with z | z
            · exact nz z
            · exact g z
          · rcases Rat.mul_eq_zero.mp f2 with z | z
            · exact nz z
            · exact g z
        · have := Rat.mul_pos (Rat.lt_of_le_of_ne a1 fun z => z2 z.symm) (show 0 < dq x2 y2 a * B - (x2 * X + y2 * Y) by grind)
          grind
      · have := Rat.mul_pos (Rat.lt_of_le_of_ne a2 fun z => z1 z.symm) (show 0 < dq x1 y1 a * B - (x1 * X + y1 * Y) by grind)
        grind
    have := (rat_pos_iff a3).mp (by rw [e]; exact pos)
    grind
  rw [← mx_of h.ne ha am, ← Rat.intCast_mul, ← Rat.intCast_mul, ← Rat.intCast_mul, ← Rat.intCast_add, Rat.intCast_lt_intCast] at goal
  exact goal
theorem blw_mid {cs ws : List Pt} {p q : Int × Int} (h1 : Blw cs ws p 40) (h2 : Blw cs ws q 40) : Blw cs ws (p.1 + q.1, p.2 + q.2) 80 := fun w hw => by
  have a1 := h1 w hw
  have a2 := h2 w hw
  simp only
  rw [Int.mul_add, Int.mul_add]
  omega
/-! CUT -/
theorem pt_shapedT (ws : List Pt) : SeqAt.shaped (.tuple (pdAll (ws.map pt))) = true := by
  obtain ⟨h1, h2⟩ := pt_lay ws
  unfold SeqAt.shaped
  refine Bool.and_eq_true_iff.mpr ⟨h1, decide_eq_true ?_⟩
  show PyData.depthAll (pdAll (ws.map pt)) + 1 ≤ 64
  omega
theorem pts_eqvT (ws : List Pt) : PyData.eqv (D.tup (ws.map pt)).pd (D.tup (ws.map pt)).pd = true := SeqAt.eqv_refl _ (pt_lay ws).1
theorem cutL_mem {xs : List D} {l u : Option Int} {d : D} (h : d ∈ cutL xs l u) : d ∈ xs := List.mem_of_mem_drop (List.mem_of_mem_take h)
theorem zip_mem {as bs : List D} {d : D} (h : d ∈ zipD as bs) : ∃ a ∈ as, ∃ b ∈ bs, d = .tup [a, b] := by
  obtain ⟨i, hi⟩ := List.mem_iff_getElem?.mp h
  obtain ⟨a, b, h1, h2, rfl⟩ := zipD_get hi
  exact ⟨a, List.mem_of_getElem? h1, b, List.mem_of_getElem? h2, rfl⟩
def a_l_spots_right : ASp := fun ds n Q => ∃ (cs : List Pt) (px py : Rat) (m : Int), ds = [.deck, .tup (cs.map pt), spt px py, .tup ((waysOf cs).map pt), .int m] ∧ ShOk cs ∧ BdQ 64 px ∧ BdQ 64 py ∧ 0 ≤ m ∧ m ≤ 8 ∧ 250 ≤ n ∧ ∀ n', n ≤ n' + 120 → Q (.bl true) n'
theorem ok_l_spots_right (T : Tx K mg A) : FnOk P w K mg base CX0 8 A.f_l_spots_right A.fd_l_spots_right ["_law_deck_here", "_law_shape_here", "_law_place", "_law_ways", "_law_many"] (spOf K 5 a_l_spots_right) := by
  refine fn_mir [] 12 rfl (by decide) (by decide) T.F_l_spots_right sc_l_spots_right fun cdv Ar outer s H E hr => ?_
  refine ⟨_, _, (pss_cons (ps_set (i := 5) sc_l_spots_right.nd rfl (.inl rfl) (pe_call (ok_l_way (P := P) (K := K) T) (hr.mono (by decide)) (by rfl) T.g_l_way T.F_l_way.kp T.b_l_way .nil pass0 (pa_cons (pv 0) pa_nil)))
    (pss_cons (ps_if (pt_cmpR k_isN (pe_call (ok_l_far (P := P) (K := K) T) (hr.mono (by decide)) (by rfl) T.g_l_far T.F_l_far.kp T.b_l_far .nil pass0 (pa_cons (pv 1) (pa_cons (pv 5) pa_nil))) pe_non (nomark _))
      (pss_one (ps_ret pe_bl))
      pss_nil)
    (pss_cons (ps_set (i := 6) sc_l_spots_right.nd rfl (.inl rfl) (pe_lst pa_nil))
    (pss_cons (ps_for PassesOwn.never rfl (pi_range1 (by rfl) T.m_range (pa_cons (pv 4) pa_nil)) (pg_name (i := 7) sc_l_spots_right.nd rfl (.inl rfl))
      (pss_cons (ps_set (i := 8) sc_l_spots_right.nd rfl (.inl rfl) (pe_call (ok_l_point (P := P) (K := K) T) (hr.mono (by decide)) (by rfl) T.g_l_point T.F_l_point.kp T.b_l_point .nil pass0 (pa_cons (pv 0) (pa_cons (pv 1) pa_nil))))
    (pss_cons (ps_set (i := 9) sc_l_spots_right.nd rfl (.inl rfl) (pe_call (ok_p_within (P := P) (K := K) T) (hr.mono (by decide)) (by rfl) T.g_p_within T.F_p_within.kp T.b_p_within .nil pass0 (pa_cons (pv 1) (pa_cons (pv 2) (pa_cons (pe_call (ok_l_at (P := P) (K := K) T) (hr.mono (by decide)) (by rfl) T.g_l_at T.F_l_at.kp T.b_l_at .nil pass0 (pa_cons (pv 8) (pa_cons (pv 2) pa_nil))) pa_nil)))))
    (pss_cons (ps_if (PW.pt (pw_or (pt_not (pt_val (pe_callB (k_isi (K := K) rfl) (by rfl) T.m_isinstance (by decide +kernel) (pa_cons (pv 9) (pa_cons (k_ty (t := .bl) (by rfl) T.m_bool (by decide +kernel)) pa_nil))))) (pw_or1 (pt_cmpR (k_ne (K := K) rfl hr.units) (pv 9) (pe_call (ok_l_below (P := P) (K := K) T) (hr.mono (by decide)) (by rfl) T.g_l_below T.F_l_below.kp T.b_l_below .nil pass0 (pa_cons (pv 1) (pa_cons (pv 3) (pa_cons (pv 8) pa_nil)))) (nomark _)))))
      (pss_one (ps_ret pe_bl))
      pss_nil)
    (pss_cons (ps_if (PW.pt (pw_and (pt_val (pv 9)) (pw_and1 (pt_not (pt_val (pe_call (ok_l_below (P := P) (K := K) T) (hr.mono (by decide)) (by rfl) T.g_l_below T.F_l_below.kp T.b_l_below .nil pass0 (pa_cons (pv 1) (pa_cons (pe_lst (pa_cons (pv 5) pa_nil)) (pa_cons (pv 8) pa_nil)))))))))
      (pss_one (ps_ret pe_bl))
      pss_nil)
    (pss_one (ps_set (i := 6) sc_l_spots_right.nd rfl (.inl rfl) (pe_op (k_add (K := K) rfl) (pv 6) (pe_op op_rep (pe_lst (pa_cons (pv 8) pa_nil)) (pe_callTy k_int (by rfl) T.m_int (by decide +kernel) (pa_cons (pv 9) pa_nil)))))))))))
    (pss_cons (ps_for PassesOwn.never rfl (k_zip (K := K) rfl (by rfl) T.m_zip (pa_cons (pv 6) (pa_cons (pe_slice (k_sl (K := K) rfl) (pv 6) (po_some pe_int) po_none) pa_nil))) (k_gtup (K := K) (m := 2) rfl rfl (pgs_cons (pg_name (i := 10) sc_l_spots_right.nd rfl (.inl rfl)) (pgs_cons (pg_name (i := 11) sc_l_spots_right.nd rfl (.inl rfl)) pgs_nil)))
      (pss_cons (ps_set (i := 8) sc_l_spots_right.nd rfl (.inl rfl) (pe_tup (pa_cons (pe_op (k_add (K := K) rfl) (pe_ix (k_ix (K := K) rfl) (pv 10) pe_int (fun _ _ => rfl)) (pe_ix (k_ix (K := K) rfl) (pv 11) pe_int (fun _ _ => rfl))) (pa_cons (pe_op (k_add (K := K) rfl) (pe_ix (k_ix (K := K) rfl) (pv 10) pe_int (fun _ _ => rfl)) (pe_ix (k_ix (K := K) rfl) (pv 11) pe_int (fun _ _ => rfl))) (pa_cons pe_int pa_nil)))))
    (pss_one (ps_if (pt_cmpR k_notB (pe_call (ok_p_within (P := P) (K := K) T) (hr.mono (by decide)) (by rfl) T.g_p_within T.F_p_within.kp T.b_p_within .nil pass0 (pa_cons (pv 1) (pa_cons (pv 2) (pa_cons (pe_call (ok_l_at (P := P) (K := K) T) (hr.mono (by decide)) (by rfl) T.g_l_at T.F_l_at.kp T.b_l_at .nil pass0 (pa_cons (pv 8) (pa_cons (pv 2) pa_nil))) pa_nil)))) pe_bl (nomark _))
      (pss_one (ps_ret pe_bl))
      pss_nil))))
    (pss_one (ps_ret pe_bl))))))), by infer_instance, fun ds n Q hl hA => ?_⟩
  obtain ⟨cs, px, py, m, rfl, hS, b1, b2, m0, m8, hn, q⟩ := hA
  have hww : ∀ w ∈ waysOf cs, WyS 8000 w := fun w hw => ⟨(ways_wys hS w hw).1.le (by decide), (ways_wys hS w hw).2.le (by decide)⟩
  have b1' : BdQ 200 px := b1.le (by decide)
  have b2' : BdQ 200 py := b2.le (by decide)
  refine ⟨rfl, by omega, fun w n1 hw w0 h1 => ?_⟩
  refine ⟨cs, w, rfl, hS, hw, ?_⟩
  refine aF ?_
  refine ⟨⟨by omega, by omega⟩, ?_⟩
  refine aFor_ind (fun ds ρ k => ∃ (ps : List (Int × Int)) (y7 y8 y9 y10 y11 : Option D), ρ = [some .deck, some (.tup (cs.map pt)), some (spt px py), some (.tup ((waysOf cs).map pt)), some (.int m), some (pt w), some (.lst (ps.map fun p => spD p 40)), y7, y8, y9, y10, y11] ∧ ps.length + ds.length ≤ 8 ∧ n1 + 12 * ds.length ≤ k + 96 ∧ ∀ p ∈ ps, Pk 40 p ∧ Blw cs (waysOf cs) p 40) ?_ ?_ ⟨[], none, none, none, none, none, rfl, by rw [rangeD_length]; simp; omega, by rw [rangeD_length]; omega, fun p hp => by cases hp⟩
  · rintro d r _ k ⟨ps, y7, y8, y9, y10, y11, rfl, hl, hk, hps⟩ ih
    rw [List.length_cons] at hl hk
    refine ⟨cs, rfl, hS, by omega, fun p k2 hp hk2 => ?_⟩
    have p60 : Pk 60 p := ⟨hp.1.le (by decide), hp.2.le (by decide)⟩
    have b40 : Bd 60 (40 : Int) := bd_abs (n := 40) (by decide) (by decide) (by decide)
    refine ⟨p, 40, px, py, rfl, p60, b40, by decide, b1, b2, fun sx sy c1 c2 e1 e2 => ?_⟩
    refine ⟨cs, px, py, sx, sy, rfl, hS, b1', b2', c1, c2, fun h => ?_, fun h => ?_⟩
    · rw [e1, e2, win_blw hS (by decide)] at h
      refine aF ?_
      refine ⟨cs, waysOf cs, _, p, 40, rfl, .inl rfl, hS, hww, p60, b40, fun _ => aNe (decide_eq_true rfl) ?_, fun z => absurd h z⟩
      refine aT ?_
      have hu := blw_any hS h w0
      refine ⟨cs, [w], _, p, 40, rfl, .inr rfl, hS, fun v hv => by rw [List.mem_singleton.mp hv]; exact hw, p60, b40, fun _ => aF ?_, fun z => absurd (fun v hv => by rw [List.mem_singleton.mp hv]; exact hu) z⟩
      refine ⟨⟨by decide, by decide, (show (1 : Nat) ≤ 1000 by decide)⟩, by rw [List.length_map]; show ps.length + 1 ≤ 1000000; omega, ?_⟩
      refine ih _ _ ⟨ps ++ [p], _, _, _, _, _, by rw [List.map_append]; rfl, by rw [List.length_append]; simp; omega, by omega, fun x hx => ?_⟩
      rcases List.mem_append.mp hx with hx | hx
      · exact hps x hx
      · rw [List.mem_singleton.mp hx]
        exact ⟨hp, h⟩
    · rw [e1, e2, win_blw hS (by decide)] at h
      refine aF ?_
      refine ⟨cs, waysOf cs, _, p, 40, rfl, .inl rfl, hS, hww, p60, b40, fun z => absurd z h, fun _ => aNe (decide_eq_true rfl) ?_⟩
      refine aF (aF ?_)
      refine ⟨⟨by decide, by decide, (show (1 : Nat) ≤ 1000 by decide)⟩, by rw [List.length_map]; show ps.length + 0 ≤ 1000000; omega, ?_⟩
      exact ih _ _ ⟨ps, _, _, _, _, _, by rw [show (List.replicate (Int.toNat (if false = true then (1 : Int) else 0)) [spD p 40]).flatten = [] from rfl, List.append_nil]; rfl, by omega, by omega, hps⟩
  · rintro _ k ⟨ps, y7, y8, y9, y10, y11, rfl, hl, hk, hps⟩
    refine aFor_ind (fun ds ρ j => j = k ∧ ∃ (y6 y7 y8 y9 y10 y11 : Option D), ρ = [some .deck, some (.tup (cs.map pt)), some (spt px py), some (.tup ((waysOf cs).map pt)), some (.int m), some (pt w), y6, y7, y8, y9, y10, y11] ∧ ∀ d ∈ ds, ∃ p1 p2 : Int × Int, d = .tup [spD p1 40, spD p2 40] ∧ (Pk 40 p1 ∧ Blw cs (waysOf cs) p1 40) ∧ (Pk 40 p2 ∧ Blw cs (waysOf cs) p2 40)) ?_ ?_ ⟨rfl, _, _, _, _, _, _, rfl, fun d hd => ?_⟩
    · rintro d r _ j ⟨rfl, y6, y7, y8, y9, y10, y11, rfl, hds⟩ ih
      obtain ⟨p1, p2, rfl, ⟨g1, h1'⟩, g2, h2'⟩ := hds d List.mem_cons_self
      have b80 : Bd 60 (80 : Int) := bd_abs (n := 80) (by decide) (by decide) (by decide)
      have hB := blw_mid h1' h2'
      have p60 : Pk 60 (p1.1 + p2.1, p1.2 + p2.2) := ⟨(g1.1.add g2.1).le (by decide), (g1.2.add g2.2).le (by decide)⟩
      refine ⟨(p1.1 + p2.1, p1.2 + p2.2), 80, px, py, rfl, p60, b80, by decide, b1, b2, fun sx sy c1 c2 e1 e2 => ?_⟩
      refine ⟨cs, px, py, sx, sy, rfl, hS, b1', b2', c1, c2, fun _ => aNe (decide_eq_true rfl) ?_, fun h => ?_⟩
      · exact ih _ _ ⟨rfl, _, _, _, _, _, _, rfl, fun d hd => hds d (List.mem_cons_of_mem _ hd)⟩
      · rw [e1, e2] at h
        exact absurd ((win_blw hS (by decide)).mpr hB) h
    · rintro _ j ⟨rfl, y6, y7, y8, y9, y10, y11, rfl, hds⟩
      rw [List.length_nil] at hk
      exact q _ (by omega)
    · obtain ⟨a, ha, b, hb, rfl⟩ := zip_mem hd
      obtain ⟨p1, hp1, rfl⟩ := List.mem_map.mp ha
      obtain ⟨p2, hp2, rfl⟩ := List.mem_map.mp (cutL_mem hb)
      exact ⟨p1, p2, rfl, hps p1 hp1, hps p2 hp2⟩
/-! CUT -/
theorem rot_back {cs : List Pt} (h : ShOk cs) (hf : Fst cs) {k : Nat} (hk : k < cs.length) {j : Nat} {v : Pt} (hj : (cs.drop k ++ cs.take k)[j]? = some v) (hm : ∀ p ∈ cs.drop k ++ cs.take k, ¬ (p.1 < v.1 ∨ p.1 = v.1 ∧ p.2 < v.2)) : (cs.drop k ++ cs.take k).drop j ++ (cs.drop k ++ cs.take k).take j = cs := by
  obtain ⟨a, l, rfl, ha⟩ := hf
  have hp := rot_perm (l := a :: l) k
  have hv : v ∈ a :: l := hp.mem_iff.mp (List.mem_of_getElem? hj)
  have h1 := ha v hv
  have h2 := hm a (hp.mem_iff.mpr List.mem_cons_self)
  have ev : v = a := by
    unfold lexLe at h1
    exact Prod.ext (by omega) (by omega)
  subst ev
  have nd : ((v :: l).drop k ++ (v :: l).take k).Nodup := hp.nodup_iff.mpr (corners_nodup h)
  have hlen : ((v :: l).drop k ++ (v :: l).take k).length = (v :: l).length := hp.length_eq
  have jl := (List.getElem?_eq_some_iff.mp hj).1
  rcases Nat.eq_zero_or_pos k with z | z
  · subst z
    rw [List.drop_zero, List.take_zero, List.append_nil] at *
    have : j = 0 := (List.getElem?_inj jl nd).mp (hj.trans (by rfl))
    subst this
    rw [List.drop_zero, List.take_zero, List.append_nil]
  · have hd : ((v :: l).drop k).length = (v :: l).length - k := List.length_drop
    have e0 : ((v :: l).drop k ++ (v :: l).take k)[(v :: l).length - k]? = some v := by
      rw [List.getElem?_append_right (by omega), hd, Nat.sub_self, List.getElem?_take_of_lt (by omega)]
      rfl
    have : j = (v :: l).length - k := (List.getElem?_inj jl nd).mp (hj.trans e0.symm)
    rw [this, ← hd, List.drop_left, List.take_left, List.take_append_drop]
theorem ok_law (T : Tx K mg A) : FnOk P w K mg base CX0 9 A.f_law A.fd_law ["_law_script"] (sp_law K) := by
  refine law_mirS [4] 10 1 rfl (by decide) (by decide) (by decide) T.F_law sc_law fun cdv Ar outer s H E hr => ?_
  refine ⟨_, _, (pss_cons (ps_set (i := 1) sc_law.nd rfl (.inl rfl) (pe_call (ok_l_deck (P := P) (K := K) T) (hr.mono (by decide)) (by rfl) T.g_l_deck T.F_l_deck.kp T.b_l_deck .nil pass0 (pa_cons (pv 0) pa_nil)))
    (pss_cons (ps_for PassesOwn.never rfl (pi_range1 (by rfl) T.m_range (pa_cons pe_int pa_nil)) (pg_name (i := 2) sc_law.nd rfl (.inl rfl))
      (pss_cons (ps_set (i := 3) sc_law.nd rfl (.inl rfl) (pe_call (ok_l_shape (P := P) (K := K) T) (hr.mono (by decide)) (by rfl) T.g_l_shape T.F_l_shape.kp T.b_l_shape .nil pass0 (pa_cons (pv 1) pa_nil)))
    (pss_cons (k_own (ps_set (i := 4) sc_law.nd rfl (.inl rfl) (pe_lst pa_nil)))
    (pss_cons (ps_for PassesOwn.never rfl (pi_range1 (by rfl) T.m_range (pa_cons pe_int pa_nil)) (pg_name (i := 5) sc_law.nd rfl (.inl rfl))
      (pss_one (k_app (K := K) rfl (ps_expr (pe_bm PySem.F.plainAttrs_list PySem.F.slot_list_append PySem.F.type_list_append mt_append (pv 4) (pa_cons (pe_call (ok_l_share (P := P) (K := K) T) (hr.mono (by decide)) (by rfl) T.g_l_share T.F_l_share.kp T.b_l_share .nil pass0 (pa_cons (pe_op op_sub (pe_call (ok_l_take (P := P) (K := K) T) (hr.mono (by decide)) (by rfl) T.g_l_take T.F_l_take.kp T.b_l_take .nil pass0 (pa_cons (pv 1) (pa_cons pe_int pa_nil))) pe_int) (pa_cons (pe_op (k_add (K := K) rfl) pe_int (pe_call (ok_l_take (P := P) (K := K) T) (hr.mono (by decide)) (by rfl) T.g_l_take T.F_l_take.kp T.b_l_take .nil pass0 (pa_cons (pv 1) (pa_cons pe_int pa_nil)))) pa_nil))) pa_nil))))))
    (pss_cons (ps_set (i := 6) sc_law.nd rfl (.inl rfl) (pe_call (ok_l_take (P := P) (K := K) T) (hr.mono (by decide)) (by rfl) T.g_l_take T.F_l_take.kp T.b_l_take .nil pass0 (pa_cons (pv 1) (pa_cons (pe_callB (k_len (K := K) rfl) (by rfl) T.m_len (by decide +kernel) (pa_cons (pv 3) pa_nil)) pa_nil))))
    (pss_cons (ps_set (i := 7) sc_law.nd rfl (.inl rfl) (pe_call (ok_p_look_shape (P := P) (K := K) T) (hr.mono (by decide)) (by rfl) T.g_p_look_shape T.F_p_look_shape.kp T.b_p_look_shape .nil pass0 (pa_cons (pe_callTy (k_list (K := K) rfl) (by rfl) T.m_list (by decide +kernel) (pa_cons (pe_op (k_add (K := K) rfl) (pe_slice (k_slW (K := K) rfl) (pv 3) (po_some (pv 6)) po_none) (pe_slice (k_slW (K := K) rfl) (pv 3) po_none (po_some (pv 6)))) pa_nil)) pa_nil)))
    (pss_cons (ps_if (PW.pt (pw_or (pt_not (pt_val (pe_callB (k_isi (K := K) rfl) (by rfl) T.m_isinstance (by decide +kernel) (pa_cons (pv 7) (pa_cons (k_ty (t := .tup) (by rfl) T.m_tuple (by decide +kernel)) pa_nil))))) (pw_or1 (pt_cmpR (k_ne (K := K) rfl hr.units) (pv 7) (pv 3) (nomark _)))))
      (pss_one (ps_ret pe_bl))
      pss_nil)
    (pss_cons (ps_set (i := 8) sc_law.nd rfl (.inl rfl) (pe_call (ok_p_sides (P := P) (K := K) T) (hr.mono (by decide)) (by rfl) T.g_p_sides T.F_p_sides.kp T.b_p_sides .nil pass0 (pa_cons (pv 7) pa_nil)))
    (pss_cons (ps_if (pt_not (pt_val (pe_call (ok_l_ways_right (P := P) (K := K) T) (hr.mono (by decide)) (by rfl) T.g_l_ways_right T.F_l_ways_right.kp T.b_l_ways_right .nil pass0 (pa_cons (pv 3) (pa_cons (pv 8) pa_nil)))))
      (pss_one (ps_ret pe_bl))
      pss_nil)
    (pss_cons (ps_set (i := 9) sc_law.nd rfl (.inl rfl) (pe_callB (k_max2 rfl) (by rfl) T.m_max (by decide +kernel) (pa_cons pe_int (pa_cons (pe_callB (k_min2 rfl) (by rfl) T.m_min (by decide +kernel) (pa_cons pe_int (pa_cons (pe_callB (k_len (K := K) rfl) (by rfl) T.m_len (by decide +kernel) (pa_cons (pv 0) pa_nil)) pa_nil))) pa_nil))))
    (pss_one (ps_if (pt_not (pt_val (pe_call (ok_l_spots_right (P := P) (K := K) T) (hr.mono (by decide)) (by rfl) T.g_l_spots_right T.F_l_spots_right.kp T.b_l_spots_right .nil pass0 (pa_cons (pv 1) (pa_cons (pv 3) (pa_cons (pe_callTy (k_tuple (K := K) rfl) (by rfl) T.m_tuple (by decide +kernel) (pa_cons (pv 4) pa_nil)) (pa_cons (pv 8) (pa_cons (pv 9) pa_nil))))))))
      (pss_one (ps_ret pe_bl))
      pss_nil))))))))))))
    (pss_one (ps_ret pe_bl)))), by infer_instance, ?_⟩
  intro ns hns
  refine ⟨⟨by decide, by decide⟩, ?_⟩
  refine aFor_ind (fun ds ρ m => ∃ (y2 y3 y4 y5 y6 y7 y8 y9 : Option D), ρ = [some (.scr ns), some .deck, y2, y3, y4, y5, y6, y7, y8, y9] ∧ 400 * ds.length ≤ m) ?_ ?_ ⟨none, none, none, none, none, none, none, none, rfl, by rw [rangeD_length]; decide⟩
  · rintro d r _ m ⟨y2, y3, y4, y5, y6, y7, y8, y9, rfl, hm⟩ ih
    rw [List.length_cons] at hm
    refine ⟨rfl, by omega, fun cs n1 hS hF h8 hR h1 => ?_⟩
    refine ⟨⟨by decide, by decide⟩, ?_⟩
    refine aFor_ind (fun ds ρ j => ∃ (qs : List Rat) (y2 y5 y6 y7 y8 y9 : Option D), ρ = [some (.scr ns), some .deck, y2, some (.tup (cs.map pt)), some (.lst (qs.map sh)), y5, y6, y7, y8, y9] ∧ qs.length + ds.length = 2 ∧ n1 + 2 * ds.length ≤ j + 4 ∧ ∀ x ∈ qs, BdQ 64 x) ?_ ?_ ⟨[], _, _, _, _, _, _, rfl, by rw [rangeD_length]; rfl, by rw [rangeD_length]; simp, fun x hx => by cases hx⟩
    · rintro d2 r2 _ j ⟨qs, y2, y5, y6, y7, y8, y9, rfl, hl, hj, hqs⟩ ih2
      rw [List.length_cons] at hl hj
      refine ⟨20001, rfl, by decide, by decide, by omega, fun t lt ut => ⟨900, rfl, by decide, by decide, by omega, fun b lb ub => ?_⟩⟩
      have bt : Bd 60 (t - 10000) := bd_abs (n := 20000) (by decide) (by omega) (by omega)
      have bb : Bd 60 (1 + b) := bd_abs (n := 20000) (by decide) (by omega) (by omega)
      refine share_ok (by omega) bb (by decide) ⟨by rw [List.length_map]; omega, ih2 _ _ ⟨qs ++ [Rat.divInt (t - 10000) (1 + b)], _, _, _, _, _, _, by rw [List.map_append]; rfl, by rw [List.length_append]; simp; omega, by omega, fun x hx => ?_⟩⟩
      rcases List.mem_append.mp hx with hx | hx
      · exact hqs x hx
      · rw [List.mem_singleton.mp hx]
        exact (divInt_bd (by omega) bt bb).le (by decide)
    · rintro _ j ⟨qs, y2, y5, y6, y7, y8, y9, rfl, hl, hj, hqs⟩
      rw [List.length_nil] at hl hj
      have hlen : ((cs.map pt).length : Int) = cs.length := by rw [List.length_map]
      have h3 := hS.1
      refine ⟨((cs.map pt).length : Int), rfl, by omega, small_log (by omega) (by omega), by omega, fun i li ui => ?_⟩
      obtain ⟨k, rfl⟩ := Int.eq_ofNat_of_zero_le li
      have e1 : cutL (cs.map pt) (some (k : Int)) none = (cs.drop k).map pt := by rw [cut_fr (by omega), List.map_drop]
      have e2 : cutL (cs.map pt) none (some (k : Int)) = (cs.take k).map pt := by rw [cut_to (by omega), List.map_take]
      refine ⟨fun z => ?_, by rw [e1, e2, List.length_map, List.length_map, ← List.length_append]; have := (rot_perm (l := cs) k).length_eq; omega, ?_⟩
      · have := congrArg List.length z
        rw [e1, List.length_map, List.length_drop] at this
        simp at this
        omega
      rw [e1, e2, ← List.map_append]
      refine ⟨cs.drop k ++ cs.take k, rfl, shok_rot hS (by omega), by have := (rot_perm (l := cs) k).length_eq; omega, fun p hp => hR p ((rot_perm (l := cs) k).mem_iff.mp hp), fun i v hi hv => ?_⟩
      rw [rot_back hS hF (by omega) hi hv]
      refine aF ?_
      refine ⟨⟨pt_isD cs, pt_isD cs, pt_shapedT cs, pt_shapedT cs⟩, aNe (pts_eqvT cs) ?_⟩
      refine ⟨cs, rfl, hS, ?_⟩
      refine ⟨cs, rfl, hS, aF ?_⟩
      match qs, hl, hqs with
      | [px, py], _, hqs =>
        have hmn : ∃ mn : Int, (if 8 < (ns.length : Int) then (8 : Int) else (ns.length : Int)) = mn ∧ 0 ≤ mn ∧ mn ≤ 8 := ⟨_, rfl, by split <;> omega, by split <;> omega⟩
        refine ⟨cs, px, py, _, rfl, hS, hqs px (by simp), hqs py (by simp), ?_, ?_, by omega, fun n' h' => aF (ih _ _ ⟨_, _, _, _, _, _, _, _, rfl, by omega⟩)⟩
        · dsimp only; split <;> split <;> omega
        · dsimp only; split <;> split <;> omega
  · rintro _ m ⟨y2, y3, y4, y5, y6, y7, y8, y9, rfl, hm⟩
    rfl

/-! STOP -/
/-! CUT -/

end
theorem all_mk {l : PySem.W.OpenLaw} {w : World} {K : PySem.W.Frag} {h : Heap} {mg : Str → Option Value} {fa : Addr} (X : K.In h) (G : h.Ns mainGlobals mg) (hfa : mg "law" = some (.ref fa))
    {od0 an0 : Option Addr} {sl0 : Array (Option Value)} {oc0 kV0 dc0 pm0 cd0 ct0 : Value} {f0 : Addr}
    {od1 an1 : Option Addr} {sl1 : Array (Option Value)} {oc1 kV1 dc1 pm1 cd1 ct1 : Value} {f1 : Addr}
    {od2 an2 : Option Addr} {sl2 : Array (Option Value)} {oc2 kV2 dc2 pm2 cd2 ct2 : Value} {f2 : Addr}
    {od3 an3 : Option Addr} {sl3 : Array (Option Value)} {oc3 kV3 dc3 pm3 cd3 ct3 : Value} {f3 : Addr}
    {od4 an4 : Option Addr} {sl4 : Array (Option Value)} {oc4 kV4 dc4 pm4 cd4 ct4 : Value} {f4 : Addr}
    {od5 an5 : Option Addr} {sl5 : Array (Option Value)} {oc5 kV5 dc5 pm5 cd5 ct5 : Value} {f5 : Addr}
    {od6 an6 : Option Addr} {sl6 : Array (Option Value)} {oc6 kV6 dc6 pm6 cd6 ct6 : Value} {f6 : Addr}
    {od7 an7 : Option Addr} {sl7 : Array (Option Value)} {oc7 kV7 dc7 pm7 cd7 ct7 : Value} {f7 : Addr}
    {od8 an8 : Option Addr} {sl8 : Array (Option Value)} {oc8 kV8 dc8 pm8 cd8 ct8 : Value} {f8 : Addr}
    {od9 an9 : Option Addr} {sl9 : Array (Option Value)} {oc9 kV9 dc9 pm9 cd9 ct9 : Value} {f9 : Addr}
    {od10 an10 : Option Addr} {sl10 : Array (Option Value)} {oc10 kV10 dc10 pm10 cd10 ct10 : Value} {f10 : Addr}
    {od11 an11 : Option Addr} {sl11 : Array (Option Value)} {oc11 kV11 dc11 pm11 cd11 ct11 : Value} {f11 : Addr}
    {od12 an12 : Option Addr} {sl12 : Array (Option Value)} {oc12 kV12 dc12 pm12 cd12 ct12 : Value} {f12 : Addr}
    {od13 an13 : Option Addr} {sl13 : Array (Option Value)} {oc13 kV13 dc13 pm13 cd13 ct13 : Value} {f13 : Addr}
    {od14 an14 : Option Addr} {sl14 : Array (Option Value)} {oc14 kV14 dc14 pm14 cd14 ct14 : Value} {f14 : Addr}
    {od15 an15 : Option Addr} {sl15 : Array (Option Value)} {oc15 kV15 dc15 pm15 cd15 ct15 : Value} {f15 : Addr}
    {od16 an16 : Option Addr} {sl16 : Array (Option Value)} {oc16 kV16 dc16 pm16 cd16 ct16 : Value} {f16 : Addr}
    {od17 an17 : Option Addr} {sl17 : Array (Option Value)} {oc17 kV17 dc17 pm17 cd17 ct17 : Value} {f17 : Addr}
    {od18 an18 : Option Addr} {sl18 : Array (Option Value)} {oc18 kV18 dc18 pm18 cd18 ct18 : Value} {f18 : Addr}
    {od19 an19 : Option Addr} {sl19 : Array (Option Value)} {oc19 kV19 dc19 pm19 cd19 ct19 : Value} {f19 : Addr}
    {od20 an20 : Option Addr} {sl20 : Array (Option Value)} {oc20 kV20 dc20 pm20 cd20 ct20 : Value} {f20 : Addr}
    {od21 an21 : Option Addr} {sl21 : Array (Option Value)} {oc21 kV21 dc21 pm21 cd21 ct21 : Value} {f21 : Addr}
    {od22 an22 : Option Addr} {sl22 : Array (Option Value)} {oc22 kV22 dc22 pm22 cd22 ct22 : Value} {f22 : Addr}
    {od23 an23 : Option Addr} {sl23 : Array (Option Value)} {oc23 kV23 dc23 pm23 cd23 ct23 : Value} {f23 : Addr}
    {od24 an24 : Option Addr} {sl24 : Array (Option Value)} {oc24 kV24 dc24 pm24 cd24 ct24 : Value} {f24 : Addr}
    {od25 an25 : Option Addr} {sl25 : Array (Option Value)} {oc25 kV25 dc25 pm25 cd25 ct25 : Value} {f25 : Addr}
    {od26 an26 : Option Addr} {sl26 : Array (Option Value)} {oc26 kV26 dc26 pm26 cd26 ct26 : Value} {f26 : Addr}
    {od27 an27 : Option Addr} {sl27 : Array (Option Value)} {oc27 kV27 dc27 pm27 cd27 ct27 : Value} {f27 : Addr}
    {od28 an28 : Option Addr} {sl28 : Array (Option Value)} {oc28 kV28 dc28 pm28 cd28 ct28 : Value} {f28 : Addr}
    {od29 an29 : Option Addr} {sl29 : Array (Option Value)} {oc29 kV29 dc29 pm29 cd29 ct29 : Value} {f29 : Addr}
    {od30 an30 : Option Addr} {sl30 : Array (Option Value)} {oc30 kV30 dc30 pm30 cd30 ct30 : Value} {f30 : Addr}
    {od31 an31 : Option Addr} {sl31 : Array (Option Value)} {oc31 kV31 dc31 pm31 cd31 ct31 : Value} {f31 : Addr}
    {od32 an32 : Option Addr} {sl32 : Array (Option Value)} {oc32 kV32 dc32 pm32 cd32 ct32 : Value} {f32 : Addr}
    {od33 an33 : Option Addr} {sl33 : Array (Option Value)} {oc33 kV33 dc33 pm33 cd33 ct33 : Value} {f33 : Addr}
    {od34 an34 : Option Addr} {sl34 : Array (Option Value)} {oc34 kV34 dc34 pm34 cd34 ct34 : Value} {f34 : Addr}
    {od35 an35 : Option Addr} {sl35 : Array (Option Value)} {oc35 kV35 dc35 pm35 cd35 ct35 : Value} {f35 : Addr}
    {od36 an36 : Option Addr} {sl36 : Array (Option Value)} {oc36 kV36 dc36 pm36 cd36 ct36 : Value} {f36 : Addr}
    {od37 an37 : Option Addr} {sl37 : Array (Option Value)} {oc37 kV37 dc37 pm37 cd37 ct37 : Value} {f37 : Addr}
    {od38 an38 : Option Addr} {sl38 : Array (Option Value)} {oc38 kV38 dc38 pm38 cd38 ct38 : Value} {f38 : Addr}
    {od39 an39 : Option Addr} {sl39 : Array (Option Value)} {oc39 kV39 dc39 pm39 cd39 ct39 : Value} {f39 : Addr}
    {c_BodyError : Addr}
    {c_NoWay : Addr}
    {c_BadShape : Addr}
    {k_CORNERS : Tok}
    {k_LEADING : Tok}
    {k_LENGTHY : Tok}
    {k_REACH : Tok}
    (a0 : PySem.W.nsIn K mainGlobals "is_whole" = some (some (.ref f0))) (l0 : K.lookup f0 = some ⟨oc0, od0, .func (PySem.W.fnOf "is_whole" "is_whole" (defArgs s_p_is_whole) (defBody s_p_is_whole) (defScope s_p_is_whole) .none kV0 dc0 pm0 an0 cd0 ct0), sl0⟩) (c0 : PySem.W.codeIn K cd0 "is_whole" = true) (k0 : PySem.W.keepIn K (.ref f0) = true)
    (a1 : PySem.W.nsIn K mainGlobals "in_reach" = some (some (.ref f1))) (l1 : K.lookup f1 = some ⟨oc1, od1, .func (PySem.W.fnOf "in_reach" "in_reach" (defArgs s_p_in_reach) (defBody s_p_in_reach) (defScope s_p_in_reach) .none kV1 dc1 pm1 an1 cd1 ct1), sl1⟩) (c1 : PySem.W.codeIn K cd1 "in_reach" = true) (k1 : PySem.W.keepIn K (.ref f1) = true)
    (a2 : PySem.W.nsIn K mainGlobals "divided" = some (some (.ref f2))) (l2 : K.lookup f2 = some ⟨oc2, od2, .func (PySem.W.fnOf "divided" "divided" (defArgs s_p_divided) (defBody s_p_divided) (defScope s_p_divided) .none kV2 dc2 pm2 an2 cd2 ct2), sl2⟩) (c2 : PySem.W.codeIn K cd2 "divided" = true) (k2 : PySem.W.keepIn K (.ref f2) = true)
    (a3 : PySem.W.nsIn K mainGlobals "shortened" = some (some (.ref f3))) (l3 : K.lookup f3 = some ⟨oc3, od3, .func (PySem.W.fnOf "shortened" "shortened" (defArgs s_p_shortened) (defBody s_p_shortened) (defScope s_p_shortened) .none kV3 dc3 pm3 an3 cd3 ct3), sl3⟩) (c3 : PySem.W.codeIn K cd3 "shortened" = true) (k3 : PySem.W.keepIn K (.ref f3) = true)
    (a4 : PySem.W.nsIn K mainGlobals "common_divisor" = some (some (.ref f4))) (l4 : K.lookup f4 = some ⟨oc4, od4, .func (PySem.W.fnOf "common_divisor" "common_divisor" (defArgs s_p_common_divisor) (defBody s_p_common_divisor) (defScope s_p_common_divisor) .none kV4 dc4 pm4 an4 cd4 ct4), sl4⟩) (c4 : PySem.W.codeIn K cd4 "common_divisor" = true) (k4 : PySem.W.keepIn K (.ref f4) = true)
    (a5 : PySem.W.nsIn K mainGlobals "plus" = some (some (.ref f5))) (l5 : K.lookup f5 = some ⟨oc5, od5, .func (PySem.W.fnOf "plus" "plus" (defArgs s_p_plus) (defBody s_p_plus) (defScope s_p_plus) .none kV5 dc5 pm5 an5 cd5 ct5), sl5⟩) (c5 : PySem.W.codeIn K cd5 "plus" = true) (k5 : PySem.W.keepIn K (.ref f5) = true)
    (a6 : PySem.W.nsIn K mainGlobals "minus" = some (some (.ref f6))) (l6 : K.lookup f6 = some ⟨oc6, od6, .func (PySem.W.fnOf "minus" "minus" (defArgs s_p_minus) (defBody s_p_minus) (defScope s_p_minus) .none kV6 dc6 pm6 an6 cd6 ct6), sl6⟩) (c6 : PySem.W.codeIn K cd6 "minus" = true) (k6 : PySem.W.keepIn K (.ref f6) = true)
    (a7 : PySem.W.nsIn K mainGlobals "times" = some (some (.ref f7))) (l7 : K.lookup f7 = some ⟨oc7, od7, .func (PySem.W.fnOf "times" "times" (defArgs s_p_times) (defBody s_p_times) (defScope s_p_times) .none kV7 dc7 pm7 an7 cd7 ct7), sl7⟩) (c7 : PySem.W.codeIn K cd7 "times" = true) (k7 : PySem.W.keepIn K (.ref f7) = true)
    (a8 : PySem.W.nsIn K mainGlobals "order" = some (some (.ref f8))) (l8 : K.lookup f8 = some ⟨oc8, od8, .func (PySem.W.fnOf "order" "order" (defArgs s_p_order) (defBody s_p_order) (defScope s_p_order) .none kV8 dc8 pm8 an8 cd8 ct8), sl8⟩) (c8 : PySem.W.codeIn K cd8 "order" = true) (k8 : PySem.W.keepIn K (.ref f8) = true)
    (a9 : PySem.W.nsIn K mainGlobals "way_of" = some (some (.ref f9))) (l9 : K.lookup f9 = some ⟨oc9, od9, .func (PySem.W.fnOf "way_of" "way_of" (defArgs s_p_way_of) (defBody s_p_way_of) (defScope s_p_way_of) .none kV9 dc9 pm9 an9 cd9 ct9), sl9⟩) (c9 : PySem.W.codeIn K cd9 "way_of" = true) (k9 : PySem.W.keepIn K (.ref f9) = true)
    (a10 : PySem.W.nsIn K mainGlobals "along" = some (some (.ref f10))) (l10 : K.lookup f10 = some ⟨oc10, od10, .func (PySem.W.fnOf "along" "along" (defArgs s_p_along) (defBody s_p_along) (defScope s_p_along) .none kV10 dc10 pm10 an10 cd10 ct10), sl10⟩) (c10 : PySem.W.codeIn K cd10 "along" = true) (k10 : PySem.W.keepIn K (.ref f10) = true)
    (a11 : PySem.W.nsIn K mainGlobals "spot_minus" = some (some (.ref f11))) (l11 : K.lookup f11 = some ⟨oc11, od11, .func (PySem.W.fnOf "spot_minus" "spot_minus" (defArgs s_p_spot_minus) (defBody s_p_spot_minus) (defScope s_p_spot_minus) .none kV11 dc11 pm11 an11 cd11 ct11), sl11⟩) (c11 : PySem.W.codeIn K cd11 "spot_minus" = true) (k11 : PySem.W.keepIn K (.ref f11) = true)
    (a12 : PySem.W.nsIn K mainGlobals "look_corner" = some (some (.ref f12))) (l12 : K.lookup f12 = some ⟨oc12, od12, .func (PySem.W.fnOf "look_corner" "look_corner" (defArgs s_p_look_corner) (defBody s_p_look_corner) (defScope s_p_look_corner) .none kV12 dc12 pm12 an12 cd12 ct12), sl12⟩) (c12 : PySem.W.codeIn K cd12 "look_corner" = true) (k12 : PySem.W.keepIn K (.ref f12) = true)
    (a13 : PySem.W.nsIn K mainGlobals "side_ends" = some (some (.ref f13))) (l13 : K.lookup f13 = some ⟨oc13, od13, .func (PySem.W.fnOf "side_ends" "side_ends" (defArgs s_p_side_ends) (defBody s_p_side_ends) (defScope s_p_side_ends) .none kV13 dc13 pm13 an13 cd13 ct13), sl13⟩) (c13 : PySem.W.codeIn K cd13 "side_ends" = true) (k13 : PySem.W.keepIn K (.ref f13) = true)
    (a14 : PySem.W.nsIn K mainGlobals "is_left" = some (some (.ref f14))) (l14 : K.lookup f14 = some ⟨oc14, od14, .func (PySem.W.fnOf "is_left" "is_left" (defArgs s_p_is_left) (defBody s_p_is_left) (defScope s_p_is_left) .none kV14 dc14 pm14 an14 cd14 ct14), sl14⟩) (c14 : PySem.W.codeIn K cd14 "is_left" = true) (k14 : PySem.W.keepIn K (.ref f14) = true)
    (a15 : PySem.W.nsIn K mainGlobals "is_side" = some (some (.ref f15))) (l15 : K.lookup f15 = some ⟨oc15, od15, .func (PySem.W.fnOf "is_side" "is_side" (defArgs s_p_is_side) (defBody s_p_is_side) (defScope s_p_is_side) .none kV15 dc15 pm15 an15 cd15 ct15), sl15⟩) (c15 : PySem.W.codeIn K cd15 "is_side" = true) (k15 : PySem.W.keepIn K (.ref f15) = true)
    (a16 : PySem.W.nsIn K mainGlobals "look_shape" = some (some (.ref f16))) (l16 : K.lookup f16 = some ⟨oc16, od16, .func (PySem.W.fnOf "look_shape" "look_shape" (defArgs s_p_look_shape) (defBody s_p_look_shape) (defScope s_p_look_shape) .none kV16 dc16 pm16 an16 cd16 ct16), sl16⟩) (c16 : PySem.W.codeIn K cd16 "look_shape" = true) (k16 : PySem.W.keepIn K (.ref f16) = true)
    (a17 : PySem.W.nsIn K mainGlobals "outwards" = some (some (.ref f17))) (l17 : K.lookup f17 = some ⟨oc17, od17, .func (PySem.W.fnOf "outwards" "outwards" (defArgs s_p_outwards) (defBody s_p_outwards) (defScope s_p_outwards) .none kV17 dc17 pm17 an17 cd17 ct17), sl17⟩) (c17 : PySem.W.codeIn K cd17 "outwards" = true) (k17 : PySem.W.keepIn K (.ref f17) = true)
    (a18 : PySem.W.nsIn K mainGlobals "sides" = some (some (.ref f18))) (l18 : K.lookup f18 = some ⟨oc18, od18, .func (PySem.W.fnOf "sides" "sides" (defArgs s_p_sides) (defBody s_p_sides) (defScope s_p_sides) .none kV18 dc18 pm18 an18 cd18 ct18), sl18⟩) (c18 : PySem.W.codeIn K cd18 "sides" = true) (k18 : PySem.W.keepIn K (.ref f18) = true)
    (a19 : PySem.W.nsIn K mainGlobals "reach" = some (some (.ref f19))) (l19 : K.lookup f19 = some ⟨oc19, od19, .func (PySem.W.fnOf "reach" "reach" (defArgs s_p_reach) (defBody s_p_reach) (defScope s_p_reach) .none kV19 dc19 pm19 an19 cd19 ct19), sl19⟩) (c19 : PySem.W.codeIn K cd19 "reach" = true) (k19 : PySem.W.keepIn K (.ref f19) = true)
    (a20 : PySem.W.nsIn K mainGlobals "within" = some (some (.ref f20))) (l20 : K.lookup f20 = some ⟨oc20, od20, .func (PySem.W.fnOf "within" "within" (defArgs s_p_within) (defBody s_p_within) (defScope s_p_within) .none kV20 dc20 pm20 an20 cd20 ct20), sl20⟩) (c20 : PySem.W.codeIn K cd20 "within" = true) (k20 : PySem.W.keepIn K (.ref f20) = true)
    (a21 : PySem.W.nsIn K mainGlobals "_law_cell" = some (some (.ref f21))) (l21 : K.lookup f21 = some ⟨oc21, od21, .func (PySem.W.fnOf "_law_cell" "_law_cell" (defArgs s_l_cell) (defBody s_l_cell) (defScope s_l_cell) .none kV21 dc21 pm21 an21 cd21 ct21), sl21⟩) (c21 : PySem.W.codeIn K cd21 "_law_cell" = true) (k21 : PySem.W.keepIn K (.ref f21) = true)
    (a22 : PySem.W.nsIn K mainGlobals "_law_mixed" = some (some (.ref f22))) (l22 : K.lookup f22 = some ⟨oc22, od22, .func (PySem.W.fnOf "_law_mixed" "_law_mixed" (defArgs s_l_mixed) (defBody s_l_mixed) (defScope s_l_mixed) .none kV22 dc22 pm22 an22 cd22 ct22), sl22⟩) (c22 : PySem.W.codeIn K cd22 "_law_mixed" = true) (k22 : PySem.W.keepIn K (.ref f22) = true)
    (a23 : PySem.W.nsIn K mainGlobals "_law_deck" = some (some (.ref f23))) (l23 : K.lookup f23 = some ⟨oc23, od23, .func (PySem.W.fnOf "_law_deck" "_law_deck" (defArgs s_l_deck) (defBody s_l_deck) (defScope s_l_deck) .none kV23 dc23 pm23 an23 cd23 ct23), sl23⟩) (c23 : PySem.W.codeIn K cd23 "_law_deck" = true) (k23 : PySem.W.keepIn K (.ref f23) = true)
    (a24 : PySem.W.nsIn K mainGlobals "_law_take" = some (some (.ref f24))) (l24 : K.lookup f24 = some ⟨oc24, od24, .func (PySem.W.fnOf "_law_take" "_law_take" (defArgs s_l_take) (defBody s_l_take) (defScope s_l_take) .none kV24 dc24 pm24 an24 cd24 ct24), sl24⟩) (c24 : PySem.W.codeIn K cd24 "_law_take" = true) (k24 : PySem.W.keepIn K (.ref f24) = true)
    (a25 : PySem.W.nsIn K mainGlobals "_law_gcd" = some (some (.ref f25))) (l25 : K.lookup f25 = some ⟨oc25, od25, .func (PySem.W.fnOf "_law_gcd" "_law_gcd" (defArgs s_l_gcd) (defBody s_l_gcd) (defScope s_l_gcd) .none kV25 dc25 pm25 an25 cd25 ct25), sl25⟩) (c25 : PySem.W.codeIn K cd25 "_law_gcd" = true) (k25 : PySem.W.keepIn K (.ref f25) = true)
    (a26 : PySem.W.nsIn K mainGlobals "_law_share" = some (some (.ref f26))) (l26 : K.lookup f26 = some ⟨oc26, od26, .func (PySem.W.fnOf "_law_share" "_law_share" (defArgs s_l_share) (defBody s_l_share) (defScope s_l_share) .none kV26 dc26 pm26 an26 cd26 ct26), sl26⟩) (c26 : PySem.W.codeIn K cd26 "_law_share" = true) (k26 : PySem.W.keepIn K (.ref f26) = true)
    (a27 : PySem.W.nsIn K mainGlobals "_law_left" = some (some (.ref f27))) (l27 : K.lookup f27 = some ⟨oc27, od27, .func (PySem.W.fnOf "_law_left" "_law_left" (defArgs s_l_left) (defBody s_l_left) (defScope s_l_left) .none kV27 dc27 pm27 an27 cd27 ct27), sl27⟩) (c27 : PySem.W.codeIn K cd27 "_law_left" = true) (k27 : PySem.W.keepIn K (.ref f27) = true)
    (a28 : PySem.W.nsIn K mainGlobals "_law_half" = some (some (.ref f28))) (l28 : K.lookup f28 = some ⟨oc28, od28, .func (PySem.W.fnOf "_law_half" "_law_half" (defArgs s_l_half) (defBody s_l_half) (defScope s_l_half) .none kV28 dc28 pm28 an28 cd28 ct28), sl28⟩) (c28 : PySem.W.codeIn K cd28 "_law_half" = true) (k28 : PySem.W.keepIn K (.ref f28) = true)
    (a29 : PySem.W.nsIn K mainGlobals "_law_hull" = some (some (.ref f29))) (l29 : K.lookup f29 = some ⟨oc29, od29, .func (PySem.W.fnOf "_law_hull" "_law_hull" (defArgs s_l_hull) (defBody s_l_hull) (defScope s_l_hull) .none kV29 dc29 pm29 an29 cd29 ct29), sl29⟩) (c29 : PySem.W.codeIn K cd29 "_law_hull" = true) (k29 : PySem.W.keepIn K (.ref f29) = true)
    (a30 : PySem.W.nsIn K mainGlobals "_law_shape" = some (some (.ref f30))) (l30 : K.lookup f30 = some ⟨oc30, od30, .func (PySem.W.fnOf "_law_shape" "_law_shape" (defArgs s_l_shape) (defBody s_l_shape) (defScope s_l_shape) .none kV30 dc30 pm30 an30 cd30 ct30), sl30⟩) (c30 : PySem.W.codeIn K cd30 "_law_shape" = true) (k30 : PySem.W.keepIn K (.ref f30) = true)
    (a31 : PySem.W.nsIn K mainGlobals "_law_way" = some (some (.ref f31))) (l31 : K.lookup f31 = some ⟨oc31, od31, .func (PySem.W.fnOf "_law_way" "_law_way" (defArgs s_l_way) (defBody s_l_way) (defScope s_l_way) .none kV31 dc31 pm31 an31 cd31 ct31), sl31⟩) (c31 : PySem.W.codeIn K cd31 "_law_way" = true) (k31 : PySem.W.keepIn K (.ref f31) = true)
    (a32 : PySem.W.nsIn K mainGlobals "_law_is_way" = some (some (.ref f32))) (l32 : K.lookup f32 = some ⟨oc32, od32, .func (PySem.W.fnOf "_law_is_way" "_law_is_way" (defArgs s_l_is_way) (defBody s_l_is_way) (defScope s_l_is_way) .none kV32 dc32 pm32 an32 cd32 ct32), sl32⟩) (c32 : PySem.W.codeIn K cd32 "_law_is_way" = true) (k32 : PySem.W.keepIn K (.ref f32) = true)
    (a33 : PySem.W.nsIn K mainGlobals "_law_far" = some (some (.ref f33))) (l33 : K.lookup f33 = some ⟨oc33, od33, .func (PySem.W.fnOf "_law_far" "_law_far" (defArgs s_l_far) (defBody s_l_far) (defScope s_l_far) .none kV33 dc33 pm33 an33 cd33 ct33), sl33⟩) (c33 : PySem.W.codeIn K cd33 "_law_far" = true) (k33 : PySem.W.keepIn K (.ref f33) = true)
    (a34 : PySem.W.nsIn K mainGlobals "_law_ways_right" = some (some (.ref f34))) (l34 : K.lookup f34 = some ⟨oc34, od34, .func (PySem.W.fnOf "_law_ways_right" "_law_ways_right" (defArgs s_l_ways_right) (defBody s_l_ways_right) (defScope s_l_ways_right) .none kV34 dc34 pm34 an34 cd34 ct34), sl34⟩) (c34 : PySem.W.codeIn K cd34 "_law_ways_right" = true) (k34 : PySem.W.keepIn K (.ref f34) = true)
    (a35 : PySem.W.nsIn K mainGlobals "_law_point" = some (some (.ref f35))) (l35 : K.lookup f35 = some ⟨oc35, od35, .func (PySem.W.fnOf "_law_point" "_law_point" (defArgs s_l_point) (defBody s_l_point) (defScope s_l_point) .none kV35 dc35 pm35 an35 cd35 ct35), sl35⟩) (c35 : PySem.W.codeIn K cd35 "_law_point" = true) (k35 : PySem.W.keepIn K (.ref f35) = true)
    (a36 : PySem.W.nsIn K mainGlobals "_law_at" = some (some (.ref f36))) (l36 : K.lookup f36 = some ⟨oc36, od36, .func (PySem.W.fnOf "_law_at" "_law_at" (defArgs s_l_at) (defBody s_l_at) (defScope s_l_at) .none kV36 dc36 pm36 an36 cd36 ct36), sl36⟩) (c36 : PySem.W.codeIn K cd36 "_law_at" = true) (k36 : PySem.W.keepIn K (.ref f36) = true)
    (a37 : PySem.W.nsIn K mainGlobals "_law_below" = some (some (.ref f37))) (l37 : K.lookup f37 = some ⟨oc37, od37, .func (PySem.W.fnOf "_law_below" "_law_below" (defArgs s_l_below) (defBody s_l_below) (defScope s_l_below) .none kV37 dc37 pm37 an37 cd37 ct37), sl37⟩) (c37 : PySem.W.codeIn K cd37 "_law_below" = true) (k37 : PySem.W.keepIn K (.ref f37) = true)
    (a38 : PySem.W.nsIn K mainGlobals "_law_spots_right" = some (some (.ref f38))) (l38 : K.lookup f38 = some ⟨oc38, od38, .func (PySem.W.fnOf "_law_spots_right" "_law_spots_right" (defArgs s_l_spots_right) (defBody s_l_spots_right) (defScope s_l_spots_right) .none kV38 dc38 pm38 an38 cd38 ct38), sl38⟩) (c38 : PySem.W.codeIn K cd38 "_law_spots_right" = true) (k38 : PySem.W.keepIn K (.ref f38) = true)
    (a39 : PySem.W.nsIn K mainGlobals "law" = some (some (.ref f39))) (l39 : K.lookup f39 = some ⟨oc39, od39, .func (PySem.W.fnOf "law" "law" (defArgs s_law) (defBody s_law) (defScope s_law) .none kV39 dc39 pm39 an39 cd39 ct39), sl39⟩) (c39 : PySem.W.codeIn K cd39 "law" = true) (k39 : PySem.W.keepIn K (.ref f39) = true)
    (z_abs : PySem.W.nsIn K mainGlobals "abs" = some none)
    (z_all : PySem.W.nsIn K mainGlobals "all" = some none)
    (z_bool : PySem.W.nsIn K mainGlobals "bool" = some none)
    (z_enumerate : PySem.W.nsIn K mainGlobals "enumerate" = some none)
    (z_int : PySem.W.nsIn K mainGlobals "int" = some none)
    (z_isinstance : PySem.W.nsIn K mainGlobals "isinstance" = some none)
    (z_len : PySem.W.nsIn K mainGlobals "len" = some none)
    (z_list : PySem.W.nsIn K mainGlobals "list" = some none)
    (z_max : PySem.W.nsIn K mainGlobals "max" = some none)
    (z_min : PySem.W.nsIn K mainGlobals "min" = some none)
    (z_range : PySem.W.nsIn K mainGlobals "range" = some none)
    (z_sorted : PySem.W.nsIn K mainGlobals "sorted" = some none)
    (z_tuple : PySem.W.nsIn K mainGlobals "tuple" = some none)
    (z_zip : PySem.W.nsIn K mainGlobals "zip" = some none)
    (ac_BodyError : PySem.W.nsIn K mainGlobals "BodyError" = some (some (.ref c_BodyError)))
    (ac_NoWay : PySem.W.nsIn K mainGlobals "NoWay" = some (some (.ref c_NoWay)))
    (ac_BadShape : PySem.W.nsIn K mainGlobals "BadShape" = some (some (.ref c_BadShape)))
    (an_CORNERS : PySem.W.nsIn K mainGlobals "CORNERS" = some (some (.int 8 k_CORNERS)))
    (an_LEADING : PySem.W.nsIn K mainGlobals "LEADING" = some (some (.int 120 k_LEADING)))
    (an_LENGTHY : PySem.W.nsIn K mainGlobals "LENGTHY" = some (some (.int 4000 k_LENGTHY)))
    (an_REACH : PySem.W.nsIn K mainGlobals "REACH" = some (some (.int 1000000 k_REACH)))
    : ∃ fd : FuncData, (∀ (s : Shared) (v : Value), BindsTo s fd ⟨[v], []⟩ [("_law_script", v)]) ∧ ∀ base : Heap, K.In base → base.Ns mainGlobals mg → FnOk l.prog w K mg base CX0 9 fa fd ["_law_script"] (sp_law K) := by
  have e := hfa.symm.trans (PySem.W.mg_of X G a39)
  cases e
  let A0 : Ad := { f_p_is_whole := f0, fd_p_is_whole := PySem.W.fnOf "is_whole" "is_whole" (defArgs s_p_is_whole) (defBody s_p_is_whole) (defScope s_p_is_whole) .none kV0 dc0 pm0 an0 cd0 ct0, f_p_in_reach := f1, fd_p_in_reach := PySem.W.fnOf "in_reach" "in_reach" (defArgs s_p_in_reach) (defBody s_p_in_reach) (defScope s_p_in_reach) .none kV1 dc1 pm1 an1 cd1 ct1, f_p_divided := f2, fd_p_divided := PySem.W.fnOf "divided" "divided" (defArgs s_p_divided) (defBody s_p_divided) (defScope s_p_divided) .none kV2 dc2 pm2 an2 cd2 ct2, f_p_shortened := f3, fd_p_shortened := PySem.W.fnOf "shortened" "shortened" (defArgs s_p_shortened) (defBody s_p_shortened) (defScope s_p_shortened) .none kV3 dc3 pm3 an3 cd3 ct3, f_p_common_divisor := f4, fd_p_common_divisor := PySem.W.fnOf "common_divisor" "common_divisor" (defArgs s_p_common_divisor) (defBody s_p_common_divisor) (defScope s_p_common_divisor) .none kV4 dc4 pm4 an4 cd4 ct4, f_p_plus := f5, fd_p_plus := PySem.W.fnOf "plus" "plus" (defArgs s_p_plus) (defBody s_p_plus) (defScope s_p_plus) .none kV5 dc5 pm5 an5 cd5 ct5, f_p_minus := f6, fd_p_minus := PySem.W.fnOf "minus" "minus" (defArgs s_p_minus) (defBody s_p_minus) (defScope s_p_minus) .none kV6 dc6 pm6 an6 cd6 ct6, f_p_times := f7, fd_p_times := PySem.W.fnOf "times" "times" (defArgs s_p_times) (defBody s_p_times) (defScope s_p_times) .none kV7 dc7 pm7 an7 cd7 ct7, f_p_order := f8, fd_p_order := PySem.W.fnOf "order" "order" (defArgs s_p_order) (defBody s_p_order) (defScope s_p_order) .none kV8 dc8 pm8 an8 cd8 ct8, f_p_way_of := f9, fd_p_way_of := PySem.W.fnOf "way_of" "way_of" (defArgs s_p_way_of) (defBody s_p_way_of) (defScope s_p_way_of) .none kV9 dc9 pm9 an9 cd9 ct9, f_p_along := f10, fd_p_along := PySem.W.fnOf "along" "along" (defArgs s_p_along) (defBody s_p_along) (defScope s_p_along) .none kV10 dc10 pm10 an10 cd10 ct10, f_p_spot_minus := f11, fd_p_spot_minus := PySem.W.fnOf "spot_minus" "spot_minus" (defArgs s_p_spot_minus) (defBody s_p_spot_minus) (defScope s_p_spot_minus) .none kV11 dc11 pm11 an11 cd11 ct11, f_p_look_corner := f12, fd_p_look_corner := PySem.W.fnOf "look_corner" "look_corner" (defArgs s_p_look_corner) (defBody s_p_look_corner) (defScope s_p_look_corner) .none kV12 dc12 pm12 an12 cd12 ct12, f_p_side_ends := f13, fd_p_side_ends := PySem.W.fnOf "side_ends" "side_ends" (defArgs s_p_side_ends) (defBody s_p_side_ends) (defScope s_p_side_ends) .none kV13 dc13 pm13 an13 cd13 ct13, f_p_is_left := f14, fd_p_is_left := PySem.W.fnOf "is_left" "is_left" (defArgs s_p_is_left) (defBody s_p_is_left) (defScope s_p_is_left) .none kV14 dc14 pm14 an14 cd14 ct14, f_p_is_side := f15, fd_p_is_side := PySem.W.fnOf "is_side" "is_side" (defArgs s_p_is_side) (defBody s_p_is_side) (defScope s_p_is_side) .none kV15 dc15 pm15 an15 cd15 ct15, f_p_look_shape := f16, fd_p_look_shape := PySem.W.fnOf "look_shape" "look_shape" (defArgs s_p_look_shape) (defBody s_p_look_shape) (defScope s_p_look_shape) .none kV16 dc16 pm16 an16 cd16 ct16, f_p_outwards := f17, fd_p_outwards := PySem.W.fnOf "outwards" "outwards" (defArgs s_p_outwards) (defBody s_p_outwards) (defScope s_p_outwards) .none kV17 dc17 pm17 an17 cd17 ct17, f_p_sides := f18, fd_p_sides := PySem.W.fnOf "sides" "sides" (defArgs s_p_sides) (defBody s_p_sides) (defScope s_p_sides) .none kV18 dc18 pm18 an18 cd18 ct18, f_p_reach := f19, fd_p_reach := PySem.W.fnOf "reach" "reach" (defArgs s_p_reach) (defBody s_p_reach) (defScope s_p_reach) .none kV19 dc19 pm19 an19 cd19 ct19, f_p_within := f20, fd_p_within := PySem.W.fnOf "within" "within" (defArgs s_p_within) (defBody s_p_within) (defScope s_p_within) .none kV20 dc20 pm20 an20 cd20 ct20, f_l_cell := f21, fd_l_cell := PySem.W.fnOf "_law_cell" "_law_cell" (defArgs s_l_cell) (defBody s_l_cell) (defScope s_l_cell) .none kV21 dc21 pm21 an21 cd21 ct21, f_l_mixed := f22, fd_l_mixed := PySem.W.fnOf "_law_mixed" "_law_mixed" (defArgs s_l_mixed) (defBody s_l_mixed) (defScope s_l_mixed) .none kV22 dc22 pm22 an22 cd22 ct22, f_l_deck := f23, fd_l_deck := PySem.W.fnOf "_law_deck" "_law_deck" (defArgs s_l_deck) (defBody s_l_deck) (defScope s_l_deck) .none kV23 dc23 pm23 an23 cd23 ct23, f_l_take := f24, fd_l_take := PySem.W.fnOf "_law_take" "_law_take" (defArgs s_l_take) (defBody s_l_take) (defScope s_l_take) .none kV24 dc24 pm24 an24 cd24 ct24, f_l_gcd := f25, fd_l_gcd := PySem.W.fnOf "_law_gcd" "_law_gcd" (defArgs s_l_gcd) (defBody s_l_gcd) (defScope s_l_gcd) .none kV25 dc25 pm25 an25 cd25 ct25, f_l_share := f26, fd_l_share := PySem.W.fnOf "_law_share" "_law_share" (defArgs s_l_share) (defBody s_l_share) (defScope s_l_share) .none kV26 dc26 pm26 an26 cd26 ct26, f_l_left := f27, fd_l_left := PySem.W.fnOf "_law_left" "_law_left" (defArgs s_l_left) (defBody s_l_left) (defScope s_l_left) .none kV27 dc27 pm27 an27 cd27 ct27, f_l_half := f28, fd_l_half := PySem.W.fnOf "_law_half" "_law_half" (defArgs s_l_half) (defBody s_l_half) (defScope s_l_half) .none kV28 dc28 pm28 an28 cd28 ct28, f_l_hull := f29, fd_l_hull := PySem.W.fnOf "_law_hull" "_law_hull" (defArgs s_l_hull) (defBody s_l_hull) (defScope s_l_hull) .none kV29 dc29 pm29 an29 cd29 ct29, f_l_shape := f30, fd_l_shape := PySem.W.fnOf "_law_shape" "_law_shape" (defArgs s_l_shape) (defBody s_l_shape) (defScope s_l_shape) .none kV30 dc30 pm30 an30 cd30 ct30, f_l_way := f31, fd_l_way := PySem.W.fnOf "_law_way" "_law_way" (defArgs s_l_way) (defBody s_l_way) (defScope s_l_way) .none kV31 dc31 pm31 an31 cd31 ct31, f_l_is_way := f32, fd_l_is_way := PySem.W.fnOf "_law_is_way" "_law_is_way" (defArgs s_l_is_way) (defBody s_l_is_way) (defScope s_l_is_way) .none kV32 dc32 pm32 an32 cd32 ct32, f_l_far := f33, fd_l_far := PySem.W.fnOf "_law_far" "_law_far" (defArgs s_l_far) (defBody s_l_far) (defScope s_l_far) .none kV33 dc33 pm33 an33 cd33 ct33, f_l_ways_right := f34, fd_l_ways_right := PySem.W.fnOf "_law_ways_right" "_law_ways_right" (defArgs s_l_ways_right) (defBody s_l_ways_right) (defScope s_l_ways_right) .none kV34 dc34 pm34 an34 cd34 ct34, f_l_point := f35, fd_l_point := PySem.W.fnOf "_law_point" "_law_point" (defArgs s_l_point) (defBody s_l_point) (defScope s_l_point) .none kV35 dc35 pm35 an35 cd35 ct35, f_l_at := f36, fd_l_at := PySem.W.fnOf "_law_at" "_law_at" (defArgs s_l_at) (defBody s_l_at) (defScope s_l_at) .none kV36 dc36 pm36 an36 cd36 ct36, f_l_below := f37, fd_l_below := PySem.W.fnOf "_law_below" "_law_below" (defArgs s_l_below) (defBody s_l_below) (defScope s_l_below) .none kV37 dc37 pm37 an37 cd37 ct37, f_l_spots_right := f38, fd_l_spots_right := PySem.W.fnOf "_law_spots_right" "_law_spots_right" (defArgs s_l_spots_right) (defBody s_l_spots_right) (defScope s_l_spots_right) .none kV38 dc38 pm38 an38 cd38 ct38, f_law := fa, fd_law := PySem.W.fnOf "law" "law" (defArgs s_law) (defBody s_law) (defScope s_law) .none kV39 dc39 pm39 an39 cd39 ct39, c_BodyError := c_BodyError, c_NoWay := c_NoWay, c_BadShape := c_BadShape, k_CORNERS := k_CORNERS, k_LEADING := k_LEADING, k_LENGTHY := k_LENGTHY, k_REACH := k_REACH }
  have T : Tx K mg A0 := { F_p_is_whole := fun_mk (st := s_p_is_whole) l0 c0 k0, b_p_is_whole := (fun_mk (st := s_p_is_whole) l0 c0 k0).binds (ps := ["thing"]) fun _ _ _ _ _ _ us hl => match us, hl with | [_], _ => rfl, g_p_is_whole := PySem.W.mg_of X G a0, F_p_in_reach := fun_mk (st := s_p_in_reach) l1 c1 k1, b_p_in_reach := (fun_mk (st := s_p_in_reach) l1 c1 k1).binds (ps := ["thing"]) fun _ _ _ _ _ _ us hl => match us, hl with | [_], _ => rfl, g_p_in_reach := PySem.W.mg_of X G a1, F_p_divided := fun_mk (st := s_p_divided) l2 c2 k2, b_p_divided := (fun_mk (st := s_p_divided) l2 c2 k2).binds (ps := ["one", "other"]) fun _ _ _ _ _ _ us hl => match us, hl with | [_, _], _ => rfl, g_p_divided := PySem.W.mg_of X G a2, F_p_shortened := fun_mk (st := s_p_shortened) l3 c3 k3, b_p_shortened := (fun_mk (st := s_p_shortened) l3 c3 k3).binds (ps := ["one", "other"]) fun _ _ _ _ _ _ us hl => match us, hl with | [_, _], _ => rfl, g_p_shortened := PySem.W.mg_of X G a3, F_p_common_divisor := fun_mk (st := s_p_common_divisor) l4 c4 k4, b_p_common_divisor := (fun_mk (st := s_p_common_divisor) l4 c4 k4).binds (ps := ["one", "other"]) fun _ _ _ _ _ _ us hl => match us, hl with | [_, _], _ => rfl, g_p_common_divisor := PySem.W.mg_of X G a4, F_p_plus := fun_mk (st := s_p_plus) l5 c5 k5, b_p_plus := (fun_mk (st := s_p_plus) l5 c5 k5).binds (ps := ["one", "other"]) fun _ _ _ _ _ _ us hl => match us, hl with | [_, _], _ => rfl, g_p_plus := PySem.W.mg_of X G a5, F_p_minus := fun_mk (st := s_p_minus) l6 c6 k6, b_p_minus := (fun_mk (st := s_p_minus) l6 c6 k6).binds (ps := ["one", "other"]) fun _ _ _ _ _ _ us hl => match us, hl with | [_, _], _ => rfl, g_p_minus := PySem.W.mg_of X G a6, F_p_times := fun_mk (st := s_p_times) l7 c7 k7, b_p_times := (fun_mk (st := s_p_times) l7 c7 k7).binds (ps := ["one", "other"]) fun _ _ _ _ _ _ us hl => match us, hl with | [_, _], _ => rfl, g_p_times := PySem.W.mg_of X G a7, F_p_order := fun_mk (st := s_p_order) l8 c8 k8, b_p_order := (fun_mk (st := s_p_order) l8 c8 k8).binds (ps := ["one", "other"]) fun _ _ _ _ _ _ us hl => match us, hl with | [_, _], _ => rfl, g_p_order := PySem.W.mg_of X G a8, F_p_way_of := fun_mk (st := s_p_way_of) l9 c9 k9, b_p_way_of := (fun_mk (st := s_p_way_of) l9 c9 k9).binds (ps := ["p", "q"]) fun _ _ _ _ _ _ us hl => match us, hl with | [_, _], _ => rfl, g_p_way_of := PySem.W.mg_of X G a9, F_p_along := fun_mk (st := s_p_along) l10 c10 k10, b_p_along := (fun_mk (st := s_p_along) l10 c10 k10).binds (ps := ["way", "spot"]) fun _ _ _ _ _ _ us hl => match us, hl with | [_, _], _ => rfl, g_p_along := PySem.W.mg_of X G a10, F_p_spot_minus := fun_mk (st := s_p_spot_minus) l11 c11 k11, b_p_spot_minus := (fun_mk (st := s_p_spot_minus) l11 c11 k11).binds (ps := ["one", "other"]) fun _ _ _ _ _ _ us hl => match us, hl with | [_, _], _ => rfl, g_p_spot_minus := PySem.W.mg_of X G a11, F_p_look_corner := fun_mk (st := s_p_look_corner) l12 c12 k12, b_p_look_corner := (fun_mk (st := s_p_look_corner) l12 c12 k12).binds (ps := ["thing"]) fun _ _ _ _ _ _ us hl => match us, hl with | [_], _ => rfl, g_p_look_corner := PySem.W.mg_of X G a12, F_p_side_ends := fun_mk (st := s_p_side_ends) l13 c13 k13, b_p_side_ends := (fun_mk (st := s_p_side_ends) l13 c13 k13).binds (ps := ["corners"]) fun _ _ _ _ _ _ us hl => match us, hl with | [_], _ => rfl, g_p_side_ends := PySem.W.mg_of X G a13, F_p_is_left := fun_mk (st := s_p_is_left) l14 c14 k14, b_p_is_left := (fun_mk (st := s_p_is_left) l14 c14 k14).binds (ps := ["start", "end", "corner"]) fun _ _ _ _ _ _ us hl => match us, hl with | [_, _, _], _ => rfl, g_p_is_left := PySem.W.mg_of X G a14, F_p_is_side := fun_mk (st := s_p_is_side) l15 c15 k15, b_p_is_side := (fun_mk (st := s_p_is_side) l15 c15 k15).binds (ps := ["corners", "start", "end"]) fun _ _ _ _ _ _ us hl => match us, hl with | [_, _, _], _ => rfl, g_p_is_side := PySem.W.mg_of X G a15, F_p_look_shape := fun_mk (st := s_p_look_shape) l16 c16 k16, b_p_look_shape := (fun_mk (st := s_p_look_shape) l16 c16 k16).binds (ps := ["thing"]) fun _ _ _ _ _ _ us hl => match us, hl with | [_], _ => rfl, g_p_look_shape := PySem.W.mg_of X G a16, F_p_outwards := fun_mk (st := s_p_outwards) l17 c17 k17, b_p_outwards := (fun_mk (st := s_p_outwards) l17 c17 k17).binds (ps := ["start", "end"]) fun _ _ _ _ _ _ us hl => match us, hl with | [_, _], _ => rfl, g_p_outwards := PySem.W.mg_of X G a17, F_p_sides := fun_mk (st := s_p_sides) l18 c18 k18, b_p_sides := (fun_mk (st := s_p_sides) l18 c18 k18).binds (ps := ["shape"]) fun _ _ _ _ _ _ us hl => match us, hl with | [_], _ => rfl, g_p_sides := PySem.W.mg_of X G a18, F_p_reach := fun_mk (st := s_p_reach) l19 c19 k19, b_p_reach := (fun_mk (st := s_p_reach) l19 c19 k19).binds (ps := ["shape", "way"]) fun _ _ _ _ _ _ us hl => match us, hl with | [_, _], _ => rfl, g_p_reach := PySem.W.mg_of X G a19, F_p_within := fun_mk (st := s_p_within) l20 c20 k20, b_p_within := (fun_mk (st := s_p_within) l20 c20 k20).binds (ps := ["shape", "place", "spot"]) fun _ _ _ _ _ _ us hl => match us, hl with | [_, _, _], _ => rfl, g_p_within := PySem.W.mg_of X G a20, F_l_cell := fun_mk (st := s_l_cell) l21 c21 k21, b_l_cell := (fun_mk (st := s_l_cell) l21 c21 k21).binds (ps := ["_law_script", "_law_k"]) fun _ _ _ _ _ _ us hl => match us, hl with | [_, _], _ => rfl, g_l_cell := PySem.W.mg_of X G a21, F_l_mixed := fun_mk (st := s_l_mixed) l22 c22 k22, b_l_mixed := (fun_mk (st := s_l_mixed) l22 c22 k22).binds (ps := ["_law_script", "_law_k", "_law_many"]) fun _ _ _ _ _ _ us hl => match us, hl with | [_, _, _], _ => rfl, g_l_mixed := PySem.W.mg_of X G a22, F_l_deck := fun_mk (st := s_l_deck) l23 c23 k23, b_l_deck := (fun_mk (st := s_l_deck) l23 c23 k23).binds (ps := ["_law_script"]) fun _ _ _ _ _ _ us hl => match us, hl with | [_], _ => rfl, g_l_deck := PySem.W.mg_of X G a23, F_l_take := fun_mk (st := s_l_take) l24 c24 k24, b_l_take := (fun_mk (st := s_l_take) l24 c24 k24).binds (ps := ["_law_deck_here", "_law_many"]) fun _ _ _ _ _ _ us hl => match us, hl with | [_, _], _ => rfl, g_l_take := PySem.W.mg_of X G a24, F_l_gcd := fun_mk (st := s_l_gcd) l25 c25 k25, b_l_gcd := (fun_mk (st := s_l_gcd) l25 c25 k25).binds (ps := ["_law_one", "_law_other"]) fun _ _ _ _ _ _ us hl => match us, hl with | [_, _], _ => rfl, g_l_gcd := PySem.W.mg_of X G a25, F_l_share := fun_mk (st := s_l_share) l26 c26 k26, b_l_share := (fun_mk (st := s_l_share) l26 c26 k26).binds (ps := ["_law_top", "_law_bottom"]) fun _ _ _ _ _ _ us hl => match us, hl with | [_, _], _ => rfl, g_l_share := PySem.W.mg_of X G a26, F_l_left := fun_mk (st := s_l_left) l27 c27 k27, b_l_left := (fun_mk (st := s_l_left) l27 c27 k27).binds (ps := ["_law_a", "_law_b", "_law_c"]) fun _ _ _ _ _ _ us hl => match us, hl with | [_, _, _], _ => rfl, g_l_left := PySem.W.mg_of X G a27, F_l_half := fun_mk (st := s_l_half) l28 c28 k28, b_l_half := (fun_mk (st := s_l_half) l28 c28 k28).binds (ps := ["_law_points"]) fun _ _ _ _ _ _ us hl => match us, hl with | [_], _ => rfl, g_l_half := PySem.W.mg_of X G a28, F_l_hull := fun_mk (st := s_l_hull) l29 c29 k29, b_l_hull := (fun_mk (st := s_l_hull) l29 c29 k29).binds (ps := ["_law_points"]) fun _ _ _ _ _ _ us hl => match us, hl with | [_], _ => rfl, g_l_hull := PySem.W.mg_of X G a29, F_l_shape := fun_mk (st := s_l_shape) l30 c30 k30, b_l_shape := (fun_mk (st := s_l_shape) l30 c30 k30).binds (ps := ["_law_deck_here"]) fun _ _ _ _ _ _ us hl => match us, hl with | [_], _ => rfl, g_l_shape := PySem.W.mg_of X G a30, F_l_way := fun_mk (st := s_l_way) l31 c31 k31, b_l_way := (fun_mk (st := s_l_way) l31 c31 k31).binds (ps := ["_law_deck_here"]) fun _ _ _ _ _ _ us hl => match us, hl with | [_], _ => rfl, g_l_way := PySem.W.mg_of X G a31, F_l_is_way := fun_mk (st := s_l_is_way) l32 c32 k32, b_l_is_way := (fun_mk (st := s_l_is_way) l32 c32 k32).binds (ps := ["_law_thing"]) fun _ _ _ _ _ _ us hl => match us, hl with | [_], _ => rfl, g_l_is_way := PySem.W.mg_of X G a32, F_l_far := fun_mk (st := s_l_far) l33 c33 k33, b_l_far := (fun_mk (st := s_l_far) l33 c33 k33).binds (ps := ["_law_shape_here", "_law_way_here"]) fun _ _ _ _ _ _ us hl => match us, hl with | [_, _], _ => rfl, g_l_far := PySem.W.mg_of X G a33, F_l_ways_right := fun_mk (st := s_l_ways_right) l34 c34 k34, b_l_ways_right := (fun_mk (st := s_l_ways_right) l34 c34 k34).binds (ps := ["_law_shape_here", "_law_ways"]) fun _ _ _ _ _ _ us hl => match us, hl with | [_, _], _ => rfl, g_l_ways_right := PySem.W.mg_of X G a34, F_l_point := fun_mk (st := s_l_point) l35 c35 k35, b_l_point := (fun_mk (st := s_l_point) l35 c35 k35).binds (ps := ["_law_deck_here", "_law_shape_here"]) fun _ _ _ _ _ _ us hl => match us, hl with | [_, _], _ => rfl, g_l_point := PySem.W.mg_of X G a35, F_l_at := fun_mk (st := s_l_at) l36 c36 k36, b_l_at := (fun_mk (st := s_l_at) l36 c36 k36).binds (ps := ["_law_point_here", "_law_place"]) fun _ _ _ _ _ _ us hl => match us, hl with | [_, _], _ => rfl, g_l_at := PySem.W.mg_of X G a36, F_l_below := fun_mk (st := s_l_below) l37 c37 k37, b_l_below := (fun_mk (st := s_l_below) l37 c37 k37).binds (ps := ["_law_shape_here", "_law_ways", "_law_point_here"]) fun _ _ _ _ _ _ us hl => match us, hl with | [_, _, _], _ => rfl, g_l_below := PySem.W.mg_of X G a37, F_l_spots_right := fun_mk (st := s_l_spots_right) l38 c38 k38, b_l_spots_right := (fun_mk (st := s_l_spots_right) l38 c38 k38).binds (ps := ["_law_deck_here", "_law_shape_here", "_law_place", "_law_ways", "_law_many"]) fun _ _ _ _ _ _ us hl => match us, hl with | [_, _, _, _, _], _ => rfl, g_l_spots_right := PySem.W.mg_of X G a38, F_law := fun_mk (st := s_law) l39 c39 k39, b_law := (fun_mk (st := s_law) l39 c39 k39).binds (ps := ["_law_script"]) fun _ _ _ _ _ _ us hl => match us, hl with | [_], _ => rfl, g_law := PySem.W.mg_of X G a39, m_abs := PySem.W.mg_none_of X G z_abs, m_all := PySem.W.mg_none_of X G z_all, m_bool := PySem.W.mg_none_of X G z_bool, m_enumerate := PySem.W.mg_none_of X G z_enumerate, m_int := PySem.W.mg_none_of X G z_int, m_isinstance := PySem.W.mg_none_of X G z_isinstance, m_len := PySem.W.mg_none_of X G z_len, m_list := PySem.W.mg_none_of X G z_list, m_max := PySem.W.mg_none_of X G z_max, m_min := PySem.W.mg_none_of X G z_min, m_range := PySem.W.mg_none_of X G z_range, m_sorted := PySem.W.mg_none_of X G z_sorted, m_tuple := PySem.W.mg_none_of X G z_tuple, m_zip := PySem.W.mg_none_of X G z_zip, g_BodyError := PySem.W.mg_of X G ac_BodyError, g_NoWay := PySem.W.mg_of X G ac_NoWay, g_BadShape := PySem.W.mg_of X G ac_BadShape, g_CORNERS := PySem.W.mg_of X G an_CORNERS, g_LEADING := PySem.W.mg_of X G an_LEADING, g_LENGTHY := PySem.W.mg_of X G an_LENGTHY, g_REACH := PySem.W.mg_of X G an_REACH }
  exact ⟨PySem.W.fnOf "law" "law" (defArgs s_law) (defBody s_law) (defScope s_law) .none kV39 dc39 pm39 an39 cd39 ct39, fun s v => .of_eq rfl, fun base _ _ => ok_law (A := A0) T⟩
end R
open PySem PySem.W PyProof.Rows
set_option maxRecDepth 100000 in
set_option maxHeartbeats 0 in
theorem PySem.Challenge.cw_restbodies_k08_whole_shapes_holds : PySem.Challenge.rw_restbodies_k08_whole_shapes.Holds := by
  w_on; o_law; k_head; (case hw => w_witness2)
  k_fill
  refine L2.walk_of (l := PySem.Challenge.rw_restbodies_k08_whole_shapes) (n := 63) (k := 9) (x := "_law_script") (CX := fun _ => L2.CX0) (sp := fun w => R.sp_law _) rfl (by decide) rfl ⟨rfl, by decide, by decide⟩ (fun w h Y => PySem.W.kIn_of Y) ?F (fun _ _ a ns hl hO hS => ⟨a, ns, rfl, hO, hS, hl, fun _ => rfl⟩) (fun _ _ _ _ _ h => h)
  case F =>
    intro w mg fa h KX G hmg
    refine' R.all_mk KX G hmg ?a0 ?l0 ?c0 ?k0 ?a1 ?l1 ?c1 ?k1 ?a2 ?l2 ?c2 ?k2 ?a3 ?l3 ?c3 ?k3 ?a4 ?l4 ?c4 ?k4 ?a5 ?l5 ?c5 ?k5 ?a6 ?l6 ?c6 ?k6 ?a7 ?l7 ?c7 ?k7 ?a8 ?l8 ?c8 ?k8 ?a9 ?l9 ?c9 ?k9 ?a10 ?l10 ?c10 ?k10 ?a11 ?l11 ?c11 ?k11 ?a12 ?l12 ?c12 ?k12 ?a13 ?l13 ?c13 ?k13 ?a14 ?l14 ?c14 ?k14 ?a15 ?l15 ?c15 ?k15 ?a16 ?l16 ?c16 ?k16 ?a17 ?l17 ?c17 ?k17 ?a18 ?l18 ?c18 ?k18 ?a19 ?l19 ?c19 ?k19 ?a20 ?l20 ?c20 ?k20 ?a21 ?l21 ?c21 ?k21 ?a22 ?l22 ?c22 ?k22 ?a23 ?l23 ?c23 ?k23 ?a24 ?l24 ?c24 ?k24 ?a25 ?l25 ?c25 ?k25 ?a26 ?l26 ?c26 ?k26 ?a27 ?l27 ?c27 ?k27 ?a28 ?l28 ?c28 ?k28 ?a29 ?l29 ?c29 ?k29 ?a30 ?l30 ?c30 ?k30 ?a31 ?l31 ?c31 ?k31 ?a32 ?l32 ?c32 ?k32 ?a33 ?l33 ?c33 ?k33 ?a34 ?l34 ?c34 ?k34 ?a35 ?l35 ?c35 ?k35 ?a36 ?l36 ?c36 ?k36 ?a37 ?l37 ?c37 ?k37 ?a38 ?l38 ?c38 ?k38 ?a39 ?l39 ?c39 ?k39 ?z_abs ?z_all ?z_bool ?z_enumerate ?z_int ?z_isinstance ?z_len ?z_list ?z_max ?z_min ?z_range ?z_sorted ?z_tuple ?z_zip ?ac_BodyError ?ac_NoWay ?ac_BadShape ?an_CORNERS ?an_LEADING ?an_LENGTHY ?an_REACH
    (case a0 => k_is)
    (case l0 => k_is)
    (case c0 => k_is)
    (case k0 => k_is)
    (case a1 => k_is)
    (case l1 => k_is)
    (case c1 => k_is)
    (case k1 => k_is)
    (case a2 => k_is)
    (case l2 => k_is)
    (case c2 => k_is)
    (case k2 => k_is)
    (case a3 => k_is)
    (case l3 => k_is)
    (case c3 => k_is)
    (case k3 => k_is)
    (case a4 => k_is)
    (case l4 => k_is)
    (case c4 => k_is)
    (case k4 => k_is)
    (case a5 => k_is)
    (case l5 => k_is)
    (case c5 => k_is)
    (case k5 => k_is)
    (case a6 => k_is)
    (case l6 => k_is)
    (case c6 => k_is)
    (case k6 => k_is)
    (case a7 => k_is)
    (case l7 => k_is)
    (case c7 => k_is)
    (case k7 => k_is)
    (case a8 => k_is)
    (case l8 => k_is)
    (case c8 => k_is)
    (case k8 => k_is)
    (case a9 => k_is)
    (case l9 => k_is)
    (case c9 => k_is)
    (case k9 => k_is)
    (case a10 => k_is)
    (case l10 => k_is)
    (case c10 => k_is)
    (case k10 => k_is)
    (case a11 => k_is)
    (case l11 => k_is)
    (case c11 => k_is)
    (case k11 => k_is)
    (case a12 => k_is)
    (case l12 => k_is)
    (case c12 => k_is)
    (case k12 => k_is)
    (case a13 => k_is)
    (case l13 => k_is)
    (case c13 => k_is)
    (case k13 => k_is)
    (case a14 => k_is)
    (case l14 => k_is)
    (case c14 => k_is)
    (case k14 => k_is)
    (case a15 => k_is)
    (case l15 => k_is)
    (case c15 => k_is)
    (case k15 => k_is)
    (case a16 => k_is)
    (case l16 => k_is)
    (case c16 => k_is)
    (case k16 => k_is)
    (case a17 => k_is)
    (case l17 => k_is)
    (case c17 => k_is)
    (case k17 => k_is)
    (case a18 => k_is)
    (case l18 => k_is)
    (case c18 => k_is)
    (case k18 => k_is)
    (case a19 => k_is)
    (case l19 => k_is)
    (case c19 => k_is)
    (case k19 => k_is)
    (case a20 => k_is)
    (case l20 => k_is)
    (case c20 => k_is)
    (case k20 => k_is)
    (case a21 => k_is)
    (case l21 => k_is)
    (case c21 => k_is)
    (case k21 => k_is)
    (case a22 => k_is)
    (case l22 => k_is)
    (case c22 => k_is)
    (case k22 => k_is)
    (case a23 => k_is)
    (case l23 => k_is)
    (case c23 => k_is)
    (case k23 => k_is)
    (case a24 => k_is)
    (case l24 => k_is)
    (case c24 => k_is)
    (case k24 => k_is)
    (case a25 => k_is)
    (case l25 => k_is)
    (case c25 => k_is)
    (case k25 => k_is)
    (case a26 => k_is)
    (case l26 => k_is)
    (case c26 => k_is)
    (case k26 => k_is)
    (case a27 => k_is)
    (case l27 => k_is)
    (case c27 => k_is)
    (case k27 => k_is)
    (case a28 => k_is)
    (case l28 => k_is)
    (case c28 => k_is)
    (case k28 => k_is)
    (case a29 => k_is)
    (case l29 => k_is)
    (case c29 => k_is)
    (case k29 => k_is)
    (case a30 => k_is)
    (case l30 => k_is)
    (case c30 => k_is)
    (case k30 => k_is)
    (case a31 => k_is)
    (case l31 => k_is)
    (case c31 => k_is)
    (case k31 => k_is)
    (case a32 => k_is)
    (case l32 => k_is)
    (case c32 => k_is)
    (case k32 => k_is)
    (case a33 => k_is)
    (case l33 => k_is)
    (case c33 => k_is)
    (case k33 => k_is)
    (case a34 => k_is)
    (case l34 => k_is)
    (case c34 => k_is)
    (case k34 => k_is)
    (case a35 => k_is)
    (case l35 => k_is)
    (case c35 => k_is)
    (case k35 => k_is)
    (case a36 => k_is)
    (case l36 => k_is)
    (case c36 => k_is)
    (case k36 => k_is)
    (case a37 => k_is)
    (case l37 => k_is)
    (case c37 => k_is)
    (case k37 => k_is)
    (case a38 => k_is)
    (case l38 => k_is)
    (case c38 => k_is)
    (case k38 => k_is)
    (case a39 => k_is)
    (case l39 => k_is)
    (case c39 => k_is)
    (case k39 => k_is)
    (case z_abs => k_is)
    (case z_all => k_is)
    (case z_bool => k_is)
    (case z_enumerate => k_is)
    (case z_int => k_is)
    (case z_isinstance => k_is)
    (case z_len => k_is)
    (case z_list => k_is)
    (case z_max => k_is)
    (case z_min => k_is)
    (case z_range => k_is)
    (case z_sorted => k_is)
    (case z_tuple => k_is)
    (case z_zip => k_is)
    (case ac_BodyError => k_is)
    (case ac_NoWay => k_is)
    (case ac_BadShape => k_is)
    (case an_CORNERS => k_is)
    (case an_LEADING => k_is)
    (case an_LENGTHY => k_is)
    (case an_REACH => k_is)
