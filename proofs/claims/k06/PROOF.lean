import PyProof.Rows.All
import Wide.All
import OpenK.AllK
import Wide.FinOn
import HandS.ForMost
import HandS.Wide
import HandS.IsInst
import HandS.Defaults
import HandS.WideBits

import HandS.ForExc
import HandS.ExcIs
import HandS.Style
import HandS.Sort
import HandS.SortRule
import HandS.Zip
import HandS.Iter
import HandS.Deep
import HandS.TupSets
import HandS.TupLe
import HandS.DictComp
import HandS.TupAny
import HandS.ExcInit
import HandS.ExcField
import HandS.ExcValue
import HandS.ExcCtx
import HandS.NestedK
import KE.KSuper
import KE.KExcSuper
import KE.RegKSuper
import HandS.TupMul
import HandS.HotCalls
import KE.GoesRaise
import HandS.Comp
import PyProof.ReprRoads
import HandS.Ends
import KE.KDictZip
import PySem.Challenge.RW_restbodies_k06_shapes_looked
set_option Elab.async false
set_option linter.all false
set_option maxRecDepth 100000
set_option maxHeartbeats 2000000
set_option synthInstance.maxSize 100000
set_option synthInstance.maxHeartbeats 2000000
namespace R
open PySem PySem.Spec PyProof.Rows L2
/-! ### the text -/
def topS (i : Nat) : Stmt := PySem.Challenge.pw_restbodies_k06_shapes_looked.main.body.getD i (.Pass ⟨0, 0, 0, 0⟩)
abbrev s_p_is_whole : Stmt := topS 8
theorem sc_p_is_whole : FnScope ["thing"] ["thing"] (defScope s_p_is_whole) := ⟨rfl, rfl, rfl, by decide +kernel, rfl, by decide +kernel, by decide +kernel⟩
abbrev s_p_in_reach : Stmt := topS 9
theorem sc_p_in_reach : FnScope ["thing"] ["thing"] (defScope s_p_in_reach) := ⟨rfl, rfl, rfl, by decide +kernel, rfl, by decide +kernel, by decide +kernel⟩
abbrev s_p_look_corner : Stmt := topS 11
theorem sc_p_look_corner : FnScope ["thing", "x", "y"] ["thing"] (defScope s_p_look_corner) := ⟨rfl, rfl, rfl, by decide +kernel, rfl, by decide +kernel, by decide +kernel⟩
abbrev s_p_side_ends : Stmt := topS 12
theorem sc_p_side_ends : FnScope ["corners"] ["corners"] (defScope s_p_side_ends) := ⟨rfl, rfl, rfl, by decide +kernel, rfl, by decide +kernel, by decide +kernel⟩
abbrev s_p_is_left : Stmt := topS 13
theorem sc_p_is_left : FnScope ["start", "end", "corner", "a", "b", "c", "d", "x", "y"] ["start", "end", "corner"] (defScope s_p_is_left) := ⟨rfl, rfl, rfl, by decide +kernel, rfl, by decide +kernel, by decide +kernel⟩
abbrev s_p_is_side : Stmt := topS 14
theorem sc_p_is_side : FnScope ["corners", "start", "end", "corner"] ["corners", "start", "end"] (defScope s_p_is_side) := ⟨rfl, rfl, rfl, by decide +kernel, rfl, by decide +kernel, by decide +kernel⟩
abbrev s_p_look_shape : Stmt := topS 15
theorem sc_p_look_shape : FnScope ["thing", "corners", "first", "corner", "start", "end"] ["thing"] (defScope s_p_look_shape) := ⟨rfl, rfl, rfl, by decide +kernel, rfl, by decide +kernel, by decide +kernel⟩
abbrev s_l_cell : Stmt := topS 17
theorem sc_l_cell : FnScope ["_law_script", "_law_k"] ["_law_script", "_law_k"] (defScope s_l_cell) := ⟨rfl, rfl, rfl, by decide +kernel, rfl, by decide +kernel, by decide +kernel⟩
abbrev s_l_mixed : Stmt := topS 18
theorem sc_l_mixed : FnScope ["_law_script", "_law_k", "_law_many", "_law_number"] ["_law_script", "_law_k", "_law_many"] (defScope s_l_mixed) := ⟨rfl, rfl, rfl, by decide +kernel, rfl, by decide +kernel, by decide +kernel⟩
abbrev s_l_deck : Stmt := topS 19
theorem sc_l_deck : FnScope ["_law_script", "_law_cell_here"] ["_law_script"] (defScope s_l_deck) := ⟨rfl, rfl, rfl, by decide +kernel, rfl, by decide +kernel, by decide +kernel⟩
abbrev s_l_take : Stmt := topS 20
theorem sc_l_take : FnScope ["_law_deck_here", "_law_many", "_law_cell_here"] ["_law_deck_here", "_law_many"] (defScope s_l_take) := ⟨rfl, rfl, rfl, by decide +kernel, rfl, by decide +kernel, by decide +kernel⟩
abbrev s_l_left : Stmt := topS 21
theorem sc_l_left : FnScope ["_law_a", "_law_b", "_law_c"] ["_law_a", "_law_b", "_law_c"] (defScope s_l_left) := ⟨rfl, rfl, rfl, by decide +kernel, rfl, by decide +kernel, by decide +kernel⟩
abbrev s_l_half : Stmt := topS 22
theorem sc_l_half : FnScope ["_law_points", "_law_found", "_law_point"] ["_law_points"] (defScope s_l_half) := ⟨rfl, rfl, rfl, by decide +kernel, rfl, by decide +kernel, by decide +kernel⟩
abbrev s_l_hull : Stmt := topS 23
theorem sc_l_hull : FnScope ["_law_points", "_law_rows", "_law_found"] ["_law_points"] (defScope s_l_hull) := ⟨rfl, rfl, rfl, by decide +kernel, rfl, by decide +kernel, by decide +kernel⟩
abbrev s_l_shape : Stmt := topS 24
theorem sc_l_shape : FnScope ["_law_deck_here", "_law_kind", "_law_span", "_law_wide", "_law_high", "_law_points", "_law_turn", "_law_k"] ["_law_deck_here"] (defScope s_l_shape) := ⟨rfl, rfl, rfl, by decide +kernel, rfl, by decide +kernel, by decide +kernel⟩
abbrev s_l_form : Stmt := topS 25
theorem sc_l_form : FnScope ["_law_thing_here", "_law_corner", "_law_number", "_law_corners", "_law_many", "_law_k", "_law_a", "_law_b", "_law_j", "_law_c"] ["_law_thing_here"] (defScope s_l_form) := ⟨rfl, rfl, rfl, by decide +kernel, rfl, by decide +kernel, by decide +kernel⟩
abbrev s_l_no_corner : Stmt := topS 26
theorem sc_l_no_corner : FnScope ["_law_deck_here", "_law_x", "_law_y", "_law_some"] ["_law_deck_here", "_law_x", "_law_y"] (defScope s_l_no_corner) := ⟨rfl, rfl, rfl, by decide +kernel, rfl, by decide +kernel, by decide +kernel⟩
abbrev s_l_other : Stmt := topS 27
theorem sc_l_other : FnScope ["_law_deck_here", "_law_shape_here", "_law_nine", "_law_some", "_law_k"] ["_law_deck_here", "_law_shape_here"] (defScope s_l_other) := ⟨rfl, rfl, rfl, by decide +kernel, rfl, by decide +kernel, by decide +kernel⟩
abbrev s_l_bent : Stmt := topS 28
theorem sc_l_bent : FnScope ["_law_deck_here", "_law_kind", "_law_handed", "_law_j", "_law_x", "_law_y", "_law_p", "_law_q"] ["_law_deck_here", "_law_kind", "_law_handed"] (defScope s_l_bent) := ⟨rfl, rfl, rfl, by decide +kernel, rfl, by decide +kernel, by decide +kernel⟩
abbrev s_l_thing : Stmt := topS 29
theorem sc_l_thing : FnScope ["_law_deck_here", "_law_kind", "_law_shape_here", "_law_at", "_law_handed", "_law_corner"] ["_law_deck_here"] (defScope s_l_thing) := ⟨rfl, rfl, rfl, by decide +kernel, rfl, by decide +kernel, by decide +kernel⟩
abbrev s_l_right : Stmt := topS 30
theorem sc_l_right : FnScope ["_law_thing_here", "_law_kept", "_law_due", "_law_found", "_law_refused", "e"] ["_law_thing_here"] (defScope s_l_right) := ⟨rfl, rfl, rfl, by decide +kernel, rfl, by decide +kernel, by decide +kernel⟩
abbrev s_law : Stmt := topS 31
theorem sc_law : FnScope ["_law_script", "_law_deck_here", "_law_turn"] ["_law_script"] (defScope s_law) := ⟨rfl, rfl, rfl, by decide +kernel, rfl, by decide +kernel, by decide +kernel⟩
/-! ### heaps -/
theorem upd_some {H : Hp} {p x : Addr} {o u : HO} (hp : H p = none) (h : H x = some u) : (upd H p o) x = some u := by
  rw [upd_ne (ne_of_none h hp)]
  exact h
theorem same_upd {H : Hp} {p : Addr} {o : HO} (h : H p = none) : Same H (upd H p o) := fun b x e => upd_some h e
theorem alloc {H G : Hp} {p : Addr} {o : HO} (e : upd H p o = G) (hp : H p = none) : Same H G ∧ G p = some o := by
  subst e
  exact ⟨same_upd hp, upd_same⟩
theorem Same.seqT {K : PySem.W.Frag} {H H' : Hp} {a : Addr} {xs : List V} (e : Same H H') (h : SqT K H a xs) : SqT K H' a xs := by
  rcases h with (h | ⟨o, h⟩) | h
  · exact .inl (.inl (e _ _ h))
  · exact .inl (.inr ⟨o, e _ _ h⟩)
  · exact .inr h
/-- all but what stands at d and b is as it was -/
def Kp (d b : Addr) (H H' : Hp) : Prop := ∀ x o, x ≠ d → x ≠ b → H x = some o → H' x = some o
theorem Kp.refl {d b : Addr} {H : Hp} : Kp d b H H := fun _ _ _ _ h => h
theorem Kp.trans {d b : Addr} {H H1 H2 : Hp} (u : Kp d b H H1) (v : Kp d b H1 H2) : Kp d b H H2 := fun x o h1 h2 h => v x o h1 h2 (u x o h1 h2 h)
theorem Kp.same {d b : Addr} {H H' : Hp} (s : Same H H') : Kp d b H H' := fun x o _ _ h => s x o h
theorem Kp.free {d b : Addr} {H H' : Hp} (u : Kp d b H H') {x : Addr} (hd : H d ≠ none) (hb : H b ≠ none) (h : H' x = none) (h1 : H' d ≠ none) (h2 : H' b ≠ none) : H x = none := by
  cases e : H x with
  | none => rfl
  | some o =>
    by_cases e1 : x = d
    · subst e1; exact absurd h h1
    by_cases e2 : x = b
    · subst e2; exact absurd h h2
    rw [u x o e1 e2 e] at h
    cases h
/-- the law's script -/
def Sc (K : PySem.W.Frag) (H : Hp) (s : Addr) (ns : List Int) : Prop := (∃ o, H s = some (.frz o (.lst (ns.map V.int)))) ∨ ∀ H', SqL K H' s (ns.map V.int)
theorem Sc.seq {K : PySem.W.Frag} {H : Hp} {s : Addr} {ns : List Int} (h : Sc K H s ns) : SqL K H s (ns.map V.int) := by
  rcases h with ⟨o, h⟩ | h
  · exact .inl (.inr ⟨o, h⟩)
  · exact h H
theorem Sc.mk {K : PySem.W.Frag} {H : Hp} {s : Addr} {ns : List Int} (hO : Only H) (h : SqL K H s (ns.map V.int)) : Sc K H s ns := by
  rcases h with (h | ⟨o, h⟩) | h
  · rcases hO s with e | ⟨o, xs, e⟩
    · rw [e] at h; cases h
    · rw [e] at h; cases h
  · exact .inl ⟨o, h⟩
  · exact .inr fun H' => .inr h
theorem Sc.upd {K : PySem.W.Frag} {H : Hp} {s b : Addr} {ns : List Int} {u : HO} (h : Sc K H s ns) (hb : H b = none ∨ ∃ xs, H b = some (.lst xs)) : Sc K (upd H b u) s ns := by
  rcases h with ⟨o, h⟩ | h
  · refine .inl ⟨o, ?_⟩
    have n : s ≠ b := fun e => by
      subst e
      rcases hb with e | ⟨xs, e⟩ <;> rw [e] at h <;> cases h
    rw [upd_ne n]
    exact h
  · exact .inr h
theorem Sc.keep {K : PySem.W.Frag} {H H' : Hp} {s : Addr} {ns : List Int} (h : Sc K H s ns) (k : Same H H') : Sc K H' s ns := by
  rcases h with ⟨o, h⟩ | h
  · exact .inl ⟨o, k _ _ h⟩
  · exact .inr h
/-- the deck at d, its cells at b, drawn at most c times -/
structure Deck (K : PySem.W.Frag) (H : Hp) (d b : Addr) (c : Int) : Prop where
  ex : ∃ (s : Addr) (ns cs : List Int) (i k : Int), H d = some (.lst [.ref s, .ref b, .int i, .int k]) ∧ H b = some (.lst (cs.map V.int)) ∧ Sc K H s ns ∧ 0 ≤ i ∧ 0 ≤ k ∧ k ≤ c
  ne : b ≠ d
theorem Deck.keep {K : PySem.W.Frag} {H H' : Hp} {d b : Addr} {c : Int} (D : Deck K H d b c) (k : Same H H') : Deck K H' d b c := by
  obtain ⟨⟨s, ns, cs, i, j, h1, h2, h3, h4⟩, n⟩ := D
  exact ⟨⟨s, ns, cs, i, j, k _ _ h1, k _ _ h2, h3.keep k, h4⟩, n⟩
theorem Deck.le {K : PySem.W.Frag} {H : Hp} {d b : Addr} {c c' : Int} (D : Deck K H d b c) (h : c ≤ c') : Deck K H d b c' := by
  obtain ⟨⟨s, ns, cs, i, j, h1, h2, h3, h4, h5, h6⟩, n⟩ := D
  exact ⟨⟨s, ns, cs, i, j, h1, h2, h3, h4, h5, by omega⟩, n⟩
/-- an object beside the deck stands -/
theorem Deck.tup {K : PySem.W.Frag} {H H' : Hp} {d b x : Addr} {c : Int} {xs : List V} (D : Deck K H d b c) (k : Kp d b H H') (h : H x = some (.tup xs)) : H' x = some (.tup xs) := by
  obtain ⟨⟨s, ns, cs, i, j, h1, h2, _⟩, n⟩ := D
  exact k x _ (fun e => by rw [e, h1] at h; cases h) (fun e => by rw [e, h2] at h; cases h) h
theorem Deck.seqT {K : PySem.W.Frag} {H H' : Hp} {d b x : Addr} {c : Int} {xs : List V} (D : Deck K H d b c) (k : Kp d b H H') (h : SqT K H x xs) : SqT K H' x xs := by
  obtain ⟨⟨s, ns, cs, i, j, h1, h2, _⟩, n⟩ := D
  rcases h with (h | ⟨o, h⟩) | h
  · exact .inl (.inl (k x _ (fun e => by rw [e, h1] at h; cases h) (fun e => by rw [e, h2] at h; cases h) h))
  · exact .inl (.inr ⟨o, k x _ (fun e => by rw [e, h1] at h; cases h) (fun e => by rw [e, h2] at h; cases h) h⟩)
  · exact .inr h
theorem Deck.hd {K : PySem.W.Frag} {H : Hp} {d b : Addr} {c : Int} (D : Deck K H d b c) : H d ≠ none := by
  obtain ⟨⟨s, ns, cs, i, j, h1, _⟩, n⟩ := D
  rw [h1]; exact fun e => nomatch e
theorem Deck.hb {K : PySem.W.Frag} {H : Hp} {d b : Addr} {c : Int} (D : Deck K H d b c) : H b ≠ none := by
  obtain ⟨⟨s, ns, cs, i, j, _, h1, _⟩, n⟩ := D
  rw [h1]; exact fun e => nomatch e
theorem Deck.free {K : PySem.W.Frag} {H H' : Hp} {d b x : Addr} {c c' : Int} (D : Deck K H d b c) (D' : Deck K H' d b c') (k : Kp d b H H') (h : H' x = none) : H x = none := k.free D.hd D.hb h D'.hd D'.hb
theorem Deck.ne_d {K : PySem.W.Frag} {H : Hp} {d b x : Addr} {c : Int} (D : Deck K H d b c) (h : H x = none) : x ≠ d := fun e => D.hd (e ▸ h)
theorem Deck.ne_b {K : PySem.W.Frag} {H : Hp} {d b x : Addr} {c : Int} (D : Deck K H d b c) (h : H x = none) : x ≠ b := fun e => D.hb (e ▸ h)
/-! ### numbers -/
theorem log2_lt {n k : Nat} (h : n < 2 ^ k) (h0 : 0 < k) : n.log2 < k := PySem.Flt.log2_lt_of h0 h
theorem size63 {n : Nat} (h : n ≤ 1000) : n ≤ sizeLine := Nat.le_of_lt (small1000 h)
theorem abs_nn (i : Int) : 0 ≤ (if i < 0 then -i else i) := by
  split <;> omega
theorem abs_nat (i : Int) : (if i < 0 then -i else i) = (i.natAbs : Int) := by
  split <;> omega
/-! ### the facts of the text -/
structure Ad where
  f_p_is_whole : Addr
  fd_p_is_whole : FuncData
  f_p_in_reach : Addr
  fd_p_in_reach : FuncData
  f_p_look_corner : Addr
  fd_p_look_corner : FuncData
  f_p_side_ends : Addr
  fd_p_side_ends : FuncData
  f_p_is_left : Addr
  fd_p_is_left : FuncData
  f_p_is_side : Addr
  fd_p_is_side : FuncData
  f_p_look_shape : Addr
  fd_p_look_shape : FuncData
  f_l_cell : Addr
  fd_l_cell : FuncData
  f_l_mixed : Addr
  fd_l_mixed : FuncData
  f_l_deck : Addr
  fd_l_deck : FuncData
  f_l_take : Addr
  fd_l_take : FuncData
  f_l_left : Addr
  fd_l_left : FuncData
  f_l_half : Addr
  fd_l_half : FuncData
  f_l_hull : Addr
  fd_l_hull : FuncData
  f_l_shape : Addr
  fd_l_shape : FuncData
  f_l_form : Addr
  fd_l_form : FuncData
  f_l_no_corner : Addr
  fd_l_no_corner : FuncData
  f_l_other : Addr
  fd_l_other : FuncData
  f_l_bent : Addr
  fd_l_bent : FuncData
  f_l_thing : Addr
  fd_l_thing : FuncData
  f_l_right : Addr
  fd_l_right : FuncData
  f_law : Addr
  fd_law : FuncData
  c_BodyError : Addr
  c_NoShare : Addr
  c_BadShape : Addr
  c_BadRow : Addr
  k_CORNERS : Tok
  k_REACH : Tok
structure Tx (K : PySem.W.Frag) (mg : Str → Option Value) (A : Ad) : Prop where
  F_p_is_whole : Fun K "is_whole" "is_whole" s_p_is_whole A.f_p_is_whole A.fd_p_is_whole
  b_p_is_whole : Binds K A.fd_p_is_whole ["thing"] []
  g_p_is_whole : mg "is_whole" = some (.ref A.f_p_is_whole)
  F_p_in_reach : Fun K "in_reach" "in_reach" s_p_in_reach A.f_p_in_reach A.fd_p_in_reach
  b_p_in_reach : Binds K A.fd_p_in_reach ["thing"] []
  g_p_in_reach : mg "in_reach" = some (.ref A.f_p_in_reach)
  F_p_look_corner : Fun K "look_corner" "look_corner" s_p_look_corner A.f_p_look_corner A.fd_p_look_corner
  b_p_look_corner : Binds K A.fd_p_look_corner ["thing"] []
  g_p_look_corner : mg "look_corner" = some (.ref A.f_p_look_corner)
  F_p_side_ends : Fun K "side_ends" "side_ends" s_p_side_ends A.f_p_side_ends A.fd_p_side_ends
  b_p_side_ends : Binds K A.fd_p_side_ends ["corners"] []
  g_p_side_ends : mg "side_ends" = some (.ref A.f_p_side_ends)
  F_p_is_left : Fun K "is_left" "is_left" s_p_is_left A.f_p_is_left A.fd_p_is_left
  b_p_is_left : Binds K A.fd_p_is_left ["start", "end", "corner"] []
  g_p_is_left : mg "is_left" = some (.ref A.f_p_is_left)
  F_p_is_side : Fun K "is_side" "is_side" s_p_is_side A.f_p_is_side A.fd_p_is_side
  b_p_is_side : Binds K A.fd_p_is_side ["corners", "start", "end"] []
  g_p_is_side : mg "is_side" = some (.ref A.f_p_is_side)
  F_p_look_shape : Fun K "look_shape" "look_shape" s_p_look_shape A.f_p_look_shape A.fd_p_look_shape
  b_p_look_shape : Binds K A.fd_p_look_shape ["thing"] []
  g_p_look_shape : mg "look_shape" = some (.ref A.f_p_look_shape)
  F_l_cell : Fun K "_law_cell" "_law_cell" s_l_cell A.f_l_cell A.fd_l_cell
  b_l_cell : Binds K A.fd_l_cell ["_law_script", "_law_k"] []
  g_l_cell : mg "_law_cell" = some (.ref A.f_l_cell)
  F_l_mixed : Fun K "_law_mixed" "_law_mixed" s_l_mixed A.f_l_mixed A.fd_l_mixed
  b_l_mixed : Binds K A.fd_l_mixed ["_law_script", "_law_k", "_law_many"] []
  g_l_mixed : mg "_law_mixed" = some (.ref A.f_l_mixed)
  F_l_deck : Fun K "_law_deck" "_law_deck" s_l_deck A.f_l_deck A.fd_l_deck
  b_l_deck : Binds K A.fd_l_deck ["_law_script"] []
  g_l_deck : mg "_law_deck" = some (.ref A.f_l_deck)
  F_l_take : Fun K "_law_take" "_law_take" s_l_take A.f_l_take A.fd_l_take
  b_l_take : Binds K A.fd_l_take ["_law_deck_here", "_law_many"] []
  g_l_take : mg "_law_take" = some (.ref A.f_l_take)
  F_l_left : Fun K "_law_left" "_law_left" s_l_left A.f_l_left A.fd_l_left
  b_l_left : Binds K A.fd_l_left ["_law_a", "_law_b", "_law_c"] []
  g_l_left : mg "_law_left" = some (.ref A.f_l_left)
  F_l_half : Fun K "_law_half" "_law_half" s_l_half A.f_l_half A.fd_l_half
  b_l_half : Binds K A.fd_l_half ["_law_points"] []
  g_l_half : mg "_law_half" = some (.ref A.f_l_half)
  F_l_hull : Fun K "_law_hull" "_law_hull" s_l_hull A.f_l_hull A.fd_l_hull
  b_l_hull : Binds K A.fd_l_hull ["_law_points"] []
  g_l_hull : mg "_law_hull" = some (.ref A.f_l_hull)
  F_l_shape : Fun K "_law_shape" "_law_shape" s_l_shape A.f_l_shape A.fd_l_shape
  b_l_shape : Binds K A.fd_l_shape ["_law_deck_here"] []
  g_l_shape : mg "_law_shape" = some (.ref A.f_l_shape)
  F_l_form : Fun K "_law_form" "_law_form" s_l_form A.f_l_form A.fd_l_form
  b_l_form : Binds K A.fd_l_form ["_law_thing_here"] []
  g_l_form : mg "_law_form" = some (.ref A.f_l_form)
  F_l_no_corner : Fun K "_law_no_corner" "_law_no_corner" s_l_no_corner A.f_l_no_corner A.fd_l_no_corner
  b_l_no_corner : Binds K A.fd_l_no_corner ["_law_deck_here", "_law_x", "_law_y"] []
  g_l_no_corner : mg "_law_no_corner" = some (.ref A.f_l_no_corner)
  F_l_other : Fun K "_law_other" "_law_other" s_l_other A.f_l_other A.fd_l_other
  b_l_other : Binds K A.fd_l_other ["_law_deck_here", "_law_shape_here"] []
  g_l_other : mg "_law_other" = some (.ref A.f_l_other)
  F_l_bent : Fun K "_law_bent" "_law_bent" s_l_bent A.f_l_bent A.fd_l_bent
  b_l_bent : Binds K A.fd_l_bent ["_law_deck_here", "_law_kind", "_law_handed"] []
  g_l_bent : mg "_law_bent" = some (.ref A.f_l_bent)
  F_l_thing : Fun K "_law_thing" "_law_thing" s_l_thing A.f_l_thing A.fd_l_thing
  b_l_thing : Binds K A.fd_l_thing ["_law_deck_here"] []
  g_l_thing : mg "_law_thing" = some (.ref A.f_l_thing)
  F_l_right : Fun K "_law_right" "_law_right" s_l_right A.f_l_right A.fd_l_right
  b_l_right : Binds K A.fd_l_right ["_law_thing_here"] []
  g_l_right : mg "_law_right" = some (.ref A.f_l_right)
  F_law : Fun K "law" "law" s_law A.f_law A.fd_law
  b_law : Binds K A.fd_law ["_law_script"] []
  g_law : mg "law" = some (.ref A.f_law)
  m_ValueError : mg "ValueError" = none
  m_abs : mg "abs" = none
  m_all : mg "all" = none
  m_bool : mg "bool" = none
  m_dict : mg "dict" = none
  m_enumerate : mg "enumerate" = none
  m_int : mg "int" = none
  m_isinstance : mg "isinstance" = none
  m_len : mg "len" = none
  m_list : mg "list" = none
  m_min : mg "min" = none
  m_range : mg "range" = none
  m_repr : mg "repr" = none
  m_sorted : mg "sorted" = none
  m_tuple : mg "tuple" = none
  m_zip : mg "zip" = none
  g_CORNERS : mg "CORNERS" = some (.int 8 A.k_CORNERS)
  g_REACH : mg "REACH" = some (.int 1000000 A.k_REACH)
  g_BodyError : mg "BodyError" = some (.ref A.c_BodyError)
  g_NoShare : mg "NoShare" = some (.ref A.c_NoShare)
  g_BadShape : mg "BadShape" = some (.ref A.c_BadShape)
  g_BadRow : mg "BadRow" = some (.ref A.c_BadRow)
  x_BadShape : PySem.W.excIn K A.c_BadShape [.type "ValueError", .type "Exception", .type "BaseException", .type "object"] "ValueError.__new__" = true
  k_BadShape : PySem.W.keepIn K (.ref A.c_BadShape) = true
  b_BadShape : PySem.W.subIn K (.ref A.c_BadShape) (.type "BaseException") = some true
  t_BadShape : PySem.W.typeIn K (.ref A.c_BadShape) = some (.type "type")
  e_BadShape : PySem.W.exmOne K (.ref A.c_BadShape) (.ref A.c_BadShape) = some true
  E_BadShape : ExcC K A.c_BadShape
  i_BadShape_BodyError : PySem.W.kitOne K (.ref A.c_BadShape) (.ref A.c_BodyError) = some true
  i_BadShape_ValueError : PySem.W.kitOne K (.ref A.c_BadShape) (.type "ValueError") = some true
  i_BadShape_BadRow : PySem.W.kitOne K (.ref A.c_BadShape) (.ref A.c_BadRow) = some false
  i_BadShape_NoShare : PySem.W.kitOne K (.ref A.c_BadShape) (.ref A.c_NoShare) = some false
section
variable {P : Program} {w : World} {K : PySem.W.Frag} {mg : Str → Option Value} {base : Heap} {A : Ad}
theorem ixN_nat {n j : Nat} (h : j < n) : ixN n (j : Int) = some j := by
  unfold ixN
  rw [if_pos (by omega), if_pos (by omega)]
  rfl
theorem ty_tup {H : Hp} {a : Addr} {xs : List V} (h : SqT K H a xs) : TyX K H (.ref a) (.type "tuple") := by
  rcases h with (h | ⟨o, h⟩) | ⟨o, its, n, h, hc, _⟩
  · exact .base (.tup h)
  · exact .fTuple h
  · exact .kTuple h hc

/-! ### a cell of the script -/
def sp_l_cell (K : PySem.W.Frag) : Sp := fun vs H Q _ => ∃ (s : Addr) (ns : List Int) (k : Int), vs = [.ref s, .int k] ∧ SqL K H s (ns.map V.int) ∧ 0 ≤ k ∧ k ≤ 1000000 ∧ ∀ r, 0 ≤ r → Q (.int r) H
theorem ok_l_cell (T : Tx K mg A) : FnOk P w K mg base CX0 1 A.f_l_cell A.fd_l_cell ["_law_script", "_law_k"] (sp_l_cell K) := by
  refine T.F_l_cell.ok sc_l_cell (fun vs H Q E h => ?_) (fun cdv Ar outer s H vs Q E hr h => ?_)
  · obtain ⟨s, ns, k, rfl, _⟩ := h
    rfl
  · obtain ⟨s, ns, k, rfl, hS, h0, h1, q⟩ := h
    refine ⟨_, (pss_cons (ps_if (pt_cmpR op_eq (pe_callB call_len_seq (by rfl) T.m_len (by decide +kernel) (pa_cons (pv 0) pa_nil)) pe_int (nomark _))
      (pss_one (ps_ret (pe_op op_add (pe_op op_mul pe_int (pv 1)) pe_int)))
      pss_nil)
    (pss_one (ps_ret (pe_callB call_abs (by rfl) T.m_abs (by decide +kernel) (pa_cons (pe_ix ix_list (pv 0) (pe_op op_mod (pv 1) (pe_callB call_len_seq (by rfl) T.m_len (by decide +kernel) (pa_cons (pv 0) pa_nil))) (fun _ _ => rfl)) pa_nil))))), ?_⟩
    refine ⟨.ref s, rfl, s, ns.map V.int, rfl, .inl hS, rfl, _, rfl, ite2 (fun e => ?_) (fun e => ?_)⟩
    · exact ⟨_, rfl, 7, k, rfl, rfl, .inl (by decide), _, _, rfl, rfl, q _ (by omega)⟩
    · have hl : ns.length ≠ 0 := fun z => e (decide_eq_true (by rw [List.length_map, z]; rfl))
      have hp : (0 : Int) < ((ns.map V.int).length : Int) := by
        rw [List.length_map]
        omega
      have hm0 : 0 ≤ k % ((ns.map V.int).length : Int) := Int.emod_nonneg _ (by omega)
      have hm1 : k % ((ns.map V.int).length : Int) < ((ns.map V.int).length : Int) := Int.emod_lt_of_pos _ hp
      obtain ⟨j, hj⟩ : ∃ j : Nat, (j : Int) = k % ((ns.map V.int).length : Int) := ⟨_, Int.toNat_of_nonneg hm0⟩
      have hj2 : j < ns.length := by
        rw [List.length_map] at hj hm1
        omega
      have ha : atI (ns.map V.int) (k % ((ns.map V.int).length : Int)) = some (.int ns[j]) := by
        rw [← hj]
        exact atI_nat (by rw [List.getElem?_map, List.getElem?_eq_getElem hj2]; rfl)
      exact ⟨_, rfl, _, rfl, _, rfl, s, _, rfl, .inl hS, k, _, rfl, rfl, hp, s, _, _, _, rfl, rfl, hS, ha, _, rfl, q _ (abs_nn _)⟩
/-! ### a mixed number -/
def sp_l_mixed (K : PySem.W.Frag) : Sp := fun vs H Q _ => ∃ (s : Addr) (ns : List Int) (k m : Int), vs = [.ref s, .int k, .int m] ∧ SqL K H s (ns.map V.int) ∧ 0 ≤ k ∧ k ≤ 1000000 ∧ 0 < m ∧ ∀ r, 0 ≤ r → r < m → Q (.int r) H
theorem mixed_bound {r k : Int} (h0 : 0 ≤ r) (h1 : r < 1000003) (k0 : 0 ≤ k) (k1 : k ≤ 1000000) : ((r + 5) * (k + 2) + 7919 * k).natAbs < 2 ^ 64 := by
  have e1 : (r + 5) * (k + 2) ≤ 1000008 * 1000002 := Int.mul_le_mul (by omega) (by omega) (by omega) (by omega)
  have e0 : 0 ≤ (r + 5) * (k + 2) := Int.mul_nonneg (by omega) (by omega)
  omega
theorem ok_l_mixed (T : Tx K mg A) : FnOk P w K mg base CX0 2 A.f_l_mixed A.fd_l_mixed ["_law_script", "_law_k", "_law_many"] (sp_l_mixed K) := by
  refine T.F_l_mixed.ok sc_l_mixed (fun vs H Q E h => ?_) (fun cdv Ar outer s H vs Q E hr h => ?_)
  · obtain ⟨s, ns, k, m, rfl, _⟩ := h
    rfl
  · obtain ⟨s, ns, k, m, rfl, hS, h0, h1, hm, q⟩ := h
    refine ⟨_, (pss_cons (ps_set (i := 3) sc_l_mixed.nd rfl (.inl rfl) (pe_op op_mod (pe_op op_pow (pe_op op_add (pe_op op_mul (pe_op op_add (pe_op op_mod (pe_call (ok_l_cell T) (hr.mono (by decide)) (by rfl) T.g_l_cell T.F_l_cell.kp T.b_l_cell .nil pass0 (pa_cons (pv 0) (pa_cons (pv 1) pa_nil))) pe_int) pe_int) (pe_op op_add (pv 1) pe_int)) (pe_op op_mul pe_int (pv 1))) pe_int) pe_int))
    (pss_one (ps_ret (pe_op op_mod (pe_op op_fdivW (pv 3) pe_int) (pv 2))))), ?_⟩
    refine ⟨_, rfl, _, rfl, s, ns, k, rfl, hS, h0, h1, fun r hr0 => ?_⟩
    have c0 : 0 ≤ r % 1000003 := Int.emod_nonneg _ (by decide)
    have c1 : r % 1000003 < 1000003 := Int.emod_lt_of_pos _ (by decide)
    refine ⟨r, 1000003, rfl, rfl, (show (0 : Int) < 1000003 by decide), _, _, rfl, rfl, _, rfl, _, _, rfl, rfl, _, _, rfl, rfl, ?_, _, rfl, _, _, rfl, rfl, .inl (by decide), _, _, rfl, rfl, _, _, rfl, rfl, ⟨by decide, by decide, ?_⟩, _, _, rfl, rfl, (show (0 : Int) < 2147483647 by decide), ?_⟩
    · exact .inl ⟨by omega, by omega⟩
    · exact mixed_bound c0 c1 h0 h1
    · refine ⟨_, rfl, _, _, rfl, rfl, ⟨by decide, by decide⟩, _, rfl, _, _, rfl, rfl, hm, ?_⟩
      exact q _ (Int.emod_nonneg _ (by omega)) (Int.emod_lt_of_pos _ hm)
/-! ### the deck is made -/
def sp_l_deck (K : PySem.W.Frag) : Sp := fun vs H Q _ => ∃ (s : Addr) (ns : List Int), vs = [.ref s] ∧ Sc K H s ns ∧ ns.length ≤ 63 ∧ ∀ H' d b, H d = none → H b = none → Deck K H' d b 0 → Same H H' → Q (.ref d) H'
theorem ok_l_deck (T : Tx K mg A) : FnOk P w K mg base CX0 1 A.f_l_deck A.fd_l_deck ["_law_script"] (sp_l_deck K) := by
  refine T.F_l_deck.ok sc_l_deck (fun vs H Q E h => ?_) (fun cdv Ar outer s H vs Q E hr h => ?_)
  · obtain ⟨s, ns, rfl, _⟩ := h
    rfl
  · obtain ⟨s, ns, rfl, hS, hlen, q⟩ := h
    refine ⟨_, (pss_one (ps_ret (pe_lst (pa_cons (pv 0) (pa_cons (pe_lc (own := [("_law_cell_here", 1)]) rfl sc_l_deck.nd (pi_list (pv 0)) (blkOk_by (own := [("_law_cell_here", 1)]) (N := ["_law_script", "_law_cell_here"]) (sc := defScope s_l_deck) (by decide +kernel)) (fun _ _ _ _ _ => (pg_name (i := 1) sc_l_deck.nd rfl (Or.inl rfl))) (fun _ _ _ _ _ => (pts_one (pt_cmpR op_ge (pe_callB call_abs (by rfl) T.m_abs (by decide +kernel) (pa_cons (pv 1) pa_nil)) (pe_op op_pow pe_int pe_int) (nomark _)))) (fun _ _ _ _ _ => (pe_callB call_abs (by rfl) T.m_abs (by decide +kernel) (pa_cons (pv 1) pa_nil)))) (pa_cons pe_int (pa_cons pe_int pa_nil))))))), ?_⟩
    refine ⟨_, rfl, _, rfl, s, rfl, ⟨_, hS.seq⟩, fun D hD => lc_list (K := K) (a := s) (xs := ns.map V.int) (fun i H' => ∃ cs : List Int, Same H H' ∧ Sc K H' s ns ∧ H' D = some (.lst (cs.map V.int)) ∧ cs.length ≤ i) ?_ ?_ ?_ ?_⟩
    · exact ⟨[], same_upd hD, hS.upd (.inl hD), upd_same, Nat.le_refl _⟩
    · rintro i H' _ ⟨cs, _, h, _⟩
      exact h.seq
    · rintro i x H' hx ⟨cs, sm, hs, hd, hc⟩
      obtain ⟨n, rfl⟩ : ∃ n : Int, x = .int n := by
        rw [List.getElem?_map] at hx
        cases e : ns[i]? with
        | none => rw [e] at hx; cases hx
        | some n => rw [e] at hx; exact ⟨n, (Option.some.inj hx).symm⟩
      have hi : i < ns.length := by
        have := (List.getElem?_eq_some_iff.mp hx).1
        rw [List.length_map] at this
        exact this
      refine ⟨rfl, _, rfl, n, rfl, 10, 18, rfl, rfl, ⟨by decide, by decide, by decide⟩, _, _, rfl, rfl, _, rfl, ite2 (fun e => ?_) (fun e => ?_)⟩
      · refine ⟨_, rfl, n, rfl, cs.map V.int, hd, small1000 (by rw [List.length_map]; omega), cs ++ [(if n < 0 then -n else n)], ?_, ?_, ?_, ?_⟩
        · exact fun x o h => by
            rw [upd_ne (ne_of_none h hD)]
            exact sm _ _ h
        · exact hs.upd (.inr ⟨_, hd⟩)
        · rw [upd_same, List.map_append]
          rfl
        · rw [List.length_append]
          exact Nat.succ_le_succ hc
      · exact ⟨cs, sm, hs, hd, Nat.le_succ_of_le hc⟩
    · rintro H' ⟨cs, sm, hs, hd, hc⟩
      refine ⟨size63 (show 4 ≤ 1000 by decide), fun d hn => ?_⟩
      have ne : D ≠ d := ne_of_none hd hn
      refine q _ d D (sm.free hn) hD ⟨⟨s, ns, cs, 0, 0, upd_same, ?_, hs.upd (.inl hn), by omega, by omega, by omega⟩, ne⟩ (sm.trans (same_upd hn))
      rw [upd_ne ne]
      exact hd
/-! ### a number is taken -/
def sp_l_take (K : PySem.W.Frag) : Sp := fun vs H Q _ => ∃ (d b : Addr) (c m : Int), vs = [.ref d, .int m] ∧ Deck K H d b c ∧ c < 1000000 ∧ 0 < m ∧ m.natAbs.log2 < 9000 ∧ ∀ H' r, Deck K H' d b (c + 1) → Kp d b H H' → 0 ≤ r → r < m → Q (.int r) H'
theorem ok0_l_take (T : Tx K mg A) : FnOk P w K mg base CX0 3 A.f_l_take A.fd_l_take ["_law_deck_here", "_law_many"] (sp_l_take K) := by
  refine T.F_l_take.ok sc_l_take (fun vs H Q E h => ?_) (fun cdv Ar outer s H vs Q E hr h => ?_)
  · obtain ⟨d, b, c, m, rfl, _⟩ := h
    rfl
  · obtain ⟨d, b, c, m, rfl, ⟨⟨s, ns, cs, i0, k, hd, hb, hS, hi0, hk0, hk1⟩, ne⟩, hc, hm, hm2, q⟩ := h
    refine ⟨_, (pss_cons (ps_while PassesOwn.never (pt_cmpR op_lt (pe_ix ix_list (pv 0) pe_int (fun _ _ => rfl)) (pe_callB call_len_seq (by rfl) T.m_len (by decide +kernel) (pa_cons (pe_ix ix_list (pv 0) pe_int (fun _ _ => rfl)) pa_nil)) (nomark _))
      (pss_cons (ps_set (i := 2) sc_l_take.nd rfl (.inl rfl) (pe_ix ix_list (pe_ix ix_list (pv 0) pe_int (fun _ _ => rfl)) (pe_ix ix_list (pv 0) pe_int (fun _ _ => rfl)) (fun _ _ => rfl)))
    (pss_cons (ps_if (pt_cmpR op_gt (pv 2) pe_int (nomark _))
      (pss_cons (ps_asg (pe_op op_fdivW (pv 2) (pv 1)) (pg_sub (pe_ix ix_list (pv 0) pe_int (fun _ _ => rfl)) (pe_ix ix_list (pv 0) pe_int (fun _ _ => rfl)) set_list))
    (pss_one (ps_ret (pe_op op_mod (pv 2) (pv 1)))))
      pss_nil)
    (pss_one (ps_asg (pe_op op_add (pe_ix ix_list (pv 0) pe_int (fun _ _ => rfl)) pe_int) (pg_sub (pv 0) pe_int set_list))))))
    (pss_cons (ps_asg (pe_op op_add (pe_ix ix_list (pv 0) pe_int (fun _ _ => rfl)) pe_int) (pg_sub (pv 0) pe_int set_list))
    (pss_one (ps_ret (pe_call (ok_l_mixed T) (hr.mono (by decide)) (by rfl) T.g_l_mixed T.F_l_mixed.kp T.b_l_mixed .nil pass0 (pa_cons (pe_ix ix_list (pv 0) pe_int (fun _ _ => rfl)) (pa_cons (pe_ix ix_list (pv 0) pe_int (fun _ _ => rfl)) (pa_cons (pv 1) pa_nil)))))))), ?_⟩
    refine ⟨fun n σ H' => ∃ (y : Option V) (i : Int), σ = [some (.ref d), some (.int m), y] ∧ 0 ≤ i ∧ n = cs.length - i.toNat ∧ H' d = some (.lst [.ref s, .ref b, .int i, .int k]) ∧ H' b = some (.lst (cs.map V.int)) ∧ Sc K H' s ns ∧ Kp d b H H', ⟨_, none, i0, rfl, hi0, rfl, hd, hb, hS, Kp.refl⟩, fun n σ H' hW => ?_⟩
    obtain ⟨y, i, rfl, hi, hn, hd', hb', hS', kp⟩ := hW
    refine ⟨_, rfl, d, _, 2, .int i, rfl, rfl, SqL.of hd', rfl, _, rfl, d, _, 1, .ref b, rfl, rfl, SqL.of hd', rfl, b, _, rfl, .inl (SqL.of hb'), i, _, rfl, rfl, _, rfl, ite2 (fun e => ?_) (fun e => ?_)⟩
    · -- a turn
      have hlt : i < ((cs.map V.int).length : Int) := of_decide_eq_true e
      rw [List.length_map] at hlt
      obtain ⟨j, rfl⟩ : ∃ j : Nat, i = (j : Int) := ⟨_, (Int.toNat_of_nonneg hi).symm⟩
      have hj : j < cs.length := by omega
      have ha : atI (cs.map V.int) (j : Int) = some (.int cs[j]) := atI_nat (by rw [List.getElem?_map, List.getElem?_eq_getElem hj]; rfl)
      refine ⟨fun σ' H'' => ∃ (y : Option V), σ' = [some (.ref d), some (.int m), y] ∧ H'' d = some (.lst [.ref s, .ref b, .int ((j : Int) + 1), .int k]) ∧ H'' b = some (.lst (cs.map V.int)) ∧ Sc K H'' s ns ∧ Kp d b H H'', ?_, ?_⟩
      · rintro σ' H'' ⟨y, e1, e2, e3, e4, e5⟩
        exact ⟨cs.length - ((j : Int) + 1).toNat, by omega, y, _, e1, by omega, rfl, e2, e3, e4, e5⟩
      · refine ⟨_, rfl, d, _, 1, .ref b, rfl, rfl, SqL.of hd', rfl, _, rfl, d, _, 2, .int (j : Int), rfl, rfl, SqL.of hd', rfl, b, _, (j : Int), .int cs[j], rfl, rfl, SqL.of hb', ha, ?_⟩
        refine ⟨_, rfl, cs[j], 0, rfl, rfl, _, rfl, ite2 (fun e2 => ?_) (fun e2 => ?_)⟩
        · -- the cell is drawn from
          refine ⟨_, rfl, _, rfl, cs[j], m, rfl, rfl, ⟨hm, hm2⟩, _, rfl, d, _, 1, .ref b, rfl, rfl, SqL.of hd', rfl, _, rfl, d, _, 2, .int (j : Int), rfl, rfl, SqL.of hd', rfl, b, _, (j : Int), j, rfl, rfl, hb', ?_, ?_⟩
          · exact ixN_nat (by rw [List.length_map]; exact hj)
          · refine ⟨_, rfl, _, rfl, cs[j], m, rfl, rfl, hm, ?_⟩
            refine q _ _ ⟨⟨s, ns, cs.set j (cs[j] / m), (j : Int), k, ?_, ?_, hS'.upd (.inr ⟨_, hb'⟩), by omega, hk0, by omega⟩, ne⟩ ?_ (Int.emod_nonneg _ (by omega)) (Int.emod_lt_of_pos _ hm)
            · rw [upd_ne (Ne.symm ne)]
              exact hd'
            · rw [upd_same, List.map_set]
            · intro x o h1 h2 h
              rw [upd_ne h2]
              exact kp x o h1 h2 h
        · -- the next cell
          refine ⟨_, rfl, d, _, 2, .int (j : Int), rfl, rfl, SqL.of hd', rfl, _, _, rfl, rfl, _, rfl, d, _, 2, 2, rfl, rfl, hd', rfl, ?_⟩
          refine ⟨_, rfl, ?_, ?_, hS'.upd (.inr ⟨_, hd'⟩), ?_⟩
          · rw [upd_same]; rfl
          · rw [upd_ne ne]; exact hb'
          · intro x o h1 h2 h
            rw [upd_ne h1]
            exact kp x o h1 h2 h
    · -- no cell is left
      refine ⟨_, rfl, d, _, 3, .int k, rfl, rfl, SqL.of hd', rfl, _, _, rfl, rfl, _, rfl, d, _, 3, 3, rfl, rfl, hd', rfl, ?_⟩
      have hd2 : (upd H' d (.lst ([V.ref s, V.ref b, V.int i, V.int k].set 3 (V.int (k + 1))))) d = some (.lst [.ref s, .ref b, .int i, .int (k + 1)]) := upd_same
      have hS2 : Sc K (upd H' d (.lst ([V.ref s, V.ref b, V.int i, V.int k].set 3 (V.int (k + 1))))) s ns := hS'.upd (.inr ⟨_, hd'⟩)
      refine ⟨_, rfl, d, _, 0, .ref s, rfl, rfl, SqL.of hd2, rfl, _, rfl, d, _, 3, .int (k + 1), rfl, rfl, SqL.of hd2, rfl, _, rfl, s, ns, k + 1, m, rfl, hS2.seq, by omega, by omega, hm, fun r h0 h1 => ?_⟩
      refine q _ r ⟨⟨s, ns, cs, i, k + 1, hd2, ?_, hS2, hi, by omega, by omega⟩, ne⟩ ?_ h0 h1
      · rw [upd_ne ne]; exact hb'
      · intro x o h1 h2 h
        rw [upd_ne h1]
        exact kp x o h1 h2 h

/-! ### divisors -/
def gcdI (a b : Int) : Int := ((Nat.gcd a.natAbs b.natAbs : Nat) : Int)
/-- a share's two numbers -/
def IsSh (t u : Int) : Prop := 1 ≤ u ∧ gcdI t u = 1
instance (t u : Int) : Decidable (IsSh t u) := inferInstanceAs (Decidable (_ ∧ _))
theorem gcdI_nn (a b : Int) : 0 ≤ gcdI a b := Int.natCast_nonneg _
theorem gcdI_pos {a b : Int} (h : b ≠ 0) : 0 < gcdI a b := by
  have : 0 < Nat.gcd a.natAbs b.natAbs := Nat.gcd_pos_of_pos_right _ (by omega)
  unfold gcdI
  omega
theorem gcdI_neg_l (a b : Int) : gcdI (-a) b = gcdI a b := by
  unfold gcdI
  rw [Int.natAbs_neg]
theorem gcdI_neg_r (a b : Int) : gcdI a (-b) = gcdI a b := by
  unfold gcdI
  rw [Int.natAbs_neg]
theorem gcdI_dvd_l (a b : Int) : gcdI a b ∣ a := by
  unfold gcdI
  exact Int.ofNat_dvd_left.mpr (Nat.gcd_dvd_left _ _)
theorem gcdI_dvd_r (a b : Int) : gcdI a b ∣ b := by
  unfold gcdI
  exact Int.ofNat_dvd_left.mpr (Nat.gcd_dvd_right _ _)
/-- a share is told by what it is worth -/
theorem share_uniq {t u t' u' : Int} (h : IsSh t u) (h' : IsSh t' u') (e : t * u' = t' * u) : t = t' ∧ u = u' := by
  obtain ⟨u1, g1⟩ := h
  obtain ⟨u2, g2⟩ := h'
  have c1 : Nat.gcd t.natAbs u.natAbs = 1 := by unfold gcdI at g1; omega
  have c2 : Nat.gcd t'.natAbs u'.natAbs = 1 := by unfold gcdI at g2; omega
  have en : t.natAbs * u'.natAbs = t'.natAbs * u.natAbs := by
    rw [← Int.natAbs_mul, ← Int.natAbs_mul, e]
  have d1 : u.natAbs ∣ u'.natAbs := (Nat.Coprime.symm c1).dvd_of_dvd_mul_left (by rw [en]; exact Nat.dvd_mul_left _ _)
  have d2 : u'.natAbs ∣ u.natAbs := (Nat.Coprime.symm c2).dvd_of_dvd_mul_left (by rw [← en]; exact Nat.dvd_mul_left _ _)
  have eu : u = u' := by
    have := Nat.dvd_antisymm d1 d2
    omega
  subst eu
  exact ⟨Int.eq_of_mul_eq_mul_right (by omega) e, rfl⟩
theorem dvd_le_natAbs {g a : Int} (h : g ∣ a) (ha : a ≠ 0) : g.natAbs ≤ a.natAbs := Nat.le_of_dvd (by omega) (Int.natAbs_dvd_natAbs.mpr h)
theorem div_natAbs_le {a g : Int} (hg : 0 < g) (h : g ∣ a) : (a / g).natAbs ≤ a.natAbs := by
  obtain ⟨q, rfl⟩ := h
  rw [Int.mul_ediv_cancel_left _ (by omega), Int.natAbs_mul]
  exact Nat.le_mul_of_pos_left _ (by omega)
/-- a over b (b above nought) in lowest terms -/
theorem low_is {a b : Int} (hb : 0 < b) : IsSh (a / gcdI a b) (b / gcdI a b) ∧ (a / gcdI a b) * b = (b / gcdI a b) * a ∧ (a / gcdI a b).natAbs ≤ a.natAbs ∧ (b / gcdI a b).natAbs ≤ b.natAbs := by
  have hg : 0 < gcdI a b := gcdI_pos (by omega)
  have d1 := gcdI_dvd_l a b
  have d2 := gcdI_dvd_r a b
  refine ⟨⟨?_, ?_⟩, ?_, div_natAbs_le hg d1, div_natAbs_le hg d2⟩
  · have : 0 < b / gcdI a b := Int.ediv_pos_of_pos_of_dvd hb (by omega) d2
    omega
  · unfold gcdI at hg d1 d2 ⊢
    have e1 : (a / ((Nat.gcd a.natAbs b.natAbs : Nat) : Int)).natAbs = a.natAbs / Nat.gcd a.natAbs b.natAbs := by
      rw [Int.natAbs_ediv_of_dvd d1]
      rfl
    have e2 : (b / ((Nat.gcd a.natAbs b.natAbs : Nat) : Int)).natAbs = b.natAbs / Nat.gcd a.natAbs b.natAbs := by
      rw [Int.natAbs_ediv_of_dvd d2]
      rfl
    rw [e1, e2, Nat.gcd_div_gcd_div_gcd_of_pos_right (by omega)]
    rfl
  · obtain ⟨x, hx⟩ := d1
    obtain ⟨y, hy⟩ := d2
    have q1 : a / gcdI a b = x := (Int.eq_ediv_of_mul_eq_right (by omega) hx.symm).symm
    have q2 : b / gcdI a b = y := (Int.eq_ediv_of_mul_eq_right (by omega) hy.symm).symm
    rw [q1, q2]
    conv => lhs; rw [hy]
    conv => rhs; rw [hx]
    rw [Int.mul_left_comm, Int.mul_left_comm y, Int.mul_comm x y]
theorem log_le {m n k : Nat} (h : m ≤ n) (hn : n < 2 ^ k) (h0 : 0 < k) : m.log2 < k := log2_lt (Nat.lt_of_le_of_lt h hn) h0
/-! ### the law's gcd -/

/-! ### the law's own share -/
def Bd (n : Nat) (x : Int) : Prop := x.natAbs < 2 ^ n
theorem Bd.le {n m : Nat} {x : Int} (h : Bd n x) (l : n ≤ m) : Bd m x := Nat.lt_of_lt_of_le h (Nat.pow_le_pow_right (by decide) l)
theorem Bd.mul {n m : Nat} {x y : Int} (h : Bd n x) (g : Bd m y) : Bd (n + m) (x * y) := wide_lt h g
theorem Bd.of_le {n : Nat} {x y : Int} (h : Bd n x) (l : y.natAbs ≤ x.natAbs) : Bd n y := Nat.lt_of_le_of_lt l h
theorem Bd.neg {n : Nat} {x : Int} (h : Bd n x) : Bd n (-x) := by
  unfold Bd
  rw [Int.natAbs_neg]
  exact h
theorem Bd.add {n : Nat} {x y : Int} (h : Bd n x) (g : Bd n y) : Bd (n + 1) (x + y) := by
  unfold Bd at *
  rw [Nat.pow_succ]
  omega
theorem Bd.mulW {n m : Nat} {x y : Int} (h : Bd n x) (g : Bd m y) (hn : n ≤ 400000) (hm : m ≤ 400000) : CMulW x y := wide_mul (a := n + 1) (b := m + 1) (h.le (Nat.le_succ _)) (g.le (Nat.le_succ _)) (by omega) (by omega) (by omega)
theorem Bd.divW {n : Nat} {x y : Int} (h : Bd n y) (h0 : 0 < y) (hn : n < 9000) : CDivW x y := wide_div (b := n + 1) h0 (h.le (Nat.le_succ _)) (by omega) (by omega)
theorem gcdI_bd {n : Nat} {a b : Int} (h : Bd n b) (hb : b ≠ 0) : Bd n (gcdI a b) := h.of_le (by
  unfold gcdI
  exact Nat.le_of_dvd (by omega) (Nat.gcd_dvd_right _ _))

/-! ### fractions -/
theorem isSh_q (q : Rat) : IsSh q.num q.den := by
  refine ⟨by have := q.den_pos; omega, ?_⟩
  unfold gcdI
  rw [Int.natAbs_natCast]
  exact congrArg Int.ofNat q.reduced
theorem divInt_cross {a b : Int} (hb : b ≠ 0) : a * ((Rat.divInt a b).den : Int) = (Rat.divInt a b).num * b := by
  have h : Rat.divInt a b = Rat.divInt (Rat.divInt a b).num ((Rat.divInt a b).den : Int) := (Rat.num_divInt_den _).symm
  exact (Rat.divInt_eq_divInt_iff hb (by have := (Rat.divInt a b).den_pos; omega)).mp h
theorem rep_of {t u : Int} {q : Rat} (h : IsSh t u) (e : t * (q.den : Int) = q.num * u) : t = q.num ∧ u = (q.den : Int) := share_uniq h (isSh_q q) e
theorem rep_divInt {t u a b : Int} (h : IsSh t u) (hb : b ≠ 0) (e : t * b = u * a) : t = (Rat.divInt a b).num ∧ u = ((Rat.divInt a b).den : Int) := by
  have hu : u ≠ 0 := by have := h.1; omega
  have eq : Rat.divInt t u = Rat.divInt a b := (Rat.divInt_eq_divInt_iff hu hb).mpr (by rw [e, Int.mul_comm])
  rw [← eq]
  exact rep_of h (divInt_cross hu)
theorem low_bd {t u a b : Int} (h : IsSh t u) (hb : 0 < b) (e : t * b = u * a) : t.natAbs ≤ a.natAbs ∧ u.natAbs ≤ b.natAbs := by
  obtain ⟨h1, h2, h3, h4⟩ := low_is (a := a) (b := b) hb
  have hu : u ≠ 0 := by have := h.1; omega
  have e1 := rep_divInt h (by omega) e
  have e2 := rep_divInt h1 (by omega) h2
  rw [e1.1, e1.2, ← e2.1, ← e2.2]
  exact ⟨h3, h4⟩
def BdQ (n : Nat) (q : Rat) : Prop := Bd n q.num ∧ Bd n (q.den : Int)
theorem BdQ.le {n m : Nat} {q : Rat} (h : BdQ n q) (l : n ≤ m) : BdQ m q := ⟨h.1.le l, h.2.le l⟩
theorem divInt_bd {a b : Int} {n : Nat} (hb : 0 < b) (ha : Bd n a) (hn : Bd n b) : BdQ n (Rat.divInt a b) := by
  have h := low_bd (isSh_q (Rat.divInt a b)) hb (by rw [← divInt_cross (by omega), Int.mul_comm])
  exact ⟨ha.of_le h.1, hn.of_le h.2⟩
theorem den_pos (q : Rat) : (0 : Int) < (q.den : Int) := by have := q.den_pos; omega
theorem add_divInt (p q : Rat) : p + q = Rat.divInt (p.num * q.den + q.num * p.den) (p.den * q.den) := by
  have h := Rat.divInt_add_divInt p.num q.num (d₁ := p.den) (d₂ := q.den) (by have := den_pos p; omega) (by have := den_pos q; omega)
  rw [Rat.num_divInt_den, Rat.num_divInt_den] at h
  exact h
theorem mul_divInt (p q : Rat) : p * q = Rat.divInt (p.num * q.num) (p.den * q.den) := by
  have h := Rat.divInt_mul_divInt p.num q.num (d₁ := p.den) (d₂ := q.den)
  rw [Rat.num_divInt_den, Rat.num_divInt_den] at h
  exact h
theorem BdQ.add {n m : Nat} {p q : Rat} (h : BdQ n p) (g : BdQ m q) : BdQ (n + m + 1) (p + q) := by
  rw [add_divInt]
  refine divInt_bd (Int.mul_pos (den_pos p) (den_pos q)) ?_ ((h.2.mul g.2).le (Nat.le_succ _))
  exact (h.1.mul g.2).add ((g.1.mul h.2).le (by omega))
theorem BdQ.mul {n m : Nat} {p q : Rat} (h : BdQ n p) (g : BdQ m q) : BdQ (n + m) (p * q) := by
  rw [mul_divInt]
  exact divInt_bd (Int.mul_pos (den_pos p) (den_pos q)) (h.1.mul g.1) (h.2.mul g.2)
theorem BdQ.neg {n : Nat} {q : Rat} (h : BdQ n q) : BdQ n (-q) := by
  refine ⟨?_, h.2⟩
  rw [Rat.neg_num]
  exact h.1.neg
theorem BdQ.sub {n m : Nat} {p q : Rat} (h : BdQ n p) (g : BdQ m q) : BdQ (n + m + 1) (p - q) := by
  rw [Rat.sub_eq_add_neg]
  exact h.add g.neg
theorem neg_num (q : Rat) : (-q).num = -q.num := Rat.neg_num q
theorem neg_den (q : Rat) : (-q).den = q.den := rfl
/-- one over a fraction -/
theorem inv_rep {q : Rat} (h : 0 < q.num) : (q⁻¹).num = q.den ∧ ((q⁻¹).den : Int) = q.num := by
  have hs := isSh_q q
  have e := rep_divInt (t := (q.den : Int)) (u := q.num) (a := (q.den : Int)) (b := q.num) ⟨by omega, by
    have := hs.2
    unfold gcdI at this ⊢
    rw [Nat.gcd_comm]
    exact this⟩ (by omega) (Int.mul_comm _ _)
  rw [Rat.inv_def]
  exact ⟨e.1.symm, e.2.symm⟩
theorem inv_rep_neg {q : Rat} (h : q.num < 0) : (q⁻¹).num = -(q.den : Int) ∧ ((q⁻¹).den : Int) = -q.num := by
  have hs := isSh_q q
  have e := rep_divInt (t := -(q.den : Int)) (u := -q.num) (a := (q.den : Int)) (b := q.num) ⟨by omega, by
    rw [gcdI_neg_l, gcdI_neg_r]
    have := hs.2
    unfold gcdI at this ⊢
    rw [Nat.gcd_comm]
    exact this⟩ (by omega) (by rw [Int.neg_mul, Int.neg_mul, Int.mul_comm])
  rw [Rat.inv_def]
  exact ⟨e.1.symm, e.2.symm⟩
/-! ### divisors, further -/
theorem cop_iff {a b : Int} : gcdI a b = 1 ↔ ∀ k : Nat, (k : Int) ∣ a → (k : Int) ∣ b → k = 1 := by
  constructor
  · intro h k h1 h2
    have h3 : k ∣ Nat.gcd a.natAbs b.natAbs := Nat.dvd_gcd (Int.ofNat_dvd_left.mp h1) (Int.ofNat_dvd_left.mp h2)
    have h4 : Nat.gcd a.natAbs b.natAbs = 1 := by unfold gcdI at h; omega
    rw [h4] at h3
    exact Nat.dvd_one.mp h3
  · intro h
    have := h (Nat.gcd a.natAbs b.natAbs) (gcdI_dvd_l a b) (gcdI_dvd_r a b)
    unfold gcdI
    rw [this]
    rfl
theorem cop_comm {a b : Int} (h : gcdI a b = 1) : gcdI b a = 1 := cop_iff.mpr fun k h1 h2 => cop_iff.mp h k h2 h1
theorem cop_dvd_l {a a' b : Int} (h : gcdI a b = 1) (d : a' ∣ a) : gcdI a' b = 1 := cop_iff.mpr fun k h1 h2 => cop_iff.mp h k (Int.dvd_trans h1 d) h2
theorem cop_dvd_r {a b b' : Int} (h : gcdI a b = 1) (d : b' ∣ b) : gcdI a b' = 1 := cop_iff.mpr fun k h1 h2 => cop_iff.mp h k h1 (Int.dvd_trans h2 d)
theorem cop_mul_r {a b c : Int} (h : gcdI a b = 1) (g : gcdI a c = 1) : gcdI a (b * c) = 1 := by
  unfold gcdI at *
  rw [Int.natAbs_mul]
  have h1 : Nat.Coprime a.natAbs b.natAbs := by unfold Nat.Coprime; omega
  have h2 : Nat.Coprime a.natAbs c.natAbs := by unfold Nat.Coprime; omega
  have h3 : Nat.Coprime a.natAbs (b.natAbs * c.natAbs) := Nat.Coprime.mul_right h1 h2
  unfold Nat.Coprime at h3
  omega
theorem cop_mul_l {a b c : Int} (h : gcdI a c = 1) (g : gcdI b c = 1) : gcdI (a * b) c = 1 := cop_comm (cop_mul_r (cop_comm h) (cop_comm g))
theorem cop_add {x y a : Int} (h : gcdI x a = 1) (d : a ∣ y) : gcdI (x + y) a = 1 := cop_iff.mpr fun k h1 h2 => cop_iff.mp h k ((Int.dvd_add_left (Int.dvd_trans h2 d)).mp h1) h2
theorem cop_div {a b : Int} (h : b ≠ 0) : gcdI (a / gcdI a b) (b / gcdI a b) = 1 := by
  rcases Int.lt_or_gt_of_ne h with h | h
  · have := (low_is (a := a) (b := -b) (by omega)).1.2
    rw [gcdI_neg_r, Int.neg_ediv_of_dvd (gcdI_dvd_r a b), gcdI_neg_r] at this
    exact this
  · exact (low_is h).1.2
theorem div_mul {g a : Int} (h : g ∣ a) : g * (a / g) = a := Int.mul_ediv_cancel' h
theorem div_dvd {g a : Int} (h : g ∣ a) : a / g ∣ a := ⟨g, by rw [Int.mul_comm]; exact (div_mul h).symm⟩
/-! ### sums and products of shares, as the program reckons them -/
theorem plus_one {t u t' u' : Int} (h : IsSh t u) (h' : IsSh t' u') (e : gcdI u u' = 1) : IsSh (t * u' + t' * u) (u * u') := by
  have hu : 0 < u * u' := Int.mul_pos (by have := h.1; omega) (by have := h'.1; omega)
  refine ⟨by omega, cop_mul_r ?_ ?_⟩
  · exact cop_add (cop_mul_l h.2 (cop_comm e)) (Int.dvd_mul_left ..)
  · rw [Int.add_comm]
    exact cop_add (cop_mul_l h'.2 e) (Int.dvd_mul_left ..)
theorem plus_two {t u t' u' d tot g : Int} (h : IsSh t u) (h' : IsSh t' u') (ed : gcdI u u' = d) (et : t * (u' / d) + t' * (u / d) = tot) (eg : gcdI tot d = g) :
    IsSh (tot / g) (u / d * (u' / g)) ∧ (tot / g) * (u * u') = (u / d * (u' / g)) * (t * u' + t' * u) := by
  have hu1 := h.1
  have hu2 := h'.1
  have d0 : 0 < d := by rw [← ed]; exact gcdI_pos (by omega)
  have g0 : 0 < g := by rw [← eg]; exact gcdI_pos (by omega)
  have da : d ∣ u := by rw [← ed]; exact gcdI_dvd_l _ _
  have db : d ∣ u' := by rw [← ed]; exact gcdI_dvd_r _ _
  have gt : g ∣ tot := by rw [← eg]; exact gcdI_dvd_l _ _
  have gd : g ∣ d := by rw [← eg]; exact gcdI_dvd_r _ _
  have hab : gcdI (u / d) (u' / d) = 1 := by rw [← ed]; exact cop_div (by omega)
  have hgd : gcdI (tot / g) (d / g) = 1 := by rw [← eg]; exact cop_div (by omega)
  obtain ⟨a, rfl⟩ := da
  obtain ⟨b, rfl⟩ := db
  obtain ⟨e, rfl⟩ := gd
  obtain ⟨f, rfl⟩ := gt
  have g1 : g ≠ 0 := by omega
  have d1 : g * e ≠ 0 := by omega
  rw [Int.mul_ediv_cancel_left _ d1] at et hab ⊢
  rw [Int.mul_ediv_cancel_left _ d1] at et hab
  rw [Int.mul_ediv_cancel_left _ g1] at hgd ⊢
  rw [Int.mul_ediv_cancel_left _ g1] at hgd
  have eb : g * e * b / g = e * b := by rw [Int.mul_assoc, Int.mul_ediv_cancel_left _ g1]
  rw [eb]
  have e0 : 0 < e := by
    rcases Int.lt_trichotomy e 0 with z | z | z
    · have := Int.mul_neg_of_pos_of_neg g0 z
      omega
    · rw [z] at d0; simp at d0
    · exact z
  have a0 : 0 < a := Int.pos_of_mul_pos_right (a := g * e) (by omega) d0
  have b0 : 0 < b := Int.pos_of_mul_pos_right (a := g * e) (by omega) d0
  have c1 : gcdI f a = 1 := by
    refine cop_dvd_l (a := g * f) ?_ (Int.dvd_mul_left ..)
    rw [← et]
    exact cop_add (cop_mul_l (cop_dvd_r h.2 (Int.dvd_mul_left ..)) (cop_comm hab)) (Int.dvd_mul_left ..)
  have c2 : gcdI f b = 1 := by
    refine cop_dvd_l (a := g * f) ?_ (Int.dvd_mul_left ..)
    rw [← et, Int.add_comm]
    exact cop_add (cop_mul_l (cop_dvd_r h'.2 (Int.dvd_mul_left ..)) hab) (Int.dvd_mul_left ..)
  refine ⟨⟨?_, cop_mul_r c1 (cop_mul_r hgd c2)⟩, ?_⟩
  · have := Int.mul_pos a0 (Int.mul_pos e0 b0)
    omega
  · have : a * (e * b) * (t * (g * e * b) + t' * (g * e * a)) = a * (e * b) * (g * e) * (t * b + t' * a) := by grind
    rw [this, et]
    grind
theorem times_one {t u t' u' d e : Int} (h : IsSh t u) (h' : IsSh t' u') (ed : gcdI t u' = d) (ee : gcdI t' u = e) :
    IsSh ((t / d) * (t' / e)) ((u / e) * (u' / d)) ∧ ((t / d) * (t' / e)) * (u * u') = ((u / e) * (u' / d)) * (t * t') := by
  have hu1 := h.1
  have hu2 := h'.1
  have d0 : 0 < d := by rw [← ed]; exact gcdI_pos (by omega)
  have e0 : 0 < e := by rw [← ee]; exact gcdI_pos (by omega)
  have d1 : d ∣ t := by rw [← ed]; exact gcdI_dvd_l _ _
  have d2 : d ∣ u' := by rw [← ed]; exact gcdI_dvd_r _ _
  have d3 : e ∣ t' := by rw [← ee]; exact gcdI_dvd_l _ _
  have d4 : e ∣ u := by rw [← ee]; exact gcdI_dvd_r _ _
  have c1 : gcdI (t / d) (u' / d) = 1 := by rw [← ed]; exact cop_div (by omega)
  have c2 : gcdI (t' / e) (u / e) = 1 := by rw [← ee]; exact cop_div (by omega)
  have c3 : gcdI (t / d) (u / e) = 1 := cop_dvd_l (cop_dvd_r h.2 (div_dvd d4)) (div_dvd d1)
  have c4 : gcdI (t' / e) (u' / d) = 1 := cop_dvd_l (cop_dvd_r h'.2 (div_dvd d2)) (div_dvd d3)
  refine ⟨⟨?_, cop_mul_l (cop_mul_r c3 c1) (cop_mul_r c2 c4)⟩, ?_⟩
  · have := Int.mul_pos (Int.ediv_pos_of_pos_of_dvd (show 0 < u by omega) (by omega) d4) (Int.ediv_pos_of_pos_of_dvd (show 0 < u' by omega) (by omega) d2)
    omega
  · have m1 := div_mul d1
    have m2 := div_mul d2
    have m3 := div_mul d3
    have m4 := div_mul d4
    generalize t / d = x at *
    generalize u' / d = y at *
    generalize t' / e = v at *
    generalize u / e = z at *
    subst m1 m2 m3 m4
    grind
theorem gcdI_bd2 {n : Nat} {p q : Int} (h : Bd n p) (g : Bd n q) (h0 : ¬ (p = 0 ∧ q = 0)) : Bd n (gcdI p q) := by
  by_cases hq : q = 0
  · have hp : p ≠ 0 := fun z => h0 ⟨z, hq⟩
    refine h.of_le ?_
    unfold gcdI
    exact Nat.le_of_dvd (by omega) (Nat.gcd_dvd_left _ _)
  · exact gcdI_bd g hq
theorem gcdI_comm (p q : Int) : gcdI p q = gcdI q p := by
  unfold gcdI
  rw [Nat.gcd_comm]
theorem gcdI_pos2 {p q : Int} (h0 : ¬ (p = 0 ∧ q = 0)) : 0 < gcdI p q := by
  by_cases hq : q = 0
  · rw [gcdI_comm]
    exact gcdI_pos fun z => h0 ⟨z, hq⟩
  · exact gcdI_pos hq
theorem cop_div2 {p q : Int} (h0 : ¬ (p = 0 ∧ q = 0)) : gcdI (p / gcdI p q) (q / gcdI p q) = 1 := by
  by_cases hq : q = 0
  · have hp : p ≠ 0 := fun z => h0 ⟨z, hq⟩
    rw [gcdI_comm p q]
    exact cop_comm (cop_div hp)
  · exact cop_div hq
/-- a fraction by what it is worth -/
theorem eq_divInt {q : Rat} {a b : Int} (hb : b ≠ 0) (h : q * (b : Rat) = (a : Rat)) : q = Rat.divInt a b := by
  rw [Rat.divInt_eq_div, ← h]
  have : (b : Rat) ≠ 0 := fun z => hb (by exact_mod_cast z)
  grind
theorem num_eq (x : Rat) : (x.num : Rat) = x * ((x.den : Int) : Rat) := by
  have h : (((x.den : Int)) : Rat) ≠ 0 := fun z => by
    have hp := den_pos x
    have : ((x.den : Int)) = 0 := by exact_mod_cast z
    omega
  have e := Rat.num_divInt_den x
  rw [Rat.divInt_eq_div] at e
  have e2 := Rat.div_mul_cancel (a := (x.num : Rat)) h
  rw [e] at e2
  exact e2.symm

end
/-! ### the greatest and the least of things that lie in the heap -/
namespace MM
open PySem PySem.Spec
section
variable {prog : Program} {w : PySem.World} {A : Around} {R : Result → Shared → Prop} {I : Addr} {fp wr : List Addr} {n : Nat} {P : Nat → Value → Prop} {St : Nat → Heap → Prop}
/-- two of them compared, over a heap that G speaks of -/
def CmpH (G : Heap → Prop) (prog : Program) (w : PySem.World) (A : Around) (op : CmpOp) (P : Nat → Value → Prop) (bt : Nat → Nat → Bool) : Prop :=
  ∀ i j u v (z : Shared) (Q : Value → Shared → Prop) (E : Value → Shared → Prop), G z.heap → P i u → P j v → Q (.bool (bt i j)) z → wpAny (model prog w) A (richCompare op u v) Q E z

theorem max_go (Wk : Walks prog w A.in1 I fp wr n P St) {bt : Nat → Nat → Bool} {G : Heap → Prop} (hc : CmpH G prog w A.in1 .Gt P bt) {S : Addr} (nf : S ∉ fp)
    (hG : ∀ h h' : Heap, G h → (∀ b o, b ∉ wr → b ≠ S → h.get? b = some o → h'.get? b = some o) → G h') :
    ∀ (k j : Nat) (z : Shared) (v : Value) (c : Nat), n - (j + 1) = k → j + 1 ≤ n → St (j + 1) z.heap → G z.heap → P (argBest bt j) v →
    z.heap.get? S = some ⟨.type "list", none, .seq #[v, v] c, #[]⟩ →
    (∀ u h' tk, P (argBest bt (n - 1)) u → (∀ b o, b ∉ wr → b ≠ S → z.heap.get? b = some o → h'.get? b = some o) → R (.ok (.ret u)) { z with heap := h', toks := tk }) →
    codeAny (model prog w) A (.builtin "max.loop" ⟨[.ref I, .none, .ref S], []⟩) R z
  | 0, j, z, v, c, hk, hj, st, g, pv, hS, hR => by
    have nw : S ∉ wr := fun x => nf (Wk.sub _ x)
    have ej : j + 1 = n := by omega
    refine codeAny_builtin F.entry_max_loop ?_
    rw [Around.under_plainId F.plain_max_loop _]
    refine wpAny_bind (wpAny_seqItems hS rfl ?_)
    refine wpAny_bind (wpAny_tryCatch (Wk.done z _ _ (ej ▸ st) fun g1 tk kp => wpAny_bind ?_))
    have hS1 := kp S _ nw hS
    refine wpAny_updateSeq hS1 rfl (wpAny_bind (wpAny_letGo (wpAny_pure (hR v _ tk (by rw [← ej]; exact pv) fun b o h1 h2 e => ?_))))
    rw [Heap.get?_update_other _ _ (Ne.symm h2)]
    exact kp b o h1 e
  | k + 1, j, z, v, c, hk, hj, st, g, pv, hS, hR => by
    have nw : S ∉ wr := fun x => nf (Wk.sub _ x)
    have lt : j + 1 < n := by omega
    have hnm : (toString "max" ++ toString ".loop" : String) = "max.loop" := by decide
    refine codeAny_builtin F.entry_max_loop ?_
    rw [Around.under_plainId F.plain_max_loop _]
    refine wpAny_bind (wpAny_seqItems hS rfl ?_)
    refine wpAny_bind (wpAny_tryCatch (Wk.item (j + 1) z _ _ lt st fun u g1 tk pu st1 kp => ?_))
    have hS1 := kp S _ nw hS
    have G1 := hG _ g1 g fun b o h1 _ e => kp b o h1 e
    show wpAny (model prog w) A.in1 (tryCatch (holding [u, u] (richCompare .Gt u v >>= _)) _ >>= _) _ _ _
    refine wpAny_bind (wpAny_tryCatch (wpAny_holding (wpAny_bind (hc (j + 1) (argBest bt j) u v _ _ _ G1 pu pv ?_))))
    refine wpAny_bind (wpAny_holding (wpAny_truthy_bool (wpAny_bind (wpAny_letGo (wpAny_pure ?_)))))
    cases eb : bt (j + 1) (argBest bt j) with
    | true =>
      rw [if_pos rfl]
      refine wpAny_bind (wpAny_updateSeq hS1 rfl (wpAny_bind (wpAny_letGo ?_)))
      rw [hnm]
      have oth : ∀ (f : Obj → Obj) (b : Addr) (o : Obj), b ≠ S → g1.get? b = some o → (g1.update S f).get? b = some o := fun f b o h2 e => by
        rw [Heap.get?_update_other _ _ (Ne.symm h2)]
        exact e
      refine wpAny_pure ⟨plainId_quiet F.plain_max_loop _, max_go Wk hc nf hG k (j + 1) _ u _ (by omega) lt (Wk.frame _ _ _ st1 fun b hb o e => oth _ b o (fun x => nf (x ▸ hb)) e) (hG _ _ G1 fun b o _ h2 e => oth _ b o h2 e) (by simp only [argBest, eb, if_true]; exact pu) (Heap.get?_update_self _ hS1 rfl) fun u' g2 tk2 p2 kp2 => ?_⟩
      exact hR u' g2 tk2 p2 fun b o h1 h2 e => kp2 b o h1 h2 (oth _ b o h2 (kp b o h1 e))
    | false =>
      rw [if_neg Bool.false_ne_true]
      refine wpAny_bind (wpAny_letGo ?_)
      rw [hnm]
      refine wpAny_pure ⟨plainId_quiet F.plain_max_loop _, max_go Wk hc nf hG k (j + 1) _ v c (by omega) lt st1 G1 (by simp only [argBest, eb, Bool.false_eq_true, if_false]; exact pv) hS1 fun u' g2 tk2 p2 kp2 => ?_⟩
      exact hR u' g2 tk2 p2 fun b o h1 h2 e => kp2 b o h1 h2 (kp b o h1 e)
theorem max_first (Wk : Walks prog w A.in1 I fp wr n P St) {bt : Nat → Nat → Bool} {G : Heap → Prop} (hc : CmpH G prog w A.in1 .Gt P bt) {S : Addr} (nf : S ∉ fp)
    (hG : ∀ h h' : Heap, G h → (∀ b o, b ∉ wr → b ≠ S → h.get? b = some o → h'.get? b = some o) → G h') (n0 : 0 < n) {z : Shared} {c : Nat} (st : St 0 z.heap) (g : G z.heap)
    (hS : z.heap.get? S = some ⟨.type "list", none, .seq #[] c, #[]⟩)
    (hR : ∀ u h' tk, P (argBest bt (n - 1)) u → (∀ b o, b ∉ wr → b ≠ S → z.heap.get? b = some o → h'.get? b = some o) → R (.ok (.ret u)) { z with heap := h', toks := tk }) :
    codeAny (model prog w) A (.builtin "max.loop" ⟨[.ref I, .none, .ref S], []⟩) R z := by
  have nw : S ∉ wr := fun x => nf (Wk.sub _ x)
  have hnm : (toString "max" ++ toString ".loop" : String) = "max.loop" := by decide
  refine codeAny_builtin F.entry_max_loop ?_
  rw [Around.under_plainId F.plain_max_loop _]
  refine wpAny_bind (wpAny_seqItems hS rfl ?_)
  refine wpAny_bind (wpAny_tryCatch (Wk.item 0 z _ _ n0 st fun u g1 tk pu st1 kp => ?_))
  have hS1 := kp S _ nw hS
  have G1 := hG _ g1 g fun b o h1 _ e => kp b o h1 e
  have oth : ∀ (f : Obj → Obj) (b : Addr) (o : Obj), b ≠ S → g1.get? b = some o → (g1.update S f).get? b = some o := fun f b o h2 e => by
    rw [Heap.get?_update_other _ _ (Ne.symm h2)]
    exact e
  show wpAny (model prog w) A.in1 (updateSeq S (fun _ => #[u, u]) >>= _) _ _ _
  refine wpAny_bind (wpAny_updateSeq hS1 rfl ?_)
  rw [hnm]
  refine wpAny_pure ⟨plainId_quiet F.plain_max_loop _, max_go Wk hc nf hG _ 0 _ u _ rfl n0 (Wk.frame _ _ _ st1 fun b hb o e => oth _ b o (fun x => nf (x ▸ hb)) e) (hG _ _ G1 fun b o _ h2 e => oth _ b o h2 e) pu (Heap.get?_update_self _ hS1 rfl) fun u' g2 tk2 p2 kp2 => ?_⟩
  exact hR u' g2 tk2 p2 fun b o h1 h2 e => kp2 b o h1 h2 (oth _ b o h2 (kp b o h1 e))
theorem max_call {l : Addr} {its : Array Value} {bt : Nat → Nat → Bool} {G : Heap → Prop} {Q : Value → Shared → Prop} {E : Value → Shared → Prop} {z : Shared} (hh : A.handled = none) (hl : z.heap.IsList l its) (n0 : 0 < its.size) (g : G z.heap)
    (hG : ∀ h h' : Heap, G h → (∀ b o, b < z.heap.objs.size → h.get? b = some o → h'.get? b = some o) → G h')
    (hc : CmpH G prog w A.in1 .Gt (fun i v => its[i]? = some v) bt)
    (hQ : ∀ u h' tk, its[argBest bt (its.size - 1)]? = some u → (∀ b o, z.heap.get? b = some o → h'.get? b = some o) → Q u { z with heap := h', toks := tk }) :
    wpAny (model prog w) A (call (.builtin "max") [.ref l]) Q E z := by
  have hnm : (toString "max" ++ toString ".loop" : String) = "max.loop" := by decide
  refine call_function_tree F.kind_max F.plain_max F.entry_max (F.args_max1 _) ?_
  refine wpAny_bind (wpAny_of_eq (show Builtin.Builtins.bindParams "max" ["key", "default"] 0 ⟨[], []⟩ = pure [none, none] from rfl) (wpAny_bind (wpAny_pure ?_)))
  have llt : l < z.heap.objs.size := by obtain ⟨_, e, _⟩ := hl; exact Heap.lt_size e
  refine wpAny_bind (wpAny_pyIter_list hl (wpAny_bind (wpAny_newObj_type ?_)))
  rw [hnm]
  obtain ⟨z1, ez1⟩ : ∃ z1, z.heap.push ⟨.type "list_iterator", none, .fields #[.ref l, .int 0 0], #[]⟩ = z1 := ⟨_, rfl⟩
  have sz1 : z1.objs.size = z.heap.objs.size + 1 := by rw [← ez1, Heap.size_push]
  have k1 : ∀ b o, z.heap.get? b = some o → z1.get? b = some o := fun b o e => by rw [← ez1]; exact Heap.get?_push_of_some _ e
  have hne : l ≠ z.heap.objs.size := Nat.ne_of_lt llt
  have hl1 : z1.IsList l its := by rw [← ez1]; exact hl.push _
  have it1 : z1.IsListIter z.heap.objs.size l 0 := by rw [← ez1]; exact ⟨_, Heap.get?_push_size _ rfl, rfl, rfl⟩
  refine wpAny_pure ⟨plainId_quiet F.plain_max_loop _, ?_⟩
  have fpl : ∀ b ∈ [z.heap.objs.size, l], b < z1.objs.size := fun b hb => by
    simp only [List.mem_cons, List.not_mem_nil, or_false] at hb
    rw [sz1]
    rcases hb with x | x
    · rw [x]
      exact Nat.lt_succ_self _
    · rw [x]
      exact Nat.lt_succ_of_lt llt
  have neS : ∀ b : Addr, b < z.heap.objs.size → b ≠ z1.objs.size := fun b lb x => by
    rw [x, sz1] at lb
    exact Nat.not_succ_lt_self lb
  have Wk := Walks.list (prog := prog) (w := w) (A := A.in1) hh z.heap.objs.size l hne its
  have G0 := hG _ z1 g fun b o _ e => k1 b o e
  have pz : z.heap.push ⟨.type "list_iterator", none, .fields #[.ref l, .int 0 0], #[]⟩ = z1 := ez1
  show codeAny (model prog w) A (.builtin "max.loop" ⟨[.ref z.heap.objs.size, .none, .ref (z.heap.push ⟨.type "list_iterator", none, .fields #[.ref l, .int 0 0], #[]⟩).objs.size], []⟩) _ { z with heap := (z.heap.push ⟨.type "list_iterator", none, .fields #[.ref l, .int 0 0], #[]⟩).push ⟨.type "list", none, .seq #[] 0, #[]⟩ }
  rw [pz]
  have k2 : ∀ b o, z1.get? b = some o → (z1.push ⟨.type "list", none, .seq #[] 0, #[]⟩).get? b = some o := fun b o e => Heap.get?_push_of_some _ e
  refine max_first (S := z1.objs.size) Wk hc (fun m => Nat.lt_irrefl _ (fpl _ m)) (fun h h' gh kp => hG h h' gh fun b o lb e => kp b o (fun m => ?_) (neS b lb) e) n0 ?_ (hG _ _ G0 fun b o _ e => k2 b o e) (Heap.get?_push_size _ rfl) fun u h' tk pu kp => hQ u h' tk pu fun b o e => kp b o (fun m => ?_) (neS b (Heap.lt_size e)) (k2 b o (k1 b o e))
  · rw [List.mem_singleton.mp m] at lb
    exact Nat.lt_irrefl _ lb
  · obtain ⟨h1, h2⟩ := (show z1.IsListIter z.heap.objs.size l 0 ∧ z1.IsList l its from ⟨it1, hl1⟩)
    exact ⟨h1.at fun o e => k2 _ o e, h2.push _⟩
  · have := Heap.lt_size e
    rw [List.mem_singleton.mp m] at this
    exact Nat.lt_irrefl _ this

theorem min_go (Wk : Walks prog w A.in1 I fp wr n P St) {bt : Nat → Nat → Bool} {G : Heap → Prop} (hc : CmpH G prog w A.in1 .Lt P bt) {S : Addr} (nf : S ∉ fp)
    (hG : ∀ h h' : Heap, G h → (∀ b o, b ∉ wr → b ≠ S → h.get? b = some o → h'.get? b = some o) → G h') :
    ∀ (k j : Nat) (z : Shared) (v : Value) (c : Nat), n - (j + 1) = k → j + 1 ≤ n → St (j + 1) z.heap → G z.heap → P (argBest bt j) v →
    z.heap.get? S = some ⟨.type "list", none, .seq #[v, v] c, #[]⟩ →
    (∀ u h' tk, P (argBest bt (n - 1)) u → (∀ b o, b ∉ wr → b ≠ S → z.heap.get? b = some o → h'.get? b = some o) → R (.ok (.ret u)) { z with heap := h', toks := tk }) →
    codeAny (model prog w) A (.builtin "min.loop" ⟨[.ref I, .none, .ref S], []⟩) R z
  | 0, j, z, v, c, hk, hj, st, g, pv, hS, hR => by
    have nw : S ∉ wr := fun x => nf (Wk.sub _ x)
    have ej : j + 1 = n := by omega
    refine codeAny_builtin F.entry_min_loop ?_
    rw [Around.under_plainId F.plain_min_loop _]
    refine wpAny_bind (wpAny_seqItems hS rfl ?_)
    refine wpAny_bind (wpAny_tryCatch (Wk.done z _ _ (ej ▸ st) fun g1 tk kp => wpAny_bind ?_))
    have hS1 := kp S _ nw hS
    refine wpAny_updateSeq hS1 rfl (wpAny_bind (wpAny_letGo (wpAny_pure (hR v _ tk (by rw [← ej]; exact pv) fun b o h1 h2 e => ?_))))
    rw [Heap.get?_update_other _ _ (Ne.symm h2)]
    exact kp b o h1 e
  | k + 1, j, z, v, c, hk, hj, st, g, pv, hS, hR => by
    have nw : S ∉ wr := fun x => nf (Wk.sub _ x)
    have lt : j + 1 < n := by omega
    have hnm : (toString "min" ++ toString ".loop" : String) = "min.loop" := by decide
    refine codeAny_builtin F.entry_min_loop ?_
    rw [Around.under_plainId F.plain_min_loop _]
    refine wpAny_bind (wpAny_seqItems hS rfl ?_)
    refine wpAny_bind (wpAny_tryCatch (Wk.item (j + 1) z _ _ lt st fun u g1 tk pu st1 kp => ?_))
    have hS1 := kp S _ nw hS
    have G1 := hG _ g1 g fun b o h1 _ e => kp b o h1 e
    show wpAny (model prog w) A.in1 (tryCatch (holding [u, u] (richCompare .Lt u v >>= _)) _ >>= _) _ _ _
    refine wpAny_bind (wpAny_tryCatch (wpAny_holding (wpAny_bind (hc (j + 1) (argBest bt j) u v _ _ _ G1 pu pv ?_))))
    refine wpAny_bind (wpAny_holding (wpAny_truthy_bool (wpAny_bind (wpAny_letGo (wpAny_pure ?_)))))
    cases eb : bt (j + 1) (argBest bt j) with
    | true =>
      rw [if_pos rfl]
      refine wpAny_bind (wpAny_updateSeq hS1 rfl (wpAny_bind (wpAny_letGo ?_)))
      rw [hnm]
      have oth : ∀ (f : Obj → Obj) (b : Addr) (o : Obj), b ≠ S → g1.get? b = some o → (g1.update S f).get? b = some o := fun f b o h2 e => by
        rw [Heap.get?_update_other _ _ (Ne.symm h2)]
        exact e
      refine wpAny_pure ⟨plainId_quiet F.plain_min_loop _, min_go Wk hc nf hG k (j + 1) _ u _ (by omega) lt (Wk.frame _ _ _ st1 fun b hb o e => oth _ b o (fun x => nf (x ▸ hb)) e) (hG _ _ G1 fun b o _ h2 e => oth _ b o h2 e) (by simp only [argBest, eb, if_true]; exact pu) (Heap.get?_update_self _ hS1 rfl) fun u' g2 tk2 p2 kp2 => ?_⟩
      exact hR u' g2 tk2 p2 fun b o h1 h2 e => kp2 b o h1 h2 (oth _ b o h2 (kp b o h1 e))
    | false =>
      rw [if_neg Bool.false_ne_true]
      refine wpAny_bind (wpAny_letGo ?_)
      rw [hnm]
      refine wpAny_pure ⟨plainId_quiet F.plain_min_loop _, min_go Wk hc nf hG k (j + 1) _ v c (by omega) lt st1 G1 (by simp only [argBest, eb, Bool.false_eq_true, if_false]; exact pv) hS1 fun u' g2 tk2 p2 kp2 => ?_⟩
      exact hR u' g2 tk2 p2 fun b o h1 h2 e => kp2 b o h1 h2 (kp b o h1 e)
theorem min_first (Wk : Walks prog w A.in1 I fp wr n P St) {bt : Nat → Nat → Bool} {G : Heap → Prop} (hc : CmpH G prog w A.in1 .Lt P bt) {S : Addr} (nf : S ∉ fp)
    (hG : ∀ h h' : Heap, G h → (∀ b o, b ∉ wr → b ≠ S → h.get? b = some o → h'.get? b = some o) → G h') (n0 : 0 < n) {z : Shared} {c : Nat} (st : St 0 z.heap) (g : G z.heap)
    (hS : z.heap.get? S = some ⟨.type "list", none, .seq #[] c, #[]⟩)
    (hR : ∀ u h' tk, P (argBest bt (n - 1)) u → (∀ b o, b ∉ wr → b ≠ S → z.heap.get? b = some o → h'.get? b = some o) → R (.ok (.ret u)) { z with heap := h', toks := tk }) :
    codeAny (model prog w) A (.builtin "min.loop" ⟨[.ref I, .none, .ref S], []⟩) R z := by
  have nw : S ∉ wr := fun x => nf (Wk.sub _ x)
  have hnm : (toString "min" ++ toString ".loop" : String) = "min.loop" := by decide
  refine codeAny_builtin F.entry_min_loop ?_
  rw [Around.under_plainId F.plain_min_loop _]
  refine wpAny_bind (wpAny_seqItems hS rfl ?_)
  refine wpAny_bind (wpAny_tryCatch (Wk.item 0 z _ _ n0 st fun u g1 tk pu st1 kp => ?_))
  have hS1 := kp S _ nw hS
  have G1 := hG _ g1 g fun b o h1 _ e => kp b o h1 e
  have oth : ∀ (f : Obj → Obj) (b : Addr) (o : Obj), b ≠ S → g1.get? b = some o → (g1.update S f).get? b = some o := fun f b o h2 e => by
    rw [Heap.get?_update_other _ _ (Ne.symm h2)]
    exact e
  show wpAny (model prog w) A.in1 (updateSeq S (fun _ => #[u, u]) >>= _) _ _ _
  refine wpAny_bind (wpAny_updateSeq hS1 rfl ?_)
  rw [hnm]
  refine wpAny_pure ⟨plainId_quiet F.plain_min_loop _, min_go Wk hc nf hG _ 0 _ u _ rfl n0 (Wk.frame _ _ _ st1 fun b hb o e => oth _ b o (fun x => nf (x ▸ hb)) e) (hG _ _ G1 fun b o _ h2 e => oth _ b o h2 e) pu (Heap.get?_update_self _ hS1 rfl) fun u' g2 tk2 p2 kp2 => ?_⟩
  exact hR u' g2 tk2 p2 fun b o h1 h2 e => kp2 b o h1 h2 (oth _ b o h2 (kp b o h1 e))
theorem min_call {l : Addr} {its : Array Value} {bt : Nat → Nat → Bool} {G : Heap → Prop} {Q : Value → Shared → Prop} {E : Value → Shared → Prop} {z : Shared} (hh : A.handled = none) (hl : z.heap.IsList l its) (n0 : 0 < its.size) (g : G z.heap)
    (hG : ∀ h h' : Heap, G h → (∀ b o, b < z.heap.objs.size → h.get? b = some o → h'.get? b = some o) → G h')
    (hc : CmpH G prog w A.in1 .Lt (fun i v => its[i]? = some v) bt)
    (hQ : ∀ u h' tk, its[argBest bt (its.size - 1)]? = some u → (∀ b o, z.heap.get? b = some o → h'.get? b = some o) → Q u { z with heap := h', toks := tk }) :
    wpAny (model prog w) A (call (.builtin "min") [.ref l]) Q E z := by
  have hnm : (toString "min" ++ toString ".loop" : String) = "min.loop" := by decide
  refine call_function_tree F.kind_min F.plain_min F.entry_min (F.args_min1 _) ?_
  refine wpAny_bind (wpAny_of_eq (show Builtin.Builtins.bindParams "min" ["key", "default"] 0 ⟨[], []⟩ = pure [none, none] from rfl) (wpAny_bind (wpAny_pure ?_)))
  have llt : l < z.heap.objs.size := by obtain ⟨_, e, _⟩ := hl; exact Heap.lt_size e
  refine wpAny_bind (wpAny_pyIter_list hl (wpAny_bind (wpAny_newObj_type ?_)))
  rw [hnm]
  obtain ⟨z1, ez1⟩ : ∃ z1, z.heap.push ⟨.type "list_iterator", none, .fields #[.ref l, .int 0 0], #[]⟩ = z1 := ⟨_, rfl⟩
  have sz1 : z1.objs.size = z.heap.objs.size + 1 := by rw [← ez1, Heap.size_push]
  have k1 : ∀ b o, z.heap.get? b = some o → z1.get? b = some o := fun b o e => by rw [← ez1]; exact Heap.get?_push_of_some _ e
  have hne : l ≠ z.heap.objs.size := Nat.ne_of_lt llt
  have hl1 : z1.IsList l its := by rw [← ez1]; exact hl.push _
  have it1 : z1.IsListIter z.heap.objs.size l 0 := by rw [← ez1]; exact ⟨_, Heap.get?_push_size _ rfl, rfl, rfl⟩
  refine wpAny_pure ⟨plainId_quiet F.plain_min_loop _, ?_⟩
  have fpl : ∀ b ∈ [z.heap.objs.size, l], b < z1.objs.size := fun b hb => by
    simp only [List.mem_cons, List.not_mem_nil, or_false] at hb
    rw [sz1]
    rcases hb with x | x
    · rw [x]
      exact Nat.lt_succ_self _
    · rw [x]
      exact Nat.lt_succ_of_lt llt
  have neS : ∀ b : Addr, b < z.heap.objs.size → b ≠ z1.objs.size := fun b lb x => by
    rw [x, sz1] at lb
    exact Nat.not_succ_lt_self lb
  have Wk := Walks.list (prog := prog) (w := w) (A := A.in1) hh z.heap.objs.size l hne its
  have G0 := hG _ z1 g fun b o _ e => k1 b o e
  have pz : z.heap.push ⟨.type "list_iterator", none, .fields #[.ref l, .int 0 0], #[]⟩ = z1 := ez1
  show codeAny (model prog w) A (.builtin "min.loop" ⟨[.ref z.heap.objs.size, .none, .ref (z.heap.push ⟨.type "list_iterator", none, .fields #[.ref l, .int 0 0], #[]⟩).objs.size], []⟩) _ { z with heap := (z.heap.push ⟨.type "list_iterator", none, .fields #[.ref l, .int 0 0], #[]⟩).push ⟨.type "list", none, .seq #[] 0, #[]⟩ }
  rw [pz]
  have k2 : ∀ b o, z1.get? b = some o → (z1.push ⟨.type "list", none, .seq #[] 0, #[]⟩).get? b = some o := fun b o e => Heap.get?_push_of_some _ e
  refine min_first (S := z1.objs.size) Wk hc (fun m => Nat.lt_irrefl _ (fpl _ m)) (fun h h' gh kp => hG h h' gh fun b o lb e => kp b o (fun m => ?_) (neS b lb) e) n0 ?_ (hG _ _ G0 fun b o _ e => k2 b o e) (Heap.get?_push_size _ rfl) fun u h' tk pu kp => hQ u h' tk pu fun b o e => kp b o (fun m => ?_) (neS b (Heap.lt_size e)) (k2 b o (k1 b o e))
  · rw [List.mem_singleton.mp m] at lb
    exact Nat.lt_irrefl _ lb
  · obtain ⟨h1, h2⟩ := (show z1.IsListIter z.heap.objs.size l 0 ∧ z1.IsList l its from ⟨it1, hl1⟩)
    exact ⟨h1.at fun o e => k2 _ o e, h2.push _⟩
  · have := Heap.lt_size e
    rw [List.mem_singleton.mp m] at this
    exact Nat.lt_irrefl _ this
end
end MM

/-! ### tuples of numbers, and of such tuples, by their order -/
namespace MM
open PySem PySem.Spec PySem.SeqAt Ob
inductive KT where
  | n (i : Int)
  | t (l : List KT)
def KAt (h : Heap) : Nat → Value → KT → Prop
  | _, v, .n i => ∃ tk, v = .int i tk
  | 0, _, .t _ => False
  | d + 1, v, .t l => ∃ a items, v = .ref a ∧ h.IsTuple a items ∧ items.size = l.length ∧ ∀ (j : Nat) u x, items[j]? = some u → l[j]? = some x → KAt h d u x
def eqL (f : KT → KT → Bool) : List KT → List KT → Bool
  | [], [] => true
  | x :: xs, y :: ys => f x y && eqL f xs ys
  | _, _ => false
def ltL (e f : KT → KT → Bool) : List KT → List KT → Bool
  | x :: xs, y :: ys => if e x y = true then ltL e f xs ys else f x y
  | _, _ => false
def eqK : Nat → KT → KT → Bool
  | _, .n i, .n j => i == j
  | d + 1, .t a, .t b => eqL (eqK d) a b
  | _, _, _ => false
def ltK : Nat → KT → KT → Bool
  | _, .n i, .n j => decide (i < j)
  | d + 1, .t a, .t b => ltL (eqK d) (ltK d) a b
  | _, _, _ => false
def shp : Nat → KT → KT → Prop
  | _, .n _, .n _ => True
  | d + 1, .t a, .t b => a.length = b.length ∧ ∀ (j : Nat) x y, a[j]? = some x → b[j]? = some y → shp d x y
  | _, _, _ => False
def z0 : KT := .n 0
theorem eqL_range (f : KT → KT → Bool) : ∀ a b : List KT, a.length = b.length → ((List.range a.length).all fun j => f (a.getD j z0) (b.getD j z0)) = eqL f a b
  | [], [], _ => rfl
  | x :: xs, y :: ys, h => by
    have ih := eqL_range f xs ys (by simpa using h)
    rw [List.length_cons, List.range_succ_eq_map, List.all_cons, List.all_map]
    show (f x y && (List.range xs.length).all fun j => f (xs.getD j z0) (ys.getD j z0)) = _
    rw [ih]
    rfl
theorem lex_ltL (e f : KT → KT → Bool) : ∀ (a b : List KT) (i : Nat) (E F : Nat → Bool), a.length = b.length → (∀ j, E (i + j) = e (a.getD j z0) (b.getD j z0)) → (∀ j, F (i + j) = f (a.getD j z0) (b.getD j z0)) → lexAt E F false i a.length = ltL e f a b
  | [], [], _, _, _, _, _, _ => rfl
  | x :: xs, y :: ys, i, E, F, h, hE, hF => by
    have h0 : E i = e x y := hE 0
    have h1 : F i = f x y := hF 0
    have ih := lex_ltL e f xs ys (i + 1) E F (by simpa using h) (fun j => by rw [show i + 1 + j = i + (j + 1) by omega]; exact hE (j + 1)) fun j => by rw [show i + 1 + j = i + (j + 1) by omega]; exact hF (j + 1)
    show (if E i = true then lexAt E F false (i + 1) xs.length else F i) = if e x y = true then ltL e f xs ys else f x y
    rw [h0, h1, ih]
theorem eqL_all {f : KT → KT → Bool} : ∀ {a b : List KT}, a.length = b.length → (∀ (j : Nat) x y, a[j]? = some x → b[j]? = some y → f x y = true) → eqL f a b = true
  | [], [], _, _ => rfl
  | x :: xs, y :: ys, h, g => by
    show (f x y && eqL f xs ys) = true
    rw [g 0 x y rfl rfl, eqL_all (by simpa using h) fun j u v hu hv => g (j + 1) u v hu hv]
    rfl
theorem eqL_symm {f g : KT → KT → Bool} (h : ∀ x y, f x y = g y x) : ∀ a b : List KT, eqL f a b = eqL g b a
  | [], [] => rfl
  | [], _ :: _ => rfl
  | _ :: _, [] => rfl
  | x :: xs, y :: ys => by
    show (f x y && eqL f xs ys) = (g y x && eqL g ys xs)
    rw [h, eqL_symm h xs ys]
theorem eqK_symm : ∀ (d : Nat) (x y : KT), eqK d x y = eqK d y x
  | d, .n i, .n j => by
    have e : ∀ i j : Int, eqK d (.n i) (.n j) = (i == j) := fun i j => by cases d <;> rfl
    rw [e, e]
    exact Bool.beq_comm
  | 0, .n _, .t _ => rfl
  | 0, .t _, .n _ => rfl
  | 0, .t _, .t _ => rfl
  | d + 1, .n _, .t _ => rfl
  | d + 1, .t _, .n _ => rfl
  | d + 1, .t a, .t b => eqL_symm (eqK_symm d) a b
theorem kat_same {h : Heap} : ∀ (d : Nat) (u : Value) (x y : KT), KAt h d u x → KAt h d u y → eqK d x y = true
  | d, u, .n i, .n j, hx, hy => by
    have e : ∀ d, eqK d (.n i) (.n j) = (i == j) := fun d => by cases d <;> rfl
    rw [e]
    cases d <;> (obtain ⟨_, rfl⟩ := hx; obtain ⟨_, q⟩ := hy; cases q; simp)
  | 0, u, .t _, _, hx, _ => hx.elim
  | 0, u, _, .t _, _, hy => by cases hy
  | d + 1, u, .n i, .t b, hx, hy => by
    obtain ⟨_, rfl⟩ := hx
    obtain ⟨_, _, q, _⟩ := hy
    cases q
  | d + 1, u, .t a, .n j, hx, hy => by
    obtain ⟨_, rfl⟩ := hy
    obtain ⟨_, _, q, _⟩ := hx
    cases q
  | d + 1, u, .t a, .t b, hx, hy => by
    obtain ⟨p, its, rfl, ⟨o, ho, _, n, hd⟩, hl, hi⟩ := hx
    obtain ⟨p', its', q, ⟨o', ho', _, n', hd'⟩, hl', hi'⟩ := hy
    cases q
    rw [ho] at ho'
    cases ho'
    rw [hd] at hd'
    have e : its = its' := by injection hd'
    subst e
    refine eqL_all (hl.symm.trans hl') fun j x y hx hy => ?_
    have hj : j < its.size := by
      rw [hl]
      exact (List.getElem?_eq_some_iff.mp hx).1
    exact kat_same d its[j] x y (hi j _ x (Array.getElem?_eq_getElem hj) hx) (hi' j _ y (Array.getElem?_eq_getElem hj) hy)
theorem cmpK : ∀ (d : Nat) (x y : KT) (u v : Value) (A : Around) (s : Shared), KAt s.heap d u x → KAt s.heap d v y → shp d x y → A.units + d < cLine →
    EqAt A s u v (eqK d x y) ∧ RcOp .Gt A s u v (ltK d y x) ∧ RcOp .Lt A s u v (ltK d x y)
  | d, .n i, .n j, u, v, A, s, hx, hy, _, _ => by
    have e1 : eqK d (.n i) (.n j) = (i == j) := by cases d <;> rfl
    have e2 : ltK d (.n j) (.n i) = decide (j < i) := by cases d <;> rfl
    have e3 : ltK d (.n i) (.n j) = decide (i < j) := by cases d <;> rfl
    rw [e1, e2, e3]
    obtain ⟨t, rfl⟩ : ∃ t, u = .int i t := by cases d <;> exact hx
    obtain ⟨t', rfl⟩ : ∃ t', v = .int j t' := by cases d <;> exact hy
    exact ⟨EqAt.int_int i t j t', RcOp.gt_int i j t t', RcOp.lt_int i j t t'⟩
  | 0, .t _, _, _, _, _, _, hx, _, _, _ => hx.elim
  | 0, .n _, .t _, _, _, _, _, _, hy, _, _ => by cases hy
  | d + 1, .n _, .t _, _, _, _, _, _, _, hs, _ => hs.elim
  | d + 1, .t _, .n _, _, _, _, _, _, _, hs, _ => hs.elim
  | d + 1, .t a, .t b, u, v, A, s, hx, hy, hs, hu => by
    have hx0 := hx
    have hy0 := hy
    obtain ⟨p, its, rfl, hp, hl, hi⟩ := hx
    obtain ⟨q, its', rfl, hq, hl', hi'⟩ := hy
    obtain ⟨hlen, hsh⟩ := hs
    have hsz : its.size = its'.size := by rw [hl, hl', hlen]
    have item : ∀ j (h1 : j < its.size) (h2 : j < its'.size), EqAt A.in1 s its[j] its'[j] (eqK d (a.getD j z0) (b.getD j z0)) ∧ RcOp .Gt A.in1 s its[j] its'[j] (ltK d (b.getD j z0) (a.getD j z0)) ∧ RcOp .Lt A.in1 s its[j] its'[j] (ltK d (a.getD j z0) (b.getD j z0)) := fun j h1 h2 => by
      have ja : j < a.length := by rw [← hl]; exact h1
      have jb : j < b.length := by rw [← hl']; exact h2
      have ea : a.getD j z0 = a[j] := by rw [List.getD_eq_getElem?_getD, List.getElem?_eq_getElem ja]; rfl
      have eb : b.getD j z0 = b[j] := by rw [List.getD_eq_getElem?_getD, List.getElem?_eq_getElem jb]; rfl
      rw [ea, eb]
      exact cmpK d a[j] b[j] its[j] its'[j] A.in1 s (hi j _ _ (Array.getElem?_eq_getElem h1) (List.getElem?_eq_getElem ja)) (hi' j _ _ (Array.getElem?_eq_getElem h2) (List.getElem?_eq_getElem jb)) (hsh j _ _ (List.getElem?_eq_getElem ja) (List.getElem?_eq_getElem jb)) (by show A.units + 1 + d < cLine; omega)
    have hu0 : A.units < cLine := by omega
    have hmin : min its.size its'.size = a.length := by rw [← hsz, Nat.min_self, hl]
    refine ⟨?_, ?_, ?_⟩
    · by_cases hne : p = q
      · subst hne
        rw [kat_same (d + 1) (.ref p) (.t a) (.t b) hx0 hy0]
        exact EqAt.same _
      · have h := RcAt.tuples (A := A) (e := fun j => eqK d (a.getD j z0) (b.getD j z0)) hp hq hu0 fun j h1 h2 => (item j h1 h2).1
        rw [hmin, eqL_range (eqK d) a b hlen, hsz, beq_self_eq_true, Bool.and_true] at h
        exact EqAt.of_refs hne h
    · have h := RcOp.tuples_gt (A := A) (e := fun j => eqK d (a.getD j z0) (b.getD j z0)) (r := fun j => ltK d (b.getD j z0) (a.getD j z0)) hp hq hu0 (fun j h1 h2 => (item j h1 h2).1) fun j h1 h2 _ => (item j h1 h2).2.1
      have hz : decide (its.size > its'.size) = false := decide_eq_false (by omega)
      have hsym : ∀ j, eqK d (a.getD j z0) (b.getD j z0) = eqK d (b.getD j z0) (a.getD j z0) := fun j => eqK_symm d _ _
      rw [hmin, hz, hlen, lex_ltL (eqK d) (ltK d) b a 0 _ _ hlen.symm (fun j => by rw [Nat.zero_add]; exact hsym j) fun j => by rw [Nat.zero_add]] at h
      exact h
    · have h := RcOp.tuples_lt (A := A) (e := fun j => eqK d (a.getD j z0) (b.getD j z0)) (r := fun j => ltK d (a.getD j z0) (b.getD j z0)) hp hq hu0 (fun j h1 h2 => (item j h1 h2).1) fun j h1 h2 _ => (item j h1 h2).2.2
      have hz : decide (its.size < its'.size) = false := decide_eq_false (by omega)
      rw [hmin, hz, lex_ltL (eqK d) (ltK d) a b 0 _ _ hlen (fun j => by rw [Nat.zero_add]) fun j => by rw [Nat.zero_add]] at h
      exact h
end MM

/-! ### the order is one -/
namespace MM
open PySem
structure Ord (e f : KT → KT → Bool) : Prop where
  es : ∀ x y, e x y = true → e y x = true
  et : ∀ x y z, e x y = true → e y z = true → e x z = true
  ft : ∀ x y z, f x y = true → f y z = true → f x z = true
  c1 : ∀ x y z, e x y = true → f y z = true → f x z = true
  c2 : ∀ x y z, f x y = true → e y z = true → f x z = true
  ir : ∀ x, f x x = false
theorem Ord.ne {e f : KT → KT → Bool} (o : Ord e f) {x y : KT} (h : f x y = true) : e x y = false := by
  cases q : e x y with
  | false => rfl
  | true =>
    have := o.c2 x y x h (o.es x y q)
    rw [o.ir] at this
    cases this
theorem eqL_cons {f : KT → KT → Bool} {x y : KT} {xs ys : List KT} : eqL f (x :: xs) (y :: ys) = true ↔ f x y = true ∧ eqL f xs ys = true := by
  show (f x y && eqL f xs ys) = true ↔ _
  rw [Bool.and_eq_true]
theorem ltL_eq {e f : KT → KT → Bool} {x y : KT} {xs ys : List KT} (h : e x y = true) : ltL e f (x :: xs) (y :: ys) = ltL e f xs ys := if_pos h
theorem ltL_ne {e f : KT → KT → Bool} {x y : KT} {xs ys : List KT} (h : e x y = false) : ltL e f (x :: xs) (y :: ys) = f x y := if_neg (by rw [h]; exact Bool.false_ne_true)
theorem eqL_s {e f : KT → KT → Bool} (o : Ord e f) : ∀ a b : List KT, eqL e a b = true → eqL e b a = true
  | [], [], h => h
  | x :: xs, y :: ys, h => by
    obtain ⟨h1, h2⟩ := eqL_cons.mp h
    exact eqL_cons.mpr ⟨o.es x y h1, eqL_s o xs ys h2⟩
  | [], _ :: _, h => h
  | _ :: _, [], h => h
theorem eqL_t {e f : KT → KT → Bool} (o : Ord e f) : ∀ a b c : List KT, eqL e a b = true → eqL e b c = true → eqL e a c = true
  | [], [], _, _, h => h
  | x :: xs, y :: ys, z :: zs, h, g => by
    obtain ⟨h1, h2⟩ := eqL_cons.mp h
    obtain ⟨g1, g2⟩ := eqL_cons.mp g
    exact eqL_cons.mpr ⟨o.et x y z h1 g1, eqL_t o xs ys zs h2 g2⟩
  | _ :: _, _ :: _, [], _, g => by cases g
  | [], _ :: _, _, h, _ => by cases h
  | _ :: _, [], _, h, _ => by cases h
theorem ltL_t {e f : KT → KT → Bool} (o : Ord e f) : ∀ a b c : List KT, ltL e f a b = true → ltL e f b c = true → ltL e f a c = true
  | [], _, _, h, _ => by cases h
  | _ :: _, [], _, h, _ => by cases h
  | _ :: _, _ :: _, [], _, g => by cases g
  | x :: xs, y :: ys, z :: zs, h, g => by
    cases p : e x y with
    | true =>
      rw [ltL_eq p] at h
      cases q : e y z with
      | true =>
        rw [ltL_eq q] at g
        rw [ltL_eq (o.et x y z p q)]
        exact ltL_t o xs ys zs h g
      | false =>
        rw [ltL_ne q] at g
        have k := o.c1 x y z p g
        rw [ltL_ne (o.ne k)]
        exact k
    | false =>
      rw [ltL_ne p] at h
      cases q : e y z with
      | true =>
        have k := o.c2 x y z h q
        rw [ltL_ne (o.ne k)]
        exact k
      | false =>
        rw [ltL_ne q] at g
        have k := o.ft x y z h g
        rw [ltL_ne (o.ne k)]
        exact k
theorem ltL_1 {e f : KT → KT → Bool} (o : Ord e f) : ∀ a b c : List KT, eqL e a b = true → ltL e f b c = true → ltL e f a c = true
  | _, [], _, _, g => by cases g
  | [], _ :: _, _, h, _ => by cases h
  | _ :: _, _ :: _, [], _, g => by cases g
  | x :: xs, y :: ys, z :: zs, h, g => by
    obtain ⟨h1, h2⟩ := eqL_cons.mp h
    cases q : e y z with
    | true =>
      rw [ltL_eq q] at g
      rw [ltL_eq (o.et x y z h1 q)]
      exact ltL_1 o xs ys zs h2 g
    | false =>
      rw [ltL_ne q] at g
      have k := o.c1 x y z h1 g
      rw [ltL_ne (o.ne k)]
      exact k
theorem ltL_2 {e f : KT → KT → Bool} (o : Ord e f) : ∀ a b c : List KT, ltL e f a b = true → eqL e b c = true → ltL e f a c = true
  | [], _, _, h, _ => by cases h
  | _ :: _, [], _, h, _ => by cases h
  | _ :: _, _ :: _, [], _, g => by cases g
  | x :: xs, y :: ys, z :: zs, h, g => by
    obtain ⟨g1, g2⟩ := eqL_cons.mp g
    cases p : e x y with
    | true =>
      rw [ltL_eq p] at h
      rw [ltL_eq (o.et x y z p g1)]
      exact ltL_2 o xs ys zs h g2
    | false =>
      rw [ltL_ne p] at h
      have k := o.c2 x y z h g1
      rw [ltL_ne (o.ne k)]
      exact k
theorem ltL_i {e f : KT → KT → Bool} (o : Ord e f) : ∀ a : List KT, ltL e f a a = false
  | [] => rfl
  | x :: xs => by
    cases p : e x x with
    | true => rw [ltL_eq p]; exact ltL_i o xs
    | false => rw [ltL_ne p]; exact o.ir x
theorem eqK_n (d : Nat) (i j : Int) : eqK d (.n i) (.n j) = (i == j) := by cases d <;> rfl
theorem ltK_n (d : Nat) (i j : Int) : ltK d (.n i) (.n j) = decide (i < j) := by cases d <;> rfl
theorem eqK_nt (d : Nat) (i : Int) (l : List KT) : eqK d (.n i) (.t l) = false := by cases d <;> rfl
theorem eqK_tn (d : Nat) (i : Int) (l : List KT) : eqK d (.t l) (.n i) = false := by cases d <;> rfl
theorem ltK_nt (d : Nat) (i : Int) (l : List KT) : ltK d (.n i) (.t l) = false := by cases d <;> rfl
theorem ltK_tn (d : Nat) (i : Int) (l : List KT) : ltK d (.t l) (.n i) = false := by cases d <;> rfl
theorem ord_of {e f : KT → KT → Bool} (en : ∀ i j, e (.n i) (.n j) = (i == j)) (fn : ∀ i j, f (.n i) (.n j) = decide (i < j)) (e1 : ∀ i l, e (.n i) (.t l) = false) (e2 : ∀ i l, e (.t l) (.n i) = false) (f1 : ∀ i l, f (.n i) (.t l) = false) (f2 : ∀ i l, f (.t l) (.n i) = false)
    (ht : (∀ a b, e (.t a) (.t b) = true → e (.t b) (.t a) = true) ∧ (∀ a b c, e (.t a) (.t b) = true → e (.t b) (.t c) = true → e (.t a) (.t c) = true) ∧ (∀ a b c, f (.t a) (.t b) = true → f (.t b) (.t c) = true → f (.t a) (.t c) = true) ∧ (∀ a b c, e (.t a) (.t b) = true → f (.t b) (.t c) = true → f (.t a) (.t c) = true) ∧ (∀ a b c, f (.t a) (.t b) = true → e (.t b) (.t c) = true → f (.t a) (.t c) = true) ∧ ∀ a, f (.t a) (.t a) = false) : Ord e f := by
  obtain ⟨t1, t2, t3, t4, t5, t6⟩ := ht
  refine ⟨?_, ?_, ?_, ?_, ?_, ?_⟩
  · intro x y h
    cases x <;> cases y <;> simp_all
  · intro x y z h g
    cases x <;> cases y <;> cases z <;> first | exact t2 _ _ _ h g | (simp_all; done)
  · intro x y z h g
    cases x <;> cases y <;> cases z <;> first | exact t3 _ _ _ h g | (simp_all; done) | (simp_all; omega)
  · intro x y z h g
    cases x <;> cases y <;> cases z <;> first | exact t4 _ _ _ h g | (simp_all; done)
  · intro x y z h g
    cases x <;> cases y <;> cases z <;> first | exact t5 _ _ _ h g | (simp_all; done)
  · intro x
    cases x <;> simp_all
theorem ordK : ∀ d : Nat, Ord (eqK d) (ltK d)
  | 0 => ord_of (eqK_n 0) (ltK_n 0) (eqK_nt 0) (eqK_tn 0) (ltK_nt 0) (ltK_tn 0) ⟨fun _ _ h => (by cases h), fun _ _ _ h => (by cases h), fun _ _ _ h => (by cases h), fun _ _ _ h => (by cases h), fun _ _ _ h => (by cases h), fun _ => rfl⟩
  | d + 1 => ord_of (eqK_n _) (ltK_n _) (eqK_nt _) (eqK_tn _) (ltK_nt _) (ltK_tn _) ⟨eqL_s (ordK d), eqL_t (ordK d), ltL_t (ordK d), ltL_1 (ordK d), ltL_2 (ordK d), ltL_i (ordK d)⟩
theorem best_is {bt : Nat → Nat → Bool} (ir : ∀ i, bt i i = false) (tr : ∀ i j k, bt i j = true → bt j k = true → bt i k = true) : ∀ k, argBest bt k ≤ k ∧ ∀ i, i ≤ k → bt i (argBest bt k) = false
  | 0 => ⟨Nat.le_refl _, fun i hi => by
    have : i = 0 := by omega
    subst this
    exact ir 0⟩
  | k + 1 => by
    obtain ⟨h1, h2⟩ := best_is ir tr k
    simp only [argBest]
    cases q : bt (k + 1) (argBest bt k) with
    | true =>
      refine ⟨Nat.le_refl _, fun i hi => ?_⟩
      rw [if_pos rfl]
      rcases Nat.lt_or_ge i (k + 1) with l | l
      · cases z : bt i (k + 1) with
        | false => rfl
        | true =>
          have := tr i (k + 1) _ z q
          rw [h2 i (by omega)] at this
          cases this
      · have : i = k + 1 := by omega
        subst this
        exact ir _
    | false =>
      rw [if_neg Bool.false_ne_true]
      refine ⟨by omega, fun i hi => ?_⟩
      rcases Nat.lt_or_ge i (k + 1) with l | l
      · exact h2 i (by omega)
      · have : i = k + 1 := by omega
        subst this
        exact q
end MM

section
variable {K : PySem.W.Frag}
/-! ### max and min of a list of tuples, as rules -/
section
open MM
theorem vals_get : ∀ {vs : List V} {us : List Value} {i : Nat} {u : Value}, Vals vs us → us[i]? = some u → ∃ v, vs[i]? = some v ∧ RelV v u
  | _, _, _, _, .nil, h => by cases h
  | _, _, 0, _, .cons r t, h => by cases h; exact ⟨_, rfl, r⟩
  | _, _, i + 1, _, .cons r t, h => vals_get (i := i) t h
def VAt (K : PySem.W.Frag) (H : Hp) : Nat → V → KT → Prop
  | _, v, .n i => v = .int i
  | 0, _, .t _ => False
  | d + 1, v, .t l => ∃ a xs, v = .ref a ∧ SqT K H a xs ∧ xs.length = l.length ∧ ∀ (j : Nat) x k, xs[j]? = some x → l[j]? = some k → VAt K H d x k
theorem vat_kat {X : Cx} {pins : List (Addr × Obj)} {σ : L2.St} {H : Hp} {s : Shared} (I : Inv X pins σ H s) : ∀ (d : Nat) (v : V) (u : Value) (k : KT), VAt X.K H d v k → RelV v u → KAt s.heap d u k
  | d, v, u, .n i, h, r => by
    have e : v = .int i := by cases d <;> exact h
    subst e
    obtain ⟨t, rfl⟩ := r
    cases d <;> exact ⟨t, rfl⟩
  | 0, _, _, .t _, h, _ => h.elim
  | d + 1, v, u, .t l, h, r => by
    obtain ⟨a, xs, rfl, hs, hl, hi⟩ := h
    obtain rfl : u = Value.ref a := r
    obtain ⟨its, rv, ht, _⟩ := I.tuple hs
    refine ⟨a, its.toArray, rfl, ht, by rw [← hl, rv.length]; simp, fun j w k hw hk => ?_⟩
    rw [List.getElem?_toArray] at hw
    obtain ⟨x, hx, rx⟩ := vals_get rv hw
    exact vat_kat I d x w k (hi j x k hx hk) rx
theorem kat_mono {h h' : Heap} (kp : ∀ b o, h.get? b = some o → h'.get? b = some o) : ∀ (d : Nat) (u : Value) (k : KT), KAt h d u k → KAt h' d u k
  | d, u, .n i, g => by cases d <;> exact g
  | 0, _, .t _, g => g.elim
  | d + 1, u, .t l, g => by
    obtain ⟨a, its, e, ⟨o, ho, hc, n, hd⟩, hl, hi⟩ := g
    exact ⟨a, its, e, ⟨o, kp a o ho, hc, n, hd⟩, hl, fun j w k hw hk => kat_mono kp d w k (hi j w k hw hk)⟩
def rBestT (sgn : Bool) (K : PySem.W.Frag) : List V → Hp → VK → Prop := fun vs H Q => ∃ (a : Addr) (us : List V) (ks : List KT) (d : Nat), vs = [.ref a] ∧ SqL K H a us ∧ us ≠ [] ∧ d ≤ 60 ∧ us.length = ks.length ∧ (∀ (i : Nat) u k, us[i]? = some u → ks[i]? = some k → VAt K H d u k) ∧ (∀ k ∈ ks, ∀ k' ∈ ks, shp d k k') ∧
  ∀ (i : Nat) u k, us[i]? = some u → ks[i]? = some k → (∀ k' ∈ ks, (if sgn then ltK d k k' else ltK d k' k) = false) → Q u H
theorem k_bestT {X : Cx} (hK : X.K = K) (hc : X.calm = true) (hu : X.A.units + 64 < cLine) : CallR X (.builtin "max") (rBestT true K) ∧ CallR X (.builtin "min") (rBestT false K) := by
  subst hK
  constructor
  all_goals
    intro pins s σ H vs vals Q I r h
    obtain ⟨a, us, ks, d, rfl, hs, hne, hd, hl, hv, hsh, q⟩ := h
    obtain ⟨its, rv, pl, _⟩ := I.list hs
    rw [Vals.ref1 r]
    have hlen : its.length = ks.length := by rw [← hl, rv.length]
    have key : ∀ (i : Nat) u, its[i]? = some u → KAt s.heap d u (ks.getD i z0) := fun i u hiu => by
      obtain ⟨v, hv', rl⟩ := vals_get rv hiu
      have hi : i < ks.length := by rw [← hlen]; exact (List.getElem?_eq_some_iff.mp hiu).1
      rw [List.getD_eq_getElem?_getD, List.getElem?_eq_getElem hi]
      exact vat_kat I d v u _ (hv i v _ hv' (List.getElem?_eq_getElem hi)) rl
    have kmem : ∀ i, i < ks.length → ks.getD i z0 ∈ ks := fun i hi => by
      rw [List.getD_eq_getElem?_getD, List.getElem?_eq_getElem hi]
      exact List.getElem_mem hi
    have n0 : 0 < its.toArray.size := by
      rw [List.size_toArray, rv.length.symm]
      exact List.length_pos_iff.mpr hne
    have ilt : ∀ (i : Nat) u, its.toArray[i]? = some u → its[i]? = some u ∧ i < ks.length := fun i u h => by
      rw [List.getElem?_toArray] at h
      exact ⟨h, by rw [← hlen]; exact (List.getElem?_eq_some_iff.mp h).1⟩
    have fin : ∀ (bt : Nat → Nat → Bool) (u : Value) (h' : Heap) (tk : Nat), (∀ i, bt i i = false) → (∀ i j k, bt i j = true → bt j k = true → bt i k = true) → its.toArray[argBest bt (its.toArray.size - 1)]? = some u → (∀ b o, s.heap.get? b = some o → h'.get? b = some o) →
        ∃ v i, us[i]? = some v ∧ RelV v u ∧ i = argBest bt (its.toArray.size - 1) ∧ i < ks.length ∧ ∀ j, j < ks.length → bt j i = false := fun bt u h' tk ir tr hb hk => by
      obtain ⟨hb', hlt⟩ := ilt _ _ hb
      obtain ⟨v, hv', rl⟩ := vals_get rv hb'
      refine ⟨v, _, hv', rl, rfl, hlt, fun j hj => ?_⟩
      refine (best_is ir tr (its.toArray.size - 1)).2 j ?_
      rw [List.size_toArray, hlen]
      omega
    have ord := ordK d
  · refine max_call (G := fun h => ∀ b o, s.heap.get? b = some o → h.get? b = some o) (bt := fun i j => ltK d (ks.getD j z0) (ks.getD i z0)) (I.ok.hd hc) pl.isList n0 (fun _ _ h => h) (fun h h' g kp b o e => kp b o (Heap.lt_size e) (g b o e)) ?_ ?_
    · intro i j u v z Q' E' g hi hj hq
      obtain ⟨hi', il⟩ := ilt i u hi
      obtain ⟨hj', jl⟩ := ilt j v hj
      exact (cmpK d _ _ u v X.A.in1 z (kat_mono g d u _ (key i u hi')) (kat_mono g d v _ (key j v hj')) (hsh _ (kmem i il) _ (kmem j jl)) (by show X.A.units + 1 + d < cLine; omega)).2.1 X.prog X.w E' Q' hq
    · intro u h' tk hb hk
      obtain ⟨v, i, hvi, rl, _, il, hno⟩ := fin (fun i j => ltK d (ks.getD j z0) (ks.getD i z0)) u h' tk (fun i => ord.ir _) (fun i j k h1 h2 => ord.ft _ _ _ h2 h1) hb hk
      refine ⟨v, H, I.kept hk, rl, q i v _ hvi (List.getElem?_eq_getElem il) fun k' hk' => ?_⟩
      obtain ⟨j, hj, rfl⟩ := List.mem_iff_getElem.mp hk'
      have := hno j hj
      rw [if_pos rfl]
      rw [List.getD_eq_getElem?_getD, List.getElem?_eq_getElem il, List.getD_eq_getElem?_getD, List.getElem?_eq_getElem hj] at this
      exact this
  · refine min_call (G := fun h => ∀ b o, s.heap.get? b = some o → h.get? b = some o) (bt := fun i j => ltK d (ks.getD i z0) (ks.getD j z0)) (I.ok.hd hc) pl.isList n0 (fun _ _ h => h) (fun h h' g kp b o e => kp b o (Heap.lt_size e) (g b o e)) ?_ ?_
    · intro i j u v z Q' E' g hi hj hq
      obtain ⟨hi', il⟩ := ilt i u hi
      obtain ⟨hj', jl⟩ := ilt j v hj
      exact (cmpK d _ _ u v X.A.in1 z (kat_mono g d u _ (key i u hi')) (kat_mono g d v _ (key j v hj')) (hsh _ (kmem i il) _ (kmem j jl)) (by show X.A.units + 1 + d < cLine; omega)).2.2 X.prog X.w E' Q' hq
    · intro u h' tk hb hk
      obtain ⟨v, i, hvi, rl, _, il, hno⟩ := fin (fun i j => ltK d (ks.getD i z0) (ks.getD j z0)) u h' tk (fun i => ord.ir _) (fun i j k h1 h2 => ord.ft _ _ _ h1 h2) hb hk
      refine ⟨v, H, I.kept hk, rl, q i v _ hvi (List.getElem?_eq_getElem il) fun k' hk' => ?_⟩
      obtain ⟨j, hj, rfl⟩ := List.mem_iff_getElem.mp hk'
      have := hno j hj
      rw [if_neg Bool.false_ne_true]
      rw [List.getD_eq_getElem?_getD, List.getElem?_eq_getElem hj, List.getD_eq_getElem?_getD, List.getElem?_eq_getElem il] at this
      exact this
end

end
/-! ### the mirror: things without a heap -/
inductive Ty where
  | non | bl | int | str | tup | lst | dic | verr
def Ty.nm : Ty → String
  | .non => "NoneType" | .bl => "bool" | .int => "int" | .str => "str" | .tup => "tuple" | .lst => "list" | .dic => "dict" | .verr => "ValueError"
inductive D where
  | non | bl (b : Bool) | int (i : Int) | str (x : Str) | ty (t : Ty) | cls (a : Addr) | tup (ds : List D) | lst (ds : List D) | dic (ks : List Key) (ds : List D) | ins (C : Addr) (ns : List Str) (ds : List D) | deck | xcp (a C : Addr) (d : Option Addr) (ns : List Str) (ds : List D)
/-- the world: the law's deck and its cells, lists that are being built -/
structure Wd where
  dk : Option (Addr × Addr)
  own : List (Addr × HO)
def Wd.rs (W : Wd) (a : Addr) : Prop := (∃ d b, W.dk = some (d, b) ∧ (a = d ∨ a = b)) ∨ a ∈ W.own.map (·.1)
def Mt : HO → Prop
  | .lst _ => True
  | .dK _ => True
  | _ => False
structure Wd.ok (K : PySem.W.Frag) (W : Wd) (n : Nat) (H : Hp) : Prop where
  deck : ∀ d b, W.dk = some (d, b) → ∃ c : Int, Deck K H d b c ∧ c + n ≤ 900000
  owns : ∀ p ∈ W.own, H p.1 = some p.2 ∧ Mt p.2
  dis : ∀ d b, W.dk = some (d, b) → ∀ p ∈ W.own, p.1 ≠ d ∧ p.1 ≠ b
def Wd.le (W : Wd) (H H' : Hp) : Prop := ∀ a o, ¬ W.rs a → H a = some o → H' a = some o
theorem Wd.le_refl {W : Wd} {H : Hp} : W.le H H := fun _ _ _ h => h
theorem Wd.le.trans {W : Wd} {H H1 H2 : Hp} (u : W.le H H1) (v : W.le H1 H2) : W.le H H2 := fun a o n h => v a o n (u a o n h)
theorem Wd.le_same {W : Wd} {H H' : Hp} (s : Same H H') : W.le H H' := fun a o _ h => s a o h
theorem Wd.ok.same {K : PySem.W.Frag} {W : Wd} {n : Nat} {H H' : Hp} (o : W.ok K n H) (s : Same H H') : W.ok K n H' :=
  ⟨fun d b e => let ⟨c, h, l⟩ := o.deck d b e; ⟨c, h.keep s, l⟩, fun p hp => ⟨s _ _ (o.owns p hp).1, (o.owns p hp).2⟩, o.dis⟩
theorem Wd.ok.le {K : PySem.W.Frag} {W : Wd} {n m : Nat} {H : Hp} (o : W.ok K n H) (l : m ≤ n) : W.ok K m H :=
  ⟨fun d b e => let ⟨c, h, l'⟩ := o.deck d b e; ⟨c, h, by omega⟩, o.owns, o.dis⟩
theorem Wd.ok.lst {K : PySem.W.Frag} {W : Wd} {n : Nat} {H : Hp} (o : W.ok K n H) {a : Addr} (r : W.rs a) : ∃ ob, H a = some ob ∧ Mt ob := by
  rcases r with ⟨d, b, e, h⟩ | h
  · obtain ⟨c, ⟨⟨s, ns, cs, i, k, h1, h2, _⟩, _⟩, _⟩ := o.deck d b e
    rcases h with rfl | rfl
    · exact ⟨_, h1, trivial⟩
    · exact ⟨_, h2, trivial⟩
  · obtain ⟨p, hp, rfl⟩ := List.mem_map.mp h
    exact ⟨_, o.owns p hp⟩
theorem Wd.ok.fresh {K : PySem.W.Frag} {W : Wd} {n : Nat} {H : Hp} (o : W.ok K n H) {a : Addr} (h : H a = none) : ¬ W.rs a := fun r => by
  obtain ⟨xs, e, _⟩ := o.lst r
  rw [e] at h
  cases h
mutual
inductive At (K : PySem.W.Frag) (W : Wd) (H : Hp) : V → D → Prop
  | non : At K W H .non .non
  | bl (b : Bool) : At K W H (.bl b) (.bl b)
  | int (i : Int) : At K W H (.int i) (.int i)
  | str (x : Str) : At K W H (.str x) (.str x)
  | ty (t : Ty) : At K W H (.ty t.nm) (.ty t)
  | cls (a : Addr) : At K W H (.ref a) (.cls a)
  | tup {a : Addr} {xs : List V} {ds : List D} : SqT K H a xs → AtAll K W H xs ds → At K W H (.ref a) (.tup ds)
  | lst {a : Addr} {xs : List V} {ds : List D} : ¬ W.rs a → H a = some (.lst xs) → AtAll K W H xs ds → At K W H (.ref a) (.lst ds)
  | dic {a : Addr} {ks : List Key} {xs : List V} {ds : List D} : ¬ W.rs a → H a = some (.dK (ks.zip xs)) → ks.length = xs.length → AtAll K W H xs ds → At K W H (.ref a) (.dic ks ds)
  | ins {a C dx : Addr} {ns : List Str} {xs : List V} {ds : List D} : H a = some (.ins C dx (ns.zip xs)) → ns.length = xs.length → AtAll K W H xs ds → At K W H (.ref a) (.ins C ns ds)
  | deck {d b : Addr} : W.dk = some (d, b) → At K W H (.ref d) .deck
  | xcp0 {a C : Addr} : At K W H (.ref a) (.xcp a C none [] [])
  | xcp1 {a C dx : Addr} {ns : List Str} {xs : List V} {ds : List D} : H dx = some (.xd (ns.zip xs)) → ns.length = xs.length → AtAll K W H xs ds → At K W H (.ref a) (.xcp a C (some dx) ns ds)
inductive AtAll (K : PySem.W.Frag) (W : Wd) (H : Hp) : List V → List D → Prop
  | nil : AtAll K W H [] []
  | cons {v : V} {vs : List V} {d : D} {ds : List D} : At K W H v d → AtAll K W H vs ds → AtAll K W H (v :: vs) (d :: ds)
end
section
variable {K : PySem.W.Frag} {W : Wd} {H H' : Hp}
def Wd.lk (W : Wd) (H : Hp) : Prop := ∀ a, W.rs a → ∀ o, H a = some o → Mt o
theorem Wd.ok.lk {n : Nat} (o : W.ok K n H) : W.lk H := fun a r ob e => by
  obtain ⟨xs, e', m⟩ := o.lst r
  rw [e'] at e
  cases e
  exact m
theorem sqt_lk {a : Addr} {xs : List V} (o : W.lk H) (l : W.le H H') (h : SqT K H a xs) : SqT K H' a xs := by
  rcases h with (h | ⟨ob, h⟩) | h
  · exact .inl (.inl (l _ _ (fun r => o _ r _ h) h))
  · exact .inl (.inr ⟨ob, l _ _ (fun r => o _ r _ h) h⟩)
  · exact .inr h
mutual
theorem At.lk (o : W.lk H) (l : W.le H H') : ∀ (d : D) {v : V}, At K W H v d → At K W H' v d
  | .non, _, h => by cases h; exact .non
  | .bl b, _, h => by cases h; exact .bl b
  | .int i, _, h => by cases h; exact .int i
  | .str x, _, h => by cases h; exact .str x
  | .ty t, _, h => by cases h; exact .ty t
  | .cls a, _, h => by cases h; exact .cls a
  | .tup ds, _, h => by
    cases h with
    | tup s a => exact .tup (sqt_lk o l s) (AtAll.lk o l ds a)
  | .lst ds, _, h => by
    cases h with
    | lst r s a => exact .lst r (l _ _ r s) (AtAll.lk o l ds a)
  | .dic ks ds, _, h => by
    cases h with
    | dic r s e a => exact .dic r (l _ _ r s) e (AtAll.lk o l ds a)
  | .ins C ns ds, _, h => by
    cases h with
    | ins s e a => exact .ins (l _ _ (fun r => o _ r _ s) s) e (AtAll.lk o l ds a)
  | .deck, _, h => by
    cases h with
    | deck e => exact .deck e
  | .xcp a C d ns ds, _, h => by
    cases h with
    | xcp0 => exact .xcp0
    | xcp1 s e b => exact .xcp1 (l _ _ (fun r => o _ r _ s) s) e (AtAll.lk o l _ b)
theorem AtAll.lk (o : W.lk H) (l : W.le H H') : ∀ (ds : List D) {vs : List V}, AtAll K W H vs ds → AtAll K W H' vs ds
  | [], _, h => by cases h; exact .nil
  | d :: ds, _, h => by
    cases h with
    | cons a r => exact .cons (At.lk o l d a) (AtAll.lk o l ds r)
end
theorem At.le {n : Nat} (o : W.ok K n H) (l : W.le H H') (d : D) {v : V} (h : At K W H v d) : At K W H' v d := At.lk o.lk l d h
theorem AtAll.le {n : Nat} (o : W.ok K n H) (l : W.le H H') (ds : List D) {vs : List V} (h : AtAll K W H vs ds) : AtAll K W H' vs ds := AtAll.lk o.lk l ds h
/-- one more list is being built -/
def Wd.add (W : Wd) (p : Addr × HO) : Wd := { W with own := p :: W.own }
mutual
/-- a world with more that is reserved, none of it there -/
theorem At.ext {W' : Wd} (hr : ∀ a, W'.rs a → ¬ W.rs a → H a = none) (hd : W'.dk = W.dk) : ∀ (d : D) {v : V}, At K W H v d → At K W' H v d
  | .non, _, h => by cases h; exact .non
  | .bl b, _, h => by cases h; exact .bl b
  | .int i, _, h => by cases h; exact .int i
  | .str x, _, h => by cases h; exact .str x
  | .ty t, _, h => by cases h; exact .ty t
  | .cls a, _, h => by cases h; exact .cls a
  | .tup ds, _, h => by
    cases h with
    | tup s a => exact .tup s (AtAll.ext hr hd ds a)
  | .lst ds, _, h => by
    cases h with
    | lst r s a => exact .lst (fun z => by rw [hr _ z r] at s; cases s) s (AtAll.ext hr hd ds a)
  | .dic ks ds, _, h => by
    cases h with
    | dic r s e a => exact .dic (fun z => by rw [hr _ z r] at s; cases s) s e (AtAll.ext hr hd ds a)
  | .ins C ns ds, _, h => by
    cases h with
    | ins s e a => exact .ins s e (AtAll.ext hr hd ds a)
  | .deck, _, h => by
    cases h with
    | deck e => exact .deck (hd.trans e)
  | .xcp a C d ns ds, _, h => by
    cases h with
    | xcp0 => exact .xcp0
    | xcp1 s e b => exact .xcp1 s e (AtAll.ext hr hd _ b)
theorem AtAll.ext {W' : Wd} (hr : ∀ a, W'.rs a → ¬ W.rs a → H a = none) (hd : W'.dk = W.dk) : ∀ (ds : List D) {vs : List V}, AtAll K W H vs ds → AtAll K W' H vs ds
  | [], _, h => by cases h; exact .nil
  | d :: ds, _, h => by
    cases h with
    | cons a r => exact .cons (At.ext hr hd d a) (AtAll.ext hr hd ds r)
end
mutual
/-- the worlds' reserved places alone count; fewer are less asked -/
theorem At.weak {W' : Wd} (hr : ∀ a, W'.rs a → W.rs a) (hd : W'.dk = W.dk) : ∀ (d : D) {v : V}, At K W H v d → At K W' H v d
  | .non, _, h => by cases h; exact .non
  | .bl b, _, h => by cases h; exact .bl b
  | .int i, _, h => by cases h; exact .int i
  | .str x, _, h => by cases h; exact .str x
  | .ty t, _, h => by cases h; exact .ty t
  | .cls a, _, h => by cases h; exact .cls a
  | .tup ds, _, h => by
    cases h with
    | tup s a => exact .tup s (AtAll.weak hr hd ds a)
  | .lst ds, _, h => by
    cases h with
    | lst r s a => exact .lst (fun z => r (hr _ z)) s (AtAll.weak hr hd ds a)
  | .dic ks ds, _, h => by
    cases h with
    | dic r s e a => exact .dic (fun z => r (hr _ z)) s e (AtAll.weak hr hd ds a)
  | .ins C ns ds, _, h => by
    cases h with
    | ins s e a => exact .ins s e (AtAll.weak hr hd ds a)
  | .deck, _, h => by
    cases h with
    | deck e => exact .deck (hd.trans e)
  | .xcp a C d ns ds, _, h => by
    cases h with
    | xcp0 => exact .xcp0
    | xcp1 s e b => exact .xcp1 s e (AtAll.weak hr hd _ b)
theorem AtAll.weak {W' : Wd} (hr : ∀ a, W'.rs a → W.rs a) (hd : W'.dk = W.dk) : ∀ (ds : List D) {vs : List V}, AtAll K W H vs ds → AtAll K W' H vs ds
  | [], _, h => by cases h; exact .nil
  | d :: ds, _, h => by
    cases h with
    | cons a r => exact .cons (At.weak hr hd d a) (AtAll.weak hr hd ds r)
end
theorem Wd.rs_add {q : Addr × HO} {a : Addr} (h : W.rs a) : (W.add q).rs a := by
  rcases h with h | h
  · exact .inl h
  · exact .inr (List.mem_cons_of_mem _ h)
theorem AtAll.length : ∀ {vs : List V} {ds : List D}, AtAll K W H vs ds → vs.length = ds.length
  | _, [], h => by cases h; rfl
  | _, d :: ds, h => by
    cases h with
    | cons a r => rw [List.length_cons, List.length_cons, AtAll.length r]
theorem AtAll.append : ∀ {vs us : List V} {ds es : List D}, AtAll K W H vs ds → AtAll K W H us es → AtAll K W H (vs ++ us) (ds ++ es)
  | _, _, [], _, h, g => by cases h; exact g
  | _, _, d :: ds, _, h, g => by
    cases h with
    | cons a r => exact .cons a (AtAll.append r g)
theorem AtAll.get : ∀ {vs : List V} {ds : List D} {i : Nat} {d : D}, AtAll K W H vs ds → ds[i]? = some d → ∃ v, vs[i]? = some v ∧ At K W H v d
  | _, [], _, _, h, e => by cases e
  | _, _ :: _, 0, _, h, e => by
    cases h with
    | cons a r => cases e; exact ⟨_, rfl, a⟩
  | _, _ :: ds, i + 1, _, h, e => by
    cases h with
    | cons a r => exact AtAll.get (i := i) r e
theorem AtAll.get' : ∀ {vs : List V} {ds : List D} {i : Nat} {v : V}, AtAll K W H vs ds → vs[i]? = some v → ∃ d, ds[i]? = some d ∧ At K W H v d
  | _, [], _, _, h, e => by cases h; cases e
  | _, _ :: _, 0, _, h, e => by
    cases h with
    | cons a r => cases e; exact ⟨_, rfl, a⟩
  | _, _ :: ds, i + 1, _, h, e => by
    cases h with
    | cons a r => exact AtAll.get' (i := i) r e
end
/-! ### environments and the judgement of expressions -/
abbrev Env' := List (Option D)
def eGet : Env' → Nat → Option D
  | [], _ => none
  | d :: _, 0 => d
  | _ :: r, i + 1 => eGet r i
def eSet : Env' → Nat → Option D → Env'
  | [], _, _ => []
  | _ :: r, 0, d => d :: r
  | x :: r, i + 1, d => x :: eSet r i d
theorem eSet_length : ∀ (ρ : Env') (i : Nat) (d : Option D), (eSet ρ i d).length = ρ.length
  | [], _, _ => rfl
  | _ :: _, 0, _ => rfl
  | x :: r, i + 1, d => by rw [eSet, List.length_cons, List.length_cons, eSet_length]
theorem eGet_set : ∀ {ρ : Env'} {i : Nat} {d : Option D} {e : D}, eGet (eSet ρ i d) i = some e → i < ρ.length ∧ d = some e
  | [], _, _, _, h => by cases h
  | _ :: _, 0, _, _, h => ⟨Nat.succ_pos _, h⟩
  | _ :: r, i + 1, _, _, h => let ⟨h1, h2⟩ := eGet_set (ρ := r) (i := i) h; ⟨Nat.succ_lt_succ h1, h2⟩
theorem eGet_ne : ∀ {ρ : Env'} {i j : Nat} {d : Option D}, i ≠ j → eGet (eSet ρ i d) j = eGet ρ j
  | [], _, _, _, _ => rfl
  | _ :: _, 0, 0, _, h => absurd rfl h
  | _ :: _, 0, _ + 1, _, _ => rfl
  | _ :: _, _ + 1, 0, _, _ => rfl
  | _ :: r, i + 1, j + 1, _, h => eGet_ne (ρ := r) (i := i) (j := j) fun z => h (by rw [z])
def EnvAt (K : PySem.W.Frag) (W : Wd) (H : Hp) (σ : L2.St) (ρ : Env') : Prop := σ.length = ρ.length ∧ ∀ (i : Nat) (d : D), eGet ρ i = some d → ∃ v, σ[i]? = some (some v) ∧ At K W H v d
theorem EnvAt.le {K : PySem.W.Frag} {W : Wd} {H H' : Hp} {n : Nat} {σ : L2.St} {ρ : Env'} (h : EnvAt K W H σ ρ) (o : W.ok K n H) (l : W.le H H') : EnvAt K W H' σ ρ :=
  ⟨h.1, fun i d e => let ⟨v, e', a⟩ := h.2 i d e; ⟨v, e', At.le o l d a⟩⟩
theorem EnvAt.set {K : PySem.W.Frag} {W : Wd} {H : Hp} {σ : L2.St} {ρ : Env'} {i : Nat} {v : V} {d : D} (h : EnvAt K W H σ ρ) (a : At K W H v d) : EnvAt K W H (σ.set i (some v)) (eSet ρ i (some d)) := by
  refine ⟨by rw [List.length_set, eSet_length]; exact h.1, fun j e he => ?_⟩
  by_cases hj : i = j
  · subst hj
    obtain ⟨hl, he⟩ := eGet_set he
    cases he
    exact ⟨v, by rw [List.getElem?_set_self (by rw [h.1]; exact hl)], a⟩
  · rw [eGet_ne hj] at he
    rw [List.getElem?_set_ne hj]
    exact h.2 j e he
/-- what is wanted of a value: any heap that has grown -/
def Wants (K : PySem.W.Frag) (W : Wd) (H : Hp) (Qa : D → Nat → Prop) (Q : VK) : Prop := ∀ d n', Qa d n' → ∀ H' v, W.le H H' → W.ok K n' H' → At K W H' v d → Q v H'
abbrev AE := Env' → Nat → (D → Nat → Prop) → Prop
class DE (K : PySem.W.Frag) (te : TE) (f : outParam AE) : Prop where
  run : ∀ (W : Wd) (σ : L2.St) (ρ : Env') (n : Nat) (H : Hp) (Q : VK) (Qa : D → Nat → Prop), Wants K W H Qa Q → EnvAt K W H σ ρ → W.ok K n H → f ρ n Qa → te σ H Q
abbrev AT := Env' → Nat → (Bool → Nat → Prop) → Prop
class DT (K : PySem.W.Frag) (te : TT) (f : outParam AT) : Prop where
  run : ∀ (W : Wd) (σ : L2.St) (ρ : Env') (n : Nat) (H : Hp) (Q : Bool → Hp → Prop) (Qa : Bool → Nat → Prop), (∀ b n', Qa b n' → ∀ H', W.le H H' → W.ok K n' H' → Q b H') → EnvAt K W H σ ρ → W.ok K n H → f ρ n Qa → te σ H Q
abbrev AA := Env' → Nat → (List D → Nat → Prop) → Prop
class DA (K : PySem.W.Frag) (te : TA) (f : outParam AA) : Prop where
  run : ∀ (W : Wd) (σ : L2.St) (ρ : Env') (n : Nat) (H : Hp) (Q : List V → Hp → Prop) (Qa : List D → Nat → Prop), (∀ ds n', Qa ds n' → ∀ H' vs, W.le H H' → W.ok K n' H' → AtAll K W H' vs ds → Q vs H') → EnvAt K W H σ ρ → W.ok K n H → f ρ n Qa → te σ H Q
/-- a choice whose side is not yet known -/
def aIte (b : Bool) (p q : Prop) : Prop := (b = true → p) ∧ (b = false → q)
theorem aT {p q : Prop} (h : p) : aIte true p q := ⟨fun _ => h, fun z => Bool.noConfusion z⟩
theorem aF {p q : Prop} (h : q) : aIte false p q := ⟨fun z => Bool.noConfusion z, fun _ => h⟩
section
variable {K : PySem.W.Frag}
/-- by values, one -/
class D1 (K : PySem.W.Frag) (r : V → Hp → VK → Prop) (f : outParam (D → Nat → (D → Nat → Prop) → Prop)) : Prop where
  run : ∀ (W : Wd) (n : Nat) (H : Hp) (x : V) (d : D) (Q : VK) (Qa : D → Nat → Prop), Wants K W H Qa Q → W.ok K n H → At K W H x d → f d n Qa → r x H Q
class D2 (K : PySem.W.Frag) (r : R2) (f : outParam (D → D → Nat → (D → Nat → Prop) → Prop)) : Prop where
  run : ∀ (W : Wd) (n : Nat) (H : Hp) (x y : V) (d e : D) (Q : VK) (Qa : D → Nat → Prop), Wants K W H Qa Q → W.ok K n H → At K W H x d → At K W H y e → f d e n Qa → r x y H Q
class DL (K : PySem.W.Frag) (r : List V → Hp → VK → Prop) (f : outParam (List D → Nat → (D → Nat → Prop) → Prop)) : Prop where
  run : ∀ (W : Wd) (n : Nat) (H : Hp) (xs : List V) (ds : List D) (Q : VK) (Qa : D → Nat → Prop), Wants K W H Qa Q → W.ok K n H → AtAll K W H xs ds → f ds n Qa → r xs H Q
theorem Wants.le {W : Wd} {H H1 : Hp} {Qa : D → Nat → Prop} {Q : VK} (h : Wants K W H Qa Q) (l : W.le H H1) : Wants K W H1 Qa Q := fun d n' q H' v l' o a => h d n' q H' v (l.trans l') o a
theorem Wants.now {W : Wd} {H : Hp} {Qa : D → Nat → Prop} {Q : VK} {n : Nat} {d : D} {v : V} (h : Wants K W H Qa Q) (o : W.ok K n H) (q : Qa d n) (a : At K W H v d) : Q v H := h d n q H v Wd.le_refl o a
/-- a new object -/
theorem Wants.new {W : Wd} {H : Hp} {Qa : D → Nat → Prop} {Q : VK} {n : Nat} {d : D} {p : Addr} {ob : HO} (h : Wants K W H Qa Q) (o : W.ok K n H) (q : Qa d n) (hp : H p = none) (a : At K W (upd H p ob) (.ref p) d) : Q (.ref p) (upd H p ob) :=
  h d n q _ _ (Wd.le_same (same_upd hp)) (o.same (same_upd hp)) a
/-! expressions -/
def aVar (i : Nat) : AE := fun ρ n Q => match eGet ρ i with
  | some d => Q d n
  | none => False
instance {i : Nat} : DE K (tVar i) (aVar i) := ⟨fun W σ ρ n H Q Qa hQ hE o h => by
  unfold aVar at h
  split at h
  · rename_i d e
    obtain ⟨v, e', a⟩ := hE.2 i d e
    exact ⟨v, e', hQ.now o h a⟩
  · exact h.elim⟩
def vD : V → Option D
  | .non => some .non | .bl b => some (.bl b) | .int i => some (.int i) | .str x => some (.str x)
  | _ => none
theorem vD_at {W : Wd} {H : Hp} {v : V} {d : D} (h : vD v = some d) : At K W H v d := by
  cases v <;> cases h
  · exact .non
  · exact .bl _
  · exact .int _
  · exact .str _
def aC (v : V) : AE := fun _ n Q => match vD v with
  | some d => Q d n
  | none => False
instance (priority := 100) {v : V} : DE K (tC v) (aC v) := ⟨fun W σ ρ n H Q Qa hQ hE o h => by
  unfold aC at h
  split at h
  · rename_i d e
    exact hQ.now o h (vD_at e)
  · exact h.elim⟩
def a1 (f : D → Nat → (D → Nat → Prop) → Prop) (fa : AE) : AE := fun ρ n Q => fa ρ n fun d n1 => f d n1 Q
def a2 (f : D → D → Nat → (D → Nat → Prop) → Prop) (fa fb : AE) : AE := fun ρ n Q => fa ρ n fun d n1 => fb ρ n1 fun e n2 => f d e n2 Q
instance {r : R2} {f : D → D → Nat → (D → Nat → Prop) → Prop} {ta tb : TE} {fa fb : AE} [D2 K r f] [DE K ta fa] [DE K tb fb] : DE K (tOp r ta tb) (a2 f fa fb) := ⟨fun W σ ρ n H Q Qa hQ hE o h =>
  DE.run (te := ta) (f := fa) W σ ρ n H _ _ (fun d n1 h1 H1 x l1 o1 ax => DE.run (te := tb) (f := fb) W σ ρ n1 H1 _ _ (fun e n2 h2 H2 y l2 o2 ay => D2.run (f := f) W n2 H2 x y d e Q Qa (hQ.le (l1.trans l2)) o2 (At.le o1 l2 d ax) ay h2) (hE.le o l1) o1 h1) hE o h⟩
instance {r : V → Hp → VK → Prop} {f : D → Nat → (D → Nat → Prop) → Prop} {ta : TE} {fa : AE} [D1 K r f] [DE K ta fa] : DE K (tUn r ta) (a1 f fa) := ⟨fun W σ ρ n H Q Qa hQ hE o h =>
  DE.run (te := ta) (f := fa) W σ ρ n H _ _ (fun d n1 h1 H1 x l1 o1 ax => D1.run (f := f) W n1 H1 x d Q Qa (hQ.le l1) o1 ax h1) hE o h⟩
def aInt2 (C : Int → Int → Prop) (g : Int → Int → V) : D → D → Nat → (D → Nat → Prop) → Prop
  | .int i, .int j, n, Q => C i j ∧ (match vD (g i j) with
    | some d => Q d n
    | none => False)
  | _, _, _, _ => False
def aInt0 (g : Int → Int → V) : D → D → Nat → (D → Nat → Prop) → Prop
  | .int i, .int j, n, Q => (match vD (g i j) with
    | some d => Q d n
    | none => False)
  | _, _, _, _ => False
instance {C : Int → Int → Prop} {g : Int → Int → V} : D2 K (rI C g) (aInt2 C g) := ⟨fun W n H x y d e Q Qa hQ o ax ay h => by
  unfold aInt2 at h
  split at h
  · obtain ⟨hc, h⟩ := h
    cases ax
    cases ay
    refine ⟨_, _, rfl, rfl, hc, ?_⟩
    split at h
    · rename_i d e
      exact hQ.now o h (vD_at e)
    · exact h.elim
  · exact h.elim⟩
instance {g : Int → Int → V} : D2 K (rI0 g) (aInt0 g) := ⟨fun W n H x y d e Q Qa hQ o ax ay h => by
  unfold aInt0 at h
  split at h
  · cases ax
    cases ay
    refine ⟨_, _, rfl, rfl, ?_⟩
    split at h
    · rename_i d e
      exact hQ.now o h (vD_at e)
    · exact h.elim
  · exact h.elim⟩
def aIntU (g : Int → V) : D → Nat → (D → Nat → Prop) → Prop
  | .int i, n, Q => (match vD (g i) with
    | some d => Q d n
    | none => False)
  | _, _, _ => False
instance {g : Int → V} : D1 K (rU g) (aIntU g) := ⟨fun W n H x d Q Qa hQ o ax h => by
  unfold aIntU at h
  split at h
  · cases ax
    refine ⟨_, rfl, ?_⟩
    split at h
    · rename_i d e
      exact hQ.now o h (vD_at e)
    · exact h.elim
  · exact h.elim⟩
/-! == of scalars -/
def eqS : D → D → Option Bool
  | .int i, .int j => some (decide (i = j)) | .bl i, .bl j => some (decide (i = j)) | .str i, .str j => some (decide (i = j)) | .non, .non => some true
  | .non, .int _ => some false | .int _, .non => some false | .non, .bl _ => some false | .bl _, .non => some false | .non, .str _ => some false | .str _, .non => some false
  | .int _, .str _ => some false | .str _, .int _ => some false | .bl _, .str _ => some false | .str _, .bl _ => some false
  | _, _ => none
def aEqS (f : Bool → Bool) : D → D → Nat → (D → Nat → Prop) → Prop := fun d e n Q => match eqS d e with
  | some b => Q (.bl (f b)) n
  | none => False
theorem eqS_is {W : Wd} {H : Hp} {x y : V} {d e : D} {b : Bool} (ax : At K W H x d) (ay : At K W H y e) (h : eqS d e = some b) : scal x y = true ∧ decide (x = y) = b := by
  cases ax <;> cases ay <;> first
    | cases h; done
    | (cases h; refine ⟨rfl, ?_⟩; first
        | rfl
        | (refine decide_eq_decide.mpr ⟨fun z => ?_, fun z => by rw [z]⟩; injection z))
instance : D2 K rEq (aEqS id) := ⟨fun W n H x y d e Q Qa hQ o ax ay h => by
  unfold aEqS at h
  split at h
  · rename_i b e
    obtain ⟨h1, h2⟩ := eqS_is ax ay e
    refine ⟨h1, ?_⟩
    rw [h2]
    exact hQ.now o h (.bl _)
  · exact h.elim⟩
instance : D2 K rNe (aEqS not) := ⟨fun W n H x y d e Q Qa hQ o ax ay h => by
  unfold aEqS at h
  split at h
  · rename_i b e
    obtain ⟨h1, h2⟩ := eqS_is ax ay e
    refine ⟨h1, ?_⟩
    rw [h2]
    exact hQ.now o h (.bl _)
  · exact h.elim⟩
/-! tests -/
def aTest (f : AE) : AT := fun ρ n Q => f ρ n fun d n1 => match d with
  | .bl b => Q b n1
  | _ => False
theorem aTest_run {te : TE} {f : AE} [DE K te f] (W : Wd) (σ : L2.St) (ρ : Env') (n : Nat) (H : Hp) (Q : Bool → Hp → Prop) (Qa : Bool → Nat → Prop) (hQ : ∀ b n', Qa b n' → ∀ H', W.le H H' → W.ok K n' H' → Q b H') (hE : EnvAt K W H σ ρ) (o : W.ok K n H) (h : aTest f ρ n Qa) :
    te σ H fun x H' => ∃ k, x = .bl k ∧ Q k H' :=
  DE.run (te := te) (f := f) W σ ρ n H _ _ (fun d n1 h1 H1 x l1 o1 ax => by
    split at h1
    · cases ax
      exact ⟨_, rfl, hQ _ _ h1 H1 l1 o1⟩
    · exact h1.elim) hE o h
instance {te : TE} {f : AE} [DE K te f] : DT K (tTest te) (aTest f) := ⟨aTest_run⟩
instance {te : TE} {f : AE} [DE K te f] : DT K (tB te) (aTest f) := ⟨aTest_run⟩
def aNotT (f : AT) : AT := fun ρ n Q => f ρ n fun b n1 => Q (!b) n1
instance {t : TT} {f : AT} [DT K t f] : DT K (tNot t) (aNotT f) := ⟨fun W σ ρ n H Q Qa hQ hE o h => DT.run (te := t) (f := f) W σ ρ n H _ _ (fun b n1 h1 H1 l1 o1 => hQ _ _ h1 H1 l1 o1) hE o h⟩
def aAndT (f g : AT) : AT := fun ρ n Q => f ρ n fun b n1 => aIte b (g ρ n1 Q) (Q false n1)
def aOrT (f g : AT) : AT := fun ρ n Q => f ρ n fun b n1 => aIte b (Q true n1) (g ρ n1 Q)
instance {t u : TT} {f g : AT} [DT K t f] [DT K u g] : DT K (tAnd t u) (aAndT f g) := ⟨fun W σ ρ n H Q Qa hQ hE o h =>
  DT.run (te := t) (f := f) W σ ρ n H _ _ (fun b n1 h1 H1 l1 o1 => by
    cases b with
    | true => rw [if_pos rfl]; exact DT.run (te := u) (f := g) W σ ρ n1 H1 Q Qa (fun b n2 h2 H2 l2 o2 => hQ _ _ h2 H2 (l1.trans l2) o2) (hE.le o l1) o1 (h1.1 rfl)
    | false => rw [if_neg Bool.false_ne_true]; exact hQ _ _ (h1.2 rfl) H1 l1 o1) hE o h⟩
instance {t u : TT} {f g : AT} [DT K t f] [DT K u g] : DT K (tOr t u) (aOrT f g) := ⟨fun W σ ρ n H Q Qa hQ hE o h =>
  DT.run (te := t) (f := f) W σ ρ n H _ _ (fun b n1 h1 H1 l1 o1 => by
    cases b with
    | false => rw [if_neg Bool.false_ne_true]; exact DT.run (te := u) (f := g) W σ ρ n1 H1 Q Qa (fun b n2 h2 H2 l2 o2 => hQ _ _ h2 H2 (l1.trans l2) o2) (hE.le o l1) o1 (h1.2 rfl)
    | true => rw [if_pos rfl]; exact hQ _ _ (h1.1 rfl) H1 l1 o1) hE o h⟩
def aYes : AT := fun _ n Q => Q true n
instance : DT K tYes aYes := ⟨fun W σ ρ n H Q Qa hQ hE o h => hQ _ _ h H Wd.le_refl o⟩
def aNotV (f : AE) : AE := fun ρ n Q => f ρ n fun d n1 => match d with
  | .bl b => Q (.bl (!b)) n1
  | _ => False
def aBits (f : AE) : AE := fun ρ n Q => f ρ n fun d n1 => match d with
  | .int i => Q (.int (Builtin.Int.intBits i : Nat)) n1
  | _ => False
def aAndV (f g : AE) : AE := fun ρ n Q => f ρ n fun d n1 => match d with
  | .bl b => aIte b (g ρ n1 Q) (Q (.bl false) n1)
  | _ => False
def aOrV (f g : AE) : AE := fun ρ n Q => f ρ n fun d n1 => match d with
  | .bl b => aIte b (Q (.bl true) n1) (g ρ n1 Q)
  | _ => False
instance {te : TE} {f : AE} [DE K te f] : DE K (tNotV te) (aNotV f) := ⟨fun W σ ρ n H Q Qa hQ hE o h =>
  DE.run (te := te) (f := f) W σ ρ n H _ _ (fun d n1 h1 H1 x l1 o1 ax => by
    split at h1
    · cases ax
      exact ⟨_, rfl, (hQ.le l1).now o1 h1 (.bl _)⟩
    · exact h1.elim) hE o h⟩
instance {te : TE} {f : AE} [DE K te f] : DE K (tBits te) (aBits f) := ⟨fun W σ ρ n H Q Qa hQ hE o h =>
  DE.run (te := te) (f := f) W σ ρ n H _ _ (fun d n1 h1 H1 x l1 o1 ax => by
    split at h1
    · cases ax
      exact ⟨_, rfl, (hQ.le l1).now o1 h1 (.int _)⟩
    · exact h1.elim) hE o h⟩
instance {te tu : TE} {f g : AE} [DE K te f] [DE K tu g] : DE K (tAndV te tu) (aAndV f g) := ⟨fun W σ ρ n H Q Qa hQ hE o h =>
  DE.run (te := te) (f := f) W σ ρ n H _ _ (fun d n1 h1 H1 x l1 o1 ax => by
    split at h1
    · rename_i b
      cases ax
      refine ⟨_, rfl, ?_⟩
      cases b with
      | true => rw [if_pos rfl]; exact DE.run (te := tu) (f := g) W σ ρ n1 H1 Q Qa (hQ.le l1) (hE.le o l1) o1 (h1.1 rfl)
      | false => rw [if_neg Bool.false_ne_true]; exact (hQ.le l1).now o1 (h1.2 rfl) (.bl _)
    · exact h1.elim) hE o h⟩
instance {te tu : TE} {f g : AE} [DE K te f] [DE K tu g] : DE K (tOrV te tu) (aOrV f g) := ⟨fun W σ ρ n H Q Qa hQ hE o h =>
  DE.run (te := te) (f := f) W σ ρ n H _ _ (fun d n1 h1 H1 x l1 o1 ax => by
    split at h1
    · rename_i b
      cases ax
      refine ⟨_, rfl, ?_⟩
      cases b with
      | false => rw [if_neg Bool.false_ne_true]; exact DE.run (te := tu) (f := g) W σ ρ n1 H1 Q Qa (hQ.le l1) (hE.le o l1) o1 (h1.2 rfl)
      | true => rw [if_pos rfl]; exact (hQ.le l1).now o1 (h1.1 rfl) (.bl _)
    · exact h1.elim) hE o h⟩
def aIfE (c : AT) (f g : AE) : AE := fun ρ n Q => c ρ n fun b n1 => aIte b (f ρ n1 Q) (g ρ n1 Q)
instance {tc : TT} {te tu : TE} {c : AT} {f g : AE} [DT K tc c] [DE K te f] [DE K tu g] : DE K (tIf tc te tu) (aIfE c f g) := ⟨fun W σ ρ n H Q Qa hQ hE o h =>
  DT.run (te := tc) (f := c) W σ ρ n H _ _ (fun b n1 h1 H1 l1 o1 => by
    cases b with
    | true => rw [if_pos rfl]; exact DE.run (te := te) (f := f) W σ ρ n1 H1 Q Qa (hQ.le l1) (hE.le o l1) o1 (h1.1 rfl)
    | false => rw [if_neg Bool.false_ne_true]; exact DE.run (te := tu) (f := g) W σ ρ n1 H1 Q Qa (hQ.le l1) (hE.le o l1) o1 (h1.2 rfl)) hE o h⟩
def aChain (f g : D → D → Nat → (D → Nat → Prop) → Prop) (fa fb fc : AE) : AE := fun ρ n Q => fa ρ n fun x n1 => fb ρ n1 fun y n2 => f x y n2 fun z n3 => match z with
  | .bl b => aIte b (fc ρ n3 fun w n4 => g y w n4 Q) (Q (.bl false) n3)
  | _ => False
instance {r r' : R2} {f g : D → D → Nat → (D → Nat → Prop) → Prop} {ta tb tc : TE} {fa fb fc : AE} [D2 K r f] [D2 K r' g] [DE K ta fa] [DE K tb fb] [DE K tc fc] : DE K (tChain r r' ta tb tc) (aChain f g fa fb fc) := ⟨fun W σ ρ n H Q Qa hQ hE o h =>
  DE.run (te := ta) (f := fa) W σ ρ n H _ _ (fun d n1 h1 H1 x l1 o1 ax => DE.run (te := tb) (f := fb) W σ ρ n1 H1 _ _ (fun e n2 h2 H2 y l2 o2 ay => D2.run (f := f) W n2 H2 x y d e _ _ (fun z n3 h3 H3 v l3 o3 az => by
    split at h3
    · rename_i b
      cases az
      refine ⟨_, rfl, ?_⟩
      have l13 := l1.trans (l2.trans l3)
      cases b with
      | true =>
        rw [if_pos rfl]
        exact DE.run (te := tc) (f := fc) W σ ρ n3 H3 _ _ (fun w n4 h4 H4 u l4 o4 au => D2.run (f := g) W n4 H4 y u e w Q Qa (hQ.le (l13.trans l4)) o4 (At.le o2 (l3.trans l4) e ay) au h4) (hE.le o l13) o3 (h3.1 rfl)
      | false => rw [if_neg Bool.false_ne_true]; exact (hQ.le l13).now o3 (h3.2 rfl) (.bl _)
    · exact h3.elim) o2 (At.le o1 l2 d ax) ay h2) (hE.le o l1) o1 h1) hE o h⟩
/-! argument lists, displays, calls -/
def aNil : AA := fun _ n Q => Q [] n
def aCons (f : AE) (g : AA) : AA := fun ρ n Q => f ρ n fun d n1 => g ρ n1 fun ds n2 => Q (d :: ds) n2
instance : DA K tNil aNil := ⟨fun W σ ρ n H Q Qa hQ hE o h => hQ _ _ h H _ Wd.le_refl o .nil⟩
instance {te : TE} {ta : TA} {f : AE} {g : AA} [DE K te f] [DA K ta g] : DA K (tCons te ta) (aCons f g) := ⟨fun W σ ρ n H Q Qa hQ hE o h =>
  DE.run (te := te) (f := f) W σ ρ n H _ _ (fun d n1 h1 H1 x l1 o1 ax => DA.run (te := ta) (f := g) W σ ρ n1 H1 _ _ (fun ds n2 h2 H2 xs l2 o2 axs => hQ _ _ h2 H2 _ (l1.trans l2) o2 (.cons (At.le o1 l2 d ax) axs)) (hE.le o l1) o1 h1) hE o h⟩
def aTup (g : AA) : AE := fun ρ n Q => g ρ n fun ds n1 => match Nat.ble ds.length 1000 with
  | true => Q (.tup ds) n1
  | false => False
def aLst (g : AA) : AE := fun ρ n Q => g ρ n fun ds n1 => match Nat.ble ds.length 1000 with
  | true => Q (.lst ds) n1
  | false => False
instance {ta : TA} {g : AA} [DA K ta g] : DE K (tTup ta) (aTup g) := ⟨fun W σ ρ n H Q Qa hQ hE o h =>
  DA.run (te := ta) (f := g) W σ ρ n H _ _ (fun ds n1 h1 H1 xs l1 o1 ax => by
    split at h1
    · rename_i e
      refine ⟨size63 (by rw [ax.length]; exact Nat.le_of_ble_eq_true e), fun p hp => (hQ.le l1).new o1 h1 hp ?_⟩
      exact .tup (.inl (.inl upd_same)) (AtAll.le o1 (Wd.le_same (same_upd hp)) ds ax)
    · exact h1.elim) hE o h⟩
instance {ta : TA} {g : AA} [DA K ta g] : DE K (tLst ta) (aLst g) := ⟨fun W σ ρ n H Q Qa hQ hE o h =>
  DA.run (te := ta) (f := g) W σ ρ n H _ _ (fun ds n1 h1 H1 xs l1 o1 ax => by
    split at h1
    · rename_i e
      refine ⟨size63 (by rw [ax.length]; exact Nat.le_of_ble_eq_true e), fun p hp => (hQ.le l1).new o1 h1 hp ?_⟩
      exact .lst (o1.fresh hp) upd_same (AtAll.le o1 (Wd.le_same (same_upd hp)) ds ax)
    · exact h1.elim) hE o h⟩
abbrev ASp := List D → Nat → (D → Nat → Prop) → Prop
/-- the promise of a def that only makes new things (and draws) -/
def spOf (K : PySem.W.Frag) (k : Nat) (A : ASp) : Sp := fun vs H Q _ => ∃ (W : Wd) (n : Nat) (ds : List D) (Qa : D → Nat → Prop), AtAll K W H vs ds ∧ ds.length = k ∧ W.ok K n H ∧ Wants K W H Qa Q ∧ A ds n Qa
def aCall (k : Nat) (A : ASp) (g : AA) : AE := fun ρ n Q => g ρ n fun ds n1 => match Nat.beq ds.length k with
  | true => A ds n1 Q
  | false => False
instance {k : Nat} {A : ASp} {E : XK} {ta : TA} {g : AA} [DA K ta g] : DE K (tCall (spOf K k A) [] E ta) (aCall k A g) := ⟨fun W σ ρ n H Q Qa hQ hE o h =>
  DA.run (te := ta) (f := g) W σ ρ n H _ _ (fun ds n1 h1 H1 xs l1 o1 ax => by
    rw [List.append_nil]
    split at h1
    · rename_i e
      exact ⟨W, n1, ds, Qa, ax, Nat.eq_of_beq_eq_true e, o1, hQ.le l1, h1⟩
    · exact h1.elim) hE o h⟩
def aCB (f : List D → Nat → (D → Nat → Prop) → Prop) (g : AA) : AE := fun ρ n Q => g ρ n fun ds n1 => f ds n1 Q
instance {r : List V → Hp → VK → Prop} {f : List D → Nat → (D → Nat → Prop) → Prop} {ta : TA} {g : AA} [DL K r f] [DA K ta g] : DE K (tCB r ta) (aCB f g) := ⟨fun W σ ρ n H Q Qa hQ hE o h =>
  DA.run (te := ta) (f := g) W σ ρ n H _ _ (fun ds n1 h1 H1 xs l1 o1 ax => DL.run (f := f) W n1 H1 xs ds Q Qa (hQ.le l1) o1 ax h1) hE o h⟩
end

/-! ### the mirror, second part: rules over the kinds -/
section
variable {K : PySem.W.Frag}
theorem take_at {W : Wd} {H : Hp} : ∀ (k : Nat) {vs : List V} {ds : List D}, AtAll K W H vs ds → AtAll K W H (vs.take k) (ds.take k)
  | 0, _, _, _ => .nil
  | k + 1, _, [], h => by cases h; exact .nil
  | k + 1, _, d :: ds, h => by
    cases h with
    | cons a r => exact .cons a (take_at k r)
theorem drop_at {W : Wd} {H : Hp} : ∀ (k : Nat) {vs : List V} {ds : List D}, AtAll K W H vs ds → AtAll K W H (vs.drop k) (ds.drop k)
  | 0, _, _, h => h
  | k + 1, _, [], h => by cases h; exact .nil
  | k + 1, _, d :: ds, h => by
    cases h with
    | cons a r => exact drop_at k r
theorem rev_at {W : Wd} {H : Hp} : ∀ {vs : List V} {ds : List D}, AtAll K W H vs ds → AtAll K W H vs.reverse ds.reverse
  | _, [], h => by cases h; exact .nil
  | _, d :: ds, h => by
    cases h with
    | cons a r =>
      rw [List.reverse_cons, List.reverse_cons]
      exact (rev_at r).append (.cons a .nil)
theorem atI_at {W : Wd} {H : Hp} {vs : List V} {ds : List D} {i : Int} {d : D} (h : AtAll K W H vs ds) (e : atI ds i = some d) : ∃ v, atI vs i = some v ∧ At K W H v d := by
  unfold atI at e ⊢
  rw [h.length]
  cases e1 : ixN ds.length i with
  | none => rw [e1] at e; cases e
  | some j =>
    rw [e1] at e
    obtain ⟨v, h1, h2⟩ := h.get (i := j) e
    exact ⟨v, h1, h2⟩
theorem lim : (1000000 : Nat) ≤ sizeLine := by rw [sizeLine_eq]; decide
/-! a place in a list, a tuple, a text -/
def aIx : D → D → Nat → (D → Nat → Prop) → Prop
  | .tup ds, .int i, n, Q => (match atI ds i with
    | some d => Q d n
    | none => False)
  | .lst ds, .int i, n, Q => (match atI ds i with
    | some d => Q d n
    | none => False)
  | .str z, .int i, n, Q => z.length ≤ 1000000 ∧ (match atI z.cps.toList i with
    | some c => Q (.str ⟨#[c]⟩) n
    | none => False)
  | _, _, _, _ => False
instance : D2 K (rIx K) aIx := ⟨fun W n H x y d e Q Qa hQ o ax ay h => by
  unfold aIx at h
  split at h
  · cases ay
    cases ax with
    | tup s a =>
      split at h
      · rename_i d' e'
        obtain ⟨v, h1, h2⟩ := atI_at a e'
        exact .inr (.inl ⟨_, _, _, v, rfl, rfl, s, h1, hQ.now o h h2⟩)
      · exact h.elim
  · cases ay
    cases ax with
    | lst r s a =>
      split at h
      · rename_i d' e'
        obtain ⟨v, h1, h2⟩ := atI_at a e'
        exact .inl ⟨_, _, _, v, rfl, rfl, SqL.of s, h1, hQ.now o h h2⟩
      · exact h.elim
  · cases ay
    cases ax
    obtain ⟨hl, h⟩ := h
    split at h
    · rename_i c e'
      exact .inr (.inr ⟨_, _, c, rfl, rfl, Nat.le_trans hl lim, e', hQ.now o h (.str _)⟩)
    · exact h.elim
  · exact h.elim⟩
theorem k_ix {X : Cx} (hK : X.K = K) : IxR X (rIx K) := hK ▸ ix_seq
/-- the same, where the place is not written -/
def rIxY (K : PySem.W.Frag) : R2 := rIx K
@[irreducible] def aIxS : D → D → Nat → (D → Nat → Prop) → Prop := aIx
instance : D2 K (rIxY K) aIxS := ⟨fun W n H x y d e Q Qa hQ o ax ay h => by
  unfold aIxS at h
  exact D2.run (K := K) (r := rIx K) (f := aIx) W n H x y d e Q Qa hQ o ax ay h⟩
theorem k_ixS {X : Cx} (hK : X.K = K) : IxR X (rIxY K) := hK ▸ ix_seq
theorem aIx_lst {ds : List D} {i : Int} {d : D} {n : Nat} {Q : D → Nat → Prop} (e : atI ds i = some d) (q : Q d n) : aIxS (.lst ds) (.int i) n Q := by
  unfold aIxS
  show (match atI ds i with
    | some d => Q d n
    | none => False)
  rw [e]
  exact q
theorem aIx_tup {ds : List D} {i : Int} {d : D} {n : Nat} {Q : D → Nat → Prop} (e : atI ds i = some d) (q : Q d n) : aIxS (.tup ds) (.int i) n Q := by
  unfold aIxS
  show (match atI ds i with
    | some d => Q d n
    | none => False)
  rw [e]
  exact q
/-! + -/
def rAddA (K : PySem.W.Frag) : R2 := fun x y H Q => (rI0 (fun i j => .int (i + j)) x y H Q ∨ rCat x y H Q) ∨ (rCatT K x y H Q ∨ ∃ i j, x = .str i ∧ y = .str j ∧ i.length + j.length ≤ sizeLine ∧ Q (.str (i ++ j)) H)
theorem OpR.or' {X : Cx} {op : Value → Value → Sem Value} {r r' : R2} (h : OpR X op r) (h' : OpR X op r') : OpR X op (fun x y H Q => r x y H Q ∨ r' x y H Q) := by
  intro pins s σ H x y v u Q I rx ry q
  rcases q with q | q
  · exact h pins s σ H x y v u Q I rx ry q
  · exact h' pins s σ H x y v u Q I rx ry q
theorem k_add {X : Cx} (hK : X.K = K) : OpR X (binaryOp .Add) (rAddA K) := hK ▸ OpR.or' (OpR.or' op_add op_cat) (OpR.or' op_catT op_add_str)
def aAdd : D → D → Nat → (D → Nat → Prop) → Prop
  | .int i, .int j, n, Q => Q (.int (i + j)) n
  | .lst ds, .lst es, n, Q => ds.length + es.length ≤ 1000000 ∧ Q (.lst (ds ++ es)) n
  | .tup ds, .tup es, n, Q => ds ≠ [] ∧ ds.length + es.length ≤ 1000000 ∧ Q (.tup (ds ++ es)) n
  | .str a, .str b, n, Q => a.length + b.length ≤ 1000000 ∧ Q (.str (a ++ b)) n
  | _, _, _, _ => False
instance : D2 K (rAddA K) aAdd := ⟨fun W n H x y d e Q Qa hQ o ax ay h => by
  unfold aAdd at h
  split at h
  · cases ax
    cases ay
    exact .inl (.inl ⟨_, _, rfl, rfl, hQ.now o h (.int _)⟩)
  · cases ax with
    | lst r s a =>
      cases ay with
      | lst r' s' a' =>
        refine .inl (.inr ⟨_, _, _, _, rfl, rfl, s, s', ?_, fun p hp => hQ.new o h.2 hp ?_⟩)
        · rw [a.length, a'.length]
          exact Nat.le_trans h.1 lim
        · exact .lst (o.fresh hp) upd_same ((AtAll.le o (Wd.le_same (same_upd hp)) _ a).append (AtAll.le o (Wd.le_same (same_upd hp)) _ a'))
  · cases ax with
    | tup s a =>
      cases ay with
      | tup s' a' =>
        obtain ⟨h0, h1, h2⟩ := h
        refine .inr (.inl ⟨_, _, _, _, rfl, rfl, s, s', ?_, ?_, fun z => ?_, fun z p hp => hQ.new o h2 hp ?_⟩)
        · rintro rfl
          cases a
          exact h0 rfl
        · rw [a.length, a'.length]
          exact Nat.le_trans h1 lim
        · subst z
          cases a'
          rw [List.append_nil] at h2
          exact hQ.now o h2 (.tup s a)
        · exact .tup (.inl (.inl upd_same)) ((AtAll.le o (Wd.le_same (same_upd hp)) _ a).append (AtAll.le o (Wd.le_same (same_upd hp)) _ a'))
  · cases ax
    cases ay
    exact .inr (.inr ⟨_, _, rfl, rfl, Nat.le_trans h.1 lim, hQ.now o h.2 (.str _)⟩)
  · exact h.elim⟩
/-! * and // of numbers of any size -/
def CMulA (i j : Int) : Prop := CMul i j ∨ CMulW i j
def CDivA (i j : Int) : Prop := CDiv i j ∨ CDivW i j
theorem k_mul {X : Cx} : OpR X (binaryOp .Mult) (rI CMulA fun i j => .int (i * j)) := by
  intro pins s σ H x y v u Q I rx ry q
  obtain ⟨i, j, h1, h2, h | h, q⟩ := q
  · exact op_mul pins s σ H x y v u Q I rx ry ⟨i, j, h1, h2, h, q⟩
  · exact op_mulW pins s σ H x y v u Q I rx ry ⟨i, j, h1, h2, h, q⟩
theorem k_fdiv {X : Cx} : OpR X (binaryOp .FloorDiv) (rI CDivA fun i j => .int (i / j)) := by
  intro pins s σ H x y v u Q I rx ry q
  obtain ⟨i, j, h1, h2, h | h, q⟩ := q
  · exact op_fdiv pins s σ H x y v u Q I rx ry ⟨i, j, h1, h2, h, q⟩
  · exact op_fdivW pins s σ H x y v u Q I rx ry ⟨i, j, h1, h2, h, q⟩
/-! == at any depth -/
mutual
def D.pd : D → PyData
  | .bl b => .bool b | .int i => .int i | .str x => .str x | .tup ds => .tuple (pdAll ds) | .lst ds => .list (pdAll ds)
  | _ => .none
def pdAll : List D → List PyData
  | [] => []
  | d :: ds => d.pd :: pdAll ds
end
mutual
def D.isD : D → Bool
  | .non => true | .bl _ => true | .int _ => true | .str _ => true | .tup ds => isDAll ds | .lst ds => isDAll ds
  | _ => false
def isDAll : List D → Bool
  | [] => true
  | d :: ds => d.isD && isDAll ds
end
mutual
theorem At.dp {W : Wd} {H : Hp} : ∀ (d : D) {v : V}, d.isD = true → At K W H v d → Dp K H v d.pd
  | .non, _, _, h => by cases h; exact .non
  | .bl b, _, _, h => by cases h; exact .bl b
  | .int i, _, _, h => by cases h; exact .int i
  | .str x, _, _, h => by cases h; exact .str x
  | .ty t, _, e, _ => Bool.noConfusion e
  | .cls a, _, e, _ => Bool.noConfusion e
  | .tup ds, _, e, h => by
    cases h with
    | tup s a => exact .tup s (AtAll.dp ds e a)
  | .lst ds, _, e, h => by
    cases h with
    | lst r s a => exact .lst (SqL.of s) (AtAll.dp ds e a)
  | .dic ks ds, _, e, _ => Bool.noConfusion e
  | .ins C ns ds, _, e, _ => Bool.noConfusion e
  | .deck, _, e, _ => Bool.noConfusion e
  | .xcp _ _ _ _ _, _, e, _ => Bool.noConfusion e
theorem AtAll.dp {W : Wd} {H : Hp} : ∀ (ds : List D) {vs : List V}, isDAll ds = true → AtAll K W H vs ds → DpAll K H vs (pdAll ds)
  | [], _, _, h => by cases h; exact .nil
  | d :: ds, _, e, h => by
    have e' : (d.isD && isDAll ds) = true := e
    rw [Bool.and_eq_true] at e'
    cases h with
    | cons a r => exact .cons (At.dp d e'.1 a) (AtAll.dp ds e'.2 r)
end
def rEqA (K : PySem.W.Frag) : R2 := fun x y H Q => rEq x y H Q ∨ rEqD K x y H Q
def rNeA (K : PySem.W.Frag) : R2 := fun x y H Q => rNe x y H Q ∨ rNeD K x y H Q
theorem k_eq {X : Cx} (hK : X.K = K) (hu : X.A.units + 64 < cLine) : OpR X (compareOp .Eq) (rEqA K) := hK ▸ OpR.or' op_eq (op_eqD hu)
theorem k_ne {X : Cx} (hK : X.K = K) (hu : X.A.units + 64 < cLine) : OpR X (compareOp .NotEq) (rNeA K) := hK ▸ OpR.or' op_ne (op_neD hu)
def aEq (f : Bool → Bool) : D → D → Nat → (D → Nat → Prop) → Prop := fun d e n Q => match eqS d e with
  | some b => Q (.bl (f b)) n
  | none => (d.isD = true ∧ e.isD = true ∧ SeqAt.shaped d.pd = true ∧ SeqAt.shaped e.pd = true) ∧ Q (.bl (f (PyData.eqv d.pd e.pd))) n
instance : D2 K (rEqA K) (aEq id) := ⟨fun W n H x y d e Q Qa hQ o ax ay h => by
  unfold aEq at h
  split at h
  · rename_i b e
    obtain ⟨h1, h2⟩ := eqS_is ax ay e
    refine .inl ⟨h1, ?_⟩
    rw [h2]
    exact hQ.now o h (.bl _)
  · obtain ⟨⟨h1, h2, h3, h4⟩, h⟩ := h
    exact .inr ⟨_, _, At.dp d h1 ax, At.dp e h2 ay, h3, h4, hQ.now o h (.bl _)⟩⟩
instance : D2 K (rNeA K) (aEq not) := ⟨fun W n H x y d e Q Qa hQ o ax ay h => by
  unfold aEq at h
  split at h
  · rename_i b e
    obtain ⟨h1, h2⟩ := eqS_is ax ay e
    refine .inl ⟨h1, ?_⟩
    rw [h2]
    exact hQ.now o h (.bl _)
  · obtain ⟨⟨h1, h2, h3, h4⟩, h⟩ := h
    exact .inr ⟨_, _, At.dp d h1 ax, At.dp e h2 ay, h3, h4, hQ.now o h (.bl _)⟩⟩
/-! is None -/
def rIsN : R2 := fun x y H Q => y = .non ∧ Q (.bl (decide (x = .non))) H
def rNotN : R2 := fun x y H Q => y = .non ∧ Q (.bl (!decide (x = .non))) H
theorem k_isN {X : Cx} : OpR X (compareOp .Is) rIsN := op_isN
theorem k_notN {X : Cx} : OpR X (compareOp .IsNot) rNotN := op_notN
def D.isN : D → Bool
  | .non => true
  | _ => false
def aIsN (f : Bool → Bool) : D → D → Nat → (D → Nat → Prop) → Prop
  | d, .non, n, Q => Q (.bl (f d.isN)) n
  | _, _, _, _ => False
theorem isN_is {W : Wd} {H : Hp} {x : V} {d : D} (ax : At K W H x d) : decide (x = .non) = d.isN := by
  cases ax <;> rfl
instance : D2 K rIsN (aIsN id) := ⟨fun W n H x y d e Q Qa hQ o ax ay h => by
  unfold aIsN at h
  split at h
  · cases ay
    refine ⟨rfl, ?_⟩
    rw [isN_is ax]
    exact hQ.now o h (.bl _)
  · exact h.elim⟩
instance : D2 K rNotN (aIsN not) := ⟨fun W n H x y d e Q Qa hQ o ax ay h => by
  unfold aIsN at h
  split at h
  · cases ay
    refine ⟨rfl, ?_⟩
    rw [isN_is ax]
    exact hQ.now o h (.bl _)
  · exact h.elim⟩
/-! built-in functions -/
def rLen (K : PySem.W.Frag) : List V → Hp → VK → Prop := fun xs H Q => ∃ x n, xs = [x] ∧ LenV K x H n ∧ Q (.int n) H
theorem k_len {X : Cx} (hK : X.K = K) : CallR X (.builtin "len") (rLen K) := hK ▸ call_len
def aLen : List D → Nat → (D → Nat → Prop) → Prop
  | [.tup ds], n, Q => Q (.int ds.length) n
  | [.lst ds], n, Q => Q (.int ds.length) n
  | [.str z], n, Q => z.length ≤ 1000000 ∧ Q (.int z.length) n
  | _, _, _ => False
instance : DL K (rLen K) aLen := ⟨fun W n H xs ds Q Qa hQ o a h => by
  unfold aLen at h
  split at h
  · cases a with
    | cons a r =>
      cases r
      cases a with
      | tup s a => exact ⟨_, _, rfl, .inr ⟨_, s, rfl⟩, by rw [a.length]; exact hQ.now o h (.int _)⟩
  · cases a with
    | cons a r =>
      cases r
      cases a with
      | lst _ s a => exact ⟨_, _, rfl, .inl ⟨_, SqL.of s, rfl⟩, by rw [a.length]; exact hQ.now o h (.int _)⟩
  · cases a with
    | cons a r =>
      cases r
      cases a
      exact ⟨_, _, rfl, ⟨Nat.le_trans h.1 lim, rfl⟩, hQ.now o h.2 (.int _)⟩
  · exact h.elim⟩
def rAbs : List V → Hp → VK → Prop := fun xs H Q => ∃ i, xs = [.int i] ∧ Q (.int (if i < 0 then -i else i)) H
theorem k_abs {X : Cx} : CallR X (.builtin "abs") rAbs := call_abs
def aAbs : List D → Nat → (D → Nat → Prop) → Prop
  | [.int i], n, Q => Q (.int (if i < 0 then -i else i)) n
  | _, _, _ => False
instance : DL K rAbs aAbs := ⟨fun W n H xs ds Q Qa hQ o a h => by
  unfold aAbs at h
  split at h
  · cases a with
    | cons a r =>
      cases r
      cases a
      exact ⟨_, rfl, hQ.now o h (.int _)⟩
  · exact h.elim⟩
def rMax2 : List V → Hp → VK → Prop := fun xs H Q => ∃ i j, xs = [.int i, .int j] ∧ Q (.int (if j > i then j else i)) H
def rMin2 : List V → Hp → VK → Prop := fun xs H Q => ∃ i j, xs = [.int i, .int j] ∧ Q (.int (if j < i then j else i)) H
theorem k_max2 {X : Cx} (hc : X.calm = true) : CallR X (.builtin "max") rMax2 := call_max2 hc
theorem k_min2 {X : Cx} (hc : X.calm = true) : CallR X (.builtin "min") rMin2 := call_min2 hc
def aMM (g : Int → Int → Int) : List D → Nat → (D → Nat → Prop) → Prop
  | [.int i, .int j], n, Q => Q (.int (g i j)) n
  | _, _, _ => False
instance : DL K rMax2 (aMM fun i j => if j > i then j else i) := ⟨fun W n H xs ds Q Qa hQ o a h => by
  unfold aMM at h
  split at h
  · cases a with
    | cons a r =>
      cases r with
      | cons b r =>
        cases r
        cases a
        cases b
        exact ⟨_, _, rfl, hQ.now o h (.int _)⟩
  · exact h.elim⟩
instance : DL K rMin2 (aMM fun i j => if j < i then j else i) := ⟨fun W n H xs ds Q Qa hQ o a h => by
  unfold aMM at h
  split at h
  · cases a with
    | cons a r =>
      cases r with
      | cons b r =>
        cases r
        cases a
        cases b
        exact ⟨_, _, rfl, hQ.now o h (.int _)⟩
  · exact h.elim⟩
def rListOf (K : PySem.W.Frag) : List V → Hp → VK → Prop := fun xs H Q => ∃ p ys, xs = [.ref p] ∧ (SqL K H p ys ∨ SqT K H p ys) ∧ ∀ l, H l = none → Q (.ref l) (upd H l (.lst ys))
def rTupOf (K : PySem.W.Frag) : List V → Hp → VK → Prop := fun xs H Q => ∃ p ys, xs = [.ref p] ∧ ((SqL K H p ys ∧ ∀ l, H l = none → Q (.ref l) (upd H l (.tup ys))) ∨ (SqT K H p ys ∧ Q (.ref p) H))
theorem k_list {X : Cx} (hK : X.K = K) : CallR X (.type "list") (rListOf K) := hK ▸ call_list_of
theorem k_tuple {X : Cx} (hK : X.K = K) : CallR X (.type "tuple") (rTupOf K) := hK ▸ call_tuple_of
def aListOf : List D → Nat → (D → Nat → Prop) → Prop
  | [.tup ds], n, Q => Q (.lst ds) n
  | [.lst ds], n, Q => Q (.lst ds) n
  | _, _, _ => False
def aTupOf : List D → Nat → (D → Nat → Prop) → Prop
  | [.tup ds], n, Q => Q (.tup ds) n
  | [.lst ds], n, Q => Q (.tup ds) n
  | _, _, _ => False
instance : DL K (rListOf K) aListOf := ⟨fun W n H xs ds Q Qa hQ o a h => by
  unfold aListOf at h
  split at h
  · cases a with
    | cons a r =>
      cases r
      cases a with
      | tup s a => exact ⟨_, _, rfl, .inr s, fun p hp => hQ.new o h hp (.lst (o.fresh hp) upd_same (AtAll.le o (Wd.le_same (same_upd hp)) _ a))⟩
  · cases a with
    | cons a r =>
      cases r
      cases a with
      | lst _ s a => exact ⟨_, _, rfl, .inl (SqL.of s), fun p hp => hQ.new o h hp (.lst (o.fresh hp) upd_same (AtAll.le o (Wd.le_same (same_upd hp)) _ a))⟩
  · exact h.elim⟩
instance : DL K (rTupOf K) aTupOf := ⟨fun W n H xs ds Q Qa hQ o a h => by
  unfold aTupOf at h
  split at h
  · cases a with
    | cons a r =>
      cases r
      cases a with
      | tup s a => exact ⟨_, _, rfl, .inr ⟨s, hQ.now o h (.tup s a)⟩⟩
  · cases a with
    | cons a r =>
      cases r
      cases a with
      | lst _ s a => exact ⟨_, _, rfl, .inl ⟨SqL.of s, fun p hp => hQ.new o h hp (.tup (.inl (.inl upd_same)) (AtAll.le o (Wd.le_same (same_upd hp)) _ a))⟩⟩
  · exact h.elim⟩
/-! isinstance -/
def D.tv : D → Option Ty
  | .non => some .non | .bl _ => some .bl | .int _ => some .int | .str _ => some .str | .tup _ => some .tup | .lst _ => some .lst | .dic _ _ => some .dic
  | _ => none
def isiB : Ty → Ty → Bool
  | .non, .non => true | .bl, .bl => true | .bl, .int => true | .int, .int => true | .str, .str => true | .tup, .tup => true | .lst, .lst => true | .dic, .dic => true
  | _, _ => false
theorem kitB_is (a b : Ty) (h : b ≠ .non) (hb : b ≠ .verr) (ha : a ≠ .verr) : kitB a.nm b.nm = some (isiB a b) := by
  cases a <;> cases b <;> first
    | exact absurd rfl h
    | exact absurd rfl hb
    | exact absurd rfl ha
    | decide +kernel
theorem tv_nv {d : D} (e : d.tv = some .verr) : False := by
  cases d <;> cases e
theorem tv_is {W : Wd} {H : Hp} {x : V} {d : D} {t : Ty} (ax : At K W H x d) (e : d.tv = some t) : TyX K H x (.type t.nm) := by
  cases ax <;> cases e
  · exact .base .non
  · exact .base (.bl _)
  · exact .base (.int _)
  · exact .base (.str _)
  · rename_i a xs ds s _
    rcases s with (h | ⟨o, h⟩) | ⟨o, its, n, h, hc, _⟩
    · exact .base (.tup h)
    · exact .fTuple h
    · exact .kTuple h hc
  · rename_i r s _
    exact .base (.lst s)
  · rename_i r s _ _
    exact .base (.dK s)
theorem k_isi {X : Cx} (hK : X.K = K) : CallR X (.builtin "isinstance") (rIsi K) := hK ▸ call_isi
/-- what isinstance asks of an own class -/
structure InsC (K : PySem.W.Frag) (C : Addr) : Prop where
  cl : Cls K C
  ha : PySem.W.findIn K (.ref C) "__class__" = some (some (.builtin "object.__class__"))
  hn : PySem.W.specialIn K (.builtin "object.__class__") "__get__" = some (some (.builtin "getset_descriptor.__get__"))
  ht : PySem.W.takesIn K (.builtin "object.__class__") = some true
  hm : PySem.W.mroIn K C (.type "object") = some true
def aIsi (K : PySem.W.Frag) : List D → Nat → (D → Nat → Prop) → Prop
  | [.ins C _ _, .ty t], n, Q => InsC K C ∧ ∃ b, PySem.W.kitOne K (.ref C) (.type t.nm) = some b ∧ Q (.bl b) n
  | [.ins C _ _, .cls c], n, Q => InsC K C ∧ ∃ b, PySem.W.kitOne K (.ref C) (.ref c) = some b ∧ Q (.bl b) n
  | [d, .cls c], n, Q => (match d.tv with
    | some t => ∃ b, PySem.W.kitOne K (.type t.nm) (.ref c) = some b ∧ Q (.bl b) n
    | none => False)
  | [d, .ty t], n, Q => (match d.tv, t with
    | some _, .non => False
    | some _, .verr => False
    | some t', t => Q (.bl (isiB t' t)) n
    | none, _ => False)
  | _, _, _ => False
instance : DL K (rIsi K) (aIsi K) := ⟨fun W n H xs ds Q Qa hQ o a h => by
  unfold aIsi at h
  split at h
  · cases a with
    | cons a r =>
      cases r with
      | cons b r =>
        cases r
        cases b
        cases a with
        | ins s e a =>
          obtain ⟨ic, b, hk, h⟩ := h
          exact ⟨_, _, _, _, b, rfl, .ty _, .base (.ins s ic.cl ic.ha ic.hn ic.ht ic.hm), hk, hQ.now o h (.bl _)⟩
  · cases a with
    | cons a r =>
      cases r with
      | cons b r =>
        cases r
        cases b
        cases a with
        | ins s e a =>
          obtain ⟨ic, b, hk, h⟩ := h
          exact ⟨_, _, _, _, b, rfl, .own _, .base (.ins s ic.cl ic.ha ic.hn ic.ht ic.hm), hk, hQ.now o h (.bl _)⟩
  · cases a with
    | cons a r =>
      cases r with
      | cons b r =>
        cases r
        cases b
        split at h
        · rename_i t e
          obtain ⟨b, hk, h⟩ := h
          exact ⟨_, _, _, _, b, rfl, .own _, tv_is a e, hk, hQ.now o h (.bl _)⟩
        · exact h.elim
  · cases a with
    | cons a r =>
      cases r with
      | cons b r =>
        cases r
        cases b
        split at h
        · exact h.elim
        · exact h.elim
        · rename_i t' e hne hne2
          exact ⟨_, _, _, _, _, rfl, .ty _, tv_is a e, kit_ty (kitB_is _ _ (fun z => hne z) (fun z => hne2 z) fun z => tv_nv (z ▸ e)), hQ.now o h (.bl _)⟩
        · exact h.elim
  · exact h.elim⟩
/-! constants of the program's top, classes and types as values -/
def tKon (a : Addr) : TE := tC (.ref a)
def tCls (a : Addr) : TE := tC (.ref a)
def tTy (t : Ty) : TE := tC (.ty t.nm)
class Kon (K : PySem.W.Frag) (a : Addr) (d : outParam D) : Prop where
  at_ : ∀ W H, At K W H (.ref a) d
def aD (d : D) : AE := fun _ n Q => Q d n
instance {a : Addr} {d : D} [k : Kon K a d] : DE K (tKon a) (aD d) := ⟨fun W σ ρ n H Q Qa hQ hE o h => hQ.now o h (k.at_ W H)⟩
instance {a : Addr} : DE K (tCls a) (aD (.cls a)) := ⟨fun W σ ρ n H Q Qa hQ hE o h => hQ.now o h (.cls a)⟩
instance {t : Ty} : DE K (tTy t) (aD (.ty t)) := ⟨fun W σ ρ n H Q Qa hQ hE o h => hQ.now o h (.ty t)⟩
theorem k_kon {X : Cx} {x : Str} {a : Addr} {pos : Pos} (hg : Gl X x) (hm : X.mg x = some (.ref a)) (hd : (x == ("__debug__" : Str)) = false := by decide) : PE X (.Name x pos) (tKon a) := pe_glob (v := .ref a) hg hm rfl hd
theorem k_cls {X : Cx} {x : Str} {a : Addr} {pos : Pos} (hg : Gl X x) (hm : X.mg x = some (.ref a)) (hd : (x == ("__debug__" : Str)) = false := by decide) : PE X (.Name x pos) (tCls a) := pe_glob (v := .ref a) hg hm rfl hd
theorem k_ty {X : Cx} {x : Str} {t : Ty} {pos : Pos} (hg : Gl X x) (hm : X.mg x = none) (hv : bootBuiltins x = some (.type t.nm)) (hn : x ≠ "__name__" := by decide) (hd : (x == ("__debug__" : Str)) = false := by decide) : PE X (.Name x pos) (tTy t) := pe_bltn (v := .ty t.nm) hg hm hv rfl hn hd
/-! fields -/
def tFldK (K : PySem.W.Frag) (ta : TE) (f : Str) : TE := tFld K ta f
theorem k_fld {X : Cx} {e : Expr} {ta : TE} {f : Str} {pos : Pos} (hK : X.K = K) (he : PE X e ta) (hb : attributeBase e f X.env (eval e X.env) = eval e X.env) : PE X (.Attribute e f pos) (tFldK K ta f) := hK ▸ pe_fld he hb
def aFld (K : PySem.W.Frag) (f : Str) (fa : AE) : AE := fun ρ n Q => fa ρ n fun d n1 => match d with
  | .ins C ns ds => (Cls K C ∧ NoAttr K C f) ∧ ∃ d, (ns.zip ds).lookup f = some d ∧ Q d n1
  | _ => False
theorem lookup_at {W : Wd} {H : Hp} {f : Str} : ∀ {ns : List Str} {vs : List V} {ds : List D} {d : D}, AtAll K W H vs ds → (ns.zip ds).lookup f = some d → ∃ v, (ns.zip vs).lookup f = some v ∧ At K W H v d
  | [], _, _, _, _, e => by cases e
  | _ :: _, _, [], _, h, e => by cases h; cases e
  | x :: ns, _, d :: ds, d', h, e => by
    cases h with
    | cons a r =>
      rw [List.zip_cons_cons, List.lookup_cons] at e ⊢
      cases hb : f == x with
      | true =>
        rw [hb] at e
        cases e
        exact ⟨_, rfl, a⟩
      | false =>
        rw [hb] at e
        exact lookup_at r e
instance {f : Str} {ta : TE} {fa : AE} [DE K ta fa] : DE K (tFldK K ta f) (aFld K f fa) := ⟨fun W σ ρ n H Q Qa hQ hE o h =>
  DE.run (te := ta) (f := fa) W σ ρ n H _ _ (fun d n1 h1 H1 x l1 o1 ax => by
    split at h1
    · obtain ⟨⟨hc, hn⟩, d, e, q⟩ := h1
      cases ax with
      | ins s e' a =>
        obtain ⟨v, h1, h2⟩ := lookup_at a e
        exact ⟨_, _, _, _, v, rfl, s, hc, hn, h1, (hQ.le l1).now o1 q h2⟩
    · exact h1.elim) hE o h⟩
/-! slices of lists -/
def cutL (xs : List D) (lo hi : Option Int) : List D := (xs.drop (HT.sIx xs.length 0 lo)).take (HT.sIx xs.length xs.length hi - HT.sIx xs.length 0 lo)
class DO (K : PySem.W.Frag) (te : TO) (f : outParam (Env' → Nat → (Option Int → Nat → Prop) → Prop)) : Prop where
  run : ∀ (W : Wd) (σ : L2.St) (ρ : Env') (n : Nat) (H : Hp) (Q : Option Int → Hp → Prop) (Qa : Option Int → Nat → Prop), (∀ b n', Qa b n' → ∀ H', W.le H H' → W.ok K n' H' → Q b H') → EnvAt K W H σ ρ → W.ok K n H → f ρ n Qa → te σ H Q
def aNoPart : Env' → Nat → (Option Int → Nat → Prop) → Prop := fun _ n Q => Q none n
def aPart (f : AE) : Env' → Nat → (Option Int → Nat → Prop) → Prop := fun ρ n Q => f ρ n fun d n1 => match d with
  | .int i => Q (some i) n1
  | _ => False
instance : DO K tNoPart aNoPart := ⟨fun W σ ρ n H Q Qa hQ hE o h => hQ _ _ h H Wd.le_refl o⟩
instance {te : TE} {f : AE} [DE K te f] : DO K (tPart te) (aPart f) := ⟨fun W σ ρ n H Q Qa hQ hE o h =>
  DE.run (te := te) (f := f) W σ ρ n H _ _ (fun d n1 h1 H1 x l1 o1 ax => by
    split at h1
    · cases ax
      exact ⟨_, rfl, hQ _ _ h1 H1 l1 o1⟩
    · exact h1.elim) hE o h⟩
def rSlA (K : PySem.W.Frag) : V → Option Int → Option Int → Hp → VK → Prop := fun x lo hi H Q => rSlL K x lo hi H Q ∨ (fun x lo hi H Q => rSlT K x lo hi H Q ∨ rSlS x lo hi H Q) x lo hi H Q
def aCut (d : D) (l u : Option Int) (n : Nat) (Q : D → Nat → Prop) : Prop := match d with
  | .lst ds => Q (.lst (cutL ds l u)) n
  | .tup ds => ¬ (HT.sIx ds.length 0 l = 0 ∧ HT.sIx ds.length ds.length u = ds.length) ∧ Q (.tup (cutL ds l u)) n
  | .str z => z.length ≤ 1000000 ∧ Q (.str (cutS z l u)) n
  | _ => False
def aSl (fa : AE) (fl fu : Env' → Nat → (Option Int → Nat → Prop) → Prop) : AE := fun ρ n Q => fa ρ n fun d n1 => fl ρ n1 fun l n2 => fu ρ n2 fun u n3 => aCut d l u n3 Q
instance {te : TE} {tl tu : TO} {fa : AE} {fl fu : Env' → Nat → (Option Int → Nat → Prop) → Prop} [DE K te fa] [DO K tl fl] [DO K tu fu] : DE K (tSl (rSlA K) te tl tu) (aSl fa fl fu) := ⟨fun W σ ρ n H Q Qa hQ hE o h =>
  DE.run (te := te) (f := fa) W σ ρ n H _ _ (fun d n1 h1 H1 x l1 o1 ax => DO.run (te := tl) (f := fl) W σ ρ n1 H1 _ _ (fun l n2 h2 H2 l2 o2 => DO.run (te := tu) (f := fu) W σ ρ n2 H2 _ _ (fun u n3 h3 H3 l3 o3 => by
    have hQ3 := hQ.le (l1.trans (l2.trans l3))
    unfold aCut at h3
    split at h3
    · cases At.le o1 (l2.trans l3) _ ax with
      | lst r s a =>
        refine .inl ⟨_, _, rfl, SqL.of s, fun p hp => hQ3.new o3 h3 hp ?_⟩
        refine .lst (o3.fresh hp) upd_same ?_
        unfold cutV cutL
        rw [a.length]
        exact take_at _ (drop_at _ (AtAll.le o3 (Wd.le_same (same_upd hp)) _ a))
    · cases At.le o1 (l2.trans l3) _ ax with
      | tup s a =>
        refine .inr (.inl ⟨_, _, rfl, s, by rw [a.length]; exact h3.1, fun p hp => hQ3.new o3 h3.2 hp ?_⟩)
        refine .tup (.inl (.inl upd_same)) ?_
        unfold cutV cutL
        rw [a.length]
        exact take_at _ (drop_at _ (AtAll.le o3 (Wd.le_same (same_upd hp)) _ a))
    · cases ax
      exact .inr (.inr ⟨_, rfl, Nat.le_trans h3.1 lim, hQ3.now o3 h3.2 (.str _)⟩)
    · exact h3.elim) (hE.le o (l1.trans l2)) o2 h2) (hE.le o l1) o1 h1) hE o h⟩
theorem k_sl {X : Cx} (hK : X.K = K) : SlR X (rSlA K) := hK ▸ SlR.or sl_list (SlR.or sl_tup sl_str)
/-! texts and truths -/
def rJoin (K : PySem.W.Frag) : V → List V → Hp → VK → Prop := fun x xs H Q => ∃ a p, ∃ ys : List Str, x = .str a ∧ xs = [.ref p] ∧ (SqL K H p (ys.map V.str) ∨ SqT K H p (ys.map V.str)) ∧ (ys.map (·.length)).sum + ys.length * a.length ≤ 16777216 ∧ Q (.str (Txt.join a ys)) H
def tJoinK (K : PySem.W.Frag) (to te : TE) : TE := tM1 (rJoin K) to te
theorem k_join {X : Cx} {o e : Expr} {to te : TE} {apos pos : Pos} (hK : X.K = K) (ho : PE X o to) (he : PE X e te) (hs : starEach [e] X.env = [(false, eval e X.env)] := by rfl) (hbase : attributeBase o "join" X.env (eval o X.env) = eval o X.env := by rfl) (hline : (apos.endLine == pos.line) = true := by rfl) :
    PE X (.Call (.Attribute o "join" apos) [e] [] pos) (tJoinK K to te) := hK ▸ pe_join ho he hs hbase hline
def aJoin (fa fb : AE) : AE := fun ρ n Q => fa ρ n fun x n1 => match x with
  | .str a => fb ρ n1 fun y n2 => (match y with
    | .lst ds => ∃ ys : List Str, ds = ys.map D.str ∧ (ys.map (·.length)).sum + ys.length * a.length ≤ 16777216 ∧ Q (.str (Txt.join a ys)) n2
    | .tup ds => ∃ ys : List Str, ds = ys.map D.str ∧ (ys.map (·.length)).sum + ys.length * a.length ≤ 16777216 ∧ Q (.str (Txt.join a ys)) n2
    | _ => False)
  | _ => False
theorem strs_at {W : Wd} {H : Hp} : ∀ {ys : List Str} {vs : List V}, AtAll K W H vs (ys.map D.str) → vs = ys.map V.str
  | [], _, h => by cases h; rfl
  | y :: ys, _, h => by
    cases h with
    | cons a r => cases a; rw [List.map_cons, strs_at r]
theorem bls_at {W : Wd} {H : Hp} : ∀ {ys : List Bool} {vs : List V}, AtAll K W H vs (ys.map D.bl) → vs = ys.map V.bl
  | [], _, h => by cases h; rfl
  | y :: ys, _, h => by
    cases h with
    | cons a r => cases a; rw [List.map_cons, bls_at r]
theorem ints_at {W : Wd} {H : Hp} : ∀ {ys : List Int} {vs : List V}, AtAll K W H vs (ys.map D.int) → vs = ys.map V.int
  | [], _, h => by cases h; rfl
  | y :: ys, _, h => by
    cases h with
    | cons a r => cases a; rw [List.map_cons, ints_at r]
theorem at_ints {W : Wd} {H : Hp} : ∀ ys : List Int, AtAll K W H (ys.map V.int) (ys.map D.int)
  | [] => .nil
  | y :: ys => .cons (.int y) (at_ints ys)
theorem at_strs {W : Wd} {H : Hp} : ∀ ys : List Str, AtAll K W H (ys.map V.str) (ys.map D.str)
  | [] => .nil
  | y :: ys => .cons (.str y) (at_strs ys)
instance {to te : TE} {fa fb : AE} [DE K to fa] [DE K te fb] : DE K (tJoinK K to te) (aJoin fa fb) := ⟨fun W σ ρ n H Q Qa hQ hE o h =>
  DE.run (te := to) (f := fa) W σ ρ n H _ _ (fun d n1 h1 H1 x l1 o1 ax => by
    cases ax with
    | str a =>
      refine ⟨⟨_, rfl⟩, DE.run (te := te) (f := fb) W σ ρ n1 H1 _ _ (fun e n2 h2 H2 y l2 o2 ay => ?_) (hE.le o l1) o1 h1⟩
      cases ay with
      | lst r s b =>
        obtain ⟨ys, rfl, hl, q⟩ := h2
        rw [strs_at b] at s
        exact ⟨_, _, ys, rfl, rfl, .inl (SqL.of s), hl, (hQ.le (l1.trans l2)).now o2 q (.str _)⟩
      | tup s b =>
        obtain ⟨ys, rfl, hl, q⟩ := h2
        rw [strs_at b] at s
        exact ⟨_, _, ys, rfl, rfl, .inr s, hl, (hQ.le (l1.trans l2)).now o2 q (.str _)⟩
      | _ => exact h2.elim
    | _ => exact h1.elim) hE o h⟩
/-! int(..), str(..) of a number -/
def rInt : List V → Hp → VK → Prop := fun xs H Q => (∃ i, xs = [.int i] ∧ Q (.int i) H) ∨ ∃ k, xs = [.bl k] ∧ Q (.int (if k then 1 else 0)) H
theorem k_int {X : Cx} : CallR X (.type "int") rInt := call_int1
def aInt : List D → Nat → (D → Nat → Prop) → Prop
  | [.int i], n, Q => Q (.int i) n
  | [.bl b], n, Q => Q (.int (if b then 1 else 0)) n
  | _, _, _ => False
instance : DL K rInt aInt := ⟨fun W n H xs ds Q Qa hQ o a h => by
  unfold aInt at h
  split at h
  · cases a with
    | cons a r =>
      cases r
      cases a
      exact .inl ⟨_, rfl, hQ.now o h (.int _)⟩
  · cases a with
    | cons a r =>
      cases r
      cases a
      exact .inr ⟨_, rfl, hQ.now o h (.int _)⟩
  · exact h.elim⟩
def rStr : List V → Hp → VK → Prop := fun xs H Q => ∃ i, xs = [.int i] ∧ i.natAbs.log2 < 1920 ∧ Q (.str (toString i)) H
theorem k_str {X : Cx} : CallR X (.type "str") rStr := call_str_int
def aStr : List D → Nat → (D → Nat → Prop) → Prop
  | [.int i], n, Q => i.natAbs.log2 < 1920 ∧ Q (.str (toString i)) n
  | _, _, _ => False
instance : DL K rStr aStr := ⟨fun W n H xs ds Q Qa hQ o a h => by
  unfold aStr at h
  split at h
  · cases a with
    | cons a r =>
      cases r
      cases a
      exact ⟨_, rfl, h.1, hQ.now o h.2 (.str _)⟩
  · exact h.elim⟩
/-! all, any, sum, max, min of a list -/
theorem k_all {X : Cx} (hK : X.K = K) (hc : X.calm = true) : CallR X (.builtin "all") (rAll K) := hK ▸ cr_all hc
theorem k_any {X : Cx} (hK : X.K = K) (hc : X.calm = true) : CallR X (.builtin "any") (rAny K) := hK ▸ cr_any hc
theorem k_sum {X : Cx} (hK : X.K = K) (hc : X.calm = true) : CallR X (.builtin "sum") (rSum K) := hK ▸ cr_sum hc
theorem k_max1 {X : Cx} (hK : X.K = K) (hc : X.calm = true) : CallR X (.builtin "max") (rMax K) := hK ▸ cr_max hc
theorem k_min1 {X : Cx} (hK : X.K = K) (hc : X.calm = true) : CallR X (.builtin "min") (rMin K) := hK ▸ cr_min hc
def aBools (g : List Bool → Bool) : List D → Nat → (D → Nat → Prop) → Prop := fun ds n Q => ∃ bs : List Bool, ds = [.lst (bs.map D.bl)] ∧ Q (.bl (g bs)) n
instance : DL K (rAll K) (aBools fun bs => bs.all id) := ⟨fun W n H xs ds Q Qa hQ o a h => by
  obtain ⟨bs, rfl, q⟩ := h
  cases a with
  | cons a r =>
    cases r
    cases a with
    | lst _ s b => rw [bls_at b] at s; exact ⟨_, bs, rfl, SqL.of s, hQ.now o q (.bl _)⟩⟩
instance : DL K (rAny K) (aBools fun bs => bs.any id) := ⟨fun W n H xs ds Q Qa hQ o a h => by
  obtain ⟨bs, rfl, q⟩ := h
  cases a with
  | cons a r =>
    cases r
    cases a with
    | lst _ s b => rw [bls_at b] at s; exact ⟨_, bs, rfl, SqL.of s, hQ.now o q (.bl _)⟩⟩
def aSum : List D → Nat → (D → Nat → Prop) → Prop := fun ds n Q => ∃ ns : List Int, ds = [.lst (ns.map D.int)] ∧ Q (.int ns.sum) n
instance : DL K (rSum K) aSum := ⟨fun W n H xs ds Q Qa hQ o a h => by
  obtain ⟨ns, rfl, q⟩ := h
  cases a with
  | cons a r =>
    cases r
    cases a with
    | lst _ s b => rw [ints_at b] at s; exact ⟨_, ns, rfl, SqL.of s, hQ.now o q (.int _)⟩⟩
def aMax1 : List D → Nat → (D → Nat → Prop) → Prop := fun ds n Q => ∃ ns : List Int, ds = [.lst (ns.map D.int)] ∧ 0 < ns.length ∧ ∀ m, m ∈ ns → (∀ y, y ∈ ns → y ≤ m) → Q (.int m) n
def aMin1 : List D → Nat → (D → Nat → Prop) → Prop := fun ds n Q => ∃ ns : List Int, ds = [.lst (ns.map D.int)] ∧ 0 < ns.length ∧ ∀ m, m ∈ ns → (∀ y, y ∈ ns → m ≤ y) → Q (.int m) n
instance : DL K (rMax K) aMax1 := ⟨fun W n H xs ds Q Qa hQ o a h => by
  obtain ⟨ns, rfl, hl, q⟩ := h
  cases a with
  | cons a r =>
    cases r
    cases a with
    | lst _ s b => rw [ints_at b] at s; exact ⟨_, ns, rfl, SqL.of s, hl, fun m h1 h2 => hQ.now o (q m h1 h2) (.int _)⟩⟩
instance : DL K (rMin K) aMin1 := ⟨fun W n H xs ds Q Qa hQ o a h => by
  obtain ⟨ns, rfl, hl, q⟩ := h
  cases a with
  | cons a r =>
    cases r
    cases a with
    | lst _ s b => rw [ints_at b] at s; exact ⟨_, ns, rfl, SqL.of s, hl, fun m h1 h2 => hQ.now o (q m h1 h2) (.int _)⟩⟩
/-! x in xs -/
def flatD : D → Bool
  | .non => true | .bl _ => true | .int _ => true | .str _ => true
  | _ => false
def eqF : D → D → Bool
  | .non, .non => true | .bl a, .bl b => a == b | .bl a, .int b => (if a then 1 else 0) == b | .int a, .bl b => a == (if b then 1 else 0) | .int a, .int b => a == b | .str a, .str b => a == b
  | _, _ => false
theorem flat_at {W : Wd} {H : Hp} {v : V} {d : D} (a : At K W H v d) (h : flatD d = true) : flatV v = true := by
  cases a <;> first | rfl | cases h
theorem eqF_at {W : Wd} {H : Hp} {v u : V} {d e : D} (a : At K W H v d) (b : At K W H u e) (h : flatD d = true) (g : flatD e = true) : eqV v u = eqF d e := by
  cases a <;> first
    | cases h; done
    | (cases b <;> first | rfl | cases g; done)
theorem flats_at {W : Wd} {H : Hp} : ∀ {ds : List D} {vs : List V}, AtAll K W H vs ds → ds.all flatD = true → vs.all flatV = true
  | [], _, h, _ => by cases h; rfl
  | d :: ds, _, h, g => by
    cases h with
    | cons a r =>
      rw [List.all_cons, Bool.and_eq_true] at g ⊢
      exact ⟨flat_at a g.1, flats_at r g.2⟩
theorem in_at {W : Wd} {H : Hp} {u : V} {e : D} (b : At K W H u e) (g : flatD e = true) : ∀ {ds : List D} {vs : List V}, AtAll K W H vs ds → ds.all flatD = true → inV u vs = ds.any fun d => eqF d e
  | [], _, h, _ => by cases h; rfl
  | d :: ds, _, h, g' => by
    cases h with
    | cons a r =>
      rw [List.all_cons, Bool.and_eq_true] at g'
      have ih := in_at b g r g'.2
      unfold inV at ih ⊢
      rw [List.any_cons, List.any_cons, ih, eqF_at a b g'.1 g]
def rInA (K : PySem.W.Frag) (neg : Bool) : R2 := rIn K neg
theorem k_in {X : Cx} (hK : X.K = K) (_ : X.A.units + 64 < cLine) : OpR X (compareOp .In) (rInA K false) := hK ▸ op_in_seq
theorem k_notin {X : Cx} (hK : X.K = K) (_ : X.A.units + 64 < cLine) : OpR X (compareOp .NotIn) (rInA K true) := hK ▸ op_notIn_seq
def aIn (neg : Bool) : D → D → Nat → (D → Nat → Prop) → Prop
  | d, .lst ds, n, Q => flatD d = true ∧ ds.all flatD = true ∧ Q (.bl (if neg then !(ds.any fun x => eqF x d) else ds.any fun x => eqF x d)) n
  | d, .tup ds, n, Q => flatD d = true ∧ ds.all flatD = true ∧ Q (.bl (if neg then !(ds.any fun x => eqF x d) else ds.any fun x => eqF x d)) n
  | _, _, _, _ => False
instance {neg : Bool} : D2 K (rInA K neg) (aIn neg) := ⟨fun W n H x y d e Q Qa hQ o ax ay h => by
  unfold aIn at h
  split at h
  · obtain ⟨h1, h2, q⟩ := h
    cases ay with
    | lst r s a => exact ⟨_, _, rfl, .inl (SqL.of s), flat_at ax h1, flats_at a h2, by rw [in_at ax h1 a h2]; exact hQ.now o q (.bl _)⟩
  · obtain ⟨h1, h2, q⟩ := h
    cases ay with
    | tup s a => exact ⟨_, _, rfl, .inr s, flat_at ax h1, flats_at a h2, by rw [in_at ax h1 a h2]; exact hQ.now o q (.bl _)⟩
  · exact h.elim⟩
end

/-! ### the mirror, third part: targets, what is walked, statements -/
section
variable {K : PySem.W.Frag}
/-! targets -/
abbrev Upd (K : PySem.W.Frag) (W : Wd) (H : Hp) : List (Nat × V) → List (Nat × D) → Prop := Paired fun z u => z.1 = u.1 ∧ At K W H z.2 u.2
def setAll : L2.St → List (Nat × V) → L2.St
  | σ, [] => σ
  | σ, z :: r => setAll (σ.set z.1 (some z.2)) r
def eSetAll : Env' → List (Nat × D) → Env'
  | ρ, [] => ρ
  | ρ, u :: r => eSetAll (eSet ρ u.1 (some u.2)) r
theorem setAll_append : ∀ (σ : L2.St) (a b : List (Nat × V)), setAll σ (a ++ b) = setAll (setAll σ a) b
  | σ, [], b => rfl
  | σ, z :: r, b => setAll_append (σ.set z.1 (some z.2)) r b
theorem paired_append {α β : Type} {F : α → β → Prop} : ∀ {l l' : List α} {m m' : List β}, Paired F l m → Paired F l' m' → Paired F (l ++ l') (m ++ m')
  | _, _, _, _, .nil, h => h
  | _, _, _, _, .cons a r, h => .cons a (paired_append r h)
class DG (K : PySem.W.Frag) (g : TG) (f : outParam (D → Option (List (Nat × D)))) : Prop where
  run : ∀ (W : Wd) (σ : L2.St) (H : Hp) (v : V) (d : D) (us : List (Nat × D)) (Q : L2.St → Hp → Prop), At K W H v d → f d = some us → (∀ zs, Upd K W H zs us → Q (setAll σ zs) H) → g v σ H Q
class DGs (K : PySem.W.Frag) (g : TGs) (f : outParam (List D → Option (List (Nat × D)))) : Prop where
  run : ∀ (W : Wd) (σ : L2.St) (H : Hp) (vs : List V) (ds : List D) (us : List (Nat × D)) (Q : L2.St → Hp → Prop), AtAll K W H vs ds → f ds = some us → (∀ zs, Upd K W H zs us → Q (setAll σ zs) H) → g vs σ H Q
def aName (i : Nat) : D → Option (List (Nat × D)) := fun d => some [(i, d)]
instance {i : Nat} : DG K (gName i) (aName i) := ⟨fun W σ H v d us Q a e h => by
  cases e
  exact h [(i, v)] (.cons ⟨rfl, a⟩ .nil)⟩
def aGNil : List D → Option (List (Nat × D))
  | [] => some []
  | _ => none
def aGCons (f : D → Option (List (Nat × D))) (g : List D → Option (List (Nat × D))) : List D → Option (List (Nat × D))
  | d :: r => (match f d, g r with
    | some a, some b => some (a ++ b)
    | _, _ => none)
  | [] => none
instance : DGs K gNil aGNil := ⟨fun W σ H vs ds us Q a e h => by
  cases a with
  | nil => cases e; exact ⟨rfl, h [] .nil⟩
  | cons _ _ => cases e⟩
instance {t : TG} {u : TGs} {f : D → Option (List (Nat × D))} {g : List D → Option (List (Nat × D))} [DG K t f] [DGs K u g] : DGs K (gCons t u) (aGCons f g) := ⟨fun W σ H vs ds us Q a e h => by
  cases a with
  | nil => cases e
  | @cons v vs d ds a r =>
    unfold aGCons at e
    cases e1 : f d with
    | none => simp only [e1] at e; cases e
    | some x =>
      cases e2 : g ds with
      | none => simp only [e1, e2] at e; cases e
      | some y =>
        simp only [e1, e2] at e
        cases e
        refine ⟨_, _, rfl, DG.run (g := t) (f := f) W σ H _ _ x _ a e1 fun zs hz => ?_⟩
        refine DGs.run (g := u) (f := g) W (setAll σ zs) H _ _ y _ r e2 fun ws hw => ?_
        rw [← setAll_append]
        exact h _ (paired_append hz hw)⟩
def gTupK (K : PySem.W.Frag) (k : Nat) (t : TGs) : TG := fun v σ H Q => gTup K k t v σ H Q ∨ gLst K k t v σ H Q
theorem k_gtup {X : Cx} {es : List Expr} {k : Nat} {t : TGs} {pos : Pos} {m : Nat} (hK : X.K = K) (hc : X.calm = true) (h : PGs X es t)
    (hn : (assignEach es X.env).length = m := by rfl) (hst : (assignEach es X.env).findIdx? (·.1) = none := by rfl) : PG X (.Tuple es k pos) (gTupK K m t) := by
  subst hK
  refine ⟨fun pins s σ H v u Q I r hw => ?_⟩
  rcases hw with hw | hw
  · exact (pg_tup hc h hn hst).run pins s σ H v u Q I r hw
  · exact (pg_lst hc h hn hst).run pins s σ H v u Q I r hw
def aGTup (k : Nat) (g : List D → Option (List (Nat × D))) : D → Option (List (Nat × D))
  | .tup ds => (match Nat.beq ds.length k with
    | true => g ds
    | false => none)
  | .lst ds => (match Nat.beq ds.length k with
    | true => g ds
    | false => none)
  | _ => none
instance {k : Nat} {t : TGs} {g : List D → Option (List (Nat × D))} [DGs K t g] : DG K (gTupK K k t) (aGTup k g) := ⟨fun W σ H v d us Q a e h => by
  unfold aGTup at e
  split at e
  · split at e
    · rename_i hb
      cases a with
      | tup s a => exact .inl ⟨_, _, rfl, s, by rw [a.length]; exact Nat.eq_of_beq_eq_true hb, DGs.run (g := t) (f := g) W σ H _ _ us Q a e h⟩
    · cases e
  · split at e
    · rename_i hb
      cases a with
      | lst r s a => exact .inr ⟨_, _, rfl, SqL.of s, by rw [a.length]; exact Nat.eq_of_beq_eq_true hb, DGs.run (g := t) (f := g) W σ H _ _ us Q a e h⟩
    · cases e
  · cases e⟩
theorem wipe_set {σ : L2.St} {i : Nat} {v : Option V} : ∀ {vs : List Nat}, i ∈ vs → wipe (σ.set i v) vs = wipe σ vs
  | [], h => by cases h
  | w :: vs, h => by
    show (wipe (σ.set i v) vs).set w none = (wipe σ vs).set w none
    by_cases hi : i ∈ vs
    · rw [wipe_set hi]
    · have e : i = w := by
        rcases List.mem_cons.mp h with z | z
        · exact z
        · exact absurd z hi
      subst e
      have : ∀ us : List Nat, i ∉ us → wipe (σ.set i v) us = (wipe σ us).set i v := fun us => by
        induction us with
        | nil => intro _; rfl
        | cons u us ih =>
          intro hn
          show (wipe (σ.set i v) us).set u none = ((wipe σ us).set u none).set i v
          rw [ih (fun z => hn (List.mem_cons_of_mem _ z)), List.set_comm _ _ (fun z => hn (by rw [z]; exact List.mem_cons_self))]
      rw [this vs hi, List.set_set]
theorem wipe_setAll {vs : List Nat} : ∀ {zs : List (Nat × V)} {σ : L2.St}, (∀ z ∈ zs, z.1 ∈ vs) → wipe (setAll σ zs) vs = wipe σ vs
  | [], _, _ => rfl
  | z :: r, σ, h => by
    show wipe (setAll (σ.set z.1 (some z.2)) r) vs = _
    rw [wipe_setAll fun y hy => h y (List.mem_cons_of_mem _ hy), wipe_set (h z List.mem_cons_self)]
theorem upd_slots {W : Wd} {H : Hp} {p : Nat → Prop} : ∀ {zs : List (Nat × V)} {us : List (Nat × D)}, Upd K W H zs us → (∀ u ∈ us, p u.1) → ∀ z ∈ zs, p z.1
  | _, _, .nil, _, z, h => by cases h
  | _, _, .cons ⟨e, _⟩ r, hu, z, h => by
    rcases List.mem_cons.mp h with rfl | h
    · rw [e]
      exact hu _ List.mem_cons_self
    · exact upd_slots r (fun u hu' => hu u (List.mem_cons_of_mem _ hu')) z h
theorem EnvAt.setAll {W : Wd} {H : Hp} : ∀ {zs : List (Nat × V)} {us : List (Nat × D)} {σ : L2.St} {ρ : Env'}, EnvAt K W H σ ρ → Upd K W H zs us → EnvAt K W H (setAll σ zs) (eSetAll ρ us)
  | _, _, _, _, h, .nil => h
  | _, _, _, _, h, .cons (a := (i, v)) (b := (j, d)) ⟨e, a⟩ r => by
    cases (show i = j from e)
    have := EnvAt.setAll (h.set (i := i) a) r
    exact this
/-! what is walked -/
def Walks (K : PySem.W.Frag) (W : Wd) (J : It) (H : Hp) (ds : List D) : Prop := ∀ (W' : Wd), (∀ a, W'.rs a → ¬ W.rs a → H a = none) → W'.dk = W.dk → ∀ (H2 : Hp) (n2 : Nat), W'.le H H2 → W'.ok K n2 H2 → ∀ i : Nat,
  (∀ d, ds[i]? = some d → J.go i H2 ∧ ∀ x H3, J.yld i H2 x H3 → Same H2 H3 ∧ At K W' H3 x d) ∧ (ds.length ≤ i → J.stop i H2)
abbrev AI := Env' → Nat → (List D → Nat → Prop) → Prop
class DI (K : PySem.W.Frag) (wi : TI) (f : outParam AI) : Prop where
  run : ∀ (W : Wd) (σ : L2.St) (ρ : Env') (n : Nat) (H : Hp) (R : It → Hp → Prop) (Qa : List D → Nat → Prop), (∀ ds n', Qa ds n' → ∀ J H', W.le H H' → W.ok K n' H' → Walks K W J H' ds → R J H') → EnvAt K W H σ ρ → W.ok K n H → f ρ n Qa → wi σ H R
theorem Wd.ok.lk' {W W' : Wd} {H : Hp} {n : Nat} (o : W.ok K n H) (hr : ∀ a, W'.rs a → ¬ W.rs a → H a = none) : W'.lk H := fun a r ob e => by
  by_cases hw : W.rs a
  · exact o.lk a hw ob e
  · rw [hr a r hw] at e
    cases e
def iAny (K : PySem.W.Frag) (tl : TE) : TI := fun σ H R => tl σ H fun x H1 => ∃ a, x = .ref a ∧ (((∃ xs, SqL K H1 a xs) ∧ R (Itl K a) H1) ∨ ((∃ xs, SqT K H1 a xs) ∧ R (Itt K a) H1))
theorem k_iter {X : Cx} {tg l : Expr} {tl : TE} (hK : X.K = K) (hl : PE X l tl) : PI X tg l (iAny K tl) := by
  subst hK
  refine ⟨fun pins s σ H R I h => ?_⟩
  refine thn (hl.run pins s σ H _ I h) fun v s1 ⟨x, H1, I1, r1, q1⟩ => ?_
  obtain ⟨a, e, q1⟩ := q1
  subst e
  cases r1
  rcases q1 with ⟨⟨xs, hq⟩, q⟩ | ⟨⟨xs, hq⟩, q⟩
  · obtain ⟨its, rv, p, hz⟩ := I1.list hq
    refine wpAny_pyIter_list p.isList ?_
    refine ⟨s1.heap.objs.size, [s1.heap.objs.size], _, _, H1, rfl, I1.kept (t' := s1.toks) fun b o e => Heap.get?_push_of_some _ e, turn_list a _, ⟨_, Heap.get?_push_size _ rfl, rfl, rfl⟩, fun b hb => ?_, q⟩
    have e : b = s1.heap.objs.size := by simpa using hb
    subst e
    exact I1.fpOk (Nat.le_refl _) (I1.hok.fresh (Nat.le_refl _))
  · obtain ⟨its, rv, p, hz⟩ := I1.tuple hq
    refine wpAny_pyIter_tuple (show s1.heap.IsTuple a its.toArray from p) ?_
    refine ⟨s1.heap.objs.size, [s1.heap.objs.size], _, _, H1, rfl, I1.kept (t' := s1.toks) fun b o e => Heap.get?_push_of_some _ e, turn_tuple a _, ⟨_, Heap.get?_push_size _ rfl, rfl, rfl⟩, fun b hb => ?_, q⟩
    have e : b = s1.heap.objs.size := by simpa using hb
    subst e
    exact I1.fpOk (Nat.le_refl _) (I1.hok.fresh (Nat.le_refl _))
def aIter (f : AE) : AI := fun ρ n Q => f ρ n fun d n1 => match d with
  | .tup ds => Q ds n1
  | .lst ds => Q ds n1
  | _ => False
instance {tl : TE} {f : AE} [DE K tl f] : DI K (iAny K tl) (aIter f) := ⟨fun W σ ρ n H R Qa hQ hE o h =>
  DE.run (te := tl) (f := f) W σ ρ n H _ _ (fun d n1 h1 H1 x l1 o1 ax => by
    split at h1
    · cases ax with
      | tup s a =>
        refine ⟨_, rfl, .inr ⟨⟨_, s⟩, hQ _ _ h1 _ H1 l1 o1 fun W' hr hd H2 n2 l2 o2 i => ?_⟩⟩
        have s2 := sqt_lk (o1.lk' hr) l2 s
        refine ⟨fun d hd' => ?_, fun hi => ⟨_, s2, by rw [a.length]; exact hi⟩⟩
        obtain ⟨v, e1, e2⟩ := a.get hd'
        refine ⟨⟨_, v, s2, e1⟩, fun x H3 ⟨e3, e4⟩ => ?_⟩
        subst e3
        have := e4 _ s2
        rw [e1] at this
        cases this
        exact ⟨Same.refl _, At.lk (o1.lk' hr) l2 _ (At.ext hr hd _ e2)⟩
    · cases ax with
      | lst r s a =>
        refine ⟨_, rfl, .inl ⟨⟨_, SqL.of s⟩, hQ _ _ h1 _ H1 l1 o1 fun W' hr hd H2 n2 l2 o2 i => ?_⟩⟩
        have s2 : SqL K H2 _ _ := SqL.of (l2 _ _ (fun z => by rw [hr _ z r] at s; cases s) s)
        refine ⟨fun d hd' => ?_, fun hi => ⟨_, s2, by rw [a.length]; exact hi⟩⟩
        obtain ⟨v, e1, e2⟩ := a.get hd'
        refine ⟨⟨_, v, s2, e1⟩, fun x H3 ⟨e3, e4⟩ => ?_⟩
        subst e3
        have := e4 _ s2
        rw [e1] at this
        cases this
        exact ⟨Same.refl _, At.lk (o1.lk' hr) l2 _ (At.ext hr hd _ e2)⟩
    · exact h1.elim) hE o h⟩
def rangeD (lo : Int) : Nat → List D
  | 0 => []
  | k + 1 => .int lo :: rangeD (lo + 1) k
theorem rangeD_length (lo : Int) : ∀ k, (rangeD lo k).length = k
  | 0 => rfl
  | k + 1 => by rw [rangeD, List.length_cons, rangeD_length]
theorem rangeD_get : ∀ {lo : Int} {k i : Nat} {d : D}, (rangeD lo k)[i]? = some d → i < k ∧ d = .int (lo + i)
  | lo, 0, i, d, h => by cases h
  | lo, k + 1, 0, d, h => by
    cases h
    exact ⟨Nat.succ_pos _, by rw [Int.natCast_zero, Int.add_zero]⟩
  | lo, k + 1, i + 1, d, h => by
    obtain ⟨h1, h2⟩ := rangeD_get (lo := lo + 1) (k := k) (i := i) h
    refine ⟨Nat.succ_lt_succ h1, ?_⟩
    rw [h2]
    congr 1
    omega
def aRange1 (g : AA) : AI := fun ρ n Q => g ρ n fun ds n1 => match ds with
  | [.int j] => (-(2 ^ 62) ≤ j ∧ j < 2 ^ 62) ∧ Q (rangeD 0 j.toNat) n1
  | _ => False
def aRange2 (g : AA) : AI := fun ρ n Q => g ρ n fun ds n1 => match ds with
  | [.int i, .int j] => (-(2 ^ 62) ≤ i ∧ i < 2 ^ 62 ∧ -(2 ^ 62) ≤ j ∧ j < 2 ^ 62) ∧ Q (rangeD i (j - i).toNat) n1
  | _ => False
theorem range_walks {W : Wd} {lo : Int} {k : Nat} {H : Hp} : Walks K W (Itr lo k) H (rangeD lo k) := fun W' hr hd H2 n2 l2 o2 i => by
  refine ⟨fun d e => ?_, fun hi => by rw [rangeD_length] at hi; exact hi⟩
  obtain ⟨h1, rfl⟩ := rangeD_get e
  refine ⟨h1, fun x H3 ⟨e3, e4⟩ => ?_⟩
  subst e3 e4
  exact ⟨Same.refl _, .int _⟩
instance {ta : TA} {g : AA} [DA K ta g] : DI K (iRng1 ta) (aRange1 g) := ⟨fun W σ ρ n H R Qa hQ hE o h =>
  DA.run (te := ta) (f := g) W σ ρ n H _ _ (fun ds n1 h1 H1 vs l1 o1 ax => by
    split at h1
    · cases ax with
      | cons a r =>
        cases r
        cases a
        exact ⟨_, rfl, h1.1.1, h1.1.2, hQ _ _ h1.2 _ H1 l1 o1 range_walks⟩
    · exact h1.elim) hE o h⟩
instance {ta : TA} {g : AA} [DA K ta g] : DI K (iRng2 ta) (aRange2 g) := ⟨fun W σ ρ n H R Qa hQ hE o h =>
  DA.run (te := ta) (f := g) W σ ρ n H _ _ (fun ds n1 h1 H1 vs l1 o1 ax => by
    split at h1
    · cases ax with
      | cons a r =>
        cases r with
        | cons b r =>
          cases r
          cases a
          cases b
          exact ⟨_, _, rfl, h1.1, hQ _ _ h1.2 _ H1 l1 o1 range_walks⟩
    · exact h1.elim) hE o h⟩
/-! zip, enumerate -/
def zipD : List D → List D → List D
  | a :: as, b :: bs => .tup [a, b] :: zipD as bs
  | _, _ => []
theorem zipD_get : ∀ {as bs : List D} {i : Nat} {d : D}, (zipD as bs)[i]? = some d → ∃ a b, as[i]? = some a ∧ bs[i]? = some b ∧ d = .tup [a, b]
  | [], _, _, _, h => by cases h
  | _ :: _, [], _, _, h => by cases h
  | a :: as, b :: bs, 0, d, h => by cases h; exact ⟨a, b, rfl, rfl, rfl⟩
  | a :: as, b :: bs, i + 1, d, h => zipD_get (as := as) (bs := bs) (i := i) h
theorem zipD_length : ∀ {as bs : List D}, (zipD as bs).length = min as.length bs.length
  | [], bs => by simp [zipD]
  | _ :: _, [] => by simp [zipD]
  | a :: as, b :: bs => by rw [zipD, List.length_cons, List.length_cons, List.length_cons, zipD_length, Nat.succ_min_succ]
def enumD (k : Nat) : List D → List D
  | [] => []
  | a :: as => .tup [.int k, a] :: enumD (k + 1) as
theorem enumD_get : ∀ {as : List D} {k i : Nat} {d : D}, (enumD k as)[i]? = some d → ∃ a, as[i]? = some a ∧ d = .tup [.int ((k + i : Nat) : Int), a]
  | [], _, _, _, h => by cases h
  | a :: as, k, 0, d, h => by cases h; exact ⟨a, rfl, rfl⟩
  | a :: as, k, i + 1, d, h => by
    obtain ⟨b, h1, h2⟩ := enumD_get (as := as) (k := k + 1) (i := i) h
    exact ⟨b, h1, by rw [h2]; congr 3; omega⟩
theorem enumD_length : ∀ {as : List D} {k : Nat}, (enumD k as).length = as.length
  | [], _ => rfl
  | a :: as, k => by rw [enumD, List.length_cons, List.length_cons, enumD_length]
end

/-! ### the mirror, fourth part: zip, enumerate, for, comprehensions, defs -/
section
variable {K : PySem.W.Frag}
theorem sql_lk {W : Wd} {H H' : Hp} {a : Addr} {xs : List V} (l : W.le H H') (r : ¬ W.rs a) (s : H a = some (.lst xs)) : SqL K H' a xs := SqL.of (l _ _ r s)
def iZipK (K : PySem.W.Frag) (ta : TA) : TI := RZ.iZipA K ta
theorem k_zip {X : Cx} {e e2 : Expr} {ta : TA} {p pos tpos : Pos} {elts : List Expr} {kk : Nat} (hK : X.K = K) (hg : Gl X "zip") (hm : X.mg "zip" = none) (ha : PA X [e, e2] ta)
    (hs : starEach [e, e2] X.env = (false, eval e X.env) :: starEach [e2] X.env := by rfl) (hpl : (backTo pos (starEach [e2] X.env)).any (·.1) = false := by rfl) :
    PI X (.Tuple elts kk tpos) (.Call (.Name "zip" p) [e, e2] [] pos) (iZipK K ta) := hK ▸ RZ.pi_zipA hg hm ha hs hpl
def aZip (g : AA) : AI := fun ρ n Q => g ρ n fun ds n1 => match ds with
  | [.lst as, .lst bs] => Q (zipD as bs) n1
  | [.tup as, .tup bs] => Q (zipD as bs) n1
  | _ => False
instance {ta : TA} {g : AA} [DA K ta g] : DI K (iZipK K ta) (aZip g) := ⟨fun W σ ρ n H R Qa hQ hE o h =>
  DA.run (te := ta) (f := g) W σ ρ n H _ _ (fun ds n1 h1 H1 vs l1 o1 ax => by
    split at h1
    · cases ax with
      | cons a r =>
        cases r with
        | cons b r =>
          cases r
          cases a with
          | lst ra sa a =>
            cases b with
            | lst rb sb b =>
              refine ⟨_, _, _, _, rfl, .inl ⟨SqL.of sa, SqL.of sb, hQ _ _ h1 _ H1 l1 o1 fun W' hr hd H2 n2 l2 o2 i => ?_⟩⟩
              have s2 := sql_lk (K := K) l2 (fun z => by rw [hr _ z ra] at sa; cases sa) sa
              have s3 := sql_lk (K := K) l2 (fun z => by rw [hr _ z rb] at sb; cases sb) sb
              refine ⟨fun d e => ?_, fun hi => ⟨_, _, s2, s3, ?_⟩⟩
              · obtain ⟨x, y, e1, e2, rfl⟩ := zipD_get e
                obtain ⟨v, e1', a1⟩ := a.get e1
                obtain ⟨u, e2', a2⟩ := b.get e2
                refine ⟨⟨_, _, v, u, s2, s3, e1', e2'⟩, fun z H3 ⟨T, x', y', ez, hT, eH, e3, e4⟩ => ?_⟩
                have q1 := e3 _ s2
                have q2 := e4 _ s3
                rw [e1'] at q1
                rw [e2'] at q2
                cases q1
                cases q2
                subst ez eH
                have st : Same H2 (upd H2 T (.tup [v, u])) := same_upd hT
                refine ⟨st, .tup (.inl (.inl upd_same)) (.cons ?_ (.cons ?_ .nil))⟩
                · exact At.le o2 (Wd.le_same st) _ (At.lk (o1.lk' hr) l2 _ (At.ext hr hd _ a1))
                · exact At.le o2 (Wd.le_same st) _ (At.lk (o1.lk' hr) l2 _ (At.ext hr hd _ a2))
              · rw [zipD_length] at hi
                rw [a.length, b.length]
                omega
    · cases ax with
      | cons a r =>
        cases r with
        | cons b r =>
          cases r
          cases a with
          | tup sa a =>
            cases b with
            | tup sb b =>
              refine ⟨_, _, _, _, rfl, .inr ⟨sa, sb, hQ _ _ h1 _ H1 l1 o1 fun W' hr hd H2 n2 l2 o2 i => ?_⟩⟩
              have s2 := sqt_lk (o1.lk' hr) l2 sa
              have s3 := sqt_lk (o1.lk' hr) l2 sb
              refine ⟨fun d e => ?_, fun hi => ⟨_, _, s2, s3, ?_⟩⟩
              · obtain ⟨x, y, e1, e2, rfl⟩ := zipD_get e
                obtain ⟨v, e1', a1⟩ := a.get e1
                obtain ⟨u, e2', a2⟩ := b.get e2
                refine ⟨⟨_, _, v, u, s2, s3, e1', e2'⟩, fun z H3 ⟨T, x', y', ez, hT, eH, e3, e4⟩ => ?_⟩
                have q1 := e3 _ s2
                have q2 := e4 _ s3
                rw [e1'] at q1
                rw [e2'] at q2
                cases q1
                cases q2
                subst ez eH
                have st : Same H2 (upd H2 T (.tup [v, u])) := same_upd hT
                refine ⟨st, .tup (.inl (.inl upd_same)) (.cons ?_ (.cons ?_ .nil))⟩
                · exact At.le o2 (Wd.le_same st) _ (At.lk (o1.lk' hr) l2 _ (At.ext hr hd _ a1))
                · exact At.le o2 (Wd.le_same st) _ (At.lk (o1.lk' hr) l2 _ (At.ext hr hd _ a2))
              · rw [zipD_length] at hi
                rw [a.length, b.length]
                omega
    · exact h1.elim) hE o h⟩
def iEnumK (K : PySem.W.Frag) (ta : TA) : TI := iEnum K ta
theorem k_enum {X : Cx} {e : Expr} {ta : TA} {p pos tpos : Pos} {elts : List Expr} {kk : Nat} (hK : X.K = K) (hg : Gl X "enumerate") (hm : X.mg "enumerate" = none) (ha : PA X [e] ta) (hs : starEach [e] X.env = [(false, eval e X.env)] := by rfl) :
    PI X (.Tuple elts kk tpos) (.Call (.Name "enumerate" p) [e] [] pos) (iEnumK K ta) := hK ▸ pi_enum hg hm ha hs
def aEnum (g : AA) : AI := fun ρ n Q => g ρ n fun ds n1 => match ds with
  | [.lst as] => Q (enumD 0 as) n1
  | _ => False
instance {ta : TA} {g : AA} [DA K ta g] : DI K (iEnumK K ta) (aEnum g) := ⟨fun W σ ρ n H R Qa hQ hE o h =>
  DA.run (te := ta) (f := g) W σ ρ n H _ _ (fun ds n1 h1 H1 vs l1 o1 ax => by
    split at h1
    · cases ax with
      | cons a r =>
        cases r
        cases a with
        | lst ra sa a =>
          refine ⟨_, _, rfl, SqL.of sa, hQ _ _ h1 _ H1 l1 o1 fun W' hr hd H2 n2 l2 o2 i => ?_⟩
          have s2 := sql_lk (K := K) l2 (fun z => by rw [hr _ z ra] at sa; cases sa) sa
          refine ⟨fun d e => ?_, fun hi => ⟨_, s2, by rw [a.length]; rw [enumD_length] at hi; exact hi⟩⟩
          obtain ⟨x, e1, rfl⟩ := enumD_get e
          obtain ⟨v, e1', a1⟩ := a.get e1
          refine ⟨⟨_, v, s2, e1'⟩, fun z H3 ⟨T, x', ez, hT, eH, e3⟩ => ?_⟩
          have q1 := e3 _ s2
          rw [e1'] at q1
          cases q1
          subst ez eH
          have st : Same H2 (upd H2 T (.tup [.int i, v])) := same_upd hT
          refine ⟨st, .tup (.inl (.inl upd_same)) (.cons ?_ (.cons ?_ .nil))⟩
          · rw [Nat.zero_add]
            exact .int _
          · exact At.le o2 (Wd.le_same st) _ (At.lk (o1.lk' hr) l2 _ (At.ext hr hd _ a1))
    · exact h1.elim) hE o h⟩
/-! comprehensions -/
def wipeA (ρ : Env') : List Nat → Env'
  | [] => ρ
  | v :: vs => eSet (wipeA ρ vs) v none
theorem EnvAt.wipe {W : Wd} {H : Hp} {σ : L2.St} {ρ : Env'} (h : EnvAt K W H σ ρ) : ∀ vs : List Nat, EnvAt K W H (L2.wipe σ vs) (wipeA ρ vs)
  | [] => h
  | v :: vs => by
    have ih := EnvAt.wipe h vs
    refine ⟨by show ((L2.wipe σ vs).set v none).length = (eSet (wipeA ρ vs) v none).length; rw [List.length_set, eSet_length]; exact ih.1, fun i d e => ?_⟩
    have e' : eGet (eSet (wipeA ρ vs) v none) i = some d := e
    by_cases hv : v = i
    · subst hv
      cases (eGet_set e').2
    · rw [eGet_ne hv] at e'
      obtain ⟨x, h1, h2⟩ := ih.2 i d e'
      exact ⟨x, by show ((L2.wipe σ vs).set v none)[i]? = _; rw [List.getElem?_set_ne hv]; exact h1, h2⟩
theorem wipe_wipe (σ : L2.St) (vs : List Nat) : wipe (wipe σ vs) vs = wipe σ vs := by
  have : ∀ us : List Nat, (∀ i ∈ us, i ∈ vs) → wipe (wipe σ us) vs = wipe σ vs := fun us => by
    induction us with
    | nil => intro _; rfl
    | cons u us ih =>
      intro h
      show wipe ((wipe σ us).set u none) vs = _
      rw [wipe_set (h u List.mem_cons_self), ih fun i hi => h i (List.mem_cons_of_mem _ hi)]
  exact this vs fun i hi => hi
def aPutC (vs : List Nat) (g : D → Option (List (Nat × D))) (d : D) (ρ : Env') (Q : Env' → Prop) : Prop := match g d with
  | some us => (match us.all fun u => vs.contains u.1 with
    | true => Q (eSetAll ρ us)
    | false => False)
  | none => False
def aLcGo (vs : List Nat) (G : D → Option (List (Nat × D))) (c : AT) (e : AE) (ρ : Env') (Q : D → Nat → Prop) : List D → List D → Nat → Prop
  | acc, [], n => Q (.lst acc) n
  | acc, d :: r, n => aPutC vs G d ρ fun ρ1 => c ρ1 n fun b n2 => aIte b (e ρ1 n2 fun y n3 => aLcGo vs G c e ρ Q (acc ++ [y]) r n3) (aLcGo vs G c e ρ Q acc r n2)
def aLc (I : AI) (G : D → Option (List (Nat × D))) (c : AT) (e : AE) (vs : List Nat) : AE := fun ρ n Q => I ρ n fun ds n1 => ds.length ≤ 1000000 ∧ aLcGo vs G c e (wipeA ρ vs) Q [] ds n1
theorem Wd.le_add {W : Wd} {p : Addr} {xs : HO} {H H1 H2 : Hp} (hp : H p = none) (l : W.le H H1) (l2 : (W.add (p, xs)).le H1 H2) : W.le H H2 := fun a o r e => by
  have ne : a ≠ p := ne_of_none e hp
  refine l2 a o ?_ (l a o r e)
  rintro (z | z)
  · exact r (.inl z)
  · rcases List.mem_cons.mp z with z | z
    · exact ne z
    · exact r (.inr z)
theorem Wd.ok_put {W : Wd} {p : Addr} {ys : HO} {n : Nat} {H : Hp} (hm : Mt ys) (hp : ¬ W.rs p) (hl : H p = none ∨ ∃ xs, H p = some (.lst xs)) (o : W.ok K n H) : (W.add (p, ys)).ok K n (upd H p ys) := by
  refine ⟨fun d b e => ?_, fun q hq => ?_, fun d b e q hq => ?_⟩
  · obtain ⟨c, D, l⟩ := o.deck d b e
    have n1 : p ≠ d := fun z => hp (.inl ⟨d, b, e, .inl z⟩)
    have n2 : p ≠ b := fun z => hp (.inl ⟨d, b, e, .inr z⟩)
    refine ⟨c, ?_, l⟩
    obtain ⟨⟨s, ns, cs, i, k, h1, h2, h3, h4⟩, ne⟩ := D
    refine ⟨⟨s, ns, cs, i, k, ?_, ?_, h3.upd hl, h4⟩, ne⟩
    · rw [upd_ne (Ne.symm n1)]; exact h1
    · rw [upd_ne (Ne.symm n2)]; exact h2
  · rcases List.mem_cons.mp hq with rfl | hq
    · exact ⟨upd_same, hm⟩
    · rw [upd_ne fun z => hp (.inr (List.mem_map.mpr ⟨q, hq, z⟩))]
      exact o.owns q hq
  · rcases List.mem_cons.mp hq with rfl | hq
    · exact ⟨fun z => hp (.inl ⟨d, b, e, .inl z⟩), fun z => hp (.inl ⟨d, b, e, .inr z⟩)⟩
    · exact o.dis d b e q hq
theorem Wd.ok.drop {W : Wd} {q : Addr × HO} {n : Nat} {H : Hp} (o : (W.add q).ok K n H) : W.ok K n H := ⟨o.deck, fun p hp => o.owns p (List.mem_cons_of_mem _ hp), fun d b e p hp => o.dis d b e p (List.mem_cons_of_mem _ hp)⟩
theorem Wd.le_more {W : Wd} {q : Addr × HO} {H H' : Hp} (l : W.le H H') : (W.add q).le H H' := fun a o r e => l a o (fun z => r (by
  rcases z with z | z
  · exact .inl z
  · exact .inr (List.mem_cons_of_mem _ z))) e
theorem Wd.le_own {W : Wd} {p : Addr} {xs : HO} {ob : HO} {H : Hp} : (W.add (p, xs)).le H (upd H p ob) := fun a o r e => by
  rw [upd_ne fun z => r (.inr (by rw [z]; exact List.mem_cons_self))]
  exact e
theorem EnvAt.ext {W W' : Wd} {H : Hp} {σ : L2.St} {ρ : Env'} (hr : ∀ a, W'.rs a → ¬ W.rs a → H a = none) (hd : W'.dk = W.dk) (h : EnvAt K W H σ ρ) : EnvAt K W' H σ ρ := ⟨h.1, fun i d e => let ⟨v, e', a⟩ := h.2 i d e; ⟨v, e', At.ext hr hd d a⟩⟩
theorem EnvAt.lk {W : Wd} {H H' : Hp} {σ : L2.St} {ρ : Env'} (h : EnvAt K W H σ ρ) (o : W.lk H) (l : W.le H H') : EnvAt K W H' σ ρ := ⟨h.1, fun i d e => let ⟨v, e', a⟩ := h.2 i d e; ⟨v, e', At.lk o l d a⟩⟩
theorem Wd.rs_new {W : Wd} {p : Addr} {xs : HO} {H : Hp} (hp : H p = none) : ∀ a, (W.add (p, xs)).rs a → ¬ W.rs a → H a = none := fun a z r => by
  rcases z with z | z
  · exact absurd (.inl z) r
  · rcases List.mem_cons.mp z with z | z
    · have z' : a = p := z
      rw [z']
      exact hp
    · exact absurd (.inr z) r
instance {wi : TI} {g : TG} {tt : TT} {te : TE} {vs : List Nat} {I : AI} {G : D → Option (List (Nat × D))} {c : AT} {e : AE} [DI K wi I] [DG K g G] [DT K tt c] [DE K te e] : DE K (tLc wi g tt te vs) (aLc I G c e vs) := ⟨fun W σ ρ n H Q Qa hQ hE o h => by
  refine DI.run (wi := wi) (f := I) W σ ρ n H _ _ (fun ds n1 h1 J H1 l1 o1 hw Dl hDl => ?_) hE o h
  obtain ⟨hlen, h1⟩ := h1
  have nrs : ¬ W.rs Dl := o1.fresh hDl
  refine ⟨fun i m H' => m = ds.length - i ∧ i ≤ ds.length ∧ ∃ n' us acc, aLcGo vs G c e (wipeA ρ vs) Qa acc (ds.drop i) n' ∧ (W.add (Dl, .lst us)).ok K n' H' ∧ AtAll K (W.add (Dl, .lst us)) H' us acc ∧ W.le H1 H' ∧ us.length ≤ i, ⟨_, rfl, Nat.zero_le _, n1, [], [], h1, Wd.ok_put trivial nrs (.inl hDl) o1, .nil, Wd.le_same (same_upd hDl), Nat.le_refl _⟩, ?_⟩
  rintro i m H2 ⟨rfl, hi, n2, us, acc, h2, o2, a2, l2, hul⟩
  have rn := Wd.rs_new (W := W) (xs := .lst us) hDl
  obtain ⟨w1, w2⟩ := hw (W.add (Dl, .lst us)) rn rfl H2 n2 (Wd.le_more l2) o2 i
  by_cases hlt : i < ds.length
  · rw [List.drop_eq_getElem_cons hlt] at h2
    obtain ⟨hgo, hy⟩ := w1 ds[i] (List.getElem?_eq_getElem hlt)
    refine .inr ⟨hgo, fun H' => ∃ m', m' < ds.length - i ∧ m' = ds.length - (i + 1) ∧ i + 1 ≤ ds.length ∧ ∃ n' us acc, aLcGo vs G c e (wipeA ρ vs) Qa acc (ds.drop (i + 1)) n' ∧ (W.add (Dl, .lst us)).ok K n' H' ∧ AtAll K (W.add (Dl, .lst us)) H' us acc ∧ W.le H1 H' ∧ us.length ≤ i + 1, fun H' q => q, fun x H3 hx => ?_⟩
    obtain ⟨s3, a3⟩ := hy x H3 hx
    have l3 : (W.add (Dl, .lst us)).le H2 H3 := Wd.le_same s3
    have o3 := o2.same s3
    have hE3 : EnvAt K (W.add (Dl, .lst us)) H3 (wipe σ vs) (wipeA ρ vs) := (((hE.le o l1).ext rn rfl).lk (o1.lk' rn) ((Wd.le_more l2).trans l3)).wipe vs
    unfold aLcGo aPutC at h2
    split at h2
    · rename_i xs ex
      split at h2
      · rename_i hc
        refine DG.run (g := g) (f := G) _ (wipe σ vs) H3 x _ xs _ a3 ex fun zs hz => ?_
        have hE4 := hE3.setAll hz
        have hv : ∀ z ∈ zs, z.1 ∈ vs := upd_slots hz fun u hu => List.contains_iff_mem.mp (List.all_eq_true.mp hc u hu)
        refine ⟨by rw [wipe_setAll hv, wipe_wipe], DT.run (te := tt) (f := c) _ _ _ n2 H3 _ _ (fun b n5 h5 H5 l5 o5 => ?_) hE4 o3 h2⟩
        have l25 := l3.trans l5
        cases b with
        | true =>
          rw [if_pos rfl]
          refine DE.run (te := te) (f := e) _ _ _ n5 H5 _ _ (fun y n6 h6 H6 v l6 o6 a6 => ?_) (hE4.le o3 l5) o5 (h5.1 rfl)
          have hD6 : H6 Dl = some (.lst us) := (o6.owns (Dl, .lst us) List.mem_cons_self).1
          have l26 := l25.trans l6
          refine ⟨us, hD6, Nat.lt_of_lt_of_le (show us.length < 1000000 by omega) lim, _, by omega, rfl, hlt, n6, us ++ [v], acc ++ [y], h6, Wd.ok_put trivial nrs (.inr ⟨_, hD6⟩) o6.drop, ?_, Wd.le_add hDl l2 (l26.trans (Wd.le_own (ob := .lst (us ++ [v])))), by rw [List.length_append, List.length_singleton]; omega⟩
          have key : AtAll K (W.add (Dl, .lst us)) H6 (us ++ [v]) (acc ++ [y]) := (AtAll.le o2 l26 _ a2).append (.cons a6 .nil)
          exact AtAll.weak (W := W.add (Dl, .lst us)) (W' := W.add (Dl, .lst (us ++ [v]))) (fun a z => z) rfl _ (AtAll.le o6 (Wd.le_own (ob := .lst (us ++ [v]))) _ key)
        | false =>
          rw [if_neg Bool.false_ne_true]
          exact ⟨_, by omega, rfl, hlt, n5, us, acc, h5.2 rfl, o5, AtAll.le o2 l25 _ a2, Wd.le_add hDl l2 l25, by omega⟩
      · exact h2.elim
    · exact h2.elim
  · have ei : i = ds.length := by omega
    subst ei
    rw [List.drop_length] at h2
    have hD2 : H2 Dl = some (.lst us) := (o2.owns (Dl, .lst us) List.mem_cons_self).1
    exact .inl ⟨w2 (Nat.le_refl _), hQ _ _ h2 H2 _ (l1.trans l2) o2.drop (.lst nrs hD2 (AtAll.weak (fun a z => Wd.rs_add z) rfl _ a2))⟩⟩
/-! reversed copies -/
def tRevK (K : PySem.W.Frag) (te : TE) : TE := tRevL K te
theorem k_rev {X : Cx} {e : Expr} {te : TE} {k : Nat} {p1 p2 p3 pos : Pos} (hK : X.K = K) (he : PE X e te) : PE X (.Subscript e (.Slice none none (some (.UnaryOp .USub (.Constant (.int 1) k p1) p2)) p3) pos) (tRevK K te) := hK ▸ pe_revL he
def aRev (f : AE) : AE := fun ρ n Q => f ρ n fun d n1 => match d with
  | .lst ds => Q (.lst ds.reverse) n1
  | _ => False
instance {te : TE} {f : AE} [DE K te f] : DE K (tRevK K te) (aRev f) := ⟨fun W σ ρ n H Q Qa hQ hE o h =>
  DE.run (te := te) (f := f) W σ ρ n H _ _ (fun d n1 h1 H1 x l1 o1 ax => by
    split at h1
    · cases ax with
      | lst r s a => exact ⟨_, _, rfl, SqL.of s, fun p hp => (hQ.le l1).new o1 h1 hp (.lst (o1.fresh hp) upd_same (AtAll.le o1 (Wd.le_same (same_upd hp)) _ (rev_at a)))⟩
    · exact h1.elim) hE o h⟩
end

/-! ### the mirror, fifth part: statements, defs -/
section
variable {K : PySem.W.Frag}
/-! ### statements: lists (and dicts) that a def builds, at the slots ow -/
def Wd.plus (W : Wd) (U : List (Addr × HO)) : Wd := { W with own := U ++ W.own }
inductive OwAt (K : PySem.W.Frag) (W : Wd) (H : Hp) : HO → D → Prop
  | lst {us : List V} {ds : List D} : AtAll K W H us ds → OwAt K W H (.lst us) (.lst ds)
  | dic {ks : List Key} {us : List V} {ds : List D} : ks.length = us.length → AtAll K W H us ds → OwAt K W H (.dK (ks.zip us)) (.dic ks ds)
structure SOk (K : PySem.W.Frag) (W : Wd) (ow : List Nat) (n : Nat) (H : Hp) (σ : L2.St) (ρ : Env') (U : List (Addr × HO)) : Prop where
  nd : (U.map (·.1)).Nodup
  nr : ∀ u ∈ U, ¬ W.rs u.1
  ok : (W.plus U).ok K n H
  len : σ.length = ρ.length
  env : ∀ i d, i ∉ ow → eGet ρ i = some d → ∃ v, σ[i]? = some (some v) ∧ At K (W.plus U) H v d
  own : ∀ i d, i ∈ ow → eGet ρ i = some d → ∃ u ∈ U, σ[i]? = some (some (.ref u.1)) ∧ OwAt K (W.plus U) H u.2 d
  dst : ∀ i j p, i ∈ ow → j ∈ ow → i ≠ j → σ[i]? = some (some (.ref p)) → σ[j]? = some (some (.ref p)) → eGet ρ i = none ∨ eGet ρ j = none
structure Stp (W : Wd) (U : List (Addr × HO)) (H : Hp) (U' : List (Addr × HO)) (H' : Hp) : Prop where
  le : (W.plus U).le H H'
  new : ∀ a, (W.plus U').rs a → ¬ (W.plus U).rs a → H a = none
  old : ∀ a, (W.plus U).rs a → (W.plus U').rs a
theorem Stp.refl {W : Wd} {U : List (Addr × HO)} {H : Hp} : Stp W U H U H := ⟨Wd.le_refl, fun a h g => absurd h g, fun a h => h⟩
theorem Stp.trans {W : Wd} {U U1 U2 : List (Addr × HO)} {H H1 H2 : Hp} (s : Stp W U H U1 H1) (t : Stp W U1 H1 U2 H2) : Stp W U H U2 H2 := by
  have key : ∀ a o, ¬ (W.plus U).rs a → H a = some o → ¬ (W.plus U1).rs a := fun a o r e z => by
    rw [s.new a z r] at e
    cases e
  refine ⟨fun a o r e => t.le a o (key a o r e) (s.le a o r e), fun a z r => ?_, fun a h => t.old a (s.old a h)⟩
  by_cases h1 : (W.plus U1).rs a
  · exact s.new a h1 r
  · have h2 := t.new a z h1
    cases e : H a with
    | none => rfl
    | some o =>
      rw [s.le a o r e] at h2
      cases h2
theorem Wd.rs_plus {W : Wd} {U : List (Addr × HO)} {a : Addr} : (W.plus U).rs a ↔ a ∈ U.map (·.1) ∨ W.rs a := by
  constructor
  · rintro (h | h)
    · exact .inr (.inl h)
    · have h' : a ∈ (U ++ W.own).map (·.1) := h
      rw [List.map_append] at h'
      rcases List.mem_append.mp h' with h | h
      · exact .inl h
      · exact .inr (.inr h)
  · rintro (h | h | h)
    · refine .inr (show a ∈ (U ++ W.own).map (·.1) from ?_)
      rw [List.map_append]
      exact List.mem_append_left _ h
    · exact .inl h
    · refine .inr (show a ∈ (U ++ W.own).map (·.1) from ?_)
      rw [List.map_append]
      exact List.mem_append_right _ h
section
variable {W : Wd} {ow : List Nat} {n : Nat} {H H1 : Hp} {σ : L2.St} {ρ : Env'} {U : List (Addr × HO)}
theorem wipeA_get : ∀ {ow : List Nat} {i : Nat} {d : D}, eGet (wipeA ρ ow) i = some d → i ∉ ow ∧ eGet ρ i = some d
  | [], i, d, h => ⟨fun z => (by cases z), h⟩
  | w :: ow, i, d, h => by
    have h' : eGet (eSet (wipeA ρ ow) w none) i = some d := h
    by_cases e : w = i
    · subst e
      cases (eGet_set h').2
    · rw [eGet_ne e] at h'
      obtain ⟨h1, h2⟩ := wipeA_get h'
      exact ⟨fun z => (List.mem_cons.mp z).elim (fun q => e q.symm) h1, h2⟩
theorem wipeA_length : ∀ ow : List Nat, (wipeA ρ ow).length = ρ.length
  | [] => rfl
  | w :: ow => by
    show (eSet (wipeA ρ ow) w none).length = _
    rw [eSet_length, wipeA_length ow]
/-- the lists that are built hidden -/
theorem SOk.hid (s : SOk K W ow n H σ ρ U) : EnvAt K (W.plus U) H σ (wipeA ρ ow) := ⟨by rw [wipeA_length]; exact s.len, fun i d e => let ⟨h1, h2⟩ := wipeA_get e; s.env i d h1 h2⟩
theorem SOk.base (s : SOk K W ow n H σ ρ U) : W.ok K n H := ⟨s.ok.deck, fun p hp => s.ok.owns p (List.mem_append_right _ hp), fun d b e p hp => s.ok.dis d b e p (List.mem_append_right _ hp)⟩
/-- .. as plain lists -/
theorem SOk.opn (s : SOk K W ow n H σ ρ U) : EnvAt K W H σ ρ := by
  have hw : ∀ a, W.rs a → (W.plus U).rs a := fun a h => Wd.rs_plus.mpr (.inr h)
  refine ⟨s.len, fun i d e => ?_⟩
  by_cases hi : i ∈ ow
  · obtain ⟨⟨q, ob⟩, hu, e1, a⟩ := s.own i d hi e
    refine ⟨_, e1, ?_⟩
    have h1 := (s.ok.owns _ (List.mem_append_left _ hu)).1
    cases a with
    | lst a => exact .lst (s.nr _ hu) h1 (AtAll.weak hw rfl _ a)
    | dic l a => exact .dic (s.nr _ hu) h1 l (AtAll.weak hw rfl _ a)
  · obtain ⟨v, e1, a⟩ := s.env i d hi e
    exact ⟨v, e1, At.weak hw rfl _ a⟩
theorem OwAt.le {ob : HO} {d : D} (o : W.ok K n H) (l : W.le H H1) (h : OwAt K W H ob d) : OwAt K W H1 ob d := by
  cases h with
  | lst a => exact .lst (AtAll.le o l _ a)
  | dic e a => exact .dic e (AtAll.le o l _ a)
/-- behind what was done with the built ones hidden -/
theorem SOk.le {n1 : Nat} (s : SOk K W ow n H σ ρ U) (l : (W.plus U).le H H1) (o : (W.plus U).ok K n1 H1) : SOk K W ow n1 H1 σ ρ U :=
  ⟨s.nd, s.nr, o, s.len, fun i d h e => let ⟨v, e1, a⟩ := s.env i d h e; ⟨v, e1, At.le s.ok l _ a⟩, fun i d h e => let ⟨u, hu, e1, a⟩ := s.own i d h e; ⟨u, hu, e1, a.le s.ok l⟩, s.dst⟩
/-- behind what was done with them as plain lists -/
theorem SOk.lo {n1 : Nat} (s : SOk K W ow n H σ ρ U) (l : W.le H H1) (o : W.ok K n1 H1) : SOk K W ow n1 H1 σ ρ U := by
  have l' : (W.plus U).le H H1 := fun a ob r e => l a ob (fun z => r (Wd.rs_plus.mpr (.inr z))) e
  refine s.le l' ⟨o.deck, fun p hp => ?_, s.ok.dis⟩
  rcases List.mem_append.mp hp with hp' | hp'
  · obtain ⟨h1, h2⟩ := s.ok.owns p hp
    exact ⟨l _ _ (s.nr p hp') h1, h2⟩
  · exact o.owns p hp'
theorem lo_le (l : W.le H H1) : (W.plus U).le H H1 := fun a ob r e => l a ob (fun z => r (Wd.rs_plus.mpr (.inr z))) e
theorem SOk.set {i : Nat} {v : V} {d : D} (s : SOk K W ow n H σ ρ U) (hi : i ∉ ow) (a : At K (W.plus U) H v d) : SOk K W ow n H (σ.set i (some v)) (eSet ρ i (some d)) U := by
  refine ⟨s.nd, s.nr, s.ok, by rw [List.length_set, eSet_length]; exact s.len, fun j e hj he => ?_, fun j e hj he => ?_, fun j k p hj hk ne h1 h2 => ?_⟩
  · by_cases hij : i = j
    · subst hij
      obtain ⟨hl, he⟩ := eGet_set he
      cases he
      exact ⟨v, by rw [List.getElem?_set_self (by rw [s.len]; exact hl)], a⟩
    · rw [eGet_ne hij] at he
      rw [List.getElem?_set_ne hij]
      exact s.env j e hj he
  · have hij : i ≠ j := fun z => hi (z ▸ hj)
    rw [eGet_ne hij] at he
    rw [List.getElem?_set_ne hij]
    exact s.own j e hj he
  · have hij : i ≠ j := fun z => hi (z ▸ hj)
    have hik : i ≠ k := fun z => hi (z ▸ hk)
    rw [List.getElem?_set_ne hij] at h1
    rw [List.getElem?_set_ne hik] at h2
    rw [eGet_ne hij, eGet_ne hik]
    exact s.dst j k p hj hk ne h1 h2
theorem SOk.setAll : ∀ {zs : List (Nat × V)} {us : List (Nat × D)} {σ : L2.St} {ρ : Env'}, SOk K W ow n H σ ρ U → Upd K (W.plus U) H zs us → (∀ u ∈ us, u.1 ∉ ow) → SOk K W ow n H (R.setAll σ zs) (eSetAll ρ us) U
  | _, _, _, _, s, .nil, _ => s
  | _, _, _, _, s, .cons (a := (i, v)) (b := (j, d)) ⟨e, a⟩ r, h => by
    cases (show i = j from e)
    have := SOk.setAll (s.set (h _ List.mem_cons_self) a) r fun u hu => h u (List.mem_cons_of_mem _ hu)
    exact this
end
structure AEn where
  nx : Env' → Nat → Prop
  rt : D → Nat → Prop
  bk : Env' → Nat → Prop := fun _ _ => False
  ct : Env' → Nat → Prop := fun _ _ => False
  ex : Env' → Addr → List Str → List D → Nat → Prop := fun _ _ _ _ _ => False
/-- an error's fields: its dict at d -/
def XdAt (K : PySem.W.Frag) (W : Wd) (H : Hp) (d : Option Addr) (ns : List Str) (ds : List D) : Prop := At K W H (.ref 0) (.xcp 0 0 d ns ds)
theorem XdAt.any {K : PySem.W.Frag} {W : Wd} {H : Hp} {d : Option Addr} {ns : List Str} {ds : List D} (h : XdAt K W H d ns ds) (a C : Addr) : At K W H (.ref a) (.xcp a C d ns ds) := by
  unfold XdAt at h
  cases h with
  | xcp0 => exact .xcp0
  | xcp1 s e b => exact .xcp1 s e b
def W0 : WX := fun _ _ _ _ => False
/-- what is wanted of an error that is raised: as behind a statement, the error's fields at d -/
def WantsX (K : PySem.W.Frag) (W : Wd) (ow : List Nat) (U : List (Addr × HO)) (H : Hp) (Xa : Env' → Addr → List Str → List D → Nat → Prop) (Wx : WX) : Prop :=
  ∀ ρ' C ns ds n', Xa ρ' C ns ds n' → ∀ U' σ' H' d, Stp W U H U' H' → SOk K W ow n' H' σ' ρ' U' → XdAt K (W.plus U') H' d ns ds → Wx (.ref C) d σ' H'
theorem WantsX.le {W : Wd} {ow : List Nat} {U U1 : List (Addr × HO)} {H H1 : Hp} {Xa : Env' → Addr → List Str → List D → Nat → Prop} {Wx : WX} (h : WantsX K W ow U H Xa Wx) (s : Stp W U H U1 H1) : WantsX K W ow U1 H1 Xa Wx := fun ρ' C ns ds n' q U' σ' H' d l' a x => h ρ' C ns ds n' q U' σ' H' d (s.trans l') a x
def WantsE (K : PySem.W.Frag) (W : Wd) (ow : List Nat) (U : List (Addr × HO)) (H : Hp) (Qa : Env' → Nat → Prop) (Q : L2.St → Hp → Prop) : Prop :=
  ∀ ρ' n', Qa ρ' n' → ∀ U' σ' H', Stp W U H U' H' → SOk K W ow n' H' σ' ρ' U' → Q σ' H'
theorem WantsE.le {W : Wd} {ow : List Nat} {U U1 : List (Addr × HO)} {H H1 : Hp} {Qa : Env' → Nat → Prop} {Q : L2.St → Hp → Prop} (h : WantsE K W ow U H Qa Q) (s : Stp W U H U1 H1) : WantsE K W ow U1 H1 Qa Q := fun ρ' n' q U' σ' H' l' a => h ρ' n' q U' σ' H' (s.trans l') a
/-- what is wanted of what is told: the built ones are plain lists then -/
def WantsR (K : PySem.W.Frag) (W : Wd) (U : List (Addr × HO)) (H : Hp) (Qa : D → Nat → Prop) (Q : VK) : Prop := ∀ d n', Qa d n' → ∀ U1 H1 H' v, Stp W U H U1 H1 → W.le H1 H' → W.ok K n' H' → At K W H' v d → Q v H'
theorem WantsR.le {W : Wd} {U U1 : List (Addr × HO)} {H H1 : Hp} {Qa : D → Nat → Prop} {Q : VK} (h : WantsR K W U H Qa Q) (s : Stp W U H U1 H1) : WantsR K W U1 H1 Qa Q := fun d n' q U' H' H2 v l' l2 o a => h d n' q U' H' H2 v (s.trans l') l2 o a
structure EndsOk (K : PySem.W.Frag) (Wx : WX) (W : Wd) (ow : List Nat) (U : List (Addr × HO)) (H : Hp) (Ea : AEn) (E : Ends) : Prop where
  nx : WantsE K W ow U H Ea.nx E.nx
  rt : WantsR K W U H Ea.rt E.rt
  bk : WantsE K W ow U H Ea.bk E.bk
  ct : WantsE K W ow U H Ea.ct E.ct
  ex : WantsX K W ow U H Ea.ex Wx
theorem EndsOk.le {Wx : WX} {W : Wd} {ow : List Nat} {U U1 : List (Addr × HO)} {H H1 : Hp} {Ea : AEn} {E : Ends} (h : EndsOk K Wx W ow U H Ea E) (l : Stp W U H U1 H1) : EndsOk K Wx W ow U1 H1 Ea E := ⟨h.nx.le l, h.rt.le l, h.bk.le l, h.ct.le l, h.ex.le l⟩
abbrev AS := AEn → Env' → Nat → Prop
class DS (K : PySem.W.Frag) (Wx : WX) (ow : List Nat) (t : TS) (f : outParam AS) : Prop where
  run : ∀ (W : Wd) (U : List (Addr × HO)) (σ : L2.St) (ρ : Env') (n : Nat) (H : Hp) (E : Ends) (Ea : AEn), EndsOk K Wx W ow U H Ea E → SOk K W ow n H σ ρ U → f Ea ρ n → t E σ H
variable {ow : List Nat} {Wx : WX}
def aNext : AS := fun E ρ n => E.nx ρ n
def aSeq (f g : AS) : AS := fun E ρ n => f { E with nx := fun ρ' n' => g E ρ' n' } ρ n
instance : DS K Wx ow tNext aNext := ⟨fun W U σ ρ n H E Ea hD s h => hD.nx _ _ h U σ H Stp.refl s⟩
instance {t u : TS} {f g : AS} [DS K Wx ow t f] [DS K Wx ow u g] : DS K Wx ow (tSeq t u) (aSeq f g) := ⟨fun W U σ ρ n H E Ea hD s h =>
  DS.run (ow := ow) (t := t) (f := f) W U σ ρ n H _ { Ea with nx := fun ρ' n' => g Ea ρ' n' } ⟨fun ρ1 n1 h1 U1 σ1 H1 l1 s1 => DS.run (ow := ow) (t := u) (f := g) W U1 σ1 ρ1 n1 H1 E Ea (hD.le l1) s1 h1, hD.rt, hD.bk, hD.ct, hD.ex⟩ s h⟩
instance : DS K Wx ow tNever (fun _ _ _ => False) := ⟨fun W U σ ρ n H E Ea hD s h => h⟩
def aBrk : AS := fun E ρ n => E.bk ρ n
def aCnt : AS := fun E ρ n => E.ct ρ n
instance : DS K Wx ow tBreak aBrk := ⟨fun W U σ ρ n H E Ea hD s h => hD.bk _ _ h U σ H Stp.refl s⟩
instance : DS K Wx ow tCont aCnt := ⟨fun W U σ ρ n H E Ea hD s h => hD.ct _ _ h U σ H Stp.refl s⟩
theorem Stp.hid {W : Wd} {U : List (Addr × HO)} {H H1 : Hp} (l : (W.plus U).le H H1) : Stp W U H U H1 := ⟨l, fun a h g => absurd h g, fun a h => h⟩
def aDrop (ow : List Nat) (f : AE) : AS := fun E ρ n => f (wipeA ρ ow) n fun _ n1 => E.nx ρ n1
instance {te : TE} {f : AE} [DE K te f] : DS K Wx ow (tDrop te) (aDrop ow f) := ⟨fun W U σ ρ n H E Ea hD s h =>
  DE.run (te := te) (f := f) (W.plus U) σ _ n H _ _ (fun d n1 h1 H1 x l1 o1 ax => hD.nx _ _ h1 U σ H1 (.hid l1) (s.le l1 o1)) s.hid s.ok h⟩
def aRet (f : AE) : AS := fun E ρ n => f ρ n E.rt
instance {te : TE} {f : AE} [DE K te f] : DS K Wx ow (tRet te) (aRet f) := ⟨fun W U σ ρ n H E Ea hD s h => DE.run (te := te) (f := f) W σ ρ n H _ _ (fun d n1 h1 H1 x l1 o1 ax => hD.rt d n1 h1 U H H1 x Stp.refl l1 o1 ax) s.opn s.base h⟩
def aRetN : AS := fun E _ n => E.rt .non n
instance : DS K Wx ow tRetN aRetN := ⟨fun W U σ ρ n H E Ea hD s h => hD.rt _ _ h U H H _ Stp.refl Wd.le_refl s.base .non⟩
def aIfS (c : AT) (f g : AS) : AS := fun E ρ n => c ρ n fun b n1 => aIte b (f E ρ n1) (g E ρ n1)
instance {tc : TT} {t u : TS} {c : AT} {f g : AS} [DT K tc c] [DS K Wx ow t f] [DS K Wx ow u g] : DS K Wx ow (tIfS tc t u) (aIfS c f g) := ⟨fun W U σ ρ n H E Ea hD s h =>
  DT.run (te := tc) (f := c) W σ ρ n H _ _ (fun b n1 h1 H1 l1 o1 => by
    have st : Stp W U H U H1 := .hid (lo_le l1)
    cases b with
    | true => rw [if_pos rfl]; exact DS.run (ow := ow) (t := t) (f := f) W U σ ρ n1 H1 E Ea (hD.le st) (s.lo l1 o1) (h1.1 rfl)
    | false => rw [if_neg Bool.false_ne_true]; exact DS.run (ow := ow) (t := u) (f := g) W U σ ρ n1 H1 E Ea (hD.le st) (s.lo l1 o1) (h1.2 rfl)) s.opn s.base h⟩
/-- what a target stores -/
def aPut (ow : List Nat) (g : D → Option (List (Nat × D))) (d : D) (ρ : Env') (Q : Env' → Prop) : Prop := match g d with
  | some us => (match us.all fun u => !ow.contains u.1 with
    | true => Q (eSetAll ρ us)
    | false => False)
  | none => False
def aAsg (ow : List Nat) (f : AE) (g : D → Option (List (Nat × D))) : AS := fun E ρ n => f (wipeA ρ ow) n fun d n1 => aPut ow g d ρ fun ρ' => E.nx ρ' n1
theorem put_run {W : Wd} {U : List (Addr × HO)} {g : TG} {a : D → Option (List (Nat × D))} [DG K g a] {σ : L2.St} {ρ : Env'} {n : Nat} {H : Hp} {v : V} {d : D} {Qa : Env' → Prop} {Q : L2.St → Hp → Prop} (s : SOk K W ow n H σ ρ U) (ax : At K (W.plus U) H v d) (h : aPut ow a d ρ Qa)
    (hQ : ∀ ρ' σ', Qa ρ' → SOk K W ow n H σ' ρ' U → Q σ' H) : g v σ H Q := by
  unfold aPut at h
  split at h
  · rename_i us e
    split at h
    · rename_i hc
      refine DG.run (g := g) (f := a) (W.plus U) σ H v d us Q ax e fun zs hz => hQ _ _ h (s.setAll hz fun u hu hin => ?_)
      have := List.all_eq_true.mp hc u hu
      rw [List.contains_iff_mem.mpr hin] at this
      cases this
    · exact h.elim
  · exact h.elim
instance {te : TE} {g : TG} {f : AE} {a : D → Option (List (Nat × D))} [DE K te f] [DG K g a] : DS K Wx ow (tAsg te g) (aAsg ow f a) := ⟨fun W U σ ρ n H E Ea hD s h =>
  DE.run (te := te) (f := f) (W.plus U) σ _ n H _ _ (fun d n1 h1 H1 x l1 o1 ax => put_run (g := g) (a := a) (s.le l1 o1) ax h1 fun ρ' σ' q s' => hD.nx _ _ q U σ' H1 (.hid l1) s') s.hid s.ok h⟩
/-- a scalar that is reckoned of the built lists too -/
def tOpen (te : TE) : TE := te
mutual
def D.sc : D → Bool
  | .non => true | .bl _ => true | .int _ => true | .str _ => true | .tup ds => scAll ds
  | _ => false
def scAll : List D → Bool
  | [] => true
  | d :: ds => d.sc && scAll ds
end
mutual
theorem sc_at' {W W' : Wd} {H : Hp} : ∀ (d : D) {v : V}, d.sc = true → At K W H v d → At K W' H v d
  | .non, _, _, h => by cases h; exact .non
  | .bl b, _, _, h => by cases h; exact .bl b
  | .int i, _, _, h => by cases h; exact .int i
  | .str x, _, _, h => by cases h; exact .str x
  | .ty t, _, e, _ => Bool.noConfusion e
  | .cls a, _, e, _ => Bool.noConfusion e
  | .tup ds, _, e, h => by
    cases h with
    | tup s a => exact .tup s (scAll_at ds e a)
  | .lst ds, _, e, _ => Bool.noConfusion e
  | .dic ks ds, _, e, _ => Bool.noConfusion e
  | .ins C ns ds, _, e, _ => Bool.noConfusion e
  | .deck, _, e, _ => Bool.noConfusion e
  | .xcp _ _ _ _ _, _, e, _ => Bool.noConfusion e
theorem scAll_at {W W' : Wd} {H : Hp} : ∀ (ds : List D) {vs : List V}, scAll ds = true → AtAll K W H vs ds → AtAll K W' H vs ds
  | [], _, _, h => by cases h; exact .nil
  | d :: ds, _, e, h => by
    have e' : (d.sc && scAll ds) = true := e
    rw [Bool.and_eq_true] at e'
    cases h with
    | cons a r => exact .cons (sc_at' d e'.1 a) (scAll_at ds e'.2 r)
end
theorem sc_at {W W' : Wd} {H : Hp} {v : V} {d : D} (h : d.sc = true) (a : At K W H v d) : At K W' H v d := sc_at' d h a
def aAsgO (ow : List Nat) (f : AE) (g : D → Option (List (Nat × D))) : AS := fun E ρ n => f ρ n fun d n1 => match d.sc with
  | true => aPut ow g d ρ fun ρ' => E.nx ρ' n1
  | false => False
instance (priority := 1100) {te : TE} {g : TG} {f : AE} {a : D → Option (List (Nat × D))} [DE K te f] [DG K g a] : DS K Wx ow (tAsg (tOpen te) g) (aAsgO ow f a) := ⟨fun W U σ ρ n H E Ea hD s h =>
  DE.run (te := te) (f := f) W σ ρ n H _ _ (fun d n1 h1 H1 x l1 o1 ax => by
    split at h1
    · rename_i hs
      exact put_run (g := g) (a := a) (s.lo l1 o1) (sc_at hs ax) h1 fun ρ' σ' q s' => hD.nx _ _ q U σ' H1 (.hid (lo_le l1)) s'
    · exact h1.elim) s.opn s.base h⟩
theorem k_open {X : Cx} {e : Expr} {te : TE} (h : PE X e te) : PE X e (tOpen te) := h
def aPar (ow : List Nat) (i j : Nat) (g : AA) : AS := fun E ρ n => g (wipeA ρ ow) n fun ds n1 => match ds, ow.contains i || ow.contains j with
  | [d, e], false => E.nx (eSet (eSet ρ i (some d)) j (some e)) n1
  | _, _ => False
instance {i j : Nat} {ta : TA} {g : AA} [DA K ta g] : DS K Wx ow (tPar i j ta) (aPar ow i j g) := ⟨fun W U σ ρ n H E Ea hD s h =>
  DA.run (te := ta) (f := g) (W.plus U) σ _ n H _ _ (fun ds n1 h1 H1 vs l1 o1 ax => by
    split at h1
    · rename_i hc
      rw [Bool.or_eq_false_iff] at hc
      cases ax with
      | cons a r =>
        cases r with
        | cons b r =>
          cases r
          refine ⟨_, _, rfl, hD.nx _ _ h1 U _ H1 (.hid l1) (((s.le l1 o1).set (fun z => ?_) a).set (fun z => ?_) b)⟩
          · rw [List.contains_iff_mem.mpr z] at hc
            cases hc.1
          · rw [List.contains_iff_mem.mpr z] at hc
            cases hc.2
    · exact h1.elim) s.hid s.ok h⟩
def aAug (ow : List Nat) (i : Nat) (f : AE) (r : D → D → Nat → (D → Nat → Prop) → Prop) : AS := fun E ρ n => match eGet ρ i, ow.contains i with
  | some d, false => f (wipeA ρ ow) n fun e n1 => r d e n1 fun x n2 => E.nx (eSet ρ i (some x)) n2
  | _, _ => False
instance {i : Nat} {te : TE} {ti : TIp} {f : AE} {r : D → D → Nat → (D → Nat → Prop) → Prop} [DE K te f] [D2 K ti r] : DS K Wx ow (tAug i te ti) (aAug ow i f r) := ⟨fun W U σ ρ n H E Ea hD s h => by
  unfold aAug at h
  split at h
  · rename_i d e hc
    have hi : i ∉ ow := fun z => by rw [List.contains_iff_mem.mpr z] at hc; cases hc
    obtain ⟨v, e', a⟩ := s.env i d hi e
    refine ⟨v, e', DE.run (te := te) (f := f) (W.plus U) σ _ n H _ _ (fun d1 n1 h1 H1 x l1 o1 ax => ?_) s.hid s.ok h⟩
    exact D2.run (r := ti) (f := r) (W.plus U) n1 H1 v x d d1 _ _ (fun d2 n2 h2 H2 y l2 o2 ay => hD.nx _ _ h2 U _ H2 (.hid (l1.trans l2)) ((s.le (l1.trans l2) o2).set hi ay)) o1 (At.le s.ok l1 _ a) ax h1
  · exact h.elim⟩
/-! while -/
def aWhile (c : AT) (f : AS) : AS := fun E ρ n => ∃ Wv : Nat → Env' → Nat → Prop, (∃ m, Wv m ρ n) ∧ ∀ m ρ n, Wv m ρ n →
  c ρ n fun b n1 => aIte b (f { E with nx := fun ρ' n' => ∃ m', m' < m ∧ Wv m' ρ' n', ct := fun ρ' n' => ∃ m', m' < m ∧ Wv m' ρ' n', bk := E.nx } ρ n1) (E.nx ρ n1)
instance {tc : TT} {tb : TS} {c : AT} {f : AS} [DT K tc c] [DS K Wx ow tb f] : DS K Wx ow (tWhile tc tb) (aWhile c f) := ⟨fun W U σ ρ n H E Ea hD s h => by
  obtain ⟨Wv, ⟨m, w0⟩, turn⟩ := h
  refine ⟨fun m σ' H' => ∃ ρ' n' U', Wv m ρ' n' ∧ SOk K W ow n' H' σ' ρ' U' ∧ Stp W U H U' H', ⟨m, ρ, n, U, w0, s, Stp.refl⟩, ?_⟩
  rintro m σ1 H1 ⟨ρ1, n1, U1, w1, s1, l1⟩
  refine DT.run (te := tc) (f := c) W σ1 ρ1 n1 H1 _ _ (fun b n2 h2 H2 l2 o2 => ?_) s1.opn s1.base (turn m ρ1 n1 w1)
  have st := l1.trans (.hid (lo_le l2))
  cases b with
  | true =>
    rw [if_pos rfl]
    refine ⟨fun σ' H' => ∃ m', m' < m ∧ ∃ ρ' n' U', Wv m' ρ' n' ∧ SOk K W ow n' H' σ' ρ' U' ∧ Stp W U H U' H', fun σ' H' q => q, ?_⟩
    have again : WantsE K W ow U1 H2 (fun ρ' n' => ∃ m', m' < m ∧ Wv m' ρ' n') fun σ' H' => ∃ m', m' < m ∧ ∃ ρ' n' U', Wv m' ρ' n' ∧ SOk K W ow n' H' σ' ρ' U' ∧ Stp W U H U' H' := fun ρ' n' ⟨m', lt, wv⟩ U' σ' H' l' s' => ⟨m', lt, ρ', n', U', wv, s', st.trans l'⟩
    exact DS.run (ow := ow) (t := tb) (f := f) W U1 σ1 ρ1 n2 H2 _ { Ea with nx := fun ρ' n' => ∃ m', m' < m ∧ Wv m' ρ' n', ct := fun ρ' n' => ∃ m', m' < m ∧ Wv m' ρ' n', bk := Ea.nx } ⟨again, hD.rt.le st, hD.nx.le st, again, hD.ex.le st⟩ (s1.lo l2 o2) (h2.1 rfl)
  | false =>
    rw [if_neg Bool.false_ne_true]
    exact hD.nx _ _ (h2.2 rfl) U1 σ1 H2 st (s1.lo l2 o2)⟩
/-! for -/
def aForGo (ow : List Nat) (G : D → Option (List (Nat × D))) (f : AS) (E : AEn) : List D → Env' → Nat → Prop
  | [], ρ, n => E.nx ρ n
  | d :: r, ρ, n => aPut ow G d ρ fun ρ1 => f { E with nx := aForGo ow G f E r, ct := aForGo ow G f E r, bk := E.nx } ρ1 n
def aFor (ow : List Nat) (I : AI) (G : D → Option (List (Nat × D))) (f : AS) : AS := fun E ρ n => I (wipeA ρ ow) n fun ds n1 => aForGo ow G f E ds ρ n1
instance {wi : TI} {g : TG} {tb : TS} {I : AI} {G : D → Option (List (Nat × D))} {f : AS} [DI K wi I] [DG K g G] [DS K Wx ow tb f] : DS K Wx ow (tFor wi g tb) (aFor ow I G f) := ⟨fun W U σ ρ n H E Ea hD s h =>
  DI.run (wi := wi) (f := I) (W.plus U) σ _ n H _ _ (fun ds n1 h1 J H1 l1 o1 hw => by
    refine ⟨fun i m σ' H' => m = ds.length - i ∧ i ≤ ds.length ∧ ∃ ρ' n' U', aForGo ow G f Ea (ds.drop i) ρ' n' ∧ SOk K W ow n' H' σ' ρ' U' ∧ Stp W U H1 U' H', ⟨_, rfl, Nat.zero_le _, ρ, n1, U, h1, s.le l1 o1, Stp.refl⟩, ?_⟩
    rintro i m σ2 H2 ⟨rfl, hi, ρ2, n2, U2, h2, s2, l2⟩
    obtain ⟨w1, w2⟩ := hw (W.plus U2) l2.new rfl H2 n2 (fun a o r e => l2.le a o (fun z => r (l2.old a z)) e) s2.ok i
    by_cases hlt : i < ds.length
    · rw [List.drop_eq_getElem_cons hlt] at h2
      obtain ⟨hgo, hy⟩ := w1 ds[i] (List.getElem?_eq_getElem hlt)
      refine .inr ⟨hgo, fun σ' H' => ∃ m', m' < ds.length - i ∧ m' = ds.length - (i + 1) ∧ i + 1 ≤ ds.length ∧ ∃ ρ' n' U', aForGo ow G f Ea (ds.drop (i + 1)) ρ' n' ∧ SOk K W ow n' H' σ' ρ' U' ∧ Stp W U H1 U' H', fun σ' H' q => q, fun x H3 hx => ?_⟩
      obtain ⟨s3, a3⟩ := hy x H3 hx
      have l3 : (W.plus U2).le H2 H3 := Wd.le_same s3
      refine put_run (g := g) (a := G) (s2.le l3 (s2.ok.same s3)) a3 h2 fun ρ4 σ4 h4 s4 => ?_
      have l14 := l2.trans (.hid l3)
      have again : WantsE K W ow U2 H3 (aForGo ow G f Ea (ds.drop (i + 1))) fun σ' H' => ∃ m', m' < ds.length - i ∧ m' = ds.length - (i + 1) ∧ i + 1 ≤ ds.length ∧ ∃ ρ' n' U', aForGo ow G f Ea (ds.drop (i + 1)) ρ' n' ∧ SOk K W ow n' H' σ' ρ' U' ∧ Stp W U H1 U' H' :=
        fun ρ' n' q U' σ' H' l' s' => ⟨_, by omega, rfl, hlt, ρ', n', U', q, s', l14.trans l'⟩
      have lt := (Stp.hid l1).trans l14
      exact DS.run (ow := ow) (t := tb) (f := f) W U2 σ4 ρ4 n2 H3 _ { Ea with nx := aForGo ow G f Ea (ds.drop (i + 1)), ct := aForGo ow G f Ea (ds.drop (i + 1)), bk := Ea.nx } ⟨again, hD.rt.le lt, hD.nx.le lt, again, hD.ex.le lt⟩ s4 h4
    · have e : i = ds.length := by omega
      subst e
      rw [List.drop_length] at h2
      exact .inl ⟨w2 (Nat.le_refl _), hD.nx _ _ h2 U2 σ2 H2 ((Stp.hid l1).trans l2) s2⟩) s.hid s.ok h⟩
/-! a list is begun, a thing is put at its end -/
def tOwnL (i : Nat) (ta : TA) : TS := tAsg (tLst ta) (gName i)
theorem k_own {X : Cx} {st : Stmt} {i : Nat} {ta : TA} (h : PS X st (tAsg (tLst ta) (gName i))) : PS X st (tOwnL i ta) := h
def aOwnL (ow : List Nat) (i : Nat) (g : AA) : AS := fun E ρ n => g (wipeA ρ ow) n fun ds n1 => match Nat.ble ds.length 1000, ow.contains i with
  | true, true => E.nx (eSet ρ i (some (.lst ds))) n1
  | _, _ => False
theorem SOk.new {W : Wd} {n : Nat} {H : Hp} {σ : L2.St} {ρ : Env'} {U : List (Addr × HO)} {i : Nat} {p : Addr} {us : List V} {ds : List D} (s : SOk K W ow n H σ ρ U) (hi : i ∈ ow) (hp : H p = none) (a : AtAll K (W.plus U) H us ds) :
    Stp W U H ((p, .lst us) :: U) (upd H p (.lst us)) ∧ SOk K W ow n (upd H p (.lst us)) (σ.set i (some (.ref p))) (eSet ρ i (some (.lst ds))) ((p, .lst us) :: U) := by
  have nrs : ¬ (W.plus U).rs p := s.ok.fresh hp
  have rn := Wd.rs_new (W := W.plus U) (xs := .lst us) hp
  have sm : Same H (upd H p (.lst us)) := same_upd hp
  have ho : (W.plus ((p, .lst us) :: U)).ok K n (upd H p (.lst us)) := Wd.ok_put (W := W.plus U) trivial nrs (.inl hp) s.ok
  have lk : (W.plus ((p, .lst us) :: U)).lk H := s.ok.lk' rn
  have le2 : (W.plus ((p, .lst us) :: U)).le H (upd H p (.lst us)) := Wd.le_same sm
  refine ⟨⟨Wd.le_same sm, rn, fun b z => Wd.rs_add z⟩, ⟨?_, ?_, ho, by rw [List.length_set, eSet_length]; exact s.len, ?_, ?_, ?_⟩⟩
  · refine List.nodup_cons.mpr ⟨fun z => nrs (Wd.rs_plus.mpr (.inl z)), s.nd⟩
  · intro u hu
    rcases List.mem_cons.mp hu with rfl | hu
    · exact fun z => nrs (Wd.rs_plus.mpr (.inr z))
    · exact s.nr u hu
  · intro j d hj he
    have hij : i ≠ j := fun z => hj (z ▸ hi)
    rw [eGet_ne hij] at he
    rw [List.getElem?_set_ne hij]
    obtain ⟨v, e1, a1⟩ := s.env j d hj he
    exact ⟨v, e1, At.lk lk le2 _ (At.ext rn rfl _ a1)⟩
  · intro j d hj he
    by_cases hij : i = j
    · subst hij
      obtain ⟨hl, he⟩ := eGet_set he
      cases he
      exact ⟨(p, .lst us), List.mem_cons_self, by rw [List.getElem?_set_self (by rw [s.len]; exact hl)], .lst (AtAll.lk lk le2 _ (AtAll.ext rn rfl _ a))⟩
    · rw [eGet_ne hij] at he
      rw [List.getElem?_set_ne hij]
      obtain ⟨⟨q, ob⟩, hu, e1, a1⟩ := s.own j d hj he
      refine ⟨_, List.mem_cons_of_mem _ hu, e1, ?_⟩
      cases a1 with
      | lst a1 => exact .lst (AtAll.lk lk le2 _ (AtAll.ext rn rfl _ a1))
      | dic l a1 => exact .dic l (AtAll.lk lk le2 _ (AtAll.ext rn rfl _ a1))
  · intro j k q hj hk ne h1 h2
    have fr : ∀ m, m ∈ ow → i ≠ m → σ[m]? = some (some (.ref p)) → eGet ρ m = none := fun m hm _ hσ => by
      cases e : eGet ρ m with
      | none => rfl
      | some d =>
        obtain ⟨u, hu, e1, _⟩ := s.own m d hm e
        rw [hσ] at e1
        have : p = u.1 := V.ref.inj (Option.some.inj (Option.some.inj e1))
        exact absurd (Wd.rs_plus.mpr (.inl (List.mem_map.mpr ⟨u, hu, this.symm⟩))) nrs
    by_cases hij : i = j
    · subst hij
      rw [List.getElem?_set_ne ne] at h2
      by_cases hl : i < σ.length
      · rw [List.getElem?_set_self hl] at h1
        cases h1
        rw [eGet_ne ne]
        exact .inr (fr k hk ne h2)
      · rw [List.getElem?_eq_none (by rw [List.length_set]; omega)] at h1
        cases h1
    · rw [List.getElem?_set_ne hij] at h1
      rw [eGet_ne hij]
      by_cases hik : i = k
      · subst hik
        by_cases hl : i < σ.length
        · rw [List.getElem?_set_self hl] at h2
          cases h2
          exact .inl (fr j hj hij h1)
        · rw [List.getElem?_eq_none (by rw [List.length_set]; omega)] at h2
          cases h2
      · rw [List.getElem?_set_ne hik] at h2
        rw [eGet_ne hik]
        exact s.dst j k q hj hk ne h1 h2
instance {i : Nat} {ta : TA} {g : AA} [DA K ta g] : DS K Wx ow (tOwnL i ta) (aOwnL ow i g) := ⟨fun W U σ ρ n H E Ea hD s h =>
  DA.run (te := ta) (f := g) (W.plus U) σ _ n H _ _ (fun ds n1 h1 H1 vs l1 o1 ax => by
    split at h1
    · rename_i hb hc
      refine ⟨size63 (by rw [ax.length]; exact Nat.le_of_ble_eq_true hb), fun p hp => ?_⟩
      obtain ⟨st, s2⟩ := (s.le l1 o1).new (List.contains_iff_mem.mp hc) hp ax
      exact hD.nx _ _ h1 _ _ _ ((Stp.hid l1).trans st) s2
    · exact h1.elim) s.hid s.ok h⟩
/-- the contents of one built thing change -/
def putO (U : List (Addr × HO)) (p : Addr) (ob : HO) : List (Addr × HO) := U.map fun u => if u.1 = p then (p, ob) else u
theorem putO_fst (U : List (Addr × HO)) (p : Addr) (ob : HO) : (putO U p ob).map (·.1) = U.map (·.1) := by
  unfold putO
  rw [List.map_map]
  refine List.map_congr_left fun u _ => ?_
  show (if u.1 = p then (p, ob) else u).1 = u.1
  split
  · rename_i e; exact e.symm
  · rfl
theorem SOk.put {W : Wd} {n : Nat} {H : Hp} {σ : L2.St} {ρ : Env'} {U : List (Addr × HO)} {i : Nat} {p : Addr} {ob ob' : HO} {d' : D} (s : SOk K W ow n H σ ρ U) (hi : i ∈ ow) (hl : eGet ρ i ≠ none) (hσ : σ[i]? = some (some (.ref p))) (hU : (p, ob) ∈ U) (hob : ∃ xs, ob = .lst xs) (hm : Mt ob') (a : OwAt K (W.plus U) H ob' d') :
    Stp W U H (putO U p ob') (upd H p ob') ∧ SOk K W ow n (upd H p ob') σ (eSet ρ i (some d')) (putO U p ob') := by
  have hfst := putO_fst U p ob'
  have hrs : ∀ b, (W.plus (putO U p ob')).rs b ↔ (W.plus U).rs b := fun b => by rw [Wd.rs_plus, Wd.rs_plus, hfst]
  have hpr : (W.plus U).rs p := Wd.rs_plus.mpr (.inl (List.mem_map.mpr ⟨_, hU, rfl⟩))
  have le1 : (W.plus U).le H (upd H p ob') := fun b o r e => by
    rw [upd_ne fun z => r (by rw [z]; exact hpr)]
    exact e
  obtain ⟨hp1, _⟩ := s.ok.owns (p, ob) (List.mem_append_left _ hU)
  have npw : ¬ W.rs p := s.nr _ hU
  have hdk : ∀ d b, W.dk = some (d, b) → p ≠ d ∧ p ≠ b := fun d b e => s.ok.dis d b e _ (List.mem_append_left _ hU)
  have ok' : (W.plus (putO U p ob')).ok K n (upd H p ob') := by
    refine ⟨fun d b e => ?_, fun q hq => ?_, fun d b e q hq => ?_⟩
    · obtain ⟨c, D, l⟩ := s.ok.deck d b e
      refine ⟨c, ?_, l⟩
      obtain ⟨⟨s', ns, cs, i', k, h1, h2, h3, h4⟩, ne⟩ := D
      obtain ⟨n1, n2⟩ := hdk d b e
      obtain ⟨xs, rfl⟩ := hob
      refine ⟨⟨s', ns, cs, i', k, ?_, ?_, h3.upd (.inr ⟨_, hp1⟩), h4⟩, ne⟩
      · rw [upd_ne (Ne.symm n1)]; exact h1
      · rw [upd_ne (Ne.symm n2)]; exact h2
    · rcases List.mem_append.mp hq with hq | hq
      · obtain ⟨u, hu, e⟩ := List.mem_map.mp hq
        split at e
        · subst e
          exact ⟨upd_same, hm⟩
        · rename_i hne
          subst e
          rw [upd_ne hne]
          exact s.ok.owns u (List.mem_append_left _ hu)
      · have hq1 : q.1 ≠ p := fun z => npw (.inr (List.mem_map.mpr ⟨q, hq, z⟩))
        rw [upd_ne hq1]
        exact s.ok.owns q (List.mem_append_right _ hq)
    · rcases List.mem_append.mp hq with hq | hq
      · have : q.1 ∈ U.map (·.1) := by rw [← hfst]; exact List.mem_map.mpr ⟨q, hq, rfl⟩
        obtain ⟨u, hu, e'⟩ := List.mem_map.mp this
        rw [← e']
        exact s.ok.dis d b e u (List.mem_append_left _ hu)
      · exact s.ok.dis d b e q (List.mem_append_right _ hq)
  have wk : ∀ {v : V} {d : D}, At K (W.plus U) H v d → At K (W.plus (putO U p ob')) (upd H p ob') v d := fun h => At.weak (fun b z => (hrs b).mp z) rfl _ (At.le s.ok le1 _ h)
  have wka : ∀ {vs : List V} {ds : List D}, AtAll K (W.plus U) H vs ds → AtAll K (W.plus (putO U p ob')) (upd H p ob') vs ds := fun h => AtAll.weak (fun b z => (hrs b).mp z) rfl _ (AtAll.le s.ok le1 _ h)
  have wko : ∀ {o : HO} {d : D}, OwAt K (W.plus U) H o d → OwAt K (W.plus (putO U p ob')) (upd H p ob') o d := fun h => by
    cases h with
    | lst h => exact .lst (wka h)
    | dic l h => exact .dic l (wka h)
  refine ⟨⟨le1, fun b z r => absurd ((hrs b).mp z) r, fun b z => (hrs b).mpr z⟩, ⟨by rw [hfst]; exact s.nd, ?_, ok', by rw [eSet_length]; exact s.len, ?_, ?_, ?_⟩⟩
  · intro u hu
    have : u.1 ∈ U.map (·.1) := by rw [← hfst]; exact List.mem_map.mpr ⟨u, hu, rfl⟩
    obtain ⟨w, hw, e⟩ := List.mem_map.mp this
    rw [← e]
    exact s.nr w hw
  · intro j d hj he
    have hij : i ≠ j := fun z => hj (z ▸ hi)
    rw [eGet_ne hij] at he
    obtain ⟨v, e1, a1⟩ := s.env j d hj he
    exact ⟨v, e1, wk a1⟩
  · intro j d hj he
    by_cases hij : i = j
    · subst hij
      cases (eGet_set he).2
      exact ⟨(p, ob'), List.mem_map.mpr ⟨_, hU, by rw [if_pos rfl]⟩, hσ, wko a⟩
    · rw [eGet_ne hij] at he
      obtain ⟨u, hu, e1, a1⟩ := s.own j d hj he
      have hup : u.1 ≠ p := fun z => by
        rw [z] at e1
        rcases s.dst i j p hi hj hij hσ e1 with h | h
        · exact hl h
        · rw [h] at he; cases he
      exact ⟨u, List.mem_map.mpr ⟨u, hu, by rw [if_neg hup]⟩, e1, wko a1⟩
  · intro j k q hj hk ne h1 h2
    rcases s.dst j k q hj hk ne h1 h2 with h | h
    · by_cases hij : i = j
      · subst hij
        exact absurd h hl
      · exact .inl (by rw [eGet_ne hij]; exact h)
    · by_cases hik : i = k
      · subst hik
        exact absurd h hl
      · exact .inr (by rw [eGet_ne hik]; exact h)
def tApp (K : PySem.W.Frag) (i : Nat) (te : TE) : TS := tDrop (tBM K "list" rAppend (tVar i) (tCons te tNil))
theorem k_app {X : Cx} {st : Stmt} {i : Nat} {te : TE} (hK : X.K = K) (h : PS X st (tDrop (tBM X.K "list" rAppend (tVar i) (tCons te tNil)))) : PS X st (tApp K i te) := hK ▸ h
def aApp (ow : List Nat) (i : Nat) (f : AE) : AS := fun E ρ n => match eGet ρ i, ow.contains i with
  | some (.lst ds), true => f (wipeA ρ ow) n fun d n1 => ds.length < 1000000 ∧ E.nx (eSet ρ i (some (.lst (ds ++ [d])))) n1
  | _, _ => False
theorem app_run {W : Wd} {U : List (Addr × HO)} {σ : L2.St} {ρ : Env'} {n : Nat} {H : Hp} {i : Nat} {p : Addr} {v : V} {ds : List D} {d : D} {Q : Hp → Prop} (s : SOk K W ow n H σ ρ U) (hi : i ∈ ow) (he : eGet ρ i = some (.lst ds)) (hl : ds.length < 1000000) (hσ : σ[i]? = some (some (.ref p))) (ax : At K (W.plus U) H v d)
    (hQ : ∀ U' H', Stp W U H U' H' → SOk K W ow n H' σ (eSet ρ i (some (.lst (ds ++ [d])))) U' → Q H') : ∃ l xs y, V.ref p = .ref l ∧ [v] = [y] ∧ H l = some (.lst xs) ∧ xs.length < sizeLine ∧ Q (upd H l (.lst (xs ++ [y]))) := by
  obtain ⟨u, hu, e1, a⟩ := s.own i _ hi he
  rw [hσ] at e1
  have ep : p = u.1 := V.ref.inj (Option.some.inj (Option.some.inj e1))
  subst ep
  obtain ⟨p, ob⟩ := u
  cases a with
  | lst a =>
    rename_i us
    have hp1 := (s.ok.owns _ (List.mem_append_left _ hu)).1
    obtain ⟨st, s2⟩ := s.put hi (by rw [he]; exact fun z => nomatch z) hσ hu ⟨_, rfl⟩ (ob' := .lst (us ++ [v])) trivial (.lst (a.append (.cons ax .nil)))
    exact ⟨_, us, v, rfl, rfl, hp1, Nat.lt_of_lt_of_le (by rw [a.length]; exact hl) lim, hQ _ _ st s2⟩
instance {i : Nat} {te : TE} {f : AE} [DE K te f] : DS K Wx ow (tApp K i te) (aApp ow i f) := ⟨fun W U σ ρ n H E Ea hD s h => by
  unfold aApp at h
  split at h
  · rename_i ds he hc
    have hi := List.contains_iff_mem.mp hc
    obtain ⟨u, hu, e1, a⟩ := s.own i _ hi he
    have hp1 := (s.ok.owns _ (List.mem_append_left _ hu)).1
    refine ⟨_, e1, ?_, DE.run (te := te) (f := f) (W.plus U) σ _ n H _ _ (fun d n1 h1 H1 x l1 o1 ax => ?_) s.hid s.ok h⟩
    · obtain ⟨p, ob⟩ := u
      cases a with
      | lst a => exact .inl ⟨rfl, _, SqL.of hp1⟩
    · exact app_run (s.le l1 o1) hi he h1.1 e1 ax fun U' H' st s' => hD.nx _ _ h1.2 U' σ H' ((Stp.hid l1).trans st) s'
  · exact h.elim⟩
/-! a def -/
def startA : Nat → List D → Env'
  | 0, _ => []
  | k + 1, [] => none :: startA k []
  | k + 1, d :: ds => some d :: startA k ds
theorem startA_none : ∀ {k i : Nat} {d : D}, eGet (startA k []) i = some d → False
  | 0, _, _, h => by cases h
  | k + 1, 0, _, h => by cases h
  | k + 1, i + 1, _, h => startA_none (k := k) (i := i) h
theorem startA_at {W : Wd} {H : Hp} : ∀ {k : Nat} {vs : List V} {ds : List D}, AtAll K W H vs ds → ∀ (i : Nat) (d : D), eGet (startA k ds) i = some d → ∃ v, vs[i]? = some v ∧ At K W H v d
  | 0, _, _, _, _, _, e => by cases e
  | k + 1, _, [], h, i, d, e => (startA_none e).elim
  | k + 1, _, _ :: _, h, 0, d, e => by
    cases h with
    | cons a r => cases e; exact ⟨_, rfl, a⟩
  | k + 1, _, _ :: ds, h, i + 1, d, e => by
    cases h with
    | cons a r => exact startA_at (k := k) r i d e
theorem startA_length : ∀ (k : Nat) (ds : List D), (startA k ds).length = k
  | 0, _ => rfl
  | k + 1, [] => by rw [startA, List.length_cons, startA_length]
  | k + 1, _ :: ds => by rw [startA, List.length_cons, startA_length]
theorem start_at {W : Wd} {H : Hp} {N : List Str} {k : Nat} {vs : List V} {ds : List D} (hk : N.length = k) (hl : ds.length ≤ k) (h : AtAll K W H vs ds) : EnvAt K W H (L2.start N vs) (startA k ds) := by
  unfold L2.start
  have hv := h.length
  refine ⟨by rw [startA_length]; simp; omega, fun i d e => ?_⟩
  obtain ⟨v, e1, a⟩ := startA_at h i d e
  refine ⟨v, ?_, a⟩
  have hi : i < vs.length := (List.getElem?_eq_some_iff.mp e1).1
  rw [List.getElem?_append_left (by rw [List.length_map]; exact hi), List.getElem?_map, e1]
  rfl
def aTop (Q : D → Nat → Prop) : AEn := { nx := fun _ n => Q .non n, rt := Q }
theorem le_start {W : Wd} {U : List (Addr × HO)} {H H' : Hp} (s : Stp W [] H U H') : W.le H H' := s.le
theorem startA_big : ∀ {k i : Nat} {ds : List D}, ds.length ≤ i → eGet (startA k ds) i = none
  | 0, _, _, _ => rfl
  | k + 1, 0, [], _ => rfl
  | k + 1, i + 1, [], h => startA_big (k := k) (i := i) (ds := []) (Nat.zero_le _)
  | k + 1, 0, _ :: _, h => absurd h (Nat.not_succ_le_zero _)
  | k + 1, i + 1, _ :: ds, h => startA_big (k := k) (i := i) (ds := ds) (Nat.le_of_succ_le_succ h)
theorem start_ok {W : Wd} {n : Nat} {H : Hp} {N : List Str} {k : Nat} {vs : List V} {ds : List D} (hk : N.length = k) (hl : ds.length ≤ k) (ho : ∀ i ∈ ow, ds.length ≤ i) (h : AtAll K W H vs ds) (o : W.ok K n H) : SOk K W ow n H (L2.start N vs) (startA k ds) [] := by
  have e := start_at hk hl h
  refine ⟨List.nodup_nil, fun u hu => (by cases hu), o, e.1, fun i d _ he => e.2 i d he, fun i d hi he => ?_, fun i j p hi _ _ _ _ => .inl (startA_big (ho i hi))⟩
  rw [startA_big (ho i hi)] at he
  cases he
theorem fn_mir {P : Program} {w : World} {mg : Str → Option Value} {base : Heap} {x qual : Str} {st : Stmt} {f : Addr} {fd : FuncData} {N ps : List Str} {k : Nat} {A : ASp} (ow : List Nat) (kk : Nat) (hk : N.length = kk) (hp : ps.length ≤ kk) (ho : ∀ i ∈ ow, ps.length ≤ i) (F : Fun K x qual st f fd) (S : FnScope N ps (defScope st))
    (hbody : ∀ (cdv : Value) (Ar : Around) (outer : List Env) (s : Shared) (H : Hp) (E : XK), Room k (Ar.deeper (envOfC qual (defScope st) s.heap.objs.size f cdv)) →
      ∃ (t : TS) (fa : AS), PSs (cxOf CX0 P w K mg base N qual (defScope st) f cdv Ar outer s H E).nox (defBody st) t ∧ DS K W0 ow t fa ∧ ∀ ds n Q, ds.length = ps.length → A ds n Q → fa (aTop Q) (startA kk ds) n) : FnOk P w K mg base CX0 (k + 1) f fd ps (spOf K ps.length A) := by
  refine F.ok S (fun vs H Q E h => ?_) (fun cdv Ar outer s H vs Q E hr h => ?_)
  · obtain ⟨W, n, ds, Qa, a, hl, _⟩ := h
    rw [a.length, hl]
  · obtain ⟨W, n, ds, Qa, a, hl, o, hQ, hA⟩ := h
    obtain ⟨t, fa, h1, h2, h3⟩ := hbody cdv Ar outer s H E hr
    refine ⟨t, h1, DS.run (Wx := W0) (ow := ow) (t := t) (f := fa) W [] (L2.start N vs) (startA kk ds) n H _ (aTop Qa) ⟨fun ρ' n' q U' σ' H' l' s' => hQ _ _ q H' _ (le_start l') s'.base .non, fun d n' q U1 H1 H' v l' l2 o' a' => hQ _ _ q H' v ((le_start l').trans l2) o' a', fun _ _ q => q.elim, fun _ _ q => q.elim, fun _ _ _ _ _ q => q.elim⟩ (start_ok hk (by omega) (fun i hi => by rw [hl]; exact ho i hi) a o) (h3 ds n Qa hl hA)⟩
end

/-! ### max and min of tuples in the mirror -/
section
variable {K : PySem.W.Frag}
open MM
mutual
def D.kt : D → KT
  | .int i => .n i
  | .tup ds => .t (ktAll ds)
  | _ => .t []
def ktAll : List D → List KT
  | [] => []
  | d :: ds => d.kt :: ktAll ds
end
theorem ktAll_map : ∀ ds : List D, ktAll ds = ds.map D.kt
  | [] => rfl
  | d :: ds => by rw [ktAll, ktAll_map ds, List.map_cons]
/-- a tree of numbers in tuples, so deep at most -/
def D.kd : Nat → D → Prop
  | _, .int _ => True
  | d + 1, .tup ds => ∀ x ∈ ds, D.kd d x
  | _, _ => False
theorem at_vat {W : Wd} {H : Hp} : ∀ (d : Nat) (e : D) {v : V}, e.kd d → At K W H v e → VAt K H d v e.kt
  | d, .int i, v, _, h => by
    cases h
    cases d <;> rfl
  | d + 1, .tup ds, v, hk, h => by
    cases h with
    | @tup a xs _ s b =>
      refine ⟨a, xs, rfl, s, by rw [ktAll_map, List.length_map, b.length], fun j x k hx hk' => ?_⟩
      obtain ⟨y, hy, ay⟩ := b.get' hx
      rw [ktAll_map, List.getElem?_map, hy] at hk'
      cases hk'
      exact at_vat d y (hk y (List.mem_iff_getElem?.mpr ⟨j, hy⟩)) ay
  | 0, .tup _, _, hk, _ => hk.elim
  | d, .non, _, hk, _ => by cases d <;> exact hk.elim
  | d, .bl _, _, hk, _ => by cases d <;> exact hk.elim
  | d, .str _, _, hk, _ => by cases d <;> exact hk.elim
  | d, .ty _, _, hk, _ => by cases d <;> exact hk.elim
  | d, .cls _, _, hk, _ => by cases d <;> exact hk.elim
  | d, .lst _, _, hk, _ => by cases d <;> exact hk.elim
  | d, .dic _ _, _, hk, _ => by cases d <;> exact hk.elim
  | d, .ins _ _ _, _, hk, _ => by cases d <;> exact hk.elim
  | d, .deck, _, hk, _ => by cases d <;> exact hk.elim
  | d, .xcp _ _ _ _ _, _, hk, _ => by cases d <;> exact hk.elim
def rMaxT (K : PySem.W.Frag) : List V → Hp → VK → Prop := rBestT true K
def rMinT (K : PySem.W.Frag) : List V → Hp → VK → Prop := rBestT false K
theorem k_maxT {X : Cx} (hK : X.K = K) (hc : X.calm = true) (hu : X.A.units + 64 < cLine) : CallR X (.builtin "max") (rMaxT K) := (k_bestT hK hc hu).1
theorem k_minT {X : Cx} (hK : X.K = K) (hc : X.calm = true) (hu : X.A.units + 64 < cLine) : CallR X (.builtin "min") (rMinT K) := (k_bestT hK hc hu).2
def aBestT (sgn : Bool) : List D → Nat → (D → Nat → Prop) → Prop := fun ds n Q => ∃ (es : List D) (d : Nat), ds = [.lst es] ∧ es ≠ [] ∧ d ≤ 60 ∧ (∀ e ∈ es, e.kd d) ∧ (∀ e ∈ es, ∀ e' ∈ es, shp d e.kt e'.kt) ∧ ∀ e ∈ es, (∀ e' ∈ es, (if sgn then ltK d e.kt e'.kt else ltK d e'.kt e.kt) = false) → Q e n
theorem bestT_run {sgn : Bool} (W : Wd) (n : Nat) (H : Hp) (xs : List V) (ds : List D) (Q : VK) (Qa : D → Nat → Prop) (hQ : Wants K W H Qa Q) (o : W.ok K n H) (a : AtAll K W H xs ds) (h : aBestT sgn ds n Qa) : rBestT sgn K xs H Q := by
  obtain ⟨es, d, rfl, hne, hd, hk, hs, q⟩ := h
  cases a with
  | cons a r =>
    cases r
    cases a with
    | @lst p us _ nr s b =>
      refine ⟨p, us, es.map D.kt, d, rfl, SqL.of s, fun z => ?_, hd, by rw [List.length_map, b.length], fun i u k hu hk' => ?_, fun k hk1 k' hk2 => ?_, fun i u k hu hk' hb => ?_⟩
      · subst z
        cases b
        exact hne rfl
      · obtain ⟨y, hy, ay⟩ := b.get' hu
        rw [List.getElem?_map, hy] at hk'
        cases hk'
        exact at_vat d y (hk y (List.mem_iff_getElem?.mpr ⟨i, hy⟩)) ay
      · obtain ⟨e, he, rfl⟩ := List.mem_map.mp hk1
        obtain ⟨e', he', rfl⟩ := List.mem_map.mp hk2
        exact hs e he e' he'
      · obtain ⟨y, hy, ay⟩ := b.get' hu
        rw [List.getElem?_map, hy] at hk'
        cases hk'
        exact hQ.now o (q y (List.mem_iff_getElem?.mpr ⟨i, hy⟩) fun e' he' => hb _ (List.mem_map.mpr ⟨e', he', rfl⟩)) ay
instance : DL K (rMaxT K) (aBestT true) := ⟨fun W n H xs ds Q Qa hQ o a h => bestT_run W n H xs ds Q Qa hQ o a h⟩
instance : DL K (rMinT K) (aBestT false) := ⟨fun W n H xs ds Q Qa hQ o a h => bestT_run W n H xs ds Q Qa hQ o a h⟩
end

/-! ### sorted -/
abbrev Pt := Int × Int
def lexLe (p q : Pt) : Prop := p.1 < q.1 ∨ (p.1 = q.1 ∧ p.2 ≤ q.2)
def pt (p : Pt) : D := .tup [.int p.1, .int p.2]
section
variable {K : PySem.W.Frag}
open Classical in
noncomputable def kz (zs : List (V × Pt)) (x : V) : Pt := if h : ∃ p, (x, p) ∈ zs then Classical.choose h else (0, 0)
theorem kz_is {zs : List (V × Pt)} {x : V} {p : Pt} (hu : ∀ q, (x, q) ∈ zs → q = p) (hm : (x, p) ∈ zs) : kz zs x = p := by
  unfold kz
  have h : ∃ p, (x, p) ∈ zs := ⟨p, hm⟩
  rw [dif_pos h]
  exact hu _ (Classical.choose_spec h)
def rSrtP (K : PySem.W.Frag) : List V → Hp → VK → Prop := fun vs H Q => ∃ (a : Addr) (zs : List (V × Pt)), vs = [V.ref a] ∧ SqL K H a (zs.map Prod.fst) ∧ (∀ z ∈ zs, ∃ t, z.1 = V.ref t ∧ SqT K H t [.int z.2.1, .int z.2.2]) ∧
  ∀ (ws : List (V × Pt)) (p : Addr), ws.Perm zs → (ws.map Prod.snd).Pairwise lexLe → H p = none → Q (.ref p) (upd H p (.lst (ws.map Prod.fst)))
theorem k_sortP {X : Cx} (hK : X.K = K) : CallR X (.builtin "sorted") (rSrtP K) := by
  subst hK
  intro pins s σ H vs us Q I r h
  obtain ⟨a, zs, rfl, hs, hx, q⟩ := h
  obtain ⟨its, rv, hl, hz⟩ := I.list hs
  obtain ⟨u, rfl, ru⟩ := vals1 r
  obtain rfl : u = Value.ref a := ru
  have hk : ∀ z ∈ zs, kz zs z.1 = z.2 := fun z hm => kz_is (fun p' hq => by
    obtain ⟨t, e, ht⟩ := hx z hm
    obtain ⟨t', e', ht'⟩ := hx _ hq
    rw [e] at e'
    cases e'
    have := I.tuple_inj ht ht'
    simp only [List.cons.injEq, V.int.injEq, and_true] at this
    exact Prod.ext this.1.symm this.2.symm) hm
  have hxs : ∀ x ∈ zs.map Prod.fst, ∃ t, x = V.ref t ∧ SqT X.K H t [.int (kz zs x).1, .int (kz zs x).2] := fun x hm => by
    obtain ⟨z, hz', rfl⟩ := List.mem_map.mp hm
    obtain ⟨t, e, ht⟩ := hx z hz'
    exact ⟨t, e, by rw [hk z hz']; exact ht⟩
  obtain ⟨e1, e2⟩ := refs_back rv fun x m => by
    obtain ⟨t, e, _⟩ := hxs x m
    exact ⟨t, e⟩
  refine SrtO.sorted_pairsO (k := fun u => kz zs (backV u)) hl.isList (by rw [← rv.length]; exact hz) (fun v hv => ?_) fun h' d out h1 h2 kp hd hn => ?_
  · obtain ⟨t, rfl⟩ := e2 v hv
    have hm : V.ref t ∈ zs.map Prod.fst := by rw [e1]; exact List.mem_map.mpr ⟨_, hv, rfl⟩
    obtain ⟨t', e, ht⟩ := hxs _ hm
    cases e
    obtain ⟨its2, r2, ⟨o, ho, hc, n, hd⟩, _⟩ := I.tuple ht
    obtain ⟨u1, u2, rfl, ri, rj⟩ := vals2 r2
    obtain ⟨t1, rfl⟩ := ri
    obtain ⟨t2, rfl⟩ := rj
    exact ⟨t, o, t1, t2, n, rfl, ho, hc, hd⟩
  · have h3 : ∀ u ∈ out, ∃ a, u = Value.ref a := fun u hu => e2 u (h2.perm.mem_iff.mp hu)
    obtain ⟨n, hn⟩ := hn
    have hb : SrtO.Stb (ltP (kz zs)) (out.map backV) (zs.map Prod.fst) := by
      rw [e1]
      exact SrtO.Stb.map (ltP_swo (kz zs)) backV h2
    have hw : ((out.map backV).map fun y => (y, kz zs y)).Perm zs := by
      have e3 : (zs.map Prod.fst).map (fun y => (y, kz zs y)) = zs := by
        rw [List.map_map]
        conv => rhs; rw [← List.map_id zs]
        exact List.map_congr_left fun z hz' => by
          show (z.1, kz zs z.1) = z
          rw [hk z hz']
      have := hb.perm.map fun y => (y, kz zs y)
      rw [e3] at this
      exact this
    have hf : ((out.map backV).map fun y => (y, kz zs y)).map Prod.fst = out.map backV := by
      rw [List.map_map]
      exact List.map_id _
    refine ⟨.ref d, upd H d (.lst (out.map backV)), I.laid (t' := s.toks) kp hd ⟨?_, out, n, vals_back h3, hn⟩, rfl, ?_⟩
    · rw [hb.len]
      exact hz
    · have := q _ d hw ?_ (I.hok.fresh hd)
      · rw [hf] at this
        exact this
      · have hs2 := SrtO.srtd_map (lt := ltP (kz zs)) (f := backV) h1
        rw [List.map_map, List.pairwise_map]
        refine List.Pairwise.imp (fun {a b} h => ?_) hs2
        have := SrtO.lexB_no.mp h
        show lexLe (kz zs a) (kz zs b)
        unfold lexLe
        omega
def aSrtP : List D → Nat → (D → Nat → Prop) → Prop := fun ds n Q => ∃ ps : List Pt, ds = [.lst (ps.map pt)] ∧ ∀ rs : List Pt, rs.Perm ps → rs.Pairwise lexLe → Q (.lst (rs.map pt)) n
theorem pts_zip {W : Wd} {H : Hp} : ∀ {ps : List Pt} {us : List V}, AtAll K W H us (ps.map pt) → ∃ zs : List (V × Pt), zs.map Prod.fst = us ∧ zs.map Prod.snd = ps ∧ ∀ z ∈ zs, (∃ t, z.1 = V.ref t ∧ SqT K H t [.int z.2.1, .int z.2.2]) ∧ At K W H z.1 (pt z.2)
  | [], _, h => by cases h; exact ⟨[], rfl, rfl, fun z hz => by cases hz⟩
  | p :: ps, _, h => by
    cases h with
    | @cons v vs _ _ a r =>
      obtain ⟨zs, h1, h2, h3⟩ := pts_zip r
      refine ⟨(v, p) :: zs, by rw [List.map_cons, h1], by rw [List.map_cons, h2], fun z hz => ?_⟩
      rcases List.mem_cons.mp hz with rfl | hz
      · refine ⟨?_, a⟩
        cases a with
        | tup s a =>
          cases a with
          | cons a b =>
            cases b with
            | cons b c =>
              cases a
              cases b
              cases c
              exact ⟨_, rfl, s⟩
      · exact h3 z hz
theorem zip_at {W : Wd} {H : Hp} : ∀ {ws : List (V × Pt)}, (∀ z ∈ ws, At K W H z.1 (pt z.2)) → AtAll K W H (ws.map Prod.fst) ((ws.map Prod.snd).map pt)
  | [], _ => .nil
  | w :: ws, h => .cons (h w List.mem_cons_self) (zip_at fun z hz => h z (List.mem_cons_of_mem _ hz))
instance : DL K (rSrtP K) aSrtP := ⟨fun W n H xs ds Q Qa hQ o a h => by
  obtain ⟨ps, rfl, h⟩ := h
  cases a with
  | cons a r =>
    cases r
    cases a with
    | @lst l us _ nr s a =>
      obtain ⟨zs, h1, h2, h3⟩ := pts_zip a
      subst h1 h2
      refine ⟨l, zs, rfl, SqL.of s, fun z hz => (h3 z hz).1, fun ws p hp hpw hn => hQ.new o (h (ws.map Prod.snd) (hp.map _) hpw) hn ?_⟩
      exact .lst (o.fresh hn) upd_same (AtAll.le o (Wd.le_same (same_upd hn)) _ (zip_at fun z hz => (h3 z (hp.mem_iff.mp hz)).2))⟩
/-! texts -/
def rSrtS (K : PySem.W.Frag) : List V → Hp → VK → Prop := rSortedS K
theorem k_sortS {X : Cx} (hK : X.K = K) : CallR X (.builtin "sorted") (rSrtS K) := hK ▸ cr_sortedS
end

/-! ### loops in the mirror -/
section
theorem aFor_ind {ow : List Nat} {G : D → Option (List (Nat × D))} {f : AS} {E : AEn} (I : List D → Env' → Nat → Prop)
    (hs : ∀ d r ρ n, I (d :: r) ρ n → (∀ ρ' n', I r ρ' n' → aForGo ow G f E r ρ' n') → aPut ow G d ρ fun ρ1 => f { E with nx := aForGo ow G f E r, ct := aForGo ow G f E r, bk := E.nx } ρ1 n)
    (hd : ∀ ρ n, I [] ρ n → E.nx ρ n) : ∀ {ds : List D} {ρ : Env'} {n : Nat}, I ds ρ n → aForGo ow G f E ds ρ n
  | [], ρ, n, h => hd ρ n h
  | d :: r, ρ, n, h => hs d r ρ n h fun ρ' n' h' => aFor_ind I hs hd h'
theorem aLc_ind {vs : List Nat} {G : D → Option (List (Nat × D))} {c : AT} {e : AE} {ρ : Env'} {Q : D → Nat → Prop} (I : List D → List D → Nat → Prop)
    (hs : ∀ acc d r n, I acc (d :: r) n → (∀ acc' n', I acc' r n' → aLcGo vs G c e ρ Q acc' r n') → aPutC vs G d ρ fun ρ1 => c ρ1 n fun b n2 => aIte b (e ρ1 n2 fun y n3 => aLcGo vs G c e ρ Q (acc ++ [y]) r n3) (aLcGo vs G c e ρ Q acc r n2))
    (hd : ∀ acc n, I acc [] n → Q (.lst acc) n) : ∀ {acc ds : List D} {n : Nat}, I acc ds n → aLcGo vs G c e ρ Q acc ds n
  | acc, [], n, h => hd acc n h
  | acc, d :: r, n, h => hs acc d r n h fun acc' n' h' => aLc_ind I hs hd h'
theorem rangeD_map (lo : Int) : ∀ k, rangeD lo k = (List.range' 0 k).map fun i => D.int (lo + (i : Nat)) := by
  have : ∀ k s, rangeD (lo + (s : Nat)) k = (List.range' s k).map fun i => D.int (lo + (i : Nat)) := fun k => by
    induction k with
    | zero => intro s; rfl
    | succ k ih =>
      intro s
      rw [List.range'_succ, List.map_cons, rangeD, ← ih (s + 1)]
      congr 2
      omega
  intro k
  have := this k 0
  rw [Int.natCast_zero, Int.add_zero] at this
  exact this
theorem pick_at {α : Type} {xs : List α} {r : Int} (h0 : 0 ≤ r) (h1 : r < xs.length) : ∃ x, x ∈ xs ∧ atI xs r = some x := by
  obtain ⟨k, rfl⟩ := Int.eq_ofNat_of_zero_le h0
  have hk : k < xs.length := by omega
  exact ⟨xs[k], List.getElem_mem hk, atI_nat (List.getElem?_eq_getElem hk)⟩
end

/-! ### zip of any two things that go item by item -/
namespace RX
open PySem
/-- an iterator it over what stands at l: its states, its items -/
structure Src (prog : Program) (w : World) (it l : Addr) (J : Nat → Heap → Prop) (get : Nat → Option Value) : Prop where
  keep : ∀ {k : Nat} {g g' : Heap} {c : Addr}, it ≠ c → l ≠ c → Heap.ExtBut c g g' → J k g → J k g'
  step : ∀ {A : Around} {E : Value → Shared → Prop} {s : Shared} {Q : Value → Shared → Prop} {k : Nat} {x : Value}, J k s.heap → get k = some x → (∀ g, J (k + 1) g → Heap.SameBut it s.heap g → Q x { s with heap := g }) → wpAny (model prog w) A (Builtin.SmallTypes.nextOf (.ref it)) Q E s
  stop : ∀ {A : Around} {E : Value → Shared → Prop} {s : Shared} {Q : Value → Shared → Prop} {k : Nat}, A.handled = none → J k s.heap → get k = none → (∀ g e, Heap.ExtBut it s.heap g → (∃ o, g.get? e = some o ∧ o.cls = .type "StopIteration") → E (.ref e) { s with heap := g }) → wpAny (model prog w) A (Builtin.SmallTypes.nextOf (.ref it)) Q E s
  here : ∀ {k : Nat} {g : Heap}, J k g → ∃ o, g.get? it = some o ∧ ∀ v, o.data ≠ .cell v
theorem srcT {prog : Program} {w : World} {it l : Addr} (hne : l ≠ it) (xs : Array Value) : Src prog w it l (fun k g => g.IsTupleIter it l k ∧ g.IsTuple l xs) (fun k => xs[k]?) where
  keep := fun h1 h2 e j => ⟨j.1.extBut e h1, j.2.extBut e h2⟩
  step := fun j hx q => RZ.nextOf_tuple_item j.1 j.2 hx fun g h1 h2 => q g ⟨h1, j.2.extBut h2.extBut hne⟩ h2
  stop := fun hh j hx q => RZ.nextOf_tuple_end hh j.1 j.2 hx q
  here := fun j => by obtain ⟨o, ho, _, hd⟩ := j.1; exact ⟨o, ho, fun v e => by rw [hd] at e; cases e⟩
theorem srcL {prog : Program} {w : World} {it l : Addr} (hne : l ≠ it) (xs : Array Value) : Src prog w it l (fun k g => g.IsListIter it l k ∧ g.IsList l xs) (fun k => xs[k]?) where
  keep := fun h1 h2 e j => ⟨j.1.extBut e h1, j.2.extBut e h2⟩
  step := fun j hx q => wpAny_nextOf_list_item j.1 j.2 hx fun g h1 h2 => q g ⟨h1, j.2.extBut h2.extBut hne⟩ h2
  stop := fun hh j hx q => wpAny_nextOf_list_end hh j.1 j.2 hx q
  here := fun j => by obtain ⟨o, ho, _, hd⟩ := j.1; exact ⟨o, ho, fun v e => by rw [hd] at e; cases e⟩
section
variable {prog : Program} {w : World} {A : Around} {E : Value → Shared → Prop} {s : Shared} {z TI TO i1 i2 l1 l2 : Addr} {J1 J2 : Nat → Heap → Prop} {g1 g2 : Nat → Option Value}
/-- one more pair -/
theorem zip_item {k : Nat} {x y a b : Value} {Q : Value → Shared → Prop} (D : ZipApart z TI TO i1 i2 l1 l2) (S1 : Src prog w i1 l1 J1 g1) (S2 : Src prog w i2 l2 J2 g2) (zz : IsZip s.heap z TI TO .none) (zi : IsPair s.heap TI (.ref i1) (.ref i2)) (zo : IsPair s.heap TO a b) (j1 : J1 k s.heap) (j2 : J2 k s.heap) (hx : g1 k = some x) (hy : g2 k = some y)
    (q : ∀ g, IsZip g z TI TO (rawInt s.heap.objs.size) → IsPair g TO x y → J1 (k + 1) g → J2 (k + 1) g → IsPair g s.heap.objs.size x y → g.objs.size = s.heap.objs.size + 1 → (∀ c o, c ≠ z → c ≠ TO → c ≠ i1 → c ≠ i2 → s.heap.get? c = some o → g.get? c = some o) → Q (.ref s.heap.objs.size) { s with heap := g }) :
    wpAny (model prog w) A (Builtin.«zip.__next__» ⟨[.ref z], []⟩) (fun fin s' => ∃ v, fin = .done (.ret v) ∧ Q v s') E s := by
  show wpAny _ _ (field (.ref z) 2 >>= _) _ _ _; refine wpAny_bind (wpAny_field zz rfl (x := .bool false) rfl ?_)
  show wpAny _ _ (field (.ref z) 3 >>= _) _ _ _; refine wpAny_bind (wpAny_field zz rfl (x := .ref TI) rfl (wpAny_bind (wpAny_seqItems zi rfl ?_)))
  show wpAny _ _ (Builtin.SmallTypes.ownedTupleIsFree (.ref z) >>= _) _ _ _; refine wpAny_bind ?_; unfold Builtin.SmallTypes.ownedTupleIsFree
  refine wpAny_bind (wpAny_field zz rfl (x := .none) rfl (wpAny_pure ?_)); simp only [if_true]
  refine wpAny_bind (wpAny_rule (wpAny_bind (wpAny_field zz rfl (x := .ref TO) rfl (wpAny_bind (wpAny_setField_rec zz (by simp) fun ha za sa => ?_)))))
  replace za : IsZip ha z TI TO .ellipsis := za
  refine wpAny_bind ?_; simp only [List.zipIdx_cons, List.zipIdx_nil, List.forIn_cons, List.forIn_nil]
  refine wpAny_bind (wpAny_bind (wpAny_onRaise ?_)); show wpAny _ _ (Builtin.SmallTypes.nextOf (.ref i1) >>= _) _ _ _
  refine wpAny_bind (S1.step (s := { s with heap := ha }) (S1.keep D.i1z D.l1z sa.extBut j1) hx fun hb jb sb => wpAny_pure ?_)
  have ob : IsPair hb TO a b := sb.extBut _ _ D.TOi1 (sa.extBut _ _ D.TOz zo)
  refine wpAny_bind (wpAny_seqItems ob rfl (wpAny_bind (wpAny_updateSeq_pair ob fun hc oc sc => ?_)))
  replace oc : IsPair hc TO x b := oc
  refine wpAny_bind (wpAny_letGo (wpAny_pure (wpAny_bind (wpAny_bind (wpAny_onRaise ?_))))); show wpAny _ _ (Builtin.SmallTypes.nextOf (.ref i2) >>= _) _ _ _
  refine wpAny_bind (S2.step (s := { s with heap := hc }) (S2.keep D.TOi2.symm D.l2TO sc.extBut (S2.keep D.i12.symm D.l2i1 sb.extBut (S2.keep D.i2z D.l2z sa.extBut j2))) hy fun hd jd sd => wpAny_pure ?_)
  have od : IsPair hd TO x b := sd.extBut _ _ D.TOi2 oc
  refine wpAny_bind (wpAny_seqItems od rfl (wpAny_bind (wpAny_updateSeq_pair od fun he oe se => ?_)))
  replace oe : IsPair he TO x y := oe
  refine wpAny_bind (wpAny_letGo (wpAny_pure (wpAny_pure (wpAny_bind (wpAny_seqItems oe rfl (wpAny_bind (wpAny_newTuple ?_)))))))
  have size : he.objs.size = s.heap.objs.size := by rw [se.1, sd.1, sc.1, sb.1, sa.1]
  have ze : IsZip he z TI TO .ellipsis := se.extBut _ _ D.TOz.symm (sd.extBut _ _ D.i2z.symm (sc.extBut _ _ D.TOz.symm (sb.extBut _ _ D.i1z.symm za)))
  have ke : ∀ c o, c ≠ z → c ≠ TO → c ≠ i1 → c ≠ i2 → s.heap.get? c = some o → he.get? c = some o := fun c o c1 c2 c3 c4 e => se.extBut _ _ c2 (sd.extBut _ _ c4 (sc.extBut _ _ c2 (sb.extBut _ _ c3 (sa.extBut _ _ c1 e))))
  have ja : J1 (k + 1) he := S1.keep D.TOi1.symm D.l1TO se.extBut (S1.keep D.i12 D.l1i2 sd.extBut (S1.keep D.TOi1.symm D.l1TO sc.extBut jb))
  have jc : J2 (k + 1) he := S2.keep D.TOi2.symm D.l2TO se.extBut jd
  have below : z < he.objs.size := Heap.lt_size ze
  show wpAny _ _ (Builtin.SmallTypes.ownedTupleHandOut (.ref z) (.ref he.objs.size) >>= _) _ _ _; refine wpAny_bind ?_; unfold Builtin.SmallTypes.ownedTupleHandOut
  have zf : IsZip (he.push { cls := .type "tuple", data := .seq #[x, y] }) z TI TO .ellipsis := Heap.get?_push_of_some _ ze
  refine wpAny_bind (wpAny_setField_rec zf (by simp) fun hg zg sg => ?_)
  replace zg : IsZip hg z TI TO (rawInt he.objs.size) := zg
  refine wpAny_setField_rec zg (by simp) fun hh zh sh => ?_
  replace zh : IsZip hh z TI TO (rawInt he.objs.size) := zh
  have grow : Heap.ExtBut z he hh := fun c o c1 e => sh.extBut _ _ c1 (sg.extBut _ _ c1 (Heap.get?_push_of_some _ e))
  have pair : IsPair hh he.objs.size x y := sh.extBut _ _ (Nat.ne_of_gt below) (sg.extBut _ _ (Nat.ne_of_gt below) (Heap.get?_push_size _ rfl))
  have more : hh.objs.size = he.objs.size + 1 := by rw [sh.1, sg.1, Heap.size_push]
  rw [size] at zh pair more
  refine wpAny_pure ⟨_, rfl, ?_⟩; show Q (.ref he.objs.size) _; rw [size]
  exact q hh zh (grow _ _ D.TOz oe) (S1.keep D.i1z D.l1z grow ja) (S2.keep D.i2z D.l2z grow jc) pair more fun c o c1 c2 c3 c4 e => grow c o c1 (ke c o c1 c2 c3 c4 e)
/-- no more -/
theorem zip_end {k : Nat} {a b : Value} {Q : Fin → Shared → Prop} (hn : A.handled = none) (D : ZipApart z TI TO i1 i2 l1 l2) (S1 : Src prog w i1 l1 J1 g1) (S2 : Src prog w i2 l2 J2 g2) (zz : IsZip s.heap z TI TO .none) (zi : IsPair s.heap TI (.ref i1) (.ref i2)) (zo : IsPair s.heap TO a b) (j1 : J1 k s.heap) (j2 : J2 k s.heap) (last : g1 k = none ∨ g2 k = none)
    (q : ∀ g e, (∀ c o, c ≠ z → c ≠ TO → c ≠ i1 → c ≠ i2 → s.heap.get? c = some o → g.get? c = some o) → (∃ o, g.get? e = some o ∧ o.cls = .type "StopIteration") → E (.ref e) { s with heap := g }) :
    wpAny (model prog w) A (Builtin.«zip.__next__» ⟨[.ref z], []⟩) Q E s := by
  show wpAny _ _ (field (.ref z) 2 >>= _) _ _ _; refine wpAny_bind (wpAny_field zz rfl (x := .bool false) rfl ?_)
  show wpAny _ _ (field (.ref z) 3 >>= _) _ _ _; refine wpAny_bind (wpAny_field zz rfl (x := .ref TI) rfl (wpAny_bind (wpAny_seqItems zi rfl ?_)))
  show wpAny _ _ (Builtin.SmallTypes.ownedTupleIsFree (.ref z) >>= _) _ _ _; refine wpAny_bind ?_; unfold Builtin.SmallTypes.ownedTupleIsFree
  refine wpAny_bind (wpAny_field zz rfl (x := .none) rfl (wpAny_pure ?_)); simp only [if_true]
  refine wpAny_bind (wpAny_rule (wpAny_bind (wpAny_field zz rfl (x := .ref TO) rfl (wpAny_bind (wpAny_setField_rec zz (by simp) fun ha za sa => ?_)))))
  replace za : IsZip ha z TI TO .ellipsis := za
  refine wpAny_bind ?_; simp only [List.zipIdx_cons, List.zipIdx_nil, List.forIn_cons, List.forIn_nil]
  refine wpAny_bind (wpAny_bind (wpAny_onRaise ?_)); show wpAny _ _ (Builtin.SmallTypes.nextOf (.ref i1) >>= _) _ _ _
  cases hx : g1 k with
  | none =>
    refine wpAny_bind (S1.stop (s := { s with heap := ha }) hn (S1.keep D.i1z D.l1z sa.extBut j1) hx fun hb e sb ⟨oe, ho, hce⟩ => ?_)
    have zb : IsZip hb z TI TO .ellipsis := sb _ _ D.i1z.symm za
    have ne : e ≠ z := fun x => by subst x; rw [zb] at ho; cases ho; simp at hce
    exact wpAny_setField_rec zb (by simp) fun hc _ sc => q hc e (fun c o c1 _ c3 _ v => sc.extBut _ _ c1 (sb _ _ c3 (sa.extBut _ _ c1 v))) ⟨oe, sc.extBut _ _ ne ho, hce⟩
  | some x =>
    have hy : g2 k = none := last.resolve_left fun h => by rw [hx] at h; cases h
    refine wpAny_bind (S1.step (s := { s with heap := ha }) (S1.keep D.i1z D.l1z sa.extBut j1) hx fun hb jb sb => wpAny_pure ?_)
    have ob : IsPair hb TO a b := sb.extBut _ _ D.TOi1 (sa.extBut _ _ D.TOz zo)
    refine wpAny_bind (wpAny_seqItems ob rfl (wpAny_bind (wpAny_updateSeq_pair ob fun hc oc sc => ?_)))
    refine wpAny_bind (wpAny_letGo (wpAny_pure (wpAny_bind (wpAny_bind (wpAny_onRaise ?_))))); show wpAny _ _ (Builtin.SmallTypes.nextOf (.ref i2) >>= _) _ _ _
    refine wpAny_bind (S2.stop (s := { s with heap := hc }) hn (S2.keep D.TOi2.symm D.l2TO sc.extBut (S2.keep D.i12.symm D.l2i1 sb.extBut (S2.keep D.i2z D.l2z sa.extBut j2))) hy fun hd e sd ⟨oe, ho, hce⟩ => ?_)
    have zd : IsZip hd z TI TO .ellipsis := sd _ _ D.i2z.symm (sc.extBut _ _ D.TOz.symm (sb.extBut _ _ D.i1z.symm za))
    have ne : e ≠ z := fun x => by subst x; rw [zd] at ho; cases ho; simp at hce
    exact wpAny_setField_rec zd (by simp) fun he _ se => q he e (fun c o c1 c2 c3 c4 v => se.extBut _ _ c1 (sd _ _ c4 (sc.extBut _ _ c2 (sb.extBut _ _ c3 (sa.extBut _ _ c1 v))))) ⟨oe, se.extBut _ _ ne ho, hce⟩
/-- by pyNext -/
theorem next_item {k : Nat} {x y a b : Value} {Q : Option Value → Shared → Prop} (D : ZipApart z TI TO i1 i2 l1 l2) (S1 : Src prog w i1 l1 J1 g1) (S2 : Src prog w i2 l2 J2 g2) (zz : IsZip s.heap z TI TO .none) (zi : IsPair s.heap TI (.ref i1) (.ref i2)) (zo : IsPair s.heap TO a b) (j1 : J1 k s.heap) (j2 : J2 k s.heap) (hx : g1 k = some x) (hy : g2 k = some y)
    (q : ∀ g, IsZip g z TI TO (rawInt s.heap.objs.size) → IsPair g TO x y → J1 (k + 1) g → J2 (k + 1) g → IsPair g s.heap.objs.size x y → g.objs.size = s.heap.objs.size + 1 → (∀ c o, c ≠ z → c ≠ TO → c ≠ i1 → c ≠ i2 → s.heap.get? c = some o → g.get? c = some o) → Q (some (.ref s.heap.objs.size)) { s with heap := g }) :
    wpAny (model prog w) A (pyNext (.ref z)) Q E s := by
  have ty : s.TypeIs (.ref z) "zip" := ⟨_, zz, rfl⟩
  unfold pyNext
  refine wpAny_bind (wpAny_attempt (wpAny_callSpecial?_slot (name := Str.ofString "__next__") ty F.slot_zip_next (wpAny_call_entry F.slot_zip_next ty F.entry_zip_next (zip_item D S1 S2 zz zi zo j1 j2 hx hy fun g b1 b2 b3 b4 b5 b6 b7 => ?_) (F.args_zip_next_1 _))))
  exact wpAny_pure (q g b1 b2 b3 b4 b5 b6 b7)
theorem next_end {k : Nat} {a b : Value} {Q : Option Value → Shared → Prop} (hn : A.handled = none) (D : ZipApart z TI TO i1 i2 l1 l2) (S1 : Src prog w i1 l1 J1 g1) (S2 : Src prog w i2 l2 J2 g2) (zz : IsZip s.heap z TI TO .none) (zi : IsPair s.heap TI (.ref i1) (.ref i2)) (zo : IsPair s.heap TO a b) (j1 : J1 k s.heap) (j2 : J2 k s.heap) (last : g1 k = none ∨ g2 k = none)
    (q : ∀ g, (∀ c o, c ≠ z → c ≠ TO → c ≠ i1 → c ≠ i2 → s.heap.get? c = some o → g.get? c = some o) → Q none { s with heap := g }) : wpAny (model prog w) A (pyNext (.ref z)) Q E s := by
  have ty : s.TypeIs (.ref z) "zip" := ⟨_, zz, rfl⟩
  unfold pyNext
  refine wpAny_bind (wpAny_attempt (wpAny_callSpecial?_slot (name := Str.ofString "__next__") ty F.slot_zip_next (wpAny_call_entry F.slot_zip_next ty F.entry_zip_next (zip_end hn D S1 S2 zz zi zo j1 j2 last fun g e kp ⟨o, ho, hc⟩ => ?_) (F.args_zip_next_1 _))))
  exact wpAny_bind (wpAny_isInstance (T := "StopIteration") (b := true) ⟨o, ho, hc⟩ isSubtype_stop (wpAny_pure (q _ kp)))
end
/-! zip(a tuple, a list) -/
abbrev mH (h : Heap) (l1 l2 : Addr) : Heap := (((h.push { cls := .type "tuple_iterator", data := .fields #[.ref l1, .int 0 0] }).push { cls := .type "list_iterator", data := .fields #[.ref l2, .int 0 0] }).push { cls := .type "tuple", data := .seq #[.ref h.objs.size, .ref (h.objs.size + 1)] }).push { cls := .type "tuple", data := .seq #[.none, .none] }
abbrev mZ (h : Heap) (l1 l2 : Addr) : Heap := (mH h l1 l2).push { cls := .type "zip", data := .fields #[.none, .bool false, .bool false, .ref (h.objs.size + 2), .ref (h.objs.size + 3)] }
theorem new_zipM (l1 l2 : Addr) (xs ys : Array Value) : Meets (Builtin.«zip.__new__» ⟨[.type "zip", .ref l1, .ref l2], []⟩) (fun _ R s => s.heap.IsTuple l1 xs ∧ s.heap.IsList l2 ys ∧ R (.ok (.ret (.ref (s.heap.objs.size + 4)))) { s with heap := mZ s.heap l1 l2 }) :=
  .of_wp fun prog w A R s h => by
    obtain ⟨hp, g, d, tk, os⟩ := s
    obtain ⟨t1, t2, h⟩ := h
    have sub := sub_zip
    have u1 : Heap.IsTuple (Shared.heap ⟨hp, g, d, tk, os⟩) l1 xs := t1
    have u2 : Heap.IsList (Shared.heap ⟨hp.push { cls := .type "tuple_iterator", data := .fields #[.ref l1, .int 0 0] }, g, d, tk, os⟩) l2 ys := Heap.IsList.push t2 _
    wp_walk using wpAny_pyIter_tuple u1, wpAny_pyIter_list u2
    refine ⟨_, rfl, ?_⟩
    simp only [Heap.size_push] at h ⊢
    exact h
theorem call_zipM {prog : Program} {w : World} {A : Around} {E : Value → Shared → Prop} {s : Shared} {l1 l2 : Addr} {xs ys : Array Value} {Q : Value → Shared → Prop} (t1 : s.heap.IsTuple l1 xs) (t2 : s.heap.IsList l2 ys)
    (h : ∀ g, IsZip g (s.heap.objs.size + 4) (s.heap.objs.size + 2) (s.heap.objs.size + 3) .none → IsPair g (s.heap.objs.size + 2) (.ref s.heap.objs.size) (.ref (s.heap.objs.size + 1)) → IsPair g (s.heap.objs.size + 3) .none .none → g.IsTupleIter s.heap.objs.size l1 0 → g.IsListIter (s.heap.objs.size + 1) l2 0 → (∀ c o, s.heap.get? c = some o → g.get? c = some o) → Q (.ref (s.heap.objs.size + 4)) { s with heap := g }) :
    wpAny (model prog w) A (call (.type "zip") [.ref l1, .ref l2]) Q E s := by
  refine callType_new F.called_zip (by decide) (F.typeCall_zip_2 _ _) (F.newCall_zip_2 _ _) (fun obj => F.args_object_init_3 obj _ _) F.entry_zip_new (new_zipM l1 l2 xs ys) ⟨t1, t2, ?_⟩
  have up : ∀ (g : Heap) (o : Obj) (c : Addr) (o' : Obj), g.get? c = some o' → (g.push o).get? c = some o' := fun g o c o' e => Heap.get?_push_of_some _ e
  have at_ : ∀ (g : Heap) (o : Obj) (c : Addr), g.objs.size = c → o.isFreed = false → (g.push o).get? c = some o := fun g o c e f => by
    subst e
    exact Heap.get?_push_size _ f
  have zz : IsZip (mZ s.heap l1 l2) (s.heap.objs.size + 4) (s.heap.objs.size + 2) (s.heap.objs.size + 3) .none := at_ _ _ _ (by simp only [Heap.size_push]) rfl
  have w1 : (mZ s.heap l1 l2).get? s.heap.objs.size = some { cls := .type "tuple_iterator", data := .fields #[.ref l1, .int 0 0] } := up _ _ _ _ (up _ _ _ _ (up _ _ _ _ (up _ _ _ _ (at_ _ _ _ rfl rfl))))
  have w2 : (mZ s.heap l1 l2).get? (s.heap.objs.size + 1) = some { cls := .type "list_iterator", data := .fields #[.ref l2, .int 0 0] } := up _ _ _ _ (up _ _ _ _ (up _ _ _ _ (at_ _ _ _ (by simp only [Heap.size_push]) rfl)))
  refine ⟨⟨_, zz, rfl⟩, h _ zz ?_ ?_ ⟨_, w1, rfl, rfl⟩ ⟨_, w2, rfl, rfl⟩ fun c o e => up _ _ _ _ (up _ _ _ _ (up _ _ _ _ (up _ _ _ _ (up _ _ _ _ e))))⟩
  · exact up _ _ _ _ (up _ _ _ _ (at_ _ _ _ (by simp only [Heap.size_push]) rfl))
  · exact up _ _ _ _ (at_ _ _ _ (by simp only [Heap.size_push]) rfl)
end RX
namespace RX
open PySem PySem.Spec PyProof.Rows L2
/-- a tuple and a list, item by item, in new pairs -/
def ItzM (K : PySem.W.Frag) (a b : Addr) : It :=
  ⟨fun i H => ∃ (xs ys : List V) (x y : V), SqT K H a xs ∧ SqL K H b ys ∧ xs[i]? = some x ∧ ys[i]? = some y,
   fun i H v H' => ∃ T x y, v = .ref T ∧ H T = none ∧ H' = upd H T (.tup [x, y]) ∧ (∀ xs, SqT K H a xs → xs[i]? = some x) ∧ ∀ ys, SqL K H b ys → ys[i]? = some y,
   fun i H => ∃ xs ys : List V, SqT K H a xs ∧ SqL K H b ys ∧ (xs.length ≤ i ∨ ys.length ≤ i)⟩
theorem turnM {P : Program} {w : World} {K : PySem.W.Frag} {elts : List Expr} {kk : Nat} {tpos : Pos} {a b z TI TO i1 i2 : Addr} (D : ZipApart z TI TO i1 i2 a b) :
    Turn P w K (.Tuple elts kk tpos) (ItzM K a b) [z, TI, TO, i1, i2] z (fun i h => IsZip h z TI TO .none ∧ IsPair h TI (.ref i1) (.ref i2) ∧ (∃ x y, IsPair h TO x y) ∧ h.IsTupleIter i1 a i ∧ h.IsListIter i2 b i) where
  mem := List.mem_cons_self
  obj := fun i h ⟨hz, hi, ⟨x, y, ho⟩, ⟨o1, e1, _, d1⟩, ⟨o2, e2, _, d2⟩⟩ c hc => by
    simp only [List.mem_cons, List.not_mem_nil, or_false] at hc
    rcases hc with rfl | rfl | rfl | rfl | rfl
    · exact ⟨_, hz, fun v e => nomatch e⟩
    · exact ⟨_, hi, fun v e => nomatch e⟩
    · exact ⟨_, ho, fun v e => nomatch e⟩
    · exact ⟨o1, e1, fun v e => by rw [d1] at e; cases e⟩
    · exact ⟨o2, e2, fun v e => by rw [d2] at e; cases e⟩
  keep := fun i h h' ⟨hz, hi, ⟨x, y, ho⟩, t1, t2⟩ k =>
    ⟨k z (by simp) _ hz, k TI (by simp) _ hi, ⟨x, y, k TO (by simp) _ ho⟩, t1.at fun o e => k i1 (by simp) o e, t2.at fun o e => k i2 (by simp) o e⟩
  item := by
    intro X hP hw hK hc i pins s σ H E I fp ⟨hz, hi, ⟨x0, y0, ho⟩, t1, t2⟩ ⟨xs, ys, x, y, qx, qy, ex, ey⟩
    subst hP hw hK
    obtain ⟨its, rv, pa, _⟩ := I.tuple qx
    obtain ⟨its2, rv2, pb, _⟩ := I.list qy
    obtain ⟨u, eu, ru⟩ := rv.get ex
    obtain ⟨u2, eu2, ru2⟩ := rv2.get ey
    have low : z < s.heap.objs.size := Heap.lt_size hz
    refine next_item D (srcT D.l1i1 its.toArray) (srcL D.l2i2 its2.toArray) hz hi ho ⟨t1, pa⟩ ⟨t2, pb.isList⟩ (x := u) (y := u2) (by simpa using eu) (by simpa using eu2) fun g zg og j1 j2 pg _ kp => ?_
    refine ⟨_, rfl, wpAny_letOwnedTupleGo_zip (s := { s with heap := g }) zg fun g2 zg2 sb => ?_⟩
    have pg2 : g2.get? s.heap.objs.size = some { cls := .type "tuple", data := .seq #[u, u2] } := (sb.2 _ (Nat.ne_of_gt low)).trans pg
    have made : ObjOk X.prog X.w (upd H s.heap.objs.size (.tup [x, y])) g2 s.heap.objs.size (.tup [x, y]) := ⟨(by decide : 2 ≤ sizeLine), [u, u2], .cons ru (.cons ru2 .nil), ⟨_, pg2, rfl, _, rfl⟩⟩
    have I2 : Inv X pins σ (upd H s.heap.objs.size (.tup [x, y])) { s with heap := g2 } := I.turnedNew (t' := s.toks) (ch := [z, TI, TO, i1, i2]) (fun c o nb e => by
      simp only [List.mem_cons, List.not_mem_nil, or_false, not_or] at nb
      exact (sb.2 c nb.1).trans (kp c o nb.1 nb.2.2.1 nb.2.2.2.1 nb.2.2.2.2 e)) fp (Nat.le_refl _) made
    refine ⟨.ref s.heap.objs.size, _, I2, rfl, ⟨_, x, y, rfl, I.hok.fresh (Nat.le_refl _), rfl, fun l hl => by rw [I.tuple_inj hl qx]; exact ex, fun l hl => by rw [I.list_inj hl qy]; exact ey⟩, ⟨zg2, (sb.2 _ D.TIz).trans (kp _ _ D.TIz D.TITO D.TIi1 D.TIi2 hi), ⟨u, u2, (sb.2 _ D.TOz).trans og⟩, j1.1.at fun o e => (sb.2 _ D.i1z).trans e, j2.1.at fun o e => (sb.2 _ D.i2z).trans e⟩, fun c hcm => ?_⟩
    have lt : c < s.heap.objs.size := by
      have old := hcm
      simp only [List.mem_cons, List.not_mem_nil, or_false] at hcm
      rcases hcm with rfl | rfl | rfl | rfl | rfl
      · exact low
      · exact Heap.lt_size hi
      · exact Heap.lt_size ho
      · exact let ⟨_, e, _⟩ := t1; Heap.lt_size e
      · exact let ⟨_, e, _⟩ := t2; Heap.lt_size e
    rw [upd_ne (Nat.ne_of_lt lt)]
    exact (fp c hcm).1
  done := by
    intro X hP hw hK hc i pins s σ H E I fp ⟨hz, hi, ⟨x0, y0, ho⟩, t1, t2⟩ ⟨xs, ys, qx, qy, last⟩
    subst hP hw hK
    obtain ⟨its, rv, pa, _⟩ := I.tuple qx
    obtain ⟨its2, rv2, pb, _⟩ := I.list qy
    have len1 := rv.length
    have len2 := rv2.length
    refine next_end (I.ok.hd hc) D (srcT D.l1i1 its.toArray) (srcL D.l2i2 its2.toArray) hz hi ho ⟨t1, pa⟩ ⟨t2, pb.isList⟩ (last.imp (fun h => by simp; omega) fun h => by simp; omega) fun g kp => ⟨rfl, I.turnedL (t' := s.toks) (ch := [z, TI, TO, i1, i2]) (fun c o nb e => ?_) fp⟩
    simp only [List.mem_cons, List.not_mem_nil, or_false, not_or] at nb
    exact kp c o nb.1 nb.2.2.1 nb.2.2.2.1 nb.2.2.2.2 e
  self := fun A i s Q E st h => wpAny_pyIter_zip st.1 h
def iZipM (K : PySem.W.Frag) (ta : TA) : TI := fun σ H R => ta σ H fun vs H1 => ∃ a b xs ys, vs = [.ref a, .ref b] ∧ SqT K H1 a xs ∧ SqL K H1 b ys ∧ R (ItzM K a b) H1
theorem pi_zipM {X : Cx} {e e2 : Expr} {ta : TA} {p pos tpos : Pos} {elts : List Expr} {kk : Nat} (hg : Gl X "zip") (hm : X.mg "zip" = none) (ha : PA X [e, e2] ta) (hs : starEach [e, e2] X.env = (false, eval e X.env) :: starEach [e2] X.env := by rfl) (hpl : (backTo pos (starEach [e2] X.env)).any (·.1) = false := by rfl) :
    PI X (.Tuple elts kk tpos) (.Call (.Name "zip" p) [e, e2] [] pos) (iZipM X.K ta) := by
  refine ⟨fun pins s σ H R I h => Call_ (ld_blt I hg hm PyProof.Rows.boot_zip (PyProof.Rows.callWith_type1 (thn (ha.run pos pins s σ H _ I h) fun us s1 ⟨vs, H1, I1, r1, a, b, xs, ys, ev, qx, qy, q⟩ => ?_) hs hpl))⟩
  subst ev
  cases r1 with
  | cons ra rr =>
  cases rr with
  | cons rb rr =>
  cases rr
  cases ra
  cases rb
  obtain ⟨its, rv, pa, _⟩ := I1.tuple qx
  obtain ⟨its2, rv2, pb, _⟩ := I1.list qy
  obtain ⟨oa, ea, _⟩ := id pa
  refine call_zipM (show s1.heap.IsTuple a its.toArray from pa) pb.isList fun g hz hi ho t1 t2 kp => wpAny_pyIter_zip hz ⟨s1.heap.objs.size + 4, [s1.heap.objs.size + 4, s1.heap.objs.size + 2, s1.heap.objs.size + 3, s1.heap.objs.size, s1.heap.objs.size + 1], _, _, H1, rfl, I1.kept (t' := s1.toks) kp, turnM (PySem.W.ktu_apart s1.heap.objs.size a b (Heap.lt_size ea) pb.lt), ⟨hz, hi, ⟨_, _, ho⟩, t1, t2⟩, fun c hcm => ?_, q⟩
  have up : s1.heap.objs.size ≤ c := by
    simp only [List.mem_cons, List.not_mem_nil, or_false] at hcm
    rcases hcm with rfl | rfl | rfl | rfl | rfl <;> first | exact Nat.le_add_right _ _ | exact Nat.le_refl _
  exact I1.fpOk up (I1.hok.fresh up)
end RX

/-! ### enumerate of a tuple -/
namespace RX
open PySem
section
variable {prog : Program} {w : World} {A : Around} {E : Value → Shared → Prop} {s : Shared} {e it l : Addr} {J : Nat → Heap → Prop} {get : Nat → Option Value}
theorem enum_item {k : Nat} {x old : Value} {Q : Value → Shared → Prop} (S : Src prog w it l J get) (ee : IsEnum s.heap e it k old) (j : J k s.heap) (hx : get k = some x) (n1 : e ≠ it) (n2 : l ≠ e)
    (q : ∀ g, IsEnumOut g e it ((k : Int) + 1) x s.heap.objs.size → J (k + 1) g → g.get? s.heap.objs.size = some { cls := .type "tuple", data := .seq #[.int k s.toks, x] } → (∀ b o, b ≠ e → b ≠ it → s.heap.get? b = some o → g.get? b = some o) → Q (.ref s.heap.objs.size) { s with heap := g, toks := s.toks + 1 }) :
    wpAny (model prog w) A (Builtin.«enumerate.__next__» ⟨[.ref e], []⟩) (fun fin s' => ∃ v, fin = .done (.ret v) ∧ Q v s') E s := by
  obtain ⟨hp, gn, dp, tk, os⟩ := s
  show wpAny _ _ (field (.ref e) 2 >>= _) _ _ _; refine wpAny_bind (wpAny_field ee rfl (x := .ref it) rfl (wpAny_bind (S.step (s := ⟨hp, gn, dp, tk, os⟩) j hx fun ha ja sa => ?_)))
  replace sa : Heap.SameBut it hp ha := sa
  have ea : IsEnum ha e it k old := (sa.2 e n1).trans ee
  show wpAny _ _ (field (.ref e) 3 >>= _) _ _ ⟨ha, gn, dp, tk, os⟩; refine wpAny_bind (wpAny_field ea rfl (x := rawInt k) rfl ?_)
  show wpAny _ _ (field (.ref e) 4 >>= _) _ _ ⟨ha, gn, dp, tk, os⟩; refine wpAny_bind (wpAny_field ea rfl (x := .none) rfl ?_)
  show wpAny _ _ (mkInt k >>= _) _ _ ⟨ha, gn, dp, tk, os⟩; refine wpAny_bind (wpAny_mkInt ?_)
  show wpAny _ _ (setField (.ref e) 3 (rawInt ((k : Int) + 1)) >>= _) _ _ ⟨ha, gn, dp, tk + 1, os⟩; refine wpAny_bind (wpAny_setField_rec ea (by simp) fun hb eb sb => ?_)
  replace sb : Heap.SameBut e ha hb := sb
  replace eb : IsEnum hb e it ((k : Int) + 1) old := eb
  show wpAny _ _ (setField (.ref e) 4 .none >>= _) _ _ ⟨hb, gn, dp, tk + 1, os⟩; refine wpAny_bind (wpAny_setField_rec eb (by simp) fun hc ec sc => ?_)
  replace sc : Heap.SameBut e hb hc := sc
  replace ec : IsEnum hc e it ((k : Int) + 1) old := ec
  show wpAny _ _ (newTuple [.int k tk, x] >>= _) _ _ ⟨hc, gn, dp, tk + 1, os⟩; refine wpAny_bind (wpAny_newTuple ?_)
  have size : hc.objs.size = hp.objs.size := by rw [sc.1, sb.1, sa.1]
  have low : e < hp.objs.size := Heap.lt_size ee
  have kc : ∀ b o, b ≠ e → b ≠ it → hp.get? b = some o → hc.get? b = some o := fun b o c1 c2 v => sc.extBut b o c1 (sb.extBut b o c1 (sa.extBut b o c2 v))
  have jc : J (k + 1) hc := S.keep n1.symm n2 sc.extBut (S.keep n1.symm n2 sb.extBut ja)
  obtain ⟨hd, ehd⟩ : ∃ hd, hd = hc.push { cls := .type "tuple", data := .seq #[.int k tk, x] } := ⟨_, rfl⟩
  have gd : Heap.ExtBut e hc hd := fun b o _ v => by rw [ehd]; exact Heap.get?_push_of_some _ v
  have ed : IsEnum hd e it ((k : Int) + 1) old := by rw [ehd]; exact Heap.get?_push_of_some _ ec
  have td : hd.get? hp.objs.size = some { cls := .type "tuple", data := .seq #[.int k tk, x] } := by rw [ehd, ← size]; exact Heap.get?_push_size _ rfl
  have jd : J (k + 1) hd := S.keep n1.symm n2 gd jc
  have kd : ∀ b o, b ≠ e → b ≠ it → hp.get? b = some o → hd.get? b = some o := fun b o c1 c2 v => gd b o c1 (kc b o c1 c2 v)
  rw [← ehd, size]
  show wpAny _ _ (Builtin.SmallTypes.ownedTupleIsFree (.ref e) >>= _) _ _ ⟨hd, gn, dp, tk + 1, os⟩; refine wpAny_bind ?_; unfold Builtin.SmallTypes.ownedTupleIsFree
  refine wpAny_bind (wpAny_field ed rfl (x := .none) rfl (wpAny_pure ?_)); simp only [if_true]
  refine wpAny_bind (wpAny_rule (wpAny_bind (wpAny_field ed rfl (x := old) rfl (wpAny_bind (wpAny_setField_rec ed (by simp) fun hf ef sf => ?_)))))
  replace sf : Heap.SameBut e hd hf := sf
  replace ef : IsEnum hf e it ((k : Int) + 1) x := ef
  show wpAny _ _ (Builtin.SmallTypes.ownedTupleHandOut (.ref e) (.ref hp.objs.size) >>= _) _ _ ⟨hf, gn, dp, tk + 1, os⟩; refine wpAny_bind ?_; unfold Builtin.SmallTypes.ownedTupleHandOut
  refine wpAny_bind (wpAny_setField_rec ef (by simp) fun hg eg sg => ?_)
  replace sg : Heap.SameBut e hf hg := sg
  replace eg : IsEnumOut hg e it ((k : Int) + 1) x hp.objs.size := eg
  refine wpAny_setField_rec eg (by simp) fun hh eh sh => ?_
  replace sh : Heap.SameBut e hg hh := sh
  replace eh : IsEnumOut hh e it ((k : Int) + 1) x hp.objs.size := eh
  have all : Heap.ExtBut e hd hh := fun b o c v => sh.extBut b o c (sg.extBut b o c (sf.extBut b o c v))
  exact wpAny_bind (wpAny_letGo (wpAny_pure ⟨_, rfl, q hh eh (S.keep n1.symm n2 all jd) (all _ _ (Nat.ne_of_gt low) td) fun b o c1 c2 v => all b o c1 (kd b o c1 c2 v)⟩))
theorem enum_next {k : Nat} {x old : Value} {Q : Option Value → Shared → Prop} (S : Src prog w it l J get) (ee : IsEnum s.heap e it k old) (j : J k s.heap) (hx : get k = some x) (n1 : e ≠ it) (n2 : l ≠ e)
    (q : ∀ g, IsEnumOut g e it ((k : Int) + 1) x s.heap.objs.size → J (k + 1) g → g.get? s.heap.objs.size = some { cls := .type "tuple", data := .seq #[.int k s.toks, x] } → (∀ b o, b ≠ e → b ≠ it → s.heap.get? b = some o → g.get? b = some o) → Q (some (.ref s.heap.objs.size)) { s with heap := g, toks := s.toks + 1 }) :
    wpAny (model prog w) A (pyNext (.ref e)) Q E s := by
  have ty : s.TypeIs (.ref e) "enumerate" := ⟨_, ee, rfl⟩
  unfold pyNext
  refine wpAny_bind (wpAny_attempt (wpAny_callSpecial?_slot (name := Str.ofString "__next__") ty F.slot_enumerate_next (wpAny_call_entry F.slot_enumerate_next ty F.entry_enumerate_next (enum_item S ee j hx n1 n2 fun g b1 b2 b3 b4 => ?_) (F.args_enumerate_next_1 _))))
  exact wpAny_pure (q g b1 b2 b3 b4)
theorem enum_end {k : Nat} {old : Value} {Q : Option Value → Shared → Prop} (hn : A.handled = none) (S : Src prog w it l J get) (ee : IsEnum s.heap e it k old) (j : J k s.heap) (hx : get k = none) (q : ∀ g, Heap.ExtBut it s.heap g → Q none { s with heap := g }) : wpAny (model prog w) A (pyNext (.ref e)) Q E s := by
  have ty : s.TypeIs (.ref e) "enumerate" := ⟨_, ee, rfl⟩
  unfold pyNext
  refine wpAny_bind (wpAny_attempt (wpAny_callSpecial?_slot (name := Str.ofString "__next__") ty F.slot_enumerate_next (wpAny_call_entry F.slot_enumerate_next ty F.entry_enumerate_next ?_ (F.args_enumerate_next_1 _))))
  show wpAny _ _ (field (.ref e) 2 >>= _) _ _ _; refine wpAny_bind (wpAny_field ee rfl (x := .ref it) rfl (wpAny_bind (S.stop (A := A.in1) (s := s) hn j hx fun g v ev ⟨o, ho, hc⟩ => ?_)))
  exact wpAny_bind (wpAny_isInstance (T := "StopIteration") (b := true) ⟨o, ho, hc⟩ isSubtype_stop (wpAny_pure (q _ ev)))
end
abbrev eT (h : Heap) (l : Addr) : Heap := (h.push { cls := .type "tuple_iterator", data := .fields #[.ref l, .int 0 0] }).push { cls := .type "enumerate", data := .fields #[.none, .bool false, .ref h.objs.size, rawInt 0, .none, .none] }
theorem new_enumT (l : Addr) (xs : Array Value) : Meets (Builtin.«enumerate.__new__» ⟨[.type "enumerate", .ref l], []⟩) (fun _ R s => s.heap.IsTuple l xs ∧ R (.ok (.ret (.ref (s.heap.objs.size + 1)))) { s with heap := eT s.heap l }) :=
  .of_wp fun prog w A R s h => by
    obtain ⟨hp, g, d, tk, os⟩ := s
    obtain ⟨t1, h⟩ := h
    have sub := sub_enumerate
    have u1 : Heap.IsTuple (Shared.heap ⟨hp, g, d, tk, os⟩) l xs := t1
    wp_walk using wpAny_pyIter_tuple u1
    refine wpAny_stack_any fun st => wpAny_pure ?_
    split
    · rename_i c _ _ _ _ _
      cases (c == Value.type "enumerate") <;> (wp_walk using wpAny_pyIter_tuple u1; refine ⟨_, rfl, ?_⟩; simp only [Heap.size_push] at h ⊢; exact h)
    · wp_walk using wpAny_pyIter_tuple u1
      refine ⟨_, rfl, ?_⟩
      simp only [Heap.size_push] at h ⊢
      exact h
theorem call_enumT {prog : Program} {w : World} {A : Around} {E : Value → Shared → Prop} {s : Shared} {l : Addr} {xs : Array Value} {Q : Value → Shared → Prop} (t1 : s.heap.IsTuple l xs)
    (h : ∀ g, IsEnum g (s.heap.objs.size + 1) s.heap.objs.size 0 .none → g.IsTupleIter s.heap.objs.size l 0 → (∀ b o, s.heap.get? b = some o → g.get? b = some o) → Q (.ref (s.heap.objs.size + 1)) { s with heap := g }) :
    wpAny (model prog w) A (call (.type "enumerate") [.ref l]) Q E s := by
  refine callType_new F.called_enumerate (by decide) (F.typeCall_enumerate_1 _) (F.newCall_enumerate_1 _) (fun obj => F.args_object_init_2 obj _) F.entry_enumerate_new (new_enumT l xs) ⟨t1, ?_⟩
  have up : ∀ (g : Heap) (o : Obj) (c : Addr) (o' : Obj), g.get? c = some o' → (g.push o).get? c = some o' := fun g o c o' e => Heap.get?_push_of_some _ e
  have at_ : ∀ (g : Heap) (o : Obj) (c : Addr), g.objs.size = c → o.isFreed = false → (g.push o).get? c = some o := fun g o c e f => by
    subst e
    exact Heap.get?_push_size _ f
  have ee : IsEnum (eT s.heap l) (s.heap.objs.size + 1) s.heap.objs.size 0 .none := at_ _ _ _ (by simp only [Heap.size_push]) rfl
  have w1 : (eT s.heap l).get? s.heap.objs.size = some { cls := .type "tuple_iterator", data := .fields #[.ref l, .int 0 0] } := up _ _ _ _ (at_ _ _ _ rfl rfl)
  exact ⟨⟨_, ee, rfl⟩, h _ ee ⟨_, w1, rfl, rfl⟩ fun c o e => up _ _ _ _ (up _ _ _ _ e)⟩
end RX
namespace RX
open PySem PySem.Spec PyProof.Rows L2
/-- a tuple's items with their places, in new pairs -/
def IteT (K : PySem.W.Frag) (a : Addr) : It :=
  ⟨fun i H => ∃ (xs : List V) (x : V), SqT K H a xs ∧ xs[i]? = some x,
   fun i H v H' => ∃ T x, v = .ref T ∧ H T = none ∧ H' = upd H T (.tup [.int (i : Nat), x]) ∧ ∀ xs, SqT K H a xs → xs[i]? = some x,
   fun i H => ∃ xs : List V, SqT K H a xs ∧ xs.length ≤ i⟩
theorem turnE {P : Program} {w : World} {K : PySem.W.Frag} {elts : List Expr} {kk : Nat} {tpos : Pos} (a e it : Addr) :
    Turn P w K (.Tuple elts kk tpos) (IteT K a) [e, it] e (fun i h => (∃ old, IsEnum h e it ((i : Nat) : Int) old) ∧ h.IsTupleIter it a i ∧ e ≠ it ∧ a ≠ e ∧ a ≠ it) where
  mem := List.mem_cons_self
  obj := fun i h ⟨⟨old, he⟩, ⟨o, ho, _, hd⟩, _⟩ b hb => by
    simp only [List.mem_cons, List.not_mem_nil, or_false] at hb
    rcases hb with rfl | rfl
    · exact ⟨_, he, fun v z => nomatch z⟩
    · exact ⟨o, ho, fun v z => by rw [hd] at z; cases z⟩
  keep := fun i h h' ⟨⟨old, he⟩, t1, ne⟩ k => ⟨⟨old, k e (by simp) _ he⟩, t1.at fun o z => k it (by simp) o z, ne⟩
  item := by
    intro X hP hw hK hc i pins s σ H E I fp ⟨⟨old, he⟩, t1, n1, n2, n3⟩ ⟨xs, x, qx, ex⟩
    subst hP hw hK
    obtain ⟨its, rv, pa, _⟩ := I.tuple qx
    obtain ⟨u, eu, ru⟩ := rv.get ex
    have low : e < s.heap.objs.size := Heap.lt_size he
    have low2 : it < s.heap.objs.size := let ⟨_, z, _⟩ := t1; Heap.lt_size z
    refine enum_next (srcT n3 its.toArray) he ⟨t1, pa⟩ (x := u) (by simpa using eu) n1 n2 fun g eg jg tg kp => ?_
    refine ⟨_, rfl, wpAny_letOwnedTupleGo_enum (s := { s with heap := g, toks := s.toks + 1 }) eg fun g2 eg2 sb => ?_⟩
    have tg2 : g2.get? s.heap.objs.size = some { cls := .type "tuple", data := .seq #[.int i s.toks, u] } := (sb.2 _ (Nat.ne_of_gt low)).trans tg
    have made : ObjOk X.prog X.w (upd H s.heap.objs.size (.tup [.int (i : Nat), x])) g2 s.heap.objs.size (.tup [.int (i : Nat), x]) := ⟨(by decide : 2 ≤ sizeLine), [.int i s.toks, u], .cons ⟨_, rfl⟩ (.cons ru .nil), ⟨_, tg2, rfl, _, rfl⟩⟩
    have I2 : Inv X pins σ (upd H s.heap.objs.size (.tup [.int (i : Nat), x])) { s with heap := g2, toks := s.toks + 1 } := I.turnedNew (ch := [e, it]) (fun b o nb z => by
      simp only [List.mem_cons, List.not_mem_nil, or_false, not_or] at nb
      exact (sb.2 b nb.1).trans (kp b o nb.1 nb.2 z)) fp (Nat.le_refl _) made
    refine ⟨.ref s.heap.objs.size, _, I2, rfl, ⟨_, x, rfl, I.hok.fresh (Nat.le_refl _), rfl, fun l hl => by rw [I.tuple_inj hl qx]; exact ex⟩, ⟨⟨u, ?_⟩, jg.1.at fun o z => (sb.2 it n1.symm).trans z, n1, n2, n3⟩, fun b hb => ?_⟩
    · rw [show ((i + 1 : Nat) : Int) = (i : Int) + 1 by omega]
      exact eg2
    · have lt : b < s.heap.objs.size := by
        have old := hb
        simp only [List.mem_cons, List.not_mem_nil, or_false] at old
        rcases old with rfl | rfl
        · exact low
        · exact low2
      rw [upd_ne (Nat.ne_of_lt lt)]
      exact (fp b hb).1
  done := by
    intro X hP hw hK hc i pins s σ H E I fp ⟨⟨old, he⟩, t1, n1, n2, n3⟩ ⟨xs, qx, last⟩
    subst hP hw hK
    obtain ⟨its, rv, pa, _⟩ := I.tuple qx
    obtain ⟨f0, f1, f2, f3, f4, f5⟩ := fp it (by simp)
    have len := rv.length
    exact enum_end (I.ok.hd hc) (srcT n3 its.toArray) he ⟨t1, pa⟩ (by simp; omega) fun g ev => ⟨rfl, I.turned (t' := s.toks) (fun b o nb z => ev b o nb z) f0 f1 f3 f4 f5⟩
  self := fun A i s Q E ⟨⟨_, he⟩, _⟩ h => wpAny_pyIter_enum he h
def iEnumT (K : PySem.W.Frag) (ta : TA) : TI := fun σ H R => ta σ H fun vs H1 => ∃ a xs, vs = [.ref a] ∧ SqT K H1 a xs ∧ R (IteT K a) H1
theorem pi_enumT {X : Cx} {e : Expr} {ta : TA} {p pos tpos : Pos} {elts : List Expr} {kk : Nat} (hg : Gl X "enumerate") (hm : X.mg "enumerate" = none) (ha : PA X [e] ta) (hs : starEach [e] X.env = [(false, eval e X.env)] := by rfl) :
    PI X (.Tuple elts kk tpos) (.Call (.Name "enumerate" p) [e] [] pos) (iEnumT X.K ta) := by
  refine ⟨fun pins s σ H R I h => Call_ (ld_blt I hg hm boot_enumerate (PyProof.Rows.callWith_type1 (thn (ha.run pos pins s σ H _ I h) fun us s1 ⟨vs, H1, I1, r1, a, xs, ev, qx, q⟩ => ?_) hs rfl))⟩
  subst ev
  cases r1 with
  | cons ra rr =>
  cases rr
  cases ra
  obtain ⟨its, rv, pa, _⟩ := I1.tuple qx
  obtain ⟨oa, ea, _⟩ := id pa
  have low := Heap.lt_size ea
  refine call_enumT (show s1.heap.IsTuple a its.toArray from pa) fun g he t1 kp => wpAny_pyIter_enum he ⟨s1.heap.objs.size + 1, [s1.heap.objs.size + 1, s1.heap.objs.size], _, _, H1, rfl, I1.kept (t' := s1.toks) kp, turnE a (s1.heap.objs.size + 1) s1.heap.objs.size, ⟨⟨.none, he⟩, t1, Nat.succ_ne_self _, Nat.ne_of_lt (Nat.lt_succ_of_lt low), Nat.ne_of_lt low⟩, fun b hb => ?_, q⟩
  have up : s1.heap.objs.size ≤ b := by
    simp only [List.mem_cons, List.not_mem_nil, or_false] at hb
    rcases hb with rfl | rfl <;> first | exact Nat.le_add_right _ _ | exact Nat.le_refl _
  exact I1.fpOk up (I1.hok.fresh up)
end RX

section
variable {K : PySem.W.Frag}
def iEnumTK (K : PySem.W.Frag) (ta : TA) : TI := RX.iEnumT K ta
theorem k_enumT {X : Cx} {e : Expr} {ta : TA} {p pos tpos : Pos} {elts : List Expr} {kk : Nat} (hK : X.K = K) (hg : Gl X "enumerate") (hm : X.mg "enumerate" = none) (ha : PA X [e] ta) (hs : starEach [e] X.env = [(false, eval e X.env)] := by rfl) :
    PI X (.Tuple elts kk tpos) (.Call (.Name "enumerate" p) [e] [] pos) (iEnumTK K ta) := hK ▸ RX.pi_enumT hg hm ha hs
def aEnumT (g : AA) : AI := fun ρ n Q => g ρ n fun ds n1 => match ds with
  | [.tup as] => Q (enumD 0 as) n1
  | _ => False
instance {ta : TA} {g : AA} [DA K ta g] : DI K (iEnumTK K ta) (aEnumT g) := ⟨fun W σ ρ n H R Qa hQ hE o h =>
  DA.run (te := ta) (f := g) W σ ρ n H _ _ (fun ds n1 h1 H1 vs l1 o1 ax => by
    split at h1
    · cases ax with
      | cons a r =>
        cases r
        cases a with
        | tup sa a =>
          refine ⟨_, _, rfl, sa, hQ _ _ h1 _ H1 l1 o1 fun W' hr hd H2 n2 l2 o2 i => ?_⟩
          have s2 := sqt_lk (o1.lk' hr) l2 sa
          refine ⟨fun d e => ?_, fun hi => ⟨_, s2, by rw [a.length]; rw [enumD_length] at hi; exact hi⟩⟩
          obtain ⟨x, e1, rfl⟩ := enumD_get e
          obtain ⟨v, e1', a1⟩ := a.get e1
          refine ⟨⟨_, v, s2, e1'⟩, fun z H3 ⟨T, x', ez, hT, eH, e3⟩ => ?_⟩
          have q1 := e3 _ s2
          rw [e1'] at q1
          cases q1
          subst ez eH
          have st : Same H2 (upd H2 T (.tup [.int i, v])) := same_upd hT
          refine ⟨st, .tup (.inl (.inl upd_same)) (.cons ?_ (.cons ?_ .nil))⟩
          · rw [Nat.zero_add]
            exact .int _
          · exact At.le o2 (Wd.le_same st) _ (At.lk (o1.lk' hr) l2 _ (At.ext hr hd _ a1))
    · exact h1.elim) hE o h⟩
end

/-! ### defs with a default -/
section
variable {K : PySem.W.Frag}
theorem fn_mirD {P : Program} {w : World} {mg : Str → Option Value} {base : Heap} {x qual : Str} {st : Stmt} {f : Addr} {fd : FuncData} {dvs : List V} {kws : List (Str × V)} {N ps : List Str} {k : Nat} {A : ASp} (ow : List Nat) (kk : Nat) (hk : N.length = kk) (hp : ps.length ≤ kk) (ho : ∀ i ∈ ow, ps.length ≤ i) (F : FunD K x qual (defArgs st) (defBody st) (defScope st) dvs kws f fd) (S : FnScope N ps (defScope st))
    (hbody : ∀ (cdv : Value) (Ar : Around) (outer : List Env) (s : Shared) (H : Hp) (E : XK), Room k (Ar.deeper (envOfC qual (defScope st) s.heap.objs.size f cdv)) →
      ∃ (t : TS) (fa : AS), PSs (cxOf CX0 P w K mg base N qual (defScope st) f cdv Ar outer s H E) (defBody st) t ∧ DS K W0 ow t fa ∧ ∀ ds n Q, ds.length = ps.length → A ds n Q → fa (aTop Q) (startA kk ds) n) : FnOk P w K mg base CX0 (k + 1) f fd ps (spOf K ps.length A) := by
  refine F.ok S (fun vs H Q E h => ?_) (fun cdv Ar outer s H vs Q E hr h => ?_)
  · obtain ⟨W, n, ds, Qa, a, hl, _⟩ := h
    rw [a.length, hl]
  · obtain ⟨W, n, ds, Qa, a, hl, o, hQ, hA⟩ := h
    obtain ⟨t, fa, h1, h2, h3⟩ := hbody cdv Ar outer s H E hr
    refine ⟨t, h1, DS.run (Wx := W0) (ow := ow) (t := t) (f := fa) W [] (L2.start N vs) (startA kk ds) n H _ (aTop Qa) ⟨fun ρ' n' q U' σ' H' l' s' => hQ _ _ q H' _ (le_start l') s'.base .non, fun d n' q U1 H1 H' v l' l2 o' a' => hQ _ _ q H' v ((le_start l').trans l2) o' a', fun _ _ q => q.elim, fun _ _ q => q.elim, fun _ _ _ _ _ q => q.elim⟩ (start_ok hk (by omega) (fun i hi => by rw [hl]; exact ho i hi) a o) (h3 ds n Qa hl hA)⟩
def aCallD (k : Nat) (A : ASp) (d : D) (g : AA) : AE := fun ρ n Q => g ρ n fun ds n1 => match Nat.beq (ds.length + 1) k with
  | true => A (ds ++ [d]) n1 Q
  | false => False
instance {k : Nat} {A : ASp} {E : XK} {ta : TA} {g : AA} {a : Addr} {d : D} [DA K ta g] [Kon K a d] : DE K (tCall (spOf K k A) [V.ref a] E ta) (aCallD k A d g) := ⟨fun W σ ρ n H Q Qa hQ hE o h =>
  DA.run (te := ta) (f := g) W σ ρ n H _ _ (fun ds n1 h1 H1 xs l1 o1 ax => by
    split at h1
    · rename_i e
      exact ⟨W, n1, ds ++ [d], Qa, ax.append (.cons (Kon.at_ W H1) .nil), by rw [List.length_append]; exact Nat.eq_of_beq_eq_true e, o1, hQ.le l1, h1⟩
    · exact h1.elim) hE o h⟩
end

/-! ### list(zip(a, b)) of two tuples -/
section
open PySem
open PySem.Sem (wp)
variable {prog : Program} {w : World} {A : Around} {E : Value → Shared → Prop} {s : Shared}
/-- a zip whose first pair is held -/
abbrev IsZipH (h : Heap) (z TI TO T0 : Addr) (b : Bool) : Prop :=
  h.get? z = some { cls := .type "zip", dict := none, data := .fields #[rawInt T0, .bool b, .bool false, .ref TI, .ref TO], slots := #[] }
theorem wpAny_alive {M : Model} {a : Addr} {Q : Option Obj → Shared → Prop} (h : Q (s.heap.get? a) s) : wpAny M A (loadIfAlive a) Q E s := fun Γ p hΓ => by
  unfold loadIfAlive
  rw [Sem.wp_loadIfAlive]
  exact h
theorem owned_held {z TI TO T0 : Addr} {b : Bool} {oT : Obj} {Q : Bool → Shared → Prop} (hz : IsZipH s.heap z TI TO T0 b) (hT : s.heap.get? T0 = some oT)
    (hQ : ∀ h', IsZipH h' z TI TO T0 true → Heap.SameBut z s.heap h' → Q false { s with heap := h' }) : wpAny (model prog w) A (Builtin.SmallTypes.ownedTupleIsFree (.ref z)) Q E s := by
  unfold Builtin.SmallTypes.ownedTupleIsFree
  refine wpAny_bind (wpAny_field hz rfl (x := rawInt T0) rfl ?_)
  show wpAny _ _ (loadIfAlive (Int.toNat (T0 : Int)) >>= _) _ _ _
  refine wpAny_bind (wpAny_alive ?_)
  rw [Int.toNat_natCast, hT]
  show wpAny _ _ (field (.ref z) 1 >>= _) _ _ _
  refine wpAny_bind (wpAny_field hz rfl (x := .bool b) rfl ?_)
  cases b with
  | true =>
    exact wpAny_pure (hQ s.heap hz (Heap.SameBut.refl ..))
  | false =>
    show wpAny _ _ (setField (.ref z) 1 (.bool true) >>= _) _ _ _
    refine wpAny_bind (wpAny_setField_rec hz (by simp) fun h1 hz1 hs1 => wpAny_pure ?_)
    exact hQ h1 hz1 hs1
theorem zipH_item {z TI TO i1 i2 l1 l2 T0 : Addr} {k1 k2 : Nat} {xs ys : Array Value} {x y : Value} {bb : Bool} {oT : Obj} {Q : Value → Shared → Prop} (D : ZipApart z TI TO i1 i2 l1 l2)
    (hz : IsZipH s.heap z TI TO T0 bb) (hT0 : s.heap.get? T0 = some oT) (hTI : IsPair s.heap TI (.ref i1) (.ref i2))
    (h1 : s.heap.IsTupleIter i1 l1 k1) (h2 : s.heap.IsTupleIter i2 l2 k2) (hl1 : s.heap.IsTuple l1 xs) (hl2 : s.heap.IsTuple l2 ys) (hx : xs[k1]? = some x) (hy : ys[k2]? = some y)
    (hQ : ∀ h', IsZipH h' z TI TO T0 true → h'.IsTupleIter i1 l1 (k1 + 1) → h'.IsTupleIter i2 l2 (k2 + 1) → IsPair h' s.heap.objs.size x y →
      (∀ c o, c ≠ z → c ≠ i1 → c ≠ i2 → s.heap.get? c = some o → h'.get? c = some o) → Q (.ref s.heap.objs.size) { s with heap := h' }) :
    wpAny (model prog w) A (Builtin.«zip.__next__» ⟨[.ref z], []⟩) (fun fin s' => ∃ v, fin = .done (.ret v) ∧ Q v s') E s := by
  show wpAny _ _ (field (.ref z) 2 >>= _) _ _ _
  refine wpAny_bind (wpAny_field hz rfl (x := .bool false) rfl ?_)
  show wpAny _ _ (field (.ref z) 3 >>= _) _ _ _
  refine wpAny_bind (wpAny_field hz rfl (x := .ref TI) rfl ?_)
  refine wpAny_bind (wpAny_seqItems hTI rfl ?_)
  show wpAny _ _ (Builtin.SmallTypes.ownedTupleIsFree (.ref z) >>= _) _ _ _
  refine wpAny_bind (owned_held hz hT0 fun h₁ hz₁ hs₁ => ?_)
  simp only [Bool.false_eq_true, if_false]
  refine wpAny_bind ?_
  rw [show (#[Value.ref i1, Value.ref i2] : Array Value) = [Value.ref i1, Value.ref i2].toArray from rfl, List.forIn_toArray]
  simp only [List.forIn_cons, List.forIn_nil]
  refine wpAny_bind (wpAny_bind (wpAny_holding ?_))
  show wpAny _ _ (Builtin.SmallTypes.nextOf (.ref i1) >>= _) _ _ _
  refine wpAny_bind (RZ.nextOf_tuple_item (h1.extBut hs₁.extBut D.i1z) (hl1.extBut hs₁.extBut D.l1z) hx fun h₂ h1₂ hs₂ => wpAny_pure (wpAny_pure ?_))
  show wpAny _ _ (_ >>= _) _ _ _
  refine wpAny_bind (wpAny_bind (wpAny_holding ?_))
  show wpAny _ _ (Builtin.SmallTypes.nextOf (.ref i2) >>= _) _ _ _
  refine wpAny_bind (RZ.nextOf_tuple_item ((h2.extBut hs₁.extBut D.i2z).extBut hs₂.extBut D.i12.symm) ((hl2.extBut hs₁.extBut D.l2z).extBut hs₂.extBut D.l2i1) hy fun h₃ h2₃ hs₃ => wpAny_pure (wpAny_pure (wpAny_pure ?_)))
  show wpAny _ _ (newTuple [x, y] >>= _) _ _ _
  refine wpAny_bind (wpAny_newTuple (wpAny_pure ⟨_, rfl, ?_⟩))
  have hsz : h₃.objs.size = s.heap.objs.size := by rw [hs₃.1, hs₂.1, hs₁.1]
  have hz₃ : IsZipH h₃ z TI TO T0 true := hs₃.extBut _ _ D.i2z.symm (hs₂.extBut _ _ D.i1z.symm hz₁)
  have up : ∀ c o, h₃.get? c = some o → (h₃.push { cls := .type "tuple", data := .seq #[x, y] }).get? c = some o := fun c o e => Heap.get?_push_of_some _ e
  show Q (.ref h₃.objs.size) _
  rw [hsz]
  refine hQ _ (up _ _ hz₃) ((h1₂.extBut hs₃.extBut D.i12).at fun o e => up _ o e) (h2₃.at fun o e => up _ o e) ?_ fun c o c1 c2 c3 e => up _ _ (hs₃.extBut _ _ c3 (hs₂.extBut _ _ c2 (hs₁.extBut _ _ c1 e)))
  rw [← hsz]
  exact Heap.get?_push_size _ rfl
theorem zipH_end {z TI TO i1 i2 l1 l2 T0 : Addr} {k1 : Nat} {xs : Array Value} {bb : Bool} {oT : Obj} {Q : Fin → Shared → Prop} (hh : A.handled = none) (D : ZipApart z TI TO i1 i2 l1 l2)
    (hz : IsZipH s.heap z TI TO T0 bb) (hT0 : s.heap.get? T0 = some oT) (hTI : IsPair s.heap TI (.ref i1) (.ref i2))
    (h1 : s.heap.IsTupleIter i1 l1 k1) (hl1 : s.heap.IsTuple l1 xs) (hend : xs[k1]? = none)
    (hE : ∀ h' e, (∀ c o, c ≠ z → c ≠ i1 → s.heap.get? c = some o → h'.get? c = some o) → (∃ o, h'.get? e = some o ∧ o.cls = .type "StopIteration") → E (.ref e) { s with heap := h' }) :
    wpAny (model prog w) A (Builtin.«zip.__next__» ⟨[.ref z], []⟩) Q E s := by
  show wpAny _ _ (field (.ref z) 2 >>= _) _ _ _
  refine wpAny_bind (wpAny_field hz rfl (x := .bool false) rfl ?_)
  show wpAny _ _ (field (.ref z) 3 >>= _) _ _ _
  refine wpAny_bind (wpAny_field hz rfl (x := .ref TI) rfl ?_)
  refine wpAny_bind (wpAny_seqItems hTI rfl ?_)
  show wpAny _ _ (Builtin.SmallTypes.ownedTupleIsFree (.ref z) >>= _) _ _ _
  refine wpAny_bind (owned_held hz hT0 fun h₁ hz₁ hs₁ => ?_)
  simp only [Bool.false_eq_true, if_false]
  refine wpAny_bind ?_
  rw [show (#[Value.ref i1, Value.ref i2] : Array Value) = [Value.ref i1, Value.ref i2].toArray from rfl, List.forIn_toArray]
  simp only [List.forIn_cons, List.forIn_nil]
  refine wpAny_bind (wpAny_bind (wpAny_holding ?_))
  show wpAny _ _ (Builtin.SmallTypes.nextOf (.ref i1) >>= _) _ _ _
  refine wpAny_bind (RZ.nextOf_tuple_end hh (h1.extBut hs₁.extBut D.i1z) (hl1.extBut hs₁.extBut D.l1z) hend fun h₂ e hs₂ he => ?_)
  exact hE h₂ e (fun c o c1 c3 x => hs₂ _ _ c3 (hs₁.extBut _ _ c1 x)) he
theorem next_zipH_item {z TI TO i1 i2 l1 l2 T0 : Addr} {k1 k2 : Nat} {xs ys : Array Value} {x y : Value} {bb : Bool} {oT : Obj} {Q : Option Value → Shared → Prop} (D : ZipApart z TI TO i1 i2 l1 l2)
    (hz : IsZipH s.heap z TI TO T0 bb) (hT0 : s.heap.get? T0 = some oT) (hTI : IsPair s.heap TI (.ref i1) (.ref i2))
    (h1 : s.heap.IsTupleIter i1 l1 k1) (h2 : s.heap.IsTupleIter i2 l2 k2) (hl1 : s.heap.IsTuple l1 xs) (hl2 : s.heap.IsTuple l2 ys) (hx : xs[k1]? = some x) (hy : ys[k2]? = some y)
    (hQ : ∀ h', IsZipH h' z TI TO T0 true → h'.IsTupleIter i1 l1 (k1 + 1) → h'.IsTupleIter i2 l2 (k2 + 1) → IsPair h' s.heap.objs.size x y →
      (∀ c o, c ≠ z → c ≠ i1 → c ≠ i2 → s.heap.get? c = some o → h'.get? c = some o) → Q (some (.ref s.heap.objs.size)) { s with heap := h' }) :
    wpAny (model prog w) A (pyNext (.ref z)) Q E s := by
  have hT : s.TypeIs (.ref z) "zip" := ⟨_, hz, rfl⟩
  unfold pyNext
  exact wpAny_bind (wpAny_attempt (wpAny_callSpecial?_slot (name := Str.ofString "__next__") hT F.slot_zip_next
    (wpAny_call_entry F.slot_zip_next hT F.entry_zip_next
      (zipH_item D hz hT0 hTI h1 h2 hl1 hl2 hx hy fun h' a1 a2 a3 a4 a5 => wpAny_pure (hQ h' a1 a2 a3 a4 a5)) (F.args_zip_next_1 _))))
theorem next_zipH_end {z TI TO i1 i2 l1 l2 T0 : Addr} {k1 : Nat} {xs : Array Value} {bb : Bool} {oT : Obj} {Q : Option Value → Shared → Prop} (hh : A.handled = none) (D : ZipApart z TI TO i1 i2 l1 l2)
    (hz : IsZipH s.heap z TI TO T0 bb) (hT0 : s.heap.get? T0 = some oT) (hTI : IsPair s.heap TI (.ref i1) (.ref i2))
    (h1 : s.heap.IsTupleIter i1 l1 k1) (hl1 : s.heap.IsTuple l1 xs) (hend : xs[k1]? = none)
    (hQ : ∀ h', (∀ c o, c ≠ z → c ≠ i1 → s.heap.get? c = some o → h'.get? c = some o) → Q none { s with heap := h' }) : wpAny (model prog w) A (pyNext (.ref z)) Q E s := by
  have hT : s.TypeIs (.ref z) "zip" := ⟨_, hz, rfl⟩
  unfold pyNext
  refine wpAny_bind (wpAny_attempt (wpAny_callSpecial?_slot (name := Str.ofString "__next__") hT F.slot_zip_next
    (wpAny_call_entry F.slot_zip_next hT F.entry_zip_next (zipH_end hh D hz hT0 hTI h1 hl1 hend fun h' e hk he => ?_) (F.args_zip_next_1 _))))
  obtain ⟨o, ho, hc⟩ := he
  refine wpAny_bind (wpAny_isInstance (T := "StopIteration") (b := true) ⟨o, ho, hc⟩ isSubtype_stop ?_)
  exact wpAny_pure (hQ _ hk)
theorem zip_no_len : typeLookup (.type "zip") "__len__" = pure none := by rw [typeLookup_type, builtinLookup_eq_fast]; kernel_rfl
theorem zip_no_hint : typeLookup (.type "zip") "__length_hint__" = pure none := by rw [typeLookup_type, builtinLookup_eq_fast]; kernel_rfl
end

/-- pairs, laid -/
def PairsAt (H : Hp) (xs ys : List V) (ts : List Addr) : Prop := ∀ (i : Nat) (t : Addr), ts[i]? = some t → ∃ x y, xs[i]? = some x ∧ ys[i]? = some y ∧ H t = some (.tup [x, y])
section
open PySem
variable {X : Cx} {pins : List (Addr × Obj)} {σ : L2.St}
def ZSt (h : Heap) (z TI TO : Addr) (ts : List Addr) : Prop := (ts = [] ∧ IsZip h z TI TO .none ∧ ∃ x y, IsPair h TO x y) ∨ ∃ T0 r b, ts = T0 :: r ∧ IsZipH h z TI TO T0 b
theorem zip_loop {A : Around} {a b z TI TO i1 i2 S : Addr} {xs ys : List V} {res : Value} {Rr : Result → Shared → Prop} {H0 : Hp} (hh : A.handled = none) (D : ZipApart z TI TO i1 i2 a b) (hS0 : H0 S = none)
    (hlen : xs.length = ys.length) (hsz : xs.length ≤ 1000000) :
    ∀ (k : Nat) (s : Shared) (H : Hp) (ts : List Addr), xs.length - ts.length = k → ts.length ≤ xs.length → Inv X pins σ H s → ZSt s.heap z TI TO ts → IsPair s.heap TI (.ref i1) (.ref i2) →
      s.heap.IsTupleIter i1 a ts.length → s.heap.IsTupleIter i2 b ts.length → SqT X.K H a xs → SqT X.K H b ys → H S = some (.lst (ts.map V.ref)) → PairsAt H xs ys ts → (∀ c o, H0 c = some o → H c = some o) →
      (∀ c ∈ [z, TI, TO, i1, i2], FpOk X pins H c) → (∀ c ∈ [z, TI, TO, i1, i2], c < s.heap.objs.size) →
      (∀ s' H' ts', Inv X pins σ H' s' → (∀ c o, H0 c = some o → H' c = some o) → H' S = some (.lst (ts'.map V.ref)) → ts'.length = xs.length → PairsAt H' xs ys ts' → Rr (.ok (.ret res)) s') →
      codeAny (model X.prog X.w) A (.builtin "list.extend.loop" ⟨[.ref S, .ref z, res], []⟩) Rr s := by
  intro k
  induction k with
  | zero =>
    intro s H ts hk hi I hz hTI h1 h2 qa qb hS hP hold hf hbd hR
    have hin : ts.length = xs.length := by omega
    obtain ⟨its, rv, p, _⟩ := I.tuple qa
    obtain ⟨its2, rv2, p2, _⟩ := I.tuple qb
    have hend : its.toArray[ts.length]? = none := by
      have := rv.length
      simp
      omega
    refine codeAny_builtin F.entry_extend_loop ?_
    rw [Around.under_plainId F.plain_extend_loop _]
    show wpAny _ A.in1 (pyNext (.ref z) >>= _) _ _ s
    refine wpAny_bind ?_
    have fin : ∀ h' : Heap, (∀ c o, c ≠ z → c ≠ TO → c ≠ i1 → c ≠ i2 → s.heap.get? c = some o → h'.get? c = some o) → Rr (.ok (.ret res)) { s with heap := h' } := fun h' hk' =>
      hR _ H ts (I.turnedL (t' := s.toks) (ch := [z, TI, TO, i1, i2]) (fun c o hb q => hk' c o (fun e => hb (by simp [e])) (fun e => hb (by simp [e])) (fun e => hb (by simp [e])) (fun e => hb (by simp [e])) q) hf) hold hS hin hP
    rcases hz with ⟨_, hz, x0, y0, hTO⟩ | ⟨T0, r, bb, rfl, hz⟩
    · exact RZ.pyNext_zipT_end (show A.in1.handled = none from hh) D hz hTI hTO h1 h2 p p2 (.inl hend) fun h' hk' => wpAny_pure (fin h' hk')
    · obtain ⟨x, y, _, _, hT0⟩ := hP 0 T0 rfl
      obtain ⟨_, its0, _, ⟨oT, hoT, _⟩⟩ : ObjOk X.prog X.w H s.heap T0 (.tup [x, y]) := I.hok T0 _ hT0
      exact next_zipH_end (show A.in1.handled = none from hh) D hz hoT hTI h1 p hend fun h' hk' => wpAny_pure (fin h' fun c o c1 _ c3 _ e => hk' c o c1 c3 e)
  | succ k ih =>
    intro s H ts hk hi I hz hTI h1 h2 qa qb hS hP hold hf hbd hR
    have hlt : ts.length < xs.length := by omega
    obtain ⟨its, rv, p, _⟩ := I.tuple qa
    obtain ⟨its2, rv2, p2, _⟩ := I.tuple qb
    have hx : xs[ts.length]? = some xs[ts.length] := List.getElem?_eq_getElem hlt
    have hlt2 : ts.length < ys.length := by omega
    have hy : ys[ts.length]? = some ys[ts.length] := List.getElem?_eq_getElem hlt2
    generalize xs[ts.length] = x at hx
    generalize ys[ts.length] = y at hy
    obtain ⟨u, hu, ru⟩ := rv.get hx
    obtain ⟨u2, hu2, ru2⟩ := rv2.get hy
    refine codeAny_builtin F.entry_extend_loop ?_
    rw [Around.under_plainId F.plain_extend_loop _]
    show wpAny _ A.in1 (pyNext (.ref z) >>= _) _ _ s
    refine wpAny_bind ?_
    have fin : ∀ h' : Heap, ZSt h' z TI TO (ts ++ [s.heap.objs.size]) → h'.IsTupleIter i1 a (ts.length + 1) → h'.IsTupleIter i2 b (ts.length + 1) → IsPair h' s.heap.objs.size u u2 →
        (∀ c o, c ≠ z → c ≠ TO → c ≠ i1 → c ≠ i2 → s.heap.get? c = some o → h'.get? c = some o) →
        wpAny (model X.prog X.w) A.in1 (updateSeq S (·.push (.ref s.heap.objs.size)) >>= fun _ => again (.builtin "list.extend.loop" ⟨[.ref S, .ref z, res], []⟩))
          (fun fin s' => match fin with | .done f => Rr (.ok f) s' | .again c' => c'.quiet = true ∧ codeAny (model X.prog X.w) A c' Rr s') (fun e s' => Rr (.error e) s') { s with heap := h' } := fun h' hz' h1' h2' hT hk' => by
      have hTI' : IsPair h' TI (.ref i1) (.ref i2) := hk' TI _ D.TIz D.TITO D.TIi1 D.TIi2 hTI
      have new : ObjOk X.prog X.w (upd H s.heap.objs.size (.tup [x, y])) h' s.heap.objs.size (.tup [x, y]) :=
        ⟨by show 2 ≤ sizeLine; decide, [u, u2], .cons ru (.cons ru2 .nil), ⟨_, hT, rfl, _, rfl⟩⟩
      have I1 : Inv X pins σ (upd H s.heap.objs.size (.tup [x, y])) { s with heap := h' } :=
        I.turnedNew (t' := s.toks) (ch := [z, TI, TO, i1, i2]) (fun c o hb q => hk' c o (fun e => hb (by simp [e])) (fun e => hb (by simp [e])) (fun e => hb (by simp [e])) (fun e => hb (by simp [e])) q) hf (Nat.le_refl _) new
      have fr : H s.heap.objs.size = none := I.hok.fresh (Nat.le_refl _)
      have sm : ∀ c o, H c = some o → upd H s.heap.objs.size (.tup [x, y]) c = some o := fun c o e => by
        rw [upd_ne (ne_of_none e fr)]
        exact e
      have hS1 := sm S _ hS
      obtain ⟨hz1, itsS, nS, rvS, eS⟩ : ObjOk X.prog X.w _ h' S (.lst (ts.map V.ref)) := I1.hok S _ hS1
      have lS : itsS.length = ts.length := by
        have := rvS.length
        simp at this
        omega
      have line := sizeLine_eq
      refine wpAny_bind (wpAny_updateSeq (s := { s with heap := h' }) eS rfl (wpAny_pure ⟨plainId_quiet F.plain_extend_loop _, ?_⟩) (by simp; omega) (by simp; omega))
      have eS2 := Heap.get?_update_self (Obj.mapSeq (·.push (Value.ref s.heap.objs.size))) eS rfl
      have I2 : Inv X pins σ (upd (upd H s.heap.objs.size (.tup [x, y])) S (.lst ((ts ++ [s.heap.objs.size]).map V.ref))) { s with heap := h'.update S (Obj.mapSeq (·.push (Value.ref s.heap.objs.size))) } :=
        I1.write (x := S) (e := S) (t' := s.toks) (by rw [hS1]; trivial) (.inl rfl) (fun c o hc e => (Heap.get?_update_other _ _ (Ne.symm hc)).trans e) ⟨_, eS2⟩ ⟨by rw [List.length_map, List.length_append]; simp; omega, itsS ++ [.ref s.heap.objs.size], _, by
            rw [List.map_append]
            exact rvS.append (.cons rfl .nil), by
            rw [eS2]
            simp [Obj.mapSeq]
            rfl⟩
      have nS' : ∀ c, H c = none → c ≠ S := fun c e e' => by
        rw [e', hS] at e
        cases e
      have oth : ∀ c o, c ≠ S → h'.get? c = some o → (h'.update S (Obj.mapSeq (·.push (Value.ref s.heap.objs.size)))).get? c = some o := fun c o hc e => (Heap.get?_update_other _ _ (Ne.symm hc)).trans e
      have up : ∀ c o, c ≠ S → H c = some o → upd (upd H s.heap.objs.size (.tup [x, y])) S (.lst ((ts ++ [s.heap.objs.size]).map V.ref)) c = some o := fun c o hc e => by
        rw [upd_ne hc]
        exact sm c o e
      have nz := fun c hc => nS' c (hf c hc).1
      have TS : s.heap.objs.size ≠ S := nS' _ fr
      refine ih _ _ (ts ++ [s.heap.objs.size]) (by rw [List.length_append]; simp; omega) (by rw [List.length_append]; simp; omega) I2 ?_ (oth _ _ (nz TI (by simp)) hTI') ?_ ?_ ?_ ?_ (by rw [upd_same]) ?_ ?_ ?_ ?_ hR
      · rcases hz' with ⟨e, _⟩ | ⟨T0, r, bb, e, hz'⟩
        · simp at e
        · exact .inr ⟨T0, r, bb, e, oth _ _ (nz z (by simp)) hz'⟩
      · rw [List.length_append]
        exact h1'.at fun o e => oth _ o (nz i1 (by simp)) e
      · rw [List.length_append]
        exact h2'.at fun o e => oth _ o (nz i2 (by simp)) e
      · rcases qa with (g | ⟨ob, g⟩) | g
        · exact .inl (.inl (up _ _ (fun e => by rw [e, hS] at g; cases g) g))
        · exact .inl (.inr ⟨ob, up _ _ (fun e => by rw [e, hS] at g; cases g) g⟩)
        · exact .inr g
      · rcases qb with (g | ⟨ob, g⟩) | g
        · exact .inl (.inl (up _ _ (fun e => by rw [e, hS] at g; cases g) g))
        · exact .inl (.inr ⟨ob, up _ _ (fun e => by rw [e, hS] at g; cases g) g⟩)
        · exact .inr g
      · intro i t e
        by_cases hi' : i < ts.length
        · rw [List.getElem?_append_left hi'] at e
          obtain ⟨x', y', e1, e2, e3⟩ := hP i t e
          exact ⟨x', y', e1, e2, up _ _ (fun e' => by rw [e', hS] at e3; cases e3) e3⟩
        · have hi2 : i = ts.length := by
            have := (List.getElem?_eq_some_iff.mp e).1
            simp at this
            omega
          subst hi2
          have : t = s.heap.objs.size := by
            rw [List.getElem?_append_right (Nat.le_refl _)] at e
            simpa using e.symm
          subst this
          exact ⟨x, y, hx, hy, by rw [upd_ne TS, upd_same]⟩
      · intro c o e
        refine up c o (fun e' => ?_) (hold c o e)
        rw [e', hS0] at e
        cases e
      · intro c hc
        obtain ⟨g1, g2⟩ := hf c hc
        refine ⟨?_, g2⟩
        rw [upd_ne (nz c hc), upd_ne (Nat.ne_of_lt (hbd c hc))]
        exact g1
      · intro c hc
        exact Nat.lt_trans (hbd c hc) (Heap.lt_size (oth _ _ TS hT))
    rcases hz with ⟨rfl, hz, x0, y0, hTO⟩ | ⟨T0, r, bb, rfl, hz⟩
    · exact RZ.pyNext_zipT_item D hz hTI hTO h1 h2 p p2 (x := u) (y := u2) (by simpa using hu) (by simpa using hu2) fun h' z' TO' h1' h2' hT hsz' hk' => fin h' (.inr ⟨_, [], false, rfl, z'⟩) h1' h2' hT hk'
    · obtain ⟨x', y', _, _, hT0⟩ := hP 0 T0 rfl
      obtain ⟨_, its0, _, ⟨oT, hoT, _⟩⟩ : ObjOk X.prog X.w H s.heap T0 (.tup [x', y']) := I.hok T0 _ hT0
      exact next_zipH_item D hz hoT hTI h1 h2 p p2 (x := u) (y := u2) (by simpa using hu) (by simpa using hu2) fun h' z' h1' h2' hT hk' => fin h' (.inr ⟨T0, r ++ [s.heap.objs.size], true, rfl, z'⟩) h1' h2' hT fun c o c1 _ c3 c4 e => hk' c o c1 c3 c4 e
/-- the call list(z) of a zip at its start -/
theorem call_list_zip {A : Around} {a b z TI TO i1 i2 : Addr} {xs ys : List V} {Q : Value → Shared → Prop} {E : Value → Shared → Prop} {s : Shared} {H : Hp} (hh : A.handled = none) (D : ZipApart z TI TO i1 i2 a b)
    (hlen : xs.length = ys.length) (hsz : xs.length ≤ 1000000) (I : Inv X pins σ H s) (hz : IsZip s.heap z TI TO .none) (hTI : IsPair s.heap TI (.ref i1) (.ref i2)) (hTO : ∃ x y, IsPair s.heap TO x y)
    (h1 : s.heap.IsTupleIter i1 a 0) (h2 : s.heap.IsTupleIter i2 b 0) (qa : SqT X.K H a xs) (qb : SqT X.K H b ys) (hf : ∀ c ∈ [z, TI, TO, i1, i2], FpOk X pins H c) (hbd : ∀ c ∈ [z, TI, TO, i1, i2], c < s.heap.objs.size)
    (hQ : ∀ s' H' ts S, Inv X pins σ H' s' → H S = none → (∀ c o, H c = some o → H' c = some o) → H' S = some (.lst (ts.map V.ref)) → ts.length = xs.length → PairsAt H' xs ys ts → Q (.ref S) s') :
    wpAny (model X.prog X.w) A (call (.type "list") [.ref z]) Q E s := by
  refine callType_codes (Q₁ := fun obj s₁ => obj = .ref s.heap.objs.size ∧ s₁ = { s with heap := s.heap.push { cls := .type "list", data := .seq #[] } }) F.called_list (F.typeCall_list_1 _) F.entry_list_init
    (code_list_new _ ⟨rfl, rfl⟩) fun obj s₁ h₁ => ?_
  obtain ⟨rfl, rfl⟩ := h₁
  have hS : (s.heap.push { cls := .type "list", data := .seq #[] }).get? s.heap.objs.size = some { cls := .type "list", data := .seq #[] } := Heap.get?_push_size _ rfl
  refine ⟨⟨_, hS, rfl⟩, F.args_list_init_2 _ _, ?_⟩
  obtain ⟨S, hSd⟩ : ∃ S, S = s.heap.objs.size := ⟨_, rfl⟩
  rw [← hSd] at hS ⊢
  have fr : H S = none := I.hok.fresh (Nat.le_of_eq hSd.symm)
  have k0 : ∀ c o, s.heap.get? c = some o → (s.heap.push { cls := .type "list", data := .seq #[] }).get? c = some o := fun c o e => Heap.get?_push_of_some _ e
  have nS : ∀ c o, s.heap.get? c = some o → c ≠ S := fun c o e => Nat.ne_of_lt (Nat.lt_of_lt_of_eq (Heap.lt_size e) hSd.symm)
  have hSz : S ≠ z := Nat.ne_of_gt (Nat.lt_of_lt_of_eq (hbd z (by simp)) hSd.symm)
  generalize s.heap.push { cls := .type "list", data := .seq #[] } = g0 at hS k0 ⊢
  show wpAny _ A.in1.in1 (do let old ← Builtin.List.listItems (.ref S); Builtin.List.listUpdate (.ref S) (fun _ => #[]); letGo old.toList.reverse; Builtin.List.listExtendWith (.ref S) (.ref z) .none) _ _ _
  refine wpAny_bind ?_
  unfold Builtin.List.listItems
  refine wpAny_bind (wpAny_seqItems (s := { s with heap := g0 }) hS rfl (wpAny_pure ?_))
  show wpAny _ A.in1.in1 (updateSeq S (fun _ => #[]) >>= fun _ => letGo (#[] : Array Value).toList.reverse >>= fun _ => Builtin.List.listExtendWith (.ref S) (.ref z) .none) _ _ _
  refine wpAny_bind (wpAny_updateSeq (s := { s with heap := g0 }) hS rfl ?_)
  have hS₂ := Heap.get?_update_self (Obj.mapSeq (fun _ => (#[] : Array Value))) hS rfl
  have oth : ∀ c o, s.heap.get? c = some o → (g0.update S (Obj.mapSeq (fun _ => (#[] : Array Value)))).get? c = some o := fun c o e => (Heap.get?_update_other _ _ (Ne.symm (nS c o e))).trans (k0 c o e)
  generalize g0.update S (Obj.mapSeq (fun _ => (#[] : Array Value))) = g1 at hS₂ oth ⊢
  refine wpAny_bind (wpAny_letGo ?_)
  have hT : ({ s with heap := g1 } : Shared).TypeIs (.ref z) "zip" := ⟨_, oth _ _ hz, rfl⟩
  unfold Builtin.List.listExtendWith
  refine wpAny_bind (wpAny_typeOf hT ?_)
  have e1 : Builtin.List.listSameRef (.ref S) (.ref z) = false := by simp [Builtin.List.listSameRef, hSz]
  have e2 : (Value.type "zip" == Value.type "list") = false := by decide
  have e3 : (Value.type "zip" == Value.type "tuple") = false := by decide
  simp only [e1, e2, e3, Bool.or_false, Bool.false_eq_true, if_false]
  refine wpAny_bind (wpAny_pyIter_zip (s := { s with heap := g1 }) (oth _ _ hz) ?_)
  refine wpAny_bind (wpAny_holding ?_)
  unfold Builtin.List.listLengthHint
  refine wpAny_bind (wpAny_specialOf hT zip_no_len ?_)
  show wpAny _ A.in1.in1 (specialOf (Value.ref z) (Str.ofString "__length_hint__") >>= _) _ _ _
  refine wpAny_bind (wpAny_specialOf hT zip_no_hint ?_)
  refine wpAny_pure ?_
  show wpAny _ A.in1.in1 (rule "list.extend.makes-room" >>= fun _ => Builtin.List.listTouch (.ref S) >>= fun _ =>
    again (.builtin "list.extend.loop" ⟨[.ref S, .ref z, .none], []⟩)) _ _ _
  refine wpAny_bind (wpAny_rule ?_)
  refine wpAny_bind ?_
  show wpAny _ A.in1.in1 (updateSeq S (·.push .none) >>= fun _ => updateSeq S (·.pop)) _ _ _
  refine wpAny_bind (wpAny_updateSeq (s := { s with heap := g1 }) hS₂ rfl ?_)
  have hS₃ := Heap.get?_update_self (Obj.mapSeq (·.push Value.none)) hS₂ rfl
  refine wpAny_updateSeq (hz := by seq_fits) (s := { s with heap := g1.update S (Obj.mapSeq (·.push Value.none)) }) hS₃ rfl ?_
  have hS₄ := Heap.get?_update_self (Obj.mapSeq (·.pop)) hS₃ rfl
  have oth2 : ∀ c o, s.heap.get? c = some o → ((g1.update S (Obj.mapSeq (·.push Value.none))).update S (Obj.mapSeq (·.pop))).get? c = some o :=
    fun c o e => (Heap.get?_update_other _ _ (Ne.symm (nS c o e))).trans ((Heap.get?_update_other _ _ (Ne.symm (nS c o e))).trans (oth c o e))
  generalize (g1.update S (Obj.mapSeq (·.push Value.none))).update S (Obj.mapSeq (·.pop)) = g2 at hS₄ oth2 ⊢
  have I2 : Inv X pins σ (upd H S (.lst [])) { s with heap := g2 } := I.laid (t' := s.toks) oth2 (Nat.le_of_eq hSd.symm) (show ObjOk X.prog X.w _ g2 _ (.lst []) from ⟨Nat.zero_le _, [], _, .nil, hS₄⟩)
  have sm : ∀ c o, H c = some o → upd H S (.lst []) c = some o := fun c o e => by
    rw [upd_ne (ne_of_none e fr)]
    exact e
  refine wpAny_pure ⟨plainId_quiet F.plain_extend_loop _, zip_loop (A := A.in1) (H0 := H) (X := X) (pins := pins) (σ := σ) hh D fr hlen hsz _ _ (upd H S (.lst [])) [] rfl (Nat.zero_le _) I2 (.inl ⟨rfl, oth2 _ _ hz, let ⟨x, y, e⟩ := hTO; ⟨x, y, oth2 _ _ e⟩⟩) (oth2 _ _ hTI) (h1.at fun o e => oth2 _ o e) (h2.at fun o e => oth2 _ o e) ?_ ?_ (by rw [upd_same]; rfl) (fun i t e => by cases e) sm ?_ ?_ fun s' H' ts' I' k' q' l' p' => ⟨rfl, hQ s' H' ts' S I' fr k' q' l' p'⟩⟩
  · rcases qa with (g | ⟨ob, g⟩) | g
    · exact .inl (.inl (sm _ _ g))
    · exact .inl (.inr ⟨ob, sm _ _ g⟩)
    · exact .inr g
  · rcases qb with (g | ⟨ob, g⟩) | g
    · exact .inl (.inl (sm _ _ g))
    · exact .inl (.inr ⟨ob, sm _ _ g⟩)
    · exact .inr g
  · intro c hc
    obtain ⟨q1, q2⟩ := hf c hc
    refine ⟨?_, q2⟩
    rw [upd_ne (Nat.ne_of_lt (Nat.lt_of_lt_of_eq (hbd c hc) hSd.symm))]
    exact q1
  · intro c hc
    exact Nat.lt_trans (Nat.lt_of_lt_of_eq (hbd c hc) hSd.symm) (Heap.lt_size hS₄)
/-- list(zip(a, b)) of two tuples of one length -/
def tLZip (K : PySem.W.Frag) (ta : TA) : TE := fun σ H Q => ta σ H fun vs H1 => ∃ a b xs ys, vs = [.ref a, .ref b] ∧ SqT K H1 a xs ∧ SqT K H1 b ys ∧ xs.length = ys.length ∧ xs.length ≤ 1000000 ∧
  ∀ H' ts S, H1 S = none → (∀ c o, H1 c = some o → H' c = some o) → H' S = some (.lst (ts.map V.ref)) → ts.length = xs.length → PairsAt H' xs ys ts → Q (.ref S) H'
theorem k_lzip {K : PySem.W.Frag} {e e2 : Expr} {ta : TA} {p p0 pos pos0 : Pos} (hK : X.K = K) (hc : X.calm = true) (hg0 : Gl X "list") (hm0 : X.mg "list" = none) (hg : Gl X "zip") (hm : X.mg "zip" = none) (ha : PA X [e, e2] ta)
    (hs : starEach [e, e2] X.env = (false, eval e X.env) :: starEach [e2] X.env := by rfl) (hpl : (backTo pos (starEach [e2] X.env)).any (·.1) = false := by rfl)
    (hs0 : starEach [Expr.Call (.Name "zip" p) [e, e2] [] pos] X.env = (false, eval (Expr.Call (.Name "zip" p) [e, e2] [] pos) X.env) :: starEach [] X.env := by rfl) :
    PE X (.Call (.Name "list" p0) [.Call (.Name "zip" p) [e, e2] [] pos] [] pos0) (tLZip K ta) := by
  subst hK
  refine ⟨fun pins s σ H Q I h => ?_⟩
  refine Call_ (ld_blt I hg0 hm0 PyProof.Rows.boot_list (PyProof.Rows.callWith_type1 ?_ hs0 rfl))
  rw [hs0]
  show wpAny _ _ (spliced ((false, _) :: backTo pos0 (starEach [] X.env))) _ _ s
  refine Calls.spliced_cons ?_
  refine Call_ (ld_blt I hg hm PyProof.Rows.boot_zip (PyProof.Rows.callWith_type1 (thn (ha.run pos pins s σ H _ I h) fun us s1 ⟨vs, H1, I1, r1, q1⟩ => ?_) hs hpl))
  obtain ⟨a, b, xs, ys, ex, qa, qb, hlen, hsz, q⟩ := q1
  subst ex
  cases r1 with
  | cons r rr =>
    cases rr with
    | cons r' rr =>
      cases rr
      cases r
      cases r'
      obtain ⟨its, rv, p1, _⟩ := I1.tuple qa
      obtain ⟨its2, rv2, p2, _⟩ := I1.tuple qb
      obtain ⟨o1, ho1, _⟩ := id p1
      obtain ⟨o2, ho2, _⟩ := id p2
      refine RZ.call_zipT (show s1.heap.IsTuple a its.toArray from p1) (show s1.heap.IsTuple b its2.toArray from p2) fun h' hz hTI hTO h1 h2 hsz' hk => ?_
      have I2 : Inv X pins σ H1 { s1 with heap := h' } := I1.kept (t' := s1.toks) hk
      have five : ∀ c, c ∈ [s1.heap.objs.size + 4, s1.heap.objs.size + 2, s1.heap.objs.size + 3, s1.heap.objs.size, s1.heap.objs.size + 1] → s1.heap.objs.size ≤ c ∧ c < s1.heap.objs.size + 5 := fun c hcm => by
        have e' : c = s1.heap.objs.size + 4 ∨ c = s1.heap.objs.size + 2 ∨ c = s1.heap.objs.size + 3 ∨ c = s1.heap.objs.size ∨ c = s1.heap.objs.size + 1 := by simpa using hcm
        omega
      refine Calls.spliced_nil ?_
      refine call_list_zip (X := X) (pins := pins) (σ := σ) (I2.ok.hd hc) (PySem.W.ktu_apart s1.heap.objs.size a b (Heap.lt_size ho1) (Heap.lt_size ho2)) hlen hsz I2 hz hTI ⟨_, _, hTO⟩ h1 h2 qa qb (fun c hcm => I1.fpOk (five c hcm).1 (I1.hok.fresh (five c hcm).1)) (fun c hcm => by
        show c < h'.objs.size
        rw [hsz']
        exact (five c hcm).2) fun s' H' ts S I' hS k' q' l' p' => ⟨.ref S, H', I', rfl, q H' ts S hS k' q' l' p'⟩
end
section
variable {K : PySem.W.Frag}
theorem pairs_at {W : Wd} {H : Hp} : ∀ (ts : List Addr) (xs ys : List V) (as bs : List D), AtAll K W H xs as → AtAll K W H ys bs → xs.length = ys.length → ts.length = xs.length → PairsAt H xs ys ts → AtAll K W H (ts.map V.ref) (zipD as bs)
  | [], xs, ys, as, bs, ha, hb, hl, ht, hp => by
    cases xs with
    | nil =>
      cases ha
      exact .nil
    | cons x xs => cases ht
  | t :: ts, xs, ys, as, bs, ha, hb, hl, ht, hp => by
    cases xs with
    | nil => cases ht
    | cons x xs =>
      cases ys with
      | nil => cases hl
      | cons y ys =>
        cases ha with
        | cons a1 a2 =>
          cases hb with
          | cons b1 b2 =>
            obtain ⟨x', y', e1, e2, e3⟩ := hp 0 t rfl
            cases e1
            cases e2
            exact .cons (.tup (SqT.of e3) (.cons a1 (.cons b1 .nil))) (pairs_at ts xs ys _ _ a2 b2 (Nat.succ.inj hl) (Nat.succ.inj ht) fun i t' e => hp (i + 1) t' e)
def aLZip (g : AA) : AE := fun ρ n Q => g ρ n fun ds n1 => match ds with
  | [.tup as, .tup bs] => as.length = bs.length ∧ as.length ≤ 1000000 ∧ Q (.lst (zipD as bs)) n1
  | _ => False
instance {ta : TA} {g : AA} [DA K ta g] : DE K (tLZip K ta) (aLZip g) := ⟨fun W σ ρ n H Q Qa hQ hE o h =>
  DA.run (te := ta) (f := g) W σ ρ n H _ _ (fun ds n1 h1 H1 vs l1 o1 ax => by
    split at h1
    · obtain ⟨e1, e2, h1⟩ := h1
      cases ax with
      | cons a r =>
        cases r with
        | cons b r =>
          cases r
          cases a with
          | tup sa aa =>
            cases b with
            | tup sb ab =>
              have la := aa.length
              have lb := ab.length
              refine ⟨_, _, _, _, rfl, sa, sb, by omega, by omega, fun H' ts S hS k' q' l' p' => ?_⟩
              have sm : Same H1 H' := k'
              exact hQ _ _ h1 H' _ (l1.trans (Wd.le_same sm)) (o1.same sm) (.lst (o1.fresh hS) q' (pairs_at ts _ _ _ _ (AtAll.le o1 (Wd.le_same sm) _ aa) (AtAll.le o1 (Wd.le_same sm) _ ab) (by omega) l' p'))
    · exact h1.elim) hE o h⟩
end

section
variable {P : Program} {w : World} {K : PySem.W.Frag} {mg : Str → Option Value} {base : Heap} {A : Ad}
/-! CUT -/
end
/-! ### own errors whose __init__ says super().__init__(..) and stores fields -/
section
open NdefX PySem.W
/-- what the text says of C's own __init__, at f -/
structure SupI (P : Program) (K : PySem.W.Frag) (qual : Str) (pa : Arguments) (body : List Stmt) (sc : Scope) (C f : Addr) (fd : FuncData) : Prop where
  fn : ∃ (oc : Value) (od : Option Addr) (kV doc pm ct : Value) (an : Option Addr) (cda cc : Addr) (osl : Array (Option Value)) (ccl : Value) (cdd : Option Addr) (vs : Array Value) (ccs : Array (Option Value)) (file : Str) (tf : Tok) (cl : Value) (cld : Option Addr) (csl : Array (Option Value)),
    fd = ksFn "__init__" qual pa body sc .none kV doc pm an (.ref cda) ct cc ∧ K.lookup f = some ⟨oc, od, .func fd, osl⟩ ∧ codeIn K (.ref cda) qual = true ∧ K.lookup cda = some ⟨ccl, cdd, .fields vs, ccs⟩ ∧ vs[2]? = some (.str file tf) ∧ ((P.main.file : Str) == file) = true ∧ K.lookup cc = some ⟨cl, cld, .cell (some (.ref C)), csl⟩
  top : (P.main.scope.names.lookup ("super" : Str)).isSome = false
  sup : ks_superIn K C C "__init__" = some (some (.builtin "ValueError.__init__"))
  ve : subIn K (.ref C) (.type "ValueError") = some true
  op : nsIn K cStatics "thirdparty.any" = some none
  gl : nsIn K mainGlobals "super" = some none
  mro : mroIn K C (.ref C) = some true
theorem mw_call {prog : Program} {w : World} {A : Around} {E : Value → Shared → Prop} {h : Heap} {g : Array GenState} {d : Drawn} {t : Nat} {os : OsState}
    {nm q : Str} {C N : Addr} {bs bm : List Value} {hdct : Bool} {sn : List Str} {sub : List Value} {ab : Bool} {col : Option Bool} {dd : Option Addr} {k0 k1 k2 k3 k5 : Option Value} {u e t0 : Addr} {rest : List Value} {Q : Value → Shared → Prop}
    (hC : h.get? C = some (excClassObj nm q C N bs bm hdct sn sub ab col dd k0 k1 k2 k3 k5 "ValueError.__new__")) (he : h.get? e = some ({ cls := .ref C, dict := none, data := .fields #[.ref t0, .none, .none, .none, .bool false, .none] } : Obj)) (hu : h.get? u = some (kxs_mw "ValueError.__init__" e)) (hrest : rest.length ≤ sizeLine)
    (hq : ∀ h' t1, (∀ b o, b ≠ e → h.get? b = some o → h'.get? b = some o) → h'.get? e = some ({ cls := .ref C, dict := none, data := .fields #[.ref t1, .none, .none, .none, .bool false, .none] } : Obj) → Q .none ⟨h', g, d, t, os⟩) :
    wpAny (model prog w) A (call (.ref u) rest) Q E ⟨h, g, d, t, os⟩ := by
  refine wpAny_call (codeAny_of_tree ?_)
  show wpAny _ A.in1 (callAny (.ref u) ⟨rest, []⟩) _ _ _
  simp only [callAny]
  refine wpAny_bind (wpAny_load hu ?_)
  simp only [kxs_mw, show (Value.type "method-wrapper" == Value.type "method" || Value.type "method-wrapper" == Value.type "builtin_function_or_method" || Value.type "method-wrapper" == Value.type "method-wrapper") = true by decide, if_true]
  refine KFB.if_so (by decide) ?_
  refine wpAny_bind (check_bound_init F.excBase_ValueError.toExcCallFacts hC he rfl ?_)
  refine wpAny_bind (wpAny_pure (wpAny_pure ?_))
  refine ⟨plainId_quiet F.excBase_ValueError.init.plain _, codeAny_builtin F.excBase_ValueError.initEntry ?_⟩
  rw [Around.under_plainId F.excBase_ValueError.init.plain _]
  wp_walk
  refine hq _ h.objs.size (fun b o hb ho => ?_) ?_
  · rw [Heap.get?_update_other _ _ (Ne.symm hb)]
    exact Heap.get?_push_of_some _ ho
  · rw [Heap.get?_update_self _ (Heap.get?_push_of_some _ he) rfl]
    rfl
theorem fn_super {CX : CXT} {P : Program} {w : World} {K : PySem.W.Frag} {mg : Str → Option Value} {base : Heap} {k : Nat} {qual : Str} {pa : Arguments} {sc : Scope} {C f : Addr} {fd : FuncData} {N ps : List Str} {sp : Sp} {e : Expr} {es : List Expr} {rest : List Stmt} {p0 p1 p2 p3 p4 : Pos} {ar : Arg} {body : List Stmt}
    (S : SupI P K qual pa body sc C f fd) (hbd : body = .Expr (.Call (.Attribute (.Call (.Name "super" p0) [] [] p1) "__init__" p2) (e :: es) [] p3) p4 :: rest) (O : OexC K C) (SC : NScope N (("self" : Str) :: ps) ["__class__"] sc) (hks : sc.names.lookup ("super" : Str) = some .globalImplicit)
    (hpa : (pa.posonlyargs ++ pa.args).head? = some ar) (har : ar.arg = "self") (len : ∀ vs H Q E, sp vs H Q E → vs.length = (("self" : Str) :: ps).length)
    (hev : ∀ env, ∃ pl : Sem Bool, eval (.Call (.Attribute (.Call (.Name "super" p0) [] [] p1) "__init__" p2) (e :: es) [] p3) env = (do
      let ov ← attributeBase (.Call (.Name "super" p0) [] [] p1) "__init__" env (eval (.Call (.Name "super" p0) [] [] p1) env)
      standAt p2.atName
      let (f, first) ← holding [ov] (getMethod ov "__init__" pl)
      callWith p3 f first (backTo p3 (starEach (e :: es) env)) []))
    (hi : ∀ L a cd cc, interactive (ksEnv qual sc L a cd cc) = false) (hsw : ∀ env, swapsWith (.Call (.Attribute (.Call (.Name "super" p0) [] [] p1) "__init__" p2) (e :: es) [] p3) none p4.line env = pure false)
    (he : ∀ env, starEach (e :: es) env = (false, eval e env) :: starEach es env) (hpl : ∀ env pos, (backTo pos (starEach es env)).any (·.1) = false)
    (hbody : ∀ (cda cc : Addr) (A : Around) (outer : List Env) (s : Shared) (H : Hp) (vs : List V) (Q : VK) (E : XK), Room k (A.deeper (ksEnv qual sc s.heap.objs.size f (.ref cda) cc)) → sp vs H Q E →
      ∃ (ta : TA) (t : TS) (a : Addr) (wr : List V), PA (ncx CX P w K mg base N ⟨"__init__", qual, pa, body, sc, [("__class__", cc)], cda⟩ f A outer s H E) (e :: es) ta ∧ PSs (ncx CX P w K mg base N ⟨"__init__", qual, pa, body, sc, [("__class__", cc)], cda⟩ f A outer s H E) rest t ∧ vs = .ref a :: wr ∧ H a = some (exo a C none) ∧
        ta (startF N vs [none]) H fun us H1 => us.length ≤ 1000 ∧ H1 a = some (exo a C none) ∧ t { nx := fun _ H' => Q .non H', rt := Q } (startF N vs [none]) H1) : FnOk P w K mg base CX (k + 1) f fd (("self" : Str) :: ps) sp := by
  refine ⟨len, fun A outer s H args us vs Q E hr e0 hb r hsp => ?_⟩
  obtain ⟨oc, od, kV, doc, pm, ct, an, cda, cc, osl, ccl, cdd, cvs, ccs, file, tf, cl, cld, csl, rfl, lk, hcd, hcode, hvs, hfile, hcell⟩ := S.fn
  obtain ⟨ta, t, a, wr, hPA, hPS, rfl, hHa, hrun⟩ := hbody cda cc A outer s H vs Q E (hr.deeper _) hsp
  have hl := len _ _ _ _ hsp
  have KX : K.In s.heap := e0.mod.kin.keeps fun b o e => (e0.bs b o e).1
  have lim : s.heap.NoLimit := e0.mod.nolimit.keeps fun b o e => (e0.bs b o e).1
  refine ks_codeAny_call_defAt (binds := (("self" : Str) :: ps).zip us) hr.depth (KX _ _ lk) rfl lim (codeRec_of KX hcd) rfl hb SC.nocell (fun x hx => SC.par x.1 (List.of_mem_zip hx).1) (fun h₁ hns kp => ?_) SC.co SC.gen SC.kind
  have CA : CellsAt [("__class__", cc)] ["__class__"] [none] s.heap H := by
    have hc := e0.bs cc _ (e0.mod.kin _ _ hcell)
    refine ⟨rfl, fun y c hy => ?_, fun x y c h1 h2 => ?_, fun i y hy => ?_⟩
    · have e1 : c = cc := by
        simp only [List.lookup] at hy
        split at hy <;> simp_all
      subst e1
      exact ⟨hc.2, _, _, hc.1, rfl⟩
    · simp only [List.lookup] at h1 h2
      split at h1 <;> split at h2 <;> simp_all
    · match i, hy with
      | 0, hy =>
        cases hy
        exact ⟨cc, by simp [List.lookup], fun v hv => by cases hv⟩
      | i + 1, hy => cases hy
  have I : Inv (ncx CX P w K mg base N ⟨"__init__", qual, pa, body, sc, [("__class__", cc)], cda⟩ f A outer s H E) [] (startF N (V.ref a :: wr) [none]) H { s with heap := h₁, toks := s.toks + ((("self" : Str) :: ps).zip us).length } := inv_startN SC hr.hd e0 hl r CA hns kp
  obtain ⟨nm, q, Nc, bs, bm, sn, sub, ab, col, dd, k0, k1, k2, k3, k5, hC, hbm⟩ := O.cls
  obtain ⟨cdD, hD⟩ : ∃ cdD, clsIn K C = some cdD := by
    unfold clsIn
    rw [hC]
    exact ⟨_, rfl⟩
  obtain ⟨oD, hD1, hD2⟩ : ∃ oD, h₁.get? C = some oD ∧ oD.data = .cls cdD := by
    unfold clsIn at hD
    split at hD
    · rename_i c d cd' sl ho
      cases hD
      exact ⟨_, I.kIn _ _ ho, rfl⟩
    · cases hD
  obtain ⟨mb, hmb1, hmb2⟩ := I.mod.blt
  obtain ⟨u0, ur, rfl⟩ : ∃ u0 ur, us = u0 :: ur := by
    cases r with
    | cons a b => exact ⟨_, _, rfl⟩
  have hu0 : u0 = Value.ref a := by
    cases r with
    | cons a b => exact a
  subst hu0
  obtain ⟨t0, hx⟩ := exo_at I.hok hHa
  have hkc : sc.names.lookup ("__class__" : Str) = some .free := SC.frk _ (by simp)
  have hka : sc.names.lookup ("self" : Str) = some .local := SC.par _ (by simp)
  have ndP : ((("self" : Str) :: ps)).Nodup := by
    have q := SC.nd.sublist (List.take_sublist ((("self" : Str) :: ps).length + (["__class__"] : List Str).length) N)
    rw [SC.pre] at q
    exact (List.nodup_append.mp q).1
  rw [show ∀ env, execs body env = execs (.Expr (.Call (.Attribute (.Call (.Name "super" p0) [] [] p1) "__init__" p2) (e :: es) [] p3) p4 :: rest) env from fun env => by rw [hbd]]
  obtain ⟨pl, hev⟩ := hev (ksEnv qual sc s.heap.objs.size f (.ref cda) cc)
  refine ks_wpAt_execs_cons (ks_wpAt_Expr_any (ks_wpAt_MethodCall (ks_wpAt_super_base hks hkc (by decide) rfl (I.kIn _ _ lk) rfl hpa rfl (I.kIn _ _ hcode) rfl hvs hfile S.top ?_) hev) (hi _ _ _ _) (hsw _))
  refine ks_loadName_global SC.kind hks (Calls.loadGlobal_builtin (I.mod.glob.keeps I.bk) (mg_none_of I.mod.kin I.mod.glob S.gl) (hmb1.keeps I.bk) ((hmb2 "super" (by decide)).trans (by decide +kernel : bootBuiltins "super" = some (.type "super"))) ⟨rfl, ?_⟩)
  refine wpAny_loadName_free SC.kind hkc (c := cc) rfl ⟨_, I.kIn _ _ hcell, rfl⟩ ?_
  rw [har]
  refine wpAny_loadName_local SC.kind hka hns (zip_look (i := 0) ndP rfl rfl) ?_
  refine ks_wpAny_isType_cls hD1 hD2 ⟨rfl, ?_⟩
  refine ks_wpAny_call_super hD1 hD2 hx rfl (fun c z => by cases z) (looks_mroIn I.kIn S.mro) (fun h2 e2 k2' => ?_)
  have I2 := I.kept (t' := s.toks + (((("self" : Str) :: ps)).zip (Value.ref a :: ur)).length) k2'
  obtain ⟨t2, hx2⟩ := exo_at I2.hok hHa
  have J2 : InstAt h2 a ({ cls := .ref C, dict := none, data := .fields #[.ref t2, .none, .none, .none, .bool false, .none] } : Obj) C none := ⟨hx2, rfl, rfl, trivial⟩
  have hf : alongIn K "__init__" ((cdD.mro.dropWhile (· != .ref C)).drop 1) = some (some (.builtin "ValueError.__init__")) := by
    have z := S.sup
    unfold ks_superIn at z
    rw [hD] at z
    exact z
  refine kxs_getMethod kxs_ValueError e2 (looks_opaque I2.kIn S.op) (l₀ := cdD.mro) (fun A Q E s k q => wpAny_bind ((looks_clsIn I2.kIn hD) A _ E s k (wpAny_pure q))) rfl I2.kIn hf (J2.type.andThen (looks_subIn I2.kIn S.ve)) (ks_ne I2.kIn J2 hD) (by decide) ?_
  have I3 := I2.kept (t' := s.toks + (((("self" : Str) :: ps)).zip (Value.ref a :: ur)).length + 1) (h' := h2.push (kxs_mw "ValueError.__init__" a)) fun b o z => Heap.get?_push_of_some _ z
  have I4 := I3.pins_of (pins' := [(h2.objs.size, kxs_mw "ValueError.__init__" a)]) fun p hp => by
    rw [List.mem_singleton.mp hp]
    exact ⟨Heap.get?_push_at rfl rfl, I2.hok.fresh (Nat.le_refl _), Nat.ne_of_gt I2.lt, I2.nofs (Nat.le_refl _), fun v z => by cases z⟩
  show wpAny _ _ (callWith p3 (.ref h2.objs.size) [] (backTo p3 (starEach (e :: es) _)) []) _ _ _
  rw [he]
  refine kxs_callWith (i := "ValueError.__init__") (x := a) (by show (false || (backTo p3 (starEach es _)).any (·.1)) = false; rw [hpl]; rfl) ?_
  have hsp := hPA.run p3 _ _ _ _ _ I4 hrun
  rw [he] at hsp
  refine Calls.evalArgs_plain (wpAny_mono hsp (fun vs4 s4 h4 => ?_) fun _ _ z => z)
  obtain ⟨wvs, H4, I5, r5, hlen, hH4, q4⟩ := h4
  obtain ⟨hu5, _⟩ := I5.pin (h2.objs.size, kxs_mw "ValueError.__init__" a) (List.mem_append_right _ List.mem_cons_self)
  refine ⟨hu5, ?_⟩
  obtain ⟨t5, hx5⟩ := exo_at I5.hok hH4
  have hC5 := I5.kIn _ _ hC
  obtain ⟨h5, g5, d5, tk5, os5⟩ := s4
  refine mw_call hC5 hx5 hu5 (by rw [List.nil_append, ← Paired.length r5, sizeLine_eq]; omega) fun h6 t6 k6 hx6 => ?_
  have J := I5.write (t' := tk5) (x := a) (e := a) (o := exo a C none) (by rw [hH4]; exact True.intro) (.inl rfl) k6 ⟨_, hx6⟩ (exo_ok hx6)
  have eu : upd H4 a (exo a C none) = H4 := by
    funext b
    by_cases hb : b = a
    · rw [hb, upd_same, hH4]
    · rw [upd_ne hb]
  rw [eu] at J
  have J' := J.pins_of (pins' := []) fun p hp => by cases hp
  refine wpAt_of_wpAny (wpAny_mono (hPS.run [] _ _ H4 _ J' q4) (fun fl s' hs => ?_) fun e s' hs => hs)
  have fin : ∀ {σ' : L2.St} {H' : Hp} {v : V} {u : Value}, Inv (ncx CX P w K mg base N ⟨"__init__", qual, pa, body, sc, [("__class__", cc)], cda⟩ f A outer s H E) [] σ' H' s' → L2.RelV v u → Q v H' → CE outer P w H s Q u s' :=
    fun {σ' H' v u} J rv q => ⟨v, H', J.os, J.bare, J.base, J.hok, rv, q⟩
  cases fl with
  | ret u =>
    obtain ⟨v, σ', H', J, rv, q⟩ := hs
    exact fin J rv q
  | next =>
    obtain ⟨σ', H', J, q⟩ := hs
    exact fin (v := V.non) (u := Value.none) J rfl q
  | brk =>
    obtain ⟨_, _, _, q⟩ := hs
    exact False.elim q
  | cont =>
    obtain ⟨_, _, _, q⟩ := hs
    exact False.elim q
end
section
open PySem.W
/-- C(e, ..), the context None (L2N) -/
theorem pmk_oexN {X : Cx} {CX : CXT} {x : Str} {e : Expr} {es : List Expr} {ta : TA} {p pos : Pos} {C fI : Addr} {k : Nat} {fd : FuncData} {ps : List Str} {sp : Sp} (T : OexC X.K C) (iC : PySem.W.findIn X.K (.ref C) "__init__" = some (some (.ref fI))) (tI : PySem.W.typeIn X.K (.ref fI) = some (.type "function"))
    (F1 : FnOk X.prog X.w X.K X.mg X.base CX k fI fd ps sp) (hr : Room (k + 1) X.A) (hb : Binds X.K fd ps []) (hx : Passes CX X (fun _ _ _ => False)) (hg : Gl X x) (hm : X.mg x = some (.ref C)) (ha : PA X (e :: es) ta)
    (hdb : (x == ("__debug__" : Str)) = false := by decide) (he : starEach (e :: es) X.env = (false, eval e X.env) :: starEach es X.env := by rfl) (hpl : (backTo pos (starEach es X.env)).any (·.1) = false := by rfl) :
    L2N.PMk X (.Call (.Name x p) (e :: es) [] pos) (tMkO C sp [] ta) := by
  intro pins s σ H Q I h
  obtain ⟨nm, q, N, bs, bm, sn, sub, ab, col, dd, k0, k1, k2, k3, k5, hC, hbm⟩ := T.cls
  refine wpAny_Call_Name_kw (ld_glob I hg hm ?_ hdb)
  refine PySem.W.callWith_K (h₀ := X.base) I.ok.mod.kin T.kC (thn (ha.run pos pins s σ H _ I h) fun us s1 ⟨vs, H1, I1, r1, hz, q1⟩ => ⟨I1.kIn, ?_⟩) he hpl
  show wpAny _ _ (call (.ref C) us) _ _ _
  obtain ⟨hp, g, dr, tk, os⟩ := s1
  have hsz : hp.objs.size ≤ hp.objs.size + 1 := Nat.le_succ _
  have hn : H1 (hp.objs.size + 1) = none := I1.hok.fresh hsz
  have hq := q1 (hp.objs.size + 1) hn
  have kk : ∀ b o, hp.get? b = some o → ((hp.push (PySem.W.kdv_tup us)).push (PySem.HandSPX.excO C hp.objs.size)).get? b = some o := fun b o e => Heap.get?_push_of_some _ (Heap.get?_push_of_some _ e)
  have hget : ((hp.push (PySem.W.kdv_tup us)).push (PySem.HandSPX.excO C hp.objs.size)).get? (hp.objs.size + 1) = some (PySem.HandSPX.excO C hp.objs.size) := by heap_get
  have I2 : Inv X pins σ (upd H1 (hp.objs.size + 1) (exo (hp.objs.size + 1) C none)) ⟨(hp.push (PySem.W.kdv_tup us)).push (PySem.HandSPX.excO C hp.objs.size), g, dr, tk, os⟩ :=
    I1.laid (t' := tk) (a := hp.objs.size + 1) (o := exo (hp.objs.size + 1) C none) (h' := (hp.push (PySem.W.kdv_tup us)).push (PySem.HandSPX.excO C hp.objs.size)) kk hsz (exo_ok hget)
  have r2 : Vals (V.ref (hp.objs.size + 1) :: (vs ++ [])) (Value.ref (hp.objs.size + 1) :: (us ++ [])) := .cons rfl (r1.append .nil)
  have hl : (Value.ref (hp.objs.size + 1) :: us ++ []).length = ps.length := by
    have e := r2.length
    rw [F1.len _ _ _ _ hq] at e
    exact e.symm
  have hus : us.length ≤ sizeLine := by
    rw [← Paired.length r1, sizeLine_eq]
    omega
  refine wpAny_call (PySem.HandSPX.call_own F.excBase_ValueError (fun Y => PySem.HandSPX.refsVE_contains Y bm hbm) (I1.kIn _ _ hC) (PySem.W.looks_findIn I1.kIn iC) (fun self => PySem.W.bind_fn I1.kIn self tI) hus
    (codeAny_mono (F1.run _ X.stack _ _ ⟨Value.ref (hp.objs.size + 1) :: us, []⟩ (Value.ref (hp.objs.size + 1) :: us ++ []) _ _ (fun _ _ _ => False) (hr.make C us []) (I2.env0.make C us []) (show BindsTo _ fd _ (ps.zip (Value.ref (hp.objs.size + 1) :: us ++ [])) from hb _ (Value.ref (hp.objs.size + 1) :: us) I2.kIn hl) (show Vals (V.ref (hp.objs.size + 1) :: (vs ++ [])) (Value.ref (hp.objs.size + 1) :: us ++ []) from r2) hq) fun r s' hq' => ?_))
  cases r with
  | error er => exact hx pins σ _ _ er s' I2 hq'
  | ok fl =>
    cases fl with
    | ret u =>
      obtain ⟨v, H2, os2, bare2, un2, hok2, rv, ev, d, fs, ea, ed, hd1, q2⟩ := hq'
      subst ev
      obtain ⟨h2, g2, d2, t2, os'⟩ := s'
      obtain ⟨t0, G, J, kG, ge, hoe, na⟩ := mk_end0 (d2 := d2) (t2 := t2) I1 hsz kk un2 hok2 os2 bare2 ea ed hd1
      exact ⟨rv, hp.objs.size + 1, _, _, ⟨G, g2, d2, t2, os'⟩, _, .ref C, some d, rfl, J, kG, ge, hoe, ⟨rfl, rfl, fun vs hv => by cases hv; rfl⟩, rfl, rfl, na, rfl, bare2, raises_own T.exC T.tyC, q2⟩
    | next => exact False.elim hq'
    | brk => exact False.elim hq'
    | cont => exact False.elim hq'
/-! isinstance of a caught error, with fields or without -/
theorem findObj_dataA {K : Frag} {od : Option Obj} {C : Addr} {name : Str} {a g : Value} (hc : (clsIn K C).isSome = true) (ha : findIn K (.ref C) name = some (some a)) (hg : specialIn K a "__get__" = some (some g)) (ht : takesIn K a = some true) : findObj K C od name = some (.bind g a) := by
  obtain ⟨cd, hc⟩ := Option.isSome_iff_exists.mp hc
  unfold findObj
  rw [hc, Option.bind_some, ha, Option.bind_some]
  simp [hg, ht]
theorem kin_classEA {prog : Program} {w : World} {A : Around} {E : Value → Shared → Prop} {s : Shared} {K : Frag} {x D : Addr} {ox : Obj} {od : Option Obj} {Q : Option Value → Shared → Prop} (C : ExcC K D)
    (X : K.In s.heap) (I : InstAt s.heap x ox D od) (h : Q (some (.ref D)) { s with toks := s.toks + 1 }) : wpAny (model prog w) A (getAttr? (.ref x) "__class__") Q E s := by
  have hf : findObj K D od "__class__" = some (.bind (.builtin "getset_descriptor.__get__") (.builtin "object.__class__")) := findObj_dataA (by obtain ⟨cd, hc, _⟩ := any_some C.hd; rw [hc]; rfl) C.ha C.hn C.ht
  obtain ⟨hp, g, d, t, os⟩ := s
  have L0 := I.type (M := model prog w)
  have L1 := looks_findIn (M := model prog w) X C.hg
  have L2 := looks_findIn (M := model prog w) X C.hk
  have L3 := looks_find (M := model prog w) X I hf
  have sub : Looks (model prog w) hp (isInstance (.ref x) (.type "BaseException")) true := L0.andThen (looks_subIn X C.hs)
  have hx0 : (false && onTheHeap (Value.builtin "BaseException.__getattribute__")) = false := rfl
  have hx2 : (Value.builtin "BaseException.__getattribute__" == Value.builtin "object.__getattribute__") = false := by decide +kernel
  have hx1 : (onTheHeap (Value.ref D) && Value.builtin "BaseException.__getattribute__" == Value.builtin "object.__getattribute__") = false := by rw [hx2]; rfl
  unfold getAttr? getAttrBy? getAttrBy
  refine wpAny_bind (wpAny_mkText (wpAny_bind (wpAny_attempt (wpAny_holding (wpAny_bind (L0.at (wpAny_bind (L1.at ?_))))))))
  show wpAny _ _ (if (onTheHeap (Value.ref D) && Value.builtin "BaseException.__getattribute__" == Value.builtin "object.__getattribute__") = true then _ else _) _ _ _
  rw [hx1, if_neg Bool.false_ne_true]
  unfold getAttrByItsOwn hookBefore
  refine wpAny_bind ?_
  rw [if_pos (show onTheHeap (Value.ref D) = true from rfl)]
  refine L2.at ?_
  refine wpAny_bind (wpAny_attempt (wpAny_holding ?_))
  unfold callGetattribute
  rw [hx0, if_neg Bool.false_ne_true]
  unfold boundAndCalled
  rw [PySem.F.excAttr_ValueError.ga.bind (.ref x)]
  refine wpAny_bind (wpAny_pure ?_)
  show wpAny _ _ (call (.builtin "BaseException.__getattribute__") [.ref x, .str "__class__" t]) _ _ _
  refine wpAny_call (codeAny_call_builtin PySem.F.excAttr_ValueError.ga.plain PySem.F.entry_bexc_ga ?_)
  refine @check_slot (model prog w) _ _ ⟨hp, g, d, t + 1, os⟩ "BaseException.__getattribute__" "BaseException" "__getattribute__" (.ref x) [.str "__class__" t] [] _ (by decide +kernel) (by decide +kernel) sub (PySem.F.args_bexc_ga (.ref x) (.str "__class__" t)) ?_
  unfold Builtin.«object.__getattribute__»
  refine wpAny_bind (wpAny_of_eq (a := ((Value.ref x : Value), [Value.str "__class__" t])) (by first | rfl | (simp only [slotArgs]; rfl)) ?_)
  refine wpAny_bind (wpAny_pure (wpAny_bind (L0.at (wpAny_bind (L3.at ?_)))))
  show wpAny _ _ (holding [Value.builtin "object.__class__"] (call (.builtin "getset_descriptor.__get__") [.builtin "object.__class__", .ref x, .ref D]) >>= ret) _ _ _
  refine wpAny_bind (wpAny_holding (wpAny_call (class_get (s := ⟨hp, g, d, t + 1, os⟩) (ox := ox) (od := od) X I C.hm ?_)))
  refine wpAny_pure ?_
  show wpAny _ _ (handedOut (.ref D)) _ _ _
  rw [handedOut_of (v := .ref D) rfl]
  first
    | exact wpAny_pure (wpAny_pure h)
    | exact wpAny_pure h
    | exact wpAny_pure (wpAny_bind (wpAny_pure (wpAny_pure h)))
theorem kitx_excA {K : Frag} {x D : Addr} {ox : Obj} (C : ExcC K D) : KitX K (.ref x) (.ref D) (fun h => ∃ od, InstAt h x ox D od) where
  ty := fun _ _ _ ⟨_, I⟩ => I.type
  it := fun _ _ X _ => by
    obtain ⟨cdD, hcD, _⟩ := any_some C.hd
    unfold clsIn at hcD
    split at hcD
    · rename_i c' d' cd' sl' ho
      intro A' Q' E' s' k q
      unfold isType loadHead
      exact wpAny_bind (wpAny_loadPart (k _ _ (X _ _ ho)) (wpAny_pure q))
    · cases hcD
  ne := fun h tp dd its n sl X htp => by
    obtain ⟨cdD, hcD, _⟩ := any_some C.hd
    refine Bool.eq_false_iff.mpr fun q => ?_
    have e : D = tp := Value.ref.inj (beq_iff_eq.mp q)
    subst e
    unfold clsIn at hcD
    split at hcD
    · rename_i c' d' cd' sl' ho
      have z := (X _ _ ho).symm.trans htp
      cases z
    · cases hcD
  ca := fun X ⟨_, I⟩ k => kin_classEA C X I k
end

/-! ### errors in the mirror: raise, calls that may raise, try -/
section
variable {K : PySem.W.Frag} {ow : List Nat} {Wx : WX}
abbrev AX := Addr → List Str → List D → Nat → Prop
/-- what is wanted of an error that a def lets out -/
def WantsD (K : PySem.W.Frag) (W : Wd) (H : Hp) (Xa : AX) (E : XK) : Prop := ∀ C ns ds n', Xa C ns ds n' → ∀ H' d, W.le H H' → W.ok K n' H' → XdAt K W H' d ns ds → E (.ref C) d H'
theorem WantsD.le {W : Wd} {H H1 : Hp} {Xa : AX} {E : XK} (h : WantsD K W H Xa E) (l : W.le H H1) : WantsD K W H1 Xa E := fun C ns ds n' q H' d l' o x => h C ns ds n' q H' d (l.trans l') o x
abbrev ASX := List D → Nat → (D → Nat → Prop) → AX → Prop
/-- the promise of a def that may raise -/
def spE (K : PySem.W.Frag) (k : Nat) (B : ASX) : Sp := fun vs H Q E => ∃ (W : Wd) (n : Nat) (ds : List D) (Qa : D → Nat → Prop) (Xa : AX), AtAll K W H vs ds ∧ ds.length = k ∧ W.ok K n H ∧ Wants K W H Qa Q ∧ WantsD K W H Xa E ∧ B ds n Qa Xa
theorem XdAt.weak {W W' : Wd} {H : Hp} {d : Option Addr} {ns : List Str} {ds : List D} (hr : ∀ a, W'.rs a → W.rs a) (hd : W'.dk = W.dk) (h : XdAt K W H d ns ds) : XdAt K W' H d ns ds := At.weak hr hd _ h
def aTopX (Q : D → Nat → Prop) (X : AX) : AEn := { nx := fun _ n => Q .non n, rt := Q, ex := fun _ C ns ds n => X C ns ds n }
theorem fn_mirX {P : Program} {w : World} {mg : Str → Option Value} {base : Heap} {x qual : Str} {st : Stmt} {f : Addr} {fd : FuncData} {N ps : List Str} {k : Nat} {B : ASX} (ow : List Nat) (kk : Nat) (hk : N.length = kk) (hp : ps.length ≤ kk) (ho : ∀ i ∈ ow, ps.length ≤ i) (F : Fun K x qual st f fd) (S : FnScope N ps (defScope st))
    (hbody : ∀ (cdv : Value) (Ar : Around) (outer : List Env) (s : Shared) (H : Hp) (E : XK), Room k (Ar.deeper (envOfC qual (defScope st) s.heap.objs.size f cdv)) →
      ∃ (t : TS) (fa : AS), PSs (cxOf (L2N.CX P w) P w K mg base N qual (defScope st) f cdv Ar outer s H E) (defBody st) t ∧ DS K (fun c d _ H => E c d H) ow t fa ∧ ∀ ds n Q X, ds.length = ps.length → B ds n Q X → fa (aTopX Q X) (startA kk ds) n) : FnOk P w K mg base (L2N.CX P w) (k + 1) f fd ps (spE K ps.length B) := by
  obtain ⟨oc, od, kV, doc, pm, an, cdv, ct, osl, rfl, lk, hcd⟩ := F.ex
  refine fn_of lk hcd S (fun vs H Q E h => ?_) fun Ar outer s H vs Q E hr h => ?_
  · obtain ⟨W, n, ds, Qa, Xa, a, hl, _⟩ := h
    rw [a.length, hl]
  · obtain ⟨W, n, ds, Qa, Xa, a, hl, o, hQ, hX, hA⟩ := h
    obtain ⟨t, fa, h1, h2, h3⟩ := hbody cdv Ar outer s H E hr
    refine ⟨t, h1, DS.run (Wx := fun c d _ H => E c d H) (ow := ow) (t := t) (f := fa) W [] (L2.start N vs) (startA kk ds) n H _ (aTopX Qa Xa) ⟨fun ρ' n' q U' σ' H' l' s' => hQ _ _ q H' _ (le_start l') s'.base .non, fun d n' q U1 H1 H' v l' l2 o' a' => hQ _ _ q H' v ((le_start l').trans l2) o' a', fun _ _ q => q.elim, fun _ _ q => q.elim, fun ρ' C ns es n' q U' σ' H' d l' s' xd => ?_⟩ (start_ok hk (by omega) (fun i hi => by rw [hl]; exact ho i hi) a o) (h3 ds n Qa Xa hl hA)⟩
    exact hX C ns es n' q H' d (le_start l') s'.base (xd.weak (fun a h => Wd.rs_plus.mpr (.inr h)) rfl)
/-! a call that may raise, at a statement's top -/
def tCallE (K : PySem.W.Frag) (k : Nat) (B : ASX) (Wx : WX) (ta : TA) : TE := tCallS (spE K k B) (WE Wx) ta
theorem callE_run {k : Nat} {B : ASX} {ta : TA} {g : AA} [DA K ta g] {W : Wd} {σ : L2.St} {ρ : Env'} {n : Nat} {H : Hp} {Q : VK} {Qa : D → Nat → Prop} {Xa : AX} (hQ : Wants K W H Qa Q) (hX : WantsD K W H Xa (WE Wx σ)) (hE : EnvAt K W H σ ρ) (o : W.ok K n H)
    (h : g ρ n fun ds n1 => match Nat.beq ds.length k with
      | true => B ds n1 Qa Xa
      | false => False) : tCallE K k B Wx ta σ H Q :=
  DA.run (te := ta) (f := g) W σ ρ n H _ _ (fun ds n1 h1 H1 xs l1 o1 ax => by
    split at h1
    · rename_i e
      exact ⟨W, n1, ds, Qa, Xa, ax, Nat.eq_of_beq_eq_true e, o1, hQ.le l1, hX.le l1, h1⟩
    · exact h1.elim) hE o h
def aCX (k : Nat) (B : ASX) (g : AA) (ow : List Nat) (Q : AEn → Env' → D → Nat → Prop) : AS := fun E ρ n => g (wipeA ρ ow) n fun ds n1 => match Nat.beq ds.length k with
  | true => B ds n1 (Q E ρ) (E.ex ρ)
  | false => False
theorem wants_ex {W : Wd} {U : List (Addr × HO)} {σ : L2.St} {ρ : Env'} {n : Nat} {H : Hp} {E : Ends} {Ea : AEn} (hD : EndsOk K Wx W ow U H Ea E) (s : SOk K W ow n H σ ρ U) : WantsD K (W.plus U) H (Ea.ex ρ) (WE Wx σ) := fun C ns ds n' q H' d l' o' xd => hD.ex ρ C ns ds n' q U σ H' d (.hid l') (s.le l' o') xd
instance (priority := 1200) {k : Nat} {B : ASX} {ta : TA} {g : AA} {gt : TG} {a : D → Option (List (Nat × D))} [DA K ta g] [DG K gt a] : DS K Wx ow (tAsg (tCallE K k B Wx ta) gt) (aCX k B g ow fun E ρ d n2 => aPut ow a d ρ fun ρ' => E.nx ρ' n2) := ⟨fun W U σ ρ n H E Ea hD s h =>
  callE_run (g := g) (W := W.plus U) (fun d n2 h2 H2 v l2 o2 av => put_run (g := gt) (a := a) (s.le l2 o2) av h2 fun ρ' σ' q s' => hD.nx _ _ q U σ' H2 (.hid l2) s') (wants_ex hD s) s.hid s.ok h⟩
instance (priority := 1200) {k : Nat} {B : ASX} {ta : TA} {g : AA} [DA K ta g] : DS K Wx ow (tDrop (tCallE K k B Wx ta)) (aCX k B g ow fun E ρ _ n2 => E.nx ρ n2) := ⟨fun W U σ ρ n H E Ea hD s h =>
  callE_run (g := g) (W := W.plus U) (fun d n2 h2 H2 v l2 o2 av => hD.nx _ _ h2 U σ H2 (.hid l2) (s.le l2 o2)) (wants_ex hD s) s.hid s.ok h⟩
instance (priority := 1200) {k : Nat} {B : ASX} {ta : TA} {g : AA} [DA K ta g] : DS K Wx ow (tRet (tCallE K k B Wx ta)) (aCX k B g ow fun E _ d n2 => E.rt d n2) := ⟨fun W U σ ρ n H E Ea hD s h =>
  callE_run (g := g) (W := W.plus U) (fun d n2 h2 H2 v l2 o2 av => hD.rt d n2 h2 U H2 H2 v (.hid l2) Wd.le_refl (s.le l2 o2).base (At.weak (fun a h => Wd.rs_plus.mpr (.inr h)) rfl _ av)) (wants_ex hD s) s.hid s.ok h⟩
/-! raise -/
def tRse (tm : L2.St → Hp → XK → Prop) (Wx : WX) : TS := fun _ σ H => tm σ H fun cls d H' => Wx cls d σ H'
theorem k_rse {X : Cx} {W : WX} {e : Expr} {t : L2.St → Hp → XK → Prop} {pos : Pos} (hc : X.calm = true) (tk : L2N.Takes X W) (he : L2N.PMk X e t) : PS X (.Raise (some e) none pos) (tRse t W) := L2N.ps_raise hc tk he
def tMk0 (C : Addr) : L2.St → Hp → XK → Prop := fun _ H Q => Q (.ref C) none H
def aRse0 (C : Addr) : AS := fun E ρ n => E.ex ρ C [] [] n
instance {C : Addr} : DS K Wx ow (tRse (tMk0 C) Wx) (aRse0 C) := ⟨fun W U σ ρ n H E Ea hD s h => hD.ex ρ C [] [] n h U σ H none Stp.refl s .xcp0⟩
/-- the promise of an own __init__: the fields ns, of what is handed in -/
def spIni (K : PySem.W.Frag) (C : Addr) (ns : List Str) (G : List D → Prop) : Sp := fun vs H Q _ => ∃ (a : Addr) (ws : List V) (W : Wd) (ds : List D) (n : Nat), vs = .ref a :: ws ∧ AtAll K W H ws ds ∧ W.ok K n H ∧ G ds ∧ ws.length = ns.length ∧ H a = some (exo a C none) ∧
  ∀ (dx : Addr) (H' : Hp), H dx = none → dx ≠ a → H' a = some (exo a C (some dx)) → H' dx = some (exd dx (ns.zip ws).reverse) → (∀ b, b ≠ a → b ≠ dx → H' b = H b) → Q .non H'
theorem zip_rev : ∀ {ns : List Str} {ws : List V}, ns.length = ws.length → (ns.zip ws).reverse = ns.reverse.zip ws.reverse
  | [], [], _ => rfl
  | [], _ :: _, h => by cases h
  | _ :: _, [], h => by cases h
  | x :: ns, y :: ws, h => by
    have h' : ns.length = ws.length := Nat.succ.inj h
    rw [List.zip_cons_cons, List.reverse_cons, List.reverse_cons, List.reverse_cons, List.zip_append (by rw [List.length_reverse, List.length_reverse]; exact h'), zip_rev h']
    rfl
def aRseO (C : Addr) (ns : List Str) (G : List D → Prop) (g : AA) (ow : List Nat) : AS := fun E ρ n => g (wipeA ρ ow) n fun ds n1 => (G ds ∧ ds.length = ns.length ∧ ns.length ≤ 900) ∧ E.ex ρ C ns.reverse ds.reverse n1
instance {C : Addr} {ns : List Str} {G : List D → Prop} {ta : TA} {g : AA} [DA K ta g] : DS K Wx ow (tRse (tMkO C (spIni K C ns G) [] ta) Wx) (aRseO C ns G g ow) := ⟨fun W U σ ρ n H E Ea hD s h => by
  refine DA.run (te := ta) (f := g) (W.plus U) σ _ n H _ _ (fun ds n1 h1 H1 xs l1 o1 ax => ?_) s.hid s.ok h
  obtain ⟨⟨hG, hl, hz⟩, q⟩ := h1
  have hx := ax.length
  refine ⟨by omega, fun a ha => ?_⟩
  have sm : Same H1 (upd H1 a (exo a C none)) := same_upd ha
  refine ⟨a, xs ++ [], W.plus U, ds, n1, rfl, by rw [List.append_nil]; exact AtAll.le o1 (Wd.le_same sm) _ ax, o1.same sm, hG, by rw [List.append_nil]; omega, upd_same, fun dx H' h1 h2 h3 h4 h5 => ?_⟩
  have h1' : H1 dx = none := by rw [upd_ne h2] at h1; exact h1
  refine ⟨rfl, dx, _, h3, h4, h1', ?_⟩
  have eH : upd (del H' a) dx (.xd (ns.zip (xs ++ [])).reverse) = upd H1 dx (.xd (ns.zip (xs ++ [])).reverse) := by
    funext b
    by_cases e1 : b = dx
    · rw [e1, upd_same, upd_same]
    · rw [upd_ne e1, upd_ne e1]
      by_cases e2 : b = a
      · rw [e2, del_same, ha]
      · rw [del_ne e2, h5 b e2 e1, upd_ne e2]
  rw [eH, List.append_nil, zip_rev (by omega)]
  have sm2 : Same H1 (upd H1 dx (.xd (ns.reverse.zip xs.reverse))) := same_upd h1'
  have l2 : (W.plus U).le H1 (upd H1 dx (.xd (ns.reverse.zip xs.reverse))) := Wd.le_same sm2
  refine hD.ex ρ C _ _ n1 q U σ _ (some dx) (.hid (l1.trans l2)) (s.le (l1.trans l2) (o1.same sm2)) ?_
  exact At.xcp1 upd_same (by rw [List.length_reverse, List.length_reverse]; omega) (AtAll.le o1 l2 _ (rev_at ax))⟩
/-! try -/
def tTry (K : PySem.W.Frag) (c : Value) (i : Nat) (tb : WX → TS) (ts : Addr → Value → Option Addr → TS) (Wout : WX) : TS := fun D σ H => tb (wAs K c i ts Wout D) D σ H
theorem SOk.clear {W : Wd} {n : Nat} {H : Hp} {σ : L2.St} {ρ : Env'} {U : List (Addr × HO)} {i : Nat} (s : SOk K W ow n H σ ρ U) : SOk K W ow n H (σ.set i none) (eSet ρ i none) U := by
  have key : ∀ j d, eGet (eSet ρ i none) j = some d → i ≠ j ∧ eGet ρ j = some d := fun j d e => by
    by_cases hij : i = j
    · subst hij
      cases (eGet_set e).2
    · rw [eGet_ne hij] at e
      exact ⟨hij, e⟩
  refine ⟨s.nd, s.nr, s.ok, by rw [List.length_set, eSet_length]; exact s.len, fun j d hj he => ?_, fun j d hj he => ?_, fun j k p hj hk ne h1 h2 => ?_⟩
  · obtain ⟨hij, he⟩ := key j d he
    rw [List.getElem?_set_ne hij]
    exact s.env j d hj he
  · obtain ⟨hij, he⟩ := key j d he
    rw [List.getElem?_set_ne hij]
    exact s.own j d hj he
  · have hij : i ≠ j := fun z => by
      subst z
      by_cases hl : i < σ.length
      · rw [List.getElem?_set_self hl] at h1
        cases h1
      · rw [List.getElem?_eq_none (by simpa using hl)] at h1
        cases h1
    have hik : i ≠ k := fun z => by
      subst z
      by_cases hl : i < σ.length
      · rw [List.getElem?_set_self hl] at h2
        cases h2
      · rw [List.getElem?_eq_none (by simpa using hl)] at h2
        cases h2
    rw [List.getElem?_set_ne hij] at h1
    rw [List.getElem?_set_ne hik] at h2
    rw [eGet_ne hij, eGet_ne hik]
    exact s.dst j k p hj hk ne h1 h2
def aTry (K : PySem.W.Frag) (ow : List Nat) (c : Value) (i : Nat) (fb : AS) (fs : Addr → Value → Option Addr → AS) : AS := fun E ρ n =>
  i ∉ ow ∧ fb { E with ex := fun ρ' C ns ds n' => ∃ b, PySem.W.exmOne K (.ref C) c = some b ∧ (b = true → ∀ a d, fs a (.ref C) d { nx := fun ρ2 n2 => E.nx (eSet ρ2 i none) n2, rt := E.rt, bk := fun ρ2 n2 => E.bk (eSet ρ2 i none) n2, ct := fun ρ2 n2 => E.ct (eSet ρ2 i none) n2 } (eSet ρ' i (some (.xcp a C d ns ds))) n') ∧ (b = false → E.ex ρ' C ns ds n') } ρ n
instance {c : Value} {i : Nat} {tb : WX → TS} {ts : Addr → Value → Option Addr → TS} {fb : AS} {fs : Addr → Value → Option Addr → AS} [hb : ∀ W', DS K W' ow (tb W') fb] [hs : ∀ a cls d, DS K W0 ow (ts a cls d) (fs a cls d)] : DS K Wx ow (tTry K c i tb ts Wx) (aTry K ow c i fb fs) := ⟨fun W U σ ρ n H E Ea hD s h => by
  obtain ⟨hi, h⟩ := h
  refine (hb (wAs K c i ts Wx E)).run W U σ ρ n H E _ ?_ s h
  refine ⟨hD.nx, hD.rt, hD.bk, hD.ct, fun ρ' C ns ds n' q U' σ' H' d st so xd => ?_⟩
  obtain ⟨b, e1, e2, e3⟩ := q
  refine ⟨b, e1, fun eb a ha => ?_, fun eb => hD.ex ρ' C ns ds n' (e3 eb) U' σ' H' d st so xd⟩
  refine (hs a (.ref C) d).run W U' (σ'.set i (some (.ref a))) (eSet ρ' i (some (.xcp a C d ns ds))) n' H' _ _ ?_ (so.set hi (xd.any a C)) (e2 eb a d)
  refine ⟨fun ρ2 n2 q U2 σ2 H2 st2 s2 => ?_, fun d2 n2 q U1 H1 H2 v l1 l2 o2 a2 => hD.rt d2 n2 q U1 H1 H2 v (st.trans l1) l2 o2 a2, fun ρ2 n2 q U2 σ2 H2 st2 s2 => ?_, fun ρ2 n2 q U2 σ2 H2 st2 s2 => ?_, fun _ _ _ _ _ q => q.elim⟩
  · exact hD.nx _ _ q U2 _ H2 (st.trans st2) s2.clear
  · exact hD.bk _ _ q U2 _ H2 (st.trans st2) s2.clear
  · exact hD.ct _ _ q U2 _ H2 (st.trans st2) s2.clear⟩
/-! a caught error's field, its class -/
def aXf (a : Addr) (cls : Value) (d : Option Addr) (C : Addr) (f : Str) (fa : AE) : AE := fun ρ n Q => fa ρ n fun x n1 => match x with
  | .xcp a' _ d' ns ds => (a' = a ∧ cls = .ref C ∧ d = d') ∧ ∃ v, (ns.zip ds).lookup f = some v ∧ Q v n1
  | _ => False
instance {a : Addr} {cls : Value} {d : Option Addr} {C : Addr} {f : Str} {te : TE} {fa : AE} [DE K te fa] : DE K (tXf a cls d C f te) (aXf a cls d C f fa) := ⟨fun W σ ρ n H Q Qa hQ hE o h =>
  DE.run (te := te) (f := fa) W σ ρ n H _ _ (fun x n1 h1 H1 v l1 o1 ax => by
    split at h1
    · obtain ⟨⟨rfl, rfl, rfl⟩, y, e, q⟩ := h1
      cases ax with
      | xcp0 => cases e
      | @xcp1 _ _ dx ns xs ds s e' b =>
        obtain ⟨z, h1, h2⟩ := lookup_at b e
        exact ⟨rfl, rfl, dx, _, z, rfl, s, h1, (hQ.le l1).now o1 q h2⟩
    · exact h1.elim) hE o h⟩
theorem k_callE {X : Cx} {e : Expr} {k : Nat} {B : ASX} {W : WX} {ta : TA} (h : PE X e (tCallS (spE K k B) (WE W) ta)) : PE X e (tCallE K k B W ta) := h
theorem takesN0 {X : Cx} : L2N.Takes X W0 := fun u s' ⟨_, _, _, _, _, _, _, _, _, _, _, _, _, _, _, _, w⟩ => w.elim
theorem k_try {X : Cx} {x n : Str} {c : Value} {i : Nat} {body suite : List Stmt} {b₀ : Stmt} {np pos pos' : Pos} {tb : WX → TS} {ts : Addr → Value → Option Addr → TS} {Wout : WX} (hK : X.K = K) (hs : X.stack = X.env :: X.outer) (hf : X.env.frame = some X.env.locals) (hN : X.N.Nodup) (hi : X.N[i]? = some n) (hln : X.env.kindOf n = some .local) (hc : Names X x c) (tk : L2N.Takes X Wout)
    (hb : ∀ (W : WX) (pn : List (Addr × Obj)) (xe : Value → Shared → Prop), L2N.Takes (X.tr pn xe) W → PassesOwn (model X.prog X.w) X.A X.env xe → PSs (X.tr pn xe) body (tb W))
    (hsu : ∀ (a : Addr) (oe : Obj) (cls : Value) (d : Option Addr) (pn : List (Addr × Obj)), L2N.Zn cls d oe → (∃ vs, oe.data = .fields vs) → PSs (X.suite a ((a, oe) :: pn)) (b₀ :: suite) (ts a cls d)) :
    PS X (.Try body [.ExceptHandler (some (.Name x np)) (some n) (b₀ :: suite) pos'] [] [] pos) (tTry K c i tb ts Wout) := hK ▸ L2N.ps_try_as hs hf hN hi hln hc tk hb hsu
/-! a suite in which the error's class is known -/
def tOwnM (D : Addr) (cls : Value) (t : TS) : TS := fun e σ H => cls = .ref D ∧ t e σ H
theorem suite_ownM {X : Cx} {ss : List Stmt} {t : TS} {D : Addr} {oe : Obj} {cls : Value} {d : Option Addr} (hz : L2N.Zn cls d oe) (h : L2N.Zn (.ref D) d oe → PSs X ss t) : PSs X ss (tOwnM D cls t) := ⟨fun pins s σ H E I q => by
  obtain ⟨rfl, q⟩ := q
  exact (h hz).run pins s σ H E I q⟩
def aOwnM (D : Addr) (cls : Value) (f : AS) : AS := fun E ρ n => cls = .ref D ∧ f E ρ n
instance {D : Addr} {cls : Value} {t : TS} {f : AS} [DS K Wx ow t f] : DS K Wx ow (tOwnM D cls t) (aOwnM D cls f) := ⟨fun W U σ ρ n H E Ea hD s h => ⟨h.1, DS.run (ow := ow) (t := t) (f := f) W U σ ρ n H E Ea hD s h.2⟩⟩
/-! isinstance(e, C) -/
def rIsX (K : PySem.W.Frag) (D a : Addr) (d : Option Addr) : List V → Hp → VK → Prop := fun xs H Q => (d = none ∨ ∃ (dx : Addr) (fs : List (Str × V)), d = some dx ∧ H dx = some (.xd fs)) ∧ rIsE K D a xs H Q
theorem call_isX {X : Cx} {a D : Addr} {oe : Obj} {d : Option Addr} {pn : List (Addr × Obj)} (hK : X.K = K) (C : ExcC K D) (hz : L2N.Zn (.ref D) d oe) (hf : ∃ vs, oe.data = .fields vs) : CallR (X.suite a ((a, oe) :: pn)) (.builtin "isinstance") (rIsX K D a d) := by
  subst hK
  intro pins s σ H xs us Q I r h
  obtain ⟨hdd, c, cv, b, rfl, hcv, e, q⟩ := h
  cases r with
  | cons rx rr =>
    cases rr with
    | cons rt rr =>
      cases rr
      cases rx
      have ec := hcv _ rt
      subst ec
      obtain ⟨hget, _⟩ := I.pin (a, oe) (List.mem_append.mpr (.inl List.mem_cons_self))
      obtain ⟨vs, hv⟩ := hf
      have J : ∃ od, PySem.W.InstAt s.heap a oe D od := by
        rcases hdd with hd | ⟨dx, fs, hd, hx⟩
        · obtain ⟨oc, od, oda, osl⟩ := oe
          obtain ⟨h1, h2, _⟩ := hz
          dsimp only at h1 h2 hv
          subst h1 h2 hv
          subst hd
          exact ⟨none, hget, rfl, rfl, trivial⟩
        · have hx' : ObjOk X.prog X.w H s.heap dx (.xd fs) := I.hok dx _ hx
          obtain ⟨mA, hns, hr⟩ := hx'
          obtain ⟨od, ho, hl⟩ := lookIn_ns hns
          exact ⟨some od, hget, hz.1, by unfold PySem.W.notCls; rw [hv] <;> rfl, by rw [hz.2.1, hd]; exact ho⟩
      exact PySem.W.kia_one (kitx_excA (x := a) (ox := oe) C) I.kIn J e (fun z => nomatch z) fun tk => ⟨.bl b, H, I.kept (t' := tk) fun _ _ z => z, rfl, q⟩
def cvD : D → Option Value
  | .cls c => some (.ref c)
  | .ty t => some (.type t.nm)
  | _ => none
theorem cv_rel {W : Wd} {H : Hp} {y : V} {u cv : Value} {c : D} (e : cvD c = some cv) (a : At K W H y c) (ru : RelV y u) : u = cv := by
  cases c with
  | cls c => cases e; cases a; exact ru
  | ty t => cases e; cases a; exact ru
  | _ => cases e
def aIsX (K : PySem.W.Frag) (C0 a : Addr) (d : Option Addr) : List D → Nat → (D → Nat → Prop) → Prop
  | [.xcp a' _ d' _ _, c], n, Q => (a' = a ∧ d' = d) ∧ ∃ cv b, cvD c = some cv ∧ PySem.W.kitOne K (.ref C0) cv = some b ∧ Q (.bl b) n
  | _, _, _ => False
instance {C a : Addr} {d : Option Addr} : DL K (rIsX K C a d) (aIsX K C a d) := ⟨fun W n H xs ds Q Qa hQ o av h => by
  unfold aIsX at h
  split at h
  · obtain ⟨⟨rfl, rfl⟩, cv, b, e1, e2, q⟩ := h
    cases av with
    | @cons x _ _ _ a1 r =>
      cases r with
      | @cons y _ _ _ a2 r =>
        cases r
        have e3 : ∀ u, RelV y u → u = cv := fun u ru => cv_rel e1 a2 ru
        cases a1 with
        | xcp0 => exact ⟨.inl rfl, y, cv, b, rfl, e3, e2, hQ.now o q (.bl _)⟩
        | xcp1 s e a3 => exact ⟨.inr ⟨_, _, rfl, s⟩, y, cv, b, rfl, e3, e2, hQ.now o q (.bl _)⟩
  · exact h.elim⟩
end

/-! ### an error out of a comprehension's element: noted at the def's frame, the block let go, passed on -/
section
variable {M : Model} {A : Around} {E : Value → Shared → Prop} {s s' : Shared} {Z : Obj → Prop} {base : Heap} {env cenv : Env} {outer l : List Env} {L e : Addr} {m : Str → Option Value}
theorem passOn_heldZ {what : String} {Q : Value → Shared → Prop} (hf : cenv.frame = some L) (hh : HandSPX.HeldZ base l e Z L s.heap)
    (hQ : ∀ h', HandSPX.HeldZ base l e Z L h' → s.heap.UpToSlots h' → E (.ref e) { s with heap := h' }) : wpAny M A (PySem.passOn what (.ref e) cenv : Sem Value) Q E s := by
  obtain ⟨f1, f2, f3, f4⟩ := hh
  have f4' := f4
  obtain ⟨oe, vs, T, oT, ts, he, hz, hd, h1, hnT, hTe, hT, hdT, h3⟩ := f4'
  unfold PySem.passOn
  refine wpAny_bind (wpAny_field he hd h1 ?_)
  rw [if_neg (show ¬ ((Value.ref T == Value.none) = true) from by simp), hf]
  refine wpAny_bind (HandSPX.setFlight_anyZ (fr := some L) f1 f3 f4 fun h' k1 k2 k3 k4 => wpAny_throw ?_)
  exact hQ h' ⟨k1, f2, k2, k3⟩ k4
theorem heldZ_sameBut {h h2 : Heap} {C : Addr} {m2 : Str → Option Value} (hbC : base.get? C = none) (hn : h.Ns C m) (hn2 : h2.Ns C m2) (hs : Heap.SameBut C h h2) (hh : HandSPX.HeldZ base l e Z L h) : HandSPX.HeldZ base l e Z L h2 := by
  obtain ⟨f1, f2, f3, oe, vs, T, oT, ts, he, hz, hd, h1, hnT, hTe, hT, hdT, h3⟩ := hh
  obtain ⟨oC, es, ep, hoC, hdC, r⟩ := hn
  have neC : ∀ b o xs, h.get? b = some o → o.data = .fields xs → b ≠ C := fun b o xs e1 e2 z => by
    rw [z, hoC] at e1
    cases e1
    rw [hdC] at e2
    cases e2
  refine ⟨fun b o hb => (hs.2 b fun q => by rw [q, hbC] at hb; cases hb).trans (f1 b o hb), f2, Heap.FunFrames.sameBut hs hn2 f3, oe, vs, T, oT, ts, (hs.2 e (neC e oe vs he hd)).trans he, hz, hd, h1, hnT, hTe, (hs.2 T (neC T oT ts hT hdT)).trans hT, hdT, h3⟩
/-- out of a call in the element -/
theorem noted_callZ (hZ : PXN.Steady1 Z) (hfr : A.frames = some (env :: outer)) (hcf : cenv.frame = env.frame) (hf : env.frame = some L) (hbC : base.get? cenv.locals = none) (hn : s'.heap.Ns cenv.locals m) (hfl : HandSPX.FlyingZ base (env :: outer) e Z s'.heap)
    (hQ : ∀ h', HandSPX.HeldZ base (env :: outer) e Z L h' → (∀ b o, s'.heap.get? b = some o → b ≠ cenv.locals → (∀ vs, o.data ≠ .fields vs) → ∃ sl, h'.get? b = some { o with slots := sl }) → E (.ref e) { s' with heap := h' }) :
    notedBy M A cenv (CompFails M A E cenv) (.ref e) s' := by
  show wpAny M A (noteFrame (.ref e) cenv) _ _ s'
  rw [noteFrame_env _ hcf]
  refine PXN.looks_onZ hZ hfr hf hfl fun h1 hH hk => ?_
  refine ⟨m, hn.upToSlots hk, fun h2 m2 hn2 hs2 => ?_⟩
  refine passOn_heldZ (hcf.trans hf) (heldZ_sameBut hbC (hn.upToSlots hk) hn2 hs2 hH) fun h3 hH3 hk3 => hQ h3 hH3 fun b o hb hbC' hnf => ?_
  obtain ⟨sl, e1⟩ := hk b o hb hnf
  obtain ⟨sl2, e2⟩ := hk3 b _ ((hs2.2 b hbC').trans e1) hnf
  exact ⟨sl2, e2⟩
end
theorem ff_shrink {h base base2 : Heap} (hb : ∀ b, base.get? b = none → base2.get? b = none) : ∀ {l : List Env}, h.FunFrames base l → h.FunFrames base2 l
  | [], _ => trivial
  | _ :: _, ⟨hk, ⟨L', o, hf, hb', ho, hd⟩, hr⟩ => ⟨hk, ⟨L', o, hf, hb _ hb', ho, hd⟩, ff_shrink hb hr⟩
theorem hide_none {B : Heap} {C b : Addr} (e : B.get? b = none) : (PySem.W.hideAll B [C]).get? b = none := by
  cases q : (PySem.W.hideAll B [C]).get? b with
  | none => rfl
  | some o =>
    have := PySem.W.of_hideAll _ q
    rw [e] at this
    cases this
/-- what a call in a block's element lets out is let out of the comprehension -/
theorem blk_lets {X : Cx} {pins : List (Addr × Obj)} {σ : L2.St} {H3 : Hp} {s3 : Shared} (I3 : Inv X pins σ H3 s3) (hs : X.stack = X.env :: X.outer) (hf : X.env.frame = some X.env.locals) {W : WX} (tk : L2N.Takes X W) {scope : Scope} {ce : Env} {fp : List Addr} (hcf : ce.frame = X.env.frame) (cL : ce.locals = s3.heap.objs.size)
    (f3 : ∀ b ∈ fp, FpOk X pins H3 b ∧ b < s3.heap.objs.size) {xe' : Value → Shared → Prop} {pb : List (Addr × Obj)} {σb : L2.St} {Hb : Hp} {sb : Shared} (Ib : Inv { X.blk s3 H3 scope ce fp with xe := xe' } pb σb Hb sb) {Ex : XK} (hE : ∀ cls d H', Ex cls d H' → W cls d σ H') {u : Value} {s' : Shared}
    (c : L2N.CX X.prog X.w X.stack Hb sb Ex u s') : notedBy (model X.prog X.w) X.A ce (CompFails (model X.prog X.w) X.A X.xe ce) u s' := by
  have x := L2N.XE.of_call (X := { X.blk s3 H3 scope ce fp with xe := xe' }) (W := fun c d _ H => Ex c d H) Ib (fun _ _ _ h => h) c
  obtain ⟨a0, B0, H0, cls0, d0, e0, fl0, _⟩ := c
  obtain ⟨a, B, sI, pI, σI, H', cls, d, e1, II, nb, up, sky, na, os, ag, w⟩ := x
  subst e1
  cases e0
  have fl : HandSPX.FlyingZ B X.stack a0 (L2N.Zn cls d) s'.heap := by
    obtain ⟨_, _, _, oe, vs, T, oT, ts, he, hz, hd, h1, hnT, hTe, hT, hdT, h3⟩ := fl0
    rcases sky with ⟨_, _, _, oe', vs', he', hz', hd', h1'⟩ | fl | ⟨_, _, _, oe', vs', T', oT', ts', he', hz', hd', h1', hnT', hTe', hT', hdT', h3'⟩
    · rw [he] at he'
      cases he'
      rw [hd] at hd'
      cases hd'
      rw [h1] at h1'
      cases h1'
    · exact fl
    · rw [he] at he'
      cases he'
      rw [hd] at hd'
      cases hd'
      rw [h1] at h1'
      cases h1'
      rw [hT] at hT'
      cases hT'
      rw [hdT] at hdT'
      cases hdT'
      rw [h3] at h3'
      cases h3'
  have I7 : Inv X pins σ H' sI := I3.call' (ch := fp) II.os II.base II.hok II.bare fun b hb => ⟨(f3 b hb).1.2.2.2.1, (f3 b hb).1.2.1, (f3 b hb).1.2.2.2.2.1, (f3 b hb).1.2.2.2.2.2⟩
  obtain ⟨m, hnI, _⟩ := II.loc
  have hnI : sI.heap.Ns ce.locals m := hnI
  have nC : H' ce.locals = none := II.free
  obtain ⟨f0, f1, f2, f3', f4, f5⟩ := I3.fpOk (b := ce.locals) (by rw [cL]; exact Nat.le_refl _) nC
  have hg : ∀ {B : Heap} {b : Addr} {o : Obj}, b ≠ ce.locals → B.get? b = some o → (PySem.W.hideAll B [ce.locals]).get? b = some o := fun hb e => PySem.W.hideAll_get _ e (by simpa using hb)
  have hC : ∀ B : Heap, (PySem.W.hideAll B [ce.locals]).get? ce.locals = none := fun B => PySem.W.hideAll_none _ (by simp)
  have I8 := I7.turned (h' := PySem.W.hideAll sI.heap [ce.locals]) (t' := sI.toks) (it := ce.locals) (fun b o hb e => hg hb e) f0 f1 f3' f4 f5
  have fl2 : HandSPX.FlyingZ (PySem.W.hideAll B [ce.locals]) (X.env :: X.outer) a0 (L2N.Zn cls d) s'.heap := by
    rw [← hs]
    obtain ⟨g1, g2, g3, oe, vs, T, oT, ts, he, hz, hd, h1, hnT, r⟩ := fl
    exact ⟨fun b o e => g1 b o (PySem.W.of_hideAll _ e), hide_none g2, ff_shrink (fun b e => hide_none e) g3, oe, vs, T, oT, ts, he, hz, hd, h1, hide_none hnT, r⟩
  have ne : ∀ {b : Addr} {o : Obj}, (PySem.W.hideAll sI.heap [ce.locals]).get? b = some o → b ≠ ce.locals := fun e z => by
    rw [z, hC] at e
    cases e
  refine noted_callZ (base := PySem.W.hideAll B [ce.locals]) (env := X.env) (outer := X.outer) (L := X.env.locals) L2N.Zn.steady (by rw [I3.ok.frames, hs]) hcf hf (hC B) (hnI.upToSlots up) fl2 fun h3 hH k => ?_
  refine tk _ _ ⟨a0, PySem.W.hideAll B [ce.locals], { sI with heap := PySem.W.hideAll sI.heap [ce.locals], toks := sI.toks }, pins, σ, H', cls, d, rfl, I8, fun b o e hb => hg (ne e) (nb b o (PySem.W.of_hideAll _ e) hb), fun b o e hnf => ?_, .inr (.inr (by rw [hs]; exact hH)), na, os, ag, hE _ _ _ w⟩
  obtain ⟨sl, q⟩ := up b o (PySem.W.of_hideAll _ e) hnf
  obtain ⟨sl2, q2⟩ := k b _ q (ne e) hnf
  exact ⟨sl2, q2⟩
abbrev BlkX (X : Cx) (s : Shared) (H : Hp) (scope : Scope) (ce : Env) (fp : List Addr) (xe : Value → Shared → Prop) : Cx := { X.blk s H scope ce fp with xe := xe }
/-- what an element's call may let out -/
def LetsE (X Xb : Cx) (E : XK) : Prop := ∀ (pb : List (Addr × Obj)) (σb : L2.St) (Hb : Hp) (sb : Shared) (u : Value) (s' : Shared), Inv Xb pb σb Hb sb → L2N.CX X.prog X.w X.stack Hb sb E u s' → Xb.xe u s'
/-- a list comprehension whose element may let an error out -/
theorem lc_lets {X : Cx} {pins : List (Addr × Obj)} {s : Shared} {σ : L2.St} {H : Hp} {Q : VK} {elt tg iter : Expr} {ifs : List Expr} {scope : Scope} {own : List (Str × Nat)} {pos pos' : Pos} {wi : TI} {g : TG} {tt : TT} {te : TE} {use : Option (Value → Sem Unit)} {Qf : Value → Shared → Prop}
    (hc : X.calm = true) (hN : X.N.Nodup) (hst : X.stack = X.env :: X.outer) (hfr : X.env.frame = some X.env.locals) {W : WX} (tk : L2N.Takes X W) {Ex : XK} (hE : ∀ cls d H', Ex cls d H' → W cls d σ H') (I : Inv X pins σ H s) (hi : PI X tg iter wi) (ok : BlkOk X.N X.env.scope scope own)
    (hg : ∀ (s : Shared) (H : Hp) (C : Addr) (cl : List (Str × Addr)) (fp : List Addr) (xe : Value → Shared → Prop), PG (BlkX X s H scope (compEnvC scope cl C X.env) fp xe) tg g)
    (ht : ∀ (s : Shared) (H : Hp) (C : Addr) (cl : List (Str × Addr)) (fp : List Addr) (xe : Value → Shared → Prop), PTs (BlkX X s H scope (compEnvC scope cl C X.env) fp xe) ifs tt)
    (he : ∀ (s : Shared) (H : Hp) (C : Addr) (cl : List (Str × Addr)) (fp : List Addr) (xe : Value → Shared → Prop), LetsE X (BlkX X s H scope (compEnvC scope cl C X.env) fp xe) Ex → PE (BlkX X s H scope (compEnvC scope cl C X.env) fp xe) elt te)
    (hs : ∀ x, foldedSetIterable iter X.env x = pure x) (h : tLc wi g tt te (own.map (·.2)) σ H Q)
    (hRR : ∀ D (ce : Env) s' m H', Inv X pins σ H' s' → Q (.ref D) H' → s'.heap.Ns ce.locals m → FpOk X pins H' ce.locals → compEnds (model X.prog X.w) X.A X.xe use Qf (.ref D) ce (.ok .next) s') :
    wpAny (model X.prog X.w) X.A (comprehension (.ListComp elt [⟨tg, iter, ifs, 0⟩] scope pos) scope X.env pos' (newList []) false (eval iter X.env) use) Qf X.xe s := by
  have hfree : ∀ y ∈ scope.names, y.2 = .free → ∃ c, X.env.cells.lookup y.1 = some c := fun y hy e => by
    rcases ok.free y hy e with k | k
    · exact I.ok.has _ (.inl k)
    · exact I.ok.has _ (.inr k)
  refine comprehension_at (use := use) rfl hs (closure_ok hfree) ok.kind (fun y hy e => by rw [ok.uniq y hy, e])
    (thn (hi.run pins s σ H _ I h) fun xv s1 hx => thn hx fun itv s2 h2 => ?_)
  obtain ⟨it, fp, tn, J, H2, e, I2, T, st2, f2, q⟩ := h2
  subst e
  refine wpAny_newObj_type (newEnv_comp ?_) (by show 0 ≤ sizeLine; decide)
  generalize hD : s2.heap.objs.size = D
  have hDn : H2 D = none := I2.hok.fresh (Nat.le_of_eq hD)
  obtain ⟨Wt, ⟨m0, w0⟩, turn⟩ := q D hDn
  generalize hs3 : ({ s2 with heap := s2.heap.push { cls := .type "list", data := .seq ([] : List Value).toArray } } : Shared) = s3
  have I3 : Inv X pins σ (upd H2 D (.lst [])) s3 := by
    rw [← hs3]
    refine I2.laid (t' := s2.toks) (fun b o e => Heap.get?_push_of_some _ e) (Nat.le_of_eq hD) ⟨Nat.zero_le _, [], 0, .nil, ?_⟩
    rw [← hD]
    exact Heap.get?_push_size _ rfl
  have h3 : s3.heap = s2.heap.push { cls := .type "list", data := .seq ([] : List Value).toArray } := by rw [← hs3]
  have sz : ∀ b ∈ fp, b < s2.heap.objs.size := fun b hb => by
    obtain ⟨o, e, _⟩ := T.obj _ _ st2 b hb
    exact Heap.lt_size e
  have f3 : ∀ b ∈ fp, FpOk X pins (upd H2 D (.lst [])) b ∧ b < s3.heap.objs.size := fun b hb => by
    have hlt := sz b hb
    refine ⟨⟨?_, (f2 b hb).2⟩, by rw [h3, Heap.size_push]; exact Nat.lt_succ_of_lt hlt⟩
    rw [upd_ne (by rw [← hD]; exact Nat.ne_of_lt hlt)]
    exact (f2 b hb).1
  have st3 : tn 0 s3.heap := T.keep _ _ _ st2 fun b _ o e => by rw [h3]; exact Heap.get?_push_of_some _ e
  have I4 := block_start I3 ok hN f3
  have pg := hg s3 (upd H2 D (.lst [])) s3.heap.objs.size (cellsFrom (s3.heap.objs.size + 1) scope.names (cloFrom X.env.cells scope.names [])) fp
  have pt := ht s3 (upd H2 D (.lst [])) s3.heap.objs.size (cellsFrom (s3.heap.objs.size + 1) scope.names (cloFrom X.env.cells scope.names [])) fp
  have pe := he s3 (upd H2 D (.lst [])) s3.heap.objs.size (cellsFrom (s3.heap.objs.size + 1) scope.names (cloFrom X.env.cells scope.names [])) fp
  show codeAny _ _ (.compStart (.ListComp elt [⟨tg, iter, ifs, 0⟩] scope pos) 0 (.ref it) (.ref D) (compEnvC scope (cellsFrom (s3.heap.objs.size + 1) scope.names (cloFrom X.env.cells scope.names [])) s3.heap.objs.size X.env)) (compEnds (model X.prog X.w) X.A X.xe use Qf (.ref D) (compEnvC scope (cellsFrom (s3.heap.objs.size + 1) scope.names (cloFrom X.env.cells scope.names [])) s3.heap.objs.size X.env)) { s3 with heap := pushCells (s3.heap.push { cls := .type "dict", data := .dict #[] }) scope.names }
  have nfp : ∀ b ∈ fp, (upd H2 D (.lst [])) b = none := fun b hb => (f3 b hb).1.1
  have hcf : (compEnvC scope (cellsFrom (s3.heap.objs.size + 1) scope.names (cloFrom X.env.cells scope.names [])) s3.heap.objs.size X.env).frame = X.env.frame := rfl
  generalize hce : compEnvC scope (cellsFrom (s3.heap.objs.size + 1) scope.names (cloFrom X.env.cells scope.names [])) s3.heap.objs.size X.env = ce at I4 pg pt pe hcf ⊢
  have cL : ce.locals = s3.heap.objs.size := by subst hce; rfl
  generalize hH3 : upd H2 D (.lst []) = H3 at I3 I4 pg pt pe w0 nfp f3
  generalize hs4 : ({ s3 with heap := pushCells (s3.heap.push { cls := .type "dict", data := .dict #[] }) scope.names } : Shared) = s4 at I4 ⊢
  have st4 : tn 0 s4.heap := T.keep _ _ _ st3 fun b _ o e => by rw [← hs4]; exact pushCells_keeps _ _ _ _ (Heap.get?_push_of_some _ e)
  obtain ⟨xe, hxe⟩ : ∃ xe : Value → Shared → Prop, xe = notedBy (model X.prog X.w) X.A ce fun e s' => compEnds (model X.prog X.w) X.A X.xe use Qf (.ref D) ce (.error e) s' := ⟨_, rfl⟩
  have hxe2 : xe = notedBy (model X.prog X.w) X.A ce (CompFails (model X.prog X.w) X.A X.xe ce) := by
    rw [hxe]
    cases use <;> rfl
  have I4 : Inv (BlkX X s3 H3 scope ce fp xe) [] (wipe σ (own.map (·.2))) H3 s4 := I4.toTry xe
  have lets : LetsE X (BlkX X s3 H3 scope ce fp xe) Ex := fun pb σb Hb sb u s' Ib c => by
    show xe u s'
    rw [hxe2]
    exact blk_lets I3 hst hfr tk hcf cL f3 Ib hE c
  have pg := pg xe
  have pt := pt xe
  have pe := pe xe lets
  have stat : ∀ {σ' : L2.St} {H' : Hp} {s' : Shared}, Inv (BlkX X s3 H3 scope ce fp xe) [] σ' H' s' → (∀ b ∈ fp, H' b = none) → ∀ b ∈ fp, FpOk (BlkX X s3 H3 scope ce fp xe) [] H' b := fun {σ' H' s'} I' hn b hb =>
    ⟨hn b hb, (I'.ok.exf b hb).1, I'.ok.exfs b hb, .inl hb, fun x c e => (I'.ok.exf b hb).2 x c e, fun p hp => absurd (show p ∈ ([] : List (Addr × Obj)) ++ [] from hp) (by simp)⟩
  have loop : codeAny (model X.prog X.w) X.A (.compLoop (.ListComp elt [⟨tg, iter, ifs, 0⟩] scope pos) 0 (.ref it) (.ref D) ce) (compEnds (model X.prog X.w) X.A X.xe use Qf (.ref D) ce) s4 := by
    refine compLoop_any (fun n s' => ∃ i H', Inv (BlkX X s3 H3 scope ce fp xe) [] (wipe σ (own.map (·.2))) H' s' ∧ tn i s'.heap ∧ (∀ b ∈ fp, H' b = none) ∧ Wt i n H') ?_ m0 ⟨0, H3, I4, st4, nfp, w0⟩
    rw [← hxe]
    rintro n s5 ⟨i, H5, I5, st5, n5, w5⟩
    rcases turn i n H5 w5 with ⟨stop, qq⟩ | ⟨go, Nx, hNx, step⟩
    · have td := T.done (BlkX X s3 H3 scope ce fp xe) rfl rfl rfl hc i [] s5 _ H5 xe I5 (stat I5 n5) st5 stop
      refine thn td fun r s6 ⟨hr, I6⟩ => ?_
      subst hr
      have I7 : Inv X pins σ H5 s6 := I3.call' (ch := fp) I6.os I6.base I6.hok I6.bare fun b hb => ⟨(f3 b hb).1.2.2.2.1, (f3 b hb).1.2.1, (f3 b hb).1.2.2.2.2.1, (f3 b hb).1.2.2.2.2.2⟩
      have nC : H5 ce.locals = none := I6.free
      obtain ⟨m, hn, _⟩ := I6.loc
      have hn : s6.heap.Ns ce.locals m := hn
      exact hRR D ce s6 m H5 I7 qq hn (I3.fpOk (by rw [cL]; exact Nat.le_refl _) nC)
    · have ti := T.item (BlkX X s3 H3 scope ce fp xe) rfl rfl rfl hc i [] s5 _ H5 xe I5 (stat I5 n5) st5 go
      refine thn ti fun r s6 ⟨u, hr, h6⟩ => ?_
      subst hr
      refine thn h6 fun _ s7 ⟨x, H7, I7, r7, y7, st7, n7⟩ => ?_
      have I7' := I7.pinned (stat I7 n7) (T.obj _ _ st7)
      refine thn (pg.run _ s7 _ H7 x u _ I7' r7 (step x H7 y7)) fun _ s8 ⟨σ8, H8, I8, hw8, q8⟩ => ?_
      refine thn (pt.run _ s8 σ8 H8 _ I8 q8) fun b s9 ⟨H9, I9, q9⟩ => ?_
      have fin : ∀ {s' : Shared} {H' : Hp}, Inv (BlkX X s3 H3 scope ce fp xe) ([] ++ pinsAt fp s7.heap) σ8 H' s' → Nx H' → ∃ m, m < n ∧ ∃ i H', Inv (BlkX X s3 H3 scope ce fp xe) [] (wipe σ (own.map (·.2))) H' s' ∧ tn i s'.heap ∧ (∀ b ∈ fp, H' b = none) ∧ Wt i m H' := fun {s' H'} I' nx => by
        obtain ⟨m', hm, w'⟩ := hNx H' nx
        have pin' : ∀ b ∈ fp, ∀ o, s7.heap.get? b = some o → s'.heap.get? b = some o ∧ H' b = none := fun b hb o e =>
          let z := I'.pin (b, o) (List.mem_append_right _ (List.mem_append_right _ (mem_pinsAt hb e)))
          ⟨z.1, z.2.1⟩
        have hl : (wipe σ (own.map (·.2))).length = σ8.length := by rw [← hw8, wipe_length]
        refine ⟨m', hm, i + 1, H', (I'.unpinned (pins := [])).weak hl (fun j v e => ?_), T.keep _ _ _ st7 fun b hb o e => (pin' b hb o e).1, fun b hb => ?_, w'⟩
        · rw [← hw8] at e
          exact (wipe_some e).1
        · obtain ⟨o, e, _⟩ := T.obj _ _ st7 b hb
          exact (pin' b hb o e).2
      cases b with
      | false =>
        simp only [Bool.false_eq_true, if_false] at q9 ⊢
        exact fin I9 q9
      | true =>
        simp only [if_true] at q9 ⊢
        refine thn (pe.run _ s9 σ8 H9 _ I9 q9) fun z s10 ⟨yv, H10, I10, r10, acc, hD10, hz10, nx⟩ => ?_
        exact app_ok (X := BlkX X s3 H3 scope ce fp xe) I10 hD10 hz10 r10 fun s11 I11 => fin I11 nx
  exact codeAny_compStart_list loop (T.self X.A 0 _ _ _ st4 loop)

/-! ### the rules: a list comprehension whose element is a call that may raise -/
/-- te: the element, by what it may let out -/
def tLcX (wi : TI) (g : TG) (tt : TT) (te : XK → TE) (vs : List Nat) (Wx : WX) : TE := fun σ H Q => tLc wi g tt (te fun c d H' => Wx c d σ H') vs σ H Q
theorem ps_setLcX {X : Cx} {i : Nat} {y : Str} {py : Pos} {elt tg iter : Expr} {ifs : List Expr} {scope : Scope} {own : List (Str × Nat)} {pos spos : Pos} {wi : TI} {g : TG} {tt : TT} {te : XK → TE} {Wx : WX} (hc : X.calm = true) (hst : X.stack = X.env :: X.outer) (hfr : X.env.frame = some X.env.locals) (tk : L2N.Takes X Wx) (hN : X.N.Nodup) (hy : X.N[i]? = some y) (hyl : X.env.scope.names.lookup y = some .local)
    (hsw : swapsWith (.ListComp elt [⟨tg, iter, ifs, 0⟩] scope pos) (some (.Name y py)) spos.line X.env = pure true) (hi : PI X tg iter wi) (ok : BlkOk X.N X.env.scope scope own)
    (hg : ∀ (s : Shared) (H : Hp) (C : Addr) (cl : List (Str × Addr)) (fp : List Addr) (xe : Value → Shared → Prop), PG (BlkX X s H scope (compEnvC scope cl C X.env) fp xe) tg g)
    (ht : ∀ (s : Shared) (H : Hp) (C : Addr) (cl : List (Str × Addr)) (fp : List Addr) (xe : Value → Shared → Prop), PTs (BlkX X s H scope (compEnvC scope cl C X.env) fp xe) ifs tt)
    (he : ∀ (E : XK) (s : Shared) (H : Hp) (C : Addr) (cl : List (Str × Addr)) (fp : List Addr) (xe : Value → Shared → Prop), LetsE X (BlkX X s H scope (compEnvC scope cl C X.env) fp xe) E → PE (BlkX X s H scope (compEnvC scope cl C X.env) fp xe) elt (te E))
    (hs : ∀ x, foldedSetIterable iter X.env x = pure x := by intro _; rfl) :
    PS X (.Assign [.Name y py] (.ListComp elt [⟨tg, iter, ifs, 0⟩] scope pos) spos) (tAsg (tLcX wi g tt te (own.map (·.2)) Wx) (gName i)) := by
  refine ⟨fun pins s σ H D I h => ?_⟩
  rw [exec_Assign_Name_used _ _ _ _ hsw]
  refine wpAny_bind (wpAny_standAt (wpAny_bind ?_))
  show wpAny _ X.A (do let _ ← comprehension (.ListComp elt [⟨tg, iter, ifs, 0⟩] scope pos) scope X.env (firstIterPos [⟨tg, iter, ifs, 0⟩] pos) (newList []) false (eval iter X.env) (some (assign (.Name y py) X.env))) _ _ s
  have h : tLc wi g tt (te fun c d H' => Wx c d σ H') (own.map (·.2)) σ H (fun x H1 => gName i x σ H1 D.nx) := h
  refine wpAny_bind (thn (lc_lets (Qf := fun _ s' => SP X pins D .next s') hc hN hst hfr tk (Ex := fun c d H' => Wx c d σ H') (fun _ _ _ z => z) I hi ok hg ht (he _) hs h fun L ce s' m H' I' q hn f => ?_) fun _ s' hq => wpAny_pure (wpAny_pure hq))
  show wpAny _ _ (assign (.Name y py) X.env (.ref L)) _ _ _
  refine wpAny_assign_Name (store_ok2 (v := V.ref L) I' hN hy (.inl hyl) rfl (fun s2 I2 ⟨a, sb, ha⟩ => ?_) (.inr hyl))
  obtain ⟨f0, f1, f2, f3, f4, f5⟩ := f
  have haC : ce.locals ≠ a := by
    rcases ha with z | z
    · rw [z]; exact f1
    · exact fun e => f4 y a z e.symm
  refine ⟨m, hn.sameBut sb haC, fun h3 sb3 => ?_⟩
  exact ⟨_, H', I2.turned (t' := s2.toks) (fun b o hb e => (sb3.2 b hb).trans e) f0 f1 f3 f4 f5, q⟩
/-- as a value (the name that is assigned is a cell) -/
theorem pe_lcX {X : Cx} {elt tg iter : Expr} {ifs : List Expr} {scope : Scope} {own : List (Str × Nat)} {pos : Pos} {wi : TI} {g : TG} {tt : TT} {te : XK → TE} {Wx : WX} (hc : X.calm = true) (hst : X.stack = X.env :: X.outer) (hfr : X.env.frame = some X.env.locals) (tk : L2N.Takes X Wx) (hN : X.N.Nodup) (hi : PI X tg iter wi) (ok : BlkOk X.N X.env.scope scope own)
    (hg : ∀ (s : Shared) (H : Hp) (C : Addr) (cl : List (Str × Addr)) (fp : List Addr) (xe : Value → Shared → Prop), PG (BlkX X s H scope (compEnvC scope cl C X.env) fp xe) tg g)
    (ht : ∀ (s : Shared) (H : Hp) (C : Addr) (cl : List (Str × Addr)) (fp : List Addr) (xe : Value → Shared → Prop), PTs (BlkX X s H scope (compEnvC scope cl C X.env) fp xe) ifs tt)
    (he : ∀ (E : XK) (s : Shared) (H : Hp) (C : Addr) (cl : List (Str × Addr)) (fp : List Addr) (xe : Value → Shared → Prop), LetsE X (BlkX X s H scope (compEnvC scope cl C X.env) fp xe) E → PE (BlkX X s H scope (compEnvC scope cl C X.env) fp xe) elt (te E))
    (hs : ∀ x, foldedSetIterable iter X.env x = pure x := by intro _; rfl) :
    PE X (.ListComp elt [⟨tg, iter, ifs, 0⟩] scope pos) (tLcX wi g tt te (own.map (·.2)) Wx) := by
  refine ⟨fun pins s σ H Q I h => ?_⟩
  rw [arm_eval_ListComp]
  refine lc_lets (use := none) hc hN hst hfr tk (Ex := fun c d H' => Wx c d σ H') (fun _ _ _ z => z) I hi ok hg ht (he _) hs h fun D ce s' m H' I' q hn f => ⟨m, hn, fun h'' sb => ?_⟩
  obtain ⟨f0, f1, f2, f3, f4, f5⟩ := f
  exact ⟨.ref D, H', I'.turned (t' := s'.toks) (fun b o hb e => (sb.2 b hb).trans e) f0 f1 f3 f4 f5, rfl, q⟩
theorem lets_at {X Xb : Cx} {E : XK} (hp : Xb.prog = X.prog) (hw : Xb.w = X.w) (hs : Xb.stack = X.stack) (h : LetsE X Xb E) : ∀ σ, PassesAt (L2N.CX Xb.prog Xb.w) Xb σ ((fun _ : L2.St => E) σ) := fun σ pins H s e s' I c => h pins σ H s e s' I (by rw [hp, hw, hs] at c; exact c)
section
variable {K : PySem.W.Frag} {ow : List Nat} {Wx : WX}
def tCallL (K : PySem.W.Frag) (k : Nat) (B : ASX) (ta : TA) (E : XK) : TE := tCallS (spE K k B) (fun _ => E) ta
theorem k_callL {X : Cx} {e : Expr} {k : Nat} {B : ASX} {ta : TA} {E : XK} (h : PE X e (tCallS (spE K k B) (fun _ => E) ta)) : PE X e (tCallL K k B ta E) := h
def aLcXGo (vs : List Nat) (G : D → Option (List (Nat × D))) (c : AT) (k : Nat) (B : ASX) (g' : AA) (ρ : Env') (Xa : AX) (Q : D → Nat → Prop) : List D → List D → Nat → Prop
  | acc, [], n => Q (.lst acc) n
  | acc, d :: r, n => aPutC vs G d ρ fun ρ1 => c ρ1 n fun b n2 => aIte b (g' ρ1 n2 fun es n3 => match Nat.beq es.length k with
    | true => B es n3 (fun y n4 => aLcXGo vs G c k B g' ρ Xa Q (acc ++ [y]) r n4) Xa
    | false => False) (aLcXGo vs G c k B g' ρ Xa Q acc r n2)
theorem lcx_run {wi : TI} {g : TG} {tt : TT} {ta : TA} {vs : List Nat} {I : AI} {G : D → Option (List (Nat × D))} {c : AT} {g' : AA} {k : Nat} {B : ASX} [DI K wi I] [DG K g G] [DT K tt c] [DA K ta g'] {W : Wd} {σ : L2.St} {ρ : Env'} {n : Nat} {H : Hp} {Q : VK} {Qa : D → Nat → Prop} {Xa : AX} {E : XK} (hQ : Wants K W H Qa Q) (hX : WantsD K W H Xa E) (hE : EnvAt K W H σ ρ) (o : W.ok K n H)
    (h : I ρ n fun ds n1 => ds.length ≤ 1000000 ∧ aLcXGo vs G c k B g' (wipeA ρ vs) Xa Qa [] ds n1) : tLc wi g tt (tCallL K k B ta E) vs σ H Q := by
  refine DI.run (wi := wi) (f := I) W σ ρ n H _ _ (fun ds n1 h1 J H1 l1 o1 hw Dl hDl => ?_) hE o h
  obtain ⟨hlen, h1⟩ := h1
  have nrs : ¬ W.rs Dl := o1.fresh hDl
  refine ⟨fun i m H' => m = ds.length - i ∧ i ≤ ds.length ∧ ∃ n' us acc, aLcXGo vs G c k B g' (wipeA ρ vs) Xa Qa acc (ds.drop i) n' ∧ (W.add (Dl, .lst us)).ok K n' H' ∧ AtAll K (W.add (Dl, .lst us)) H' us acc ∧ W.le H1 H' ∧ us.length ≤ i, ⟨_, rfl, Nat.zero_le _, n1, [], [], h1, Wd.ok_put trivial nrs (.inl hDl) o1, .nil, Wd.le_same (same_upd hDl), Nat.le_refl _⟩, ?_⟩
  rintro i m H2 ⟨rfl, hi, n2, us, acc, h2, o2, a2, l2, hul⟩
  have rn := Wd.rs_new (W := W) (xs := .lst us) hDl
  obtain ⟨w1, w2⟩ := hw (W.add (Dl, .lst us)) rn rfl H2 n2 (Wd.le_more l2) o2 i
  by_cases hlt : i < ds.length
  · rw [List.drop_eq_getElem_cons hlt] at h2
    obtain ⟨hgo, hy⟩ := w1 ds[i] (List.getElem?_eq_getElem hlt)
    refine .inr ⟨hgo, fun H' => ∃ m', m' < ds.length - i ∧ m' = ds.length - (i + 1) ∧ i + 1 ≤ ds.length ∧ ∃ n' us acc, aLcXGo vs G c k B g' (wipeA ρ vs) Xa Qa acc (ds.drop (i + 1)) n' ∧ (W.add (Dl, .lst us)).ok K n' H' ∧ AtAll K (W.add (Dl, .lst us)) H' us acc ∧ W.le H1 H' ∧ us.length ≤ i + 1, fun H' q => q, fun x H3 hx => ?_⟩
    obtain ⟨s3, a3⟩ := hy x H3 hx
    have l3 : (W.add (Dl, .lst us)).le H2 H3 := Wd.le_same s3
    have o3 := o2.same s3
    have hE3 : EnvAt K (W.add (Dl, .lst us)) H3 (wipe σ vs) (wipeA ρ vs) := (((hE.le o l1).ext rn rfl).lk (o1.lk' rn) ((Wd.le_more l2).trans l3)).wipe vs
    unfold aLcXGo aPutC at h2
    split at h2
    · rename_i xs ex
      split at h2
      · rename_i hc
        refine DG.run (g := g) (f := G) _ (wipe σ vs) H3 x _ xs _ a3 ex fun zs hz => ?_
        have hE4 := hE3.setAll hz
        have hv : ∀ z ∈ zs, z.1 ∈ vs := upd_slots hz fun u hu => List.contains_iff_mem.mp (List.all_eq_true.mp hc u hu)
        refine ⟨by rw [wipe_setAll hv, wipe_wipe], DT.run (te := tt) (f := c) _ _ _ n2 H3 _ _ (fun b n5 h5 H5 l5 o5 => ?_) hE4 o3 h2⟩
        have l25 := l3.trans l5
        cases b with
        | true =>
          rw [if_pos rfl]
          refine DA.run (te := ta) (f := g') (W.add (Dl, .lst us)) _ _ n5 H5 _ _ (fun es n6 h6 H6 ws l6 o6 aw => ?_) (hE4.le o3 l5) o5 (h5.1 rfl)
          split at h6
          · rename_i ek
            have l26 := l25.trans l6
            refine ⟨W.add (Dl, .lst us), n6, es, _, Xa, aw, Nat.eq_of_beq_eq_true ek, o6, fun y n7 h7 H7 v l7 o7 a7 => ?_, fun C fs gs n7 q H7 d l7 o7 xd => ?_, h6⟩
            · have hD7 : H7 Dl = some (.lst us) := (o7.owns (Dl, .lst us) List.mem_cons_self).1
              have l27 := l26.trans l7
              refine ⟨us, hD7, Nat.lt_of_lt_of_le (show us.length < 1000000 by omega) lim, _, by omega, rfl, hlt, n7, us ++ [v], acc ++ [y], h7, Wd.ok_put trivial nrs (.inr ⟨_, hD7⟩) o7.drop, ?_, Wd.le_add hDl l2 (l27.trans (Wd.le_own (ob := .lst (us ++ [v])))), by rw [List.length_append, List.length_singleton]; omega⟩
              have key : AtAll K (W.add (Dl, .lst us)) H7 (us ++ [v]) (acc ++ [y]) := (AtAll.le o2 l27 _ a2).append (.cons a7 .nil)
              exact AtAll.weak (W := W.add (Dl, .lst us)) (W' := W.add (Dl, .lst (us ++ [v]))) (fun a z => z) rfl _ (AtAll.le o7 (Wd.le_own (ob := .lst (us ++ [v]))) _ key)
            · exact hX C fs gs n7 q H7 d (l1.trans (Wd.le_add hDl l2 (l26.trans l7))) o7.drop (xd.weak (fun a z => Wd.rs_add z) rfl)
          · exact h6.elim
        | false =>
          rw [if_neg Bool.false_ne_true]
          exact ⟨_, by omega, rfl, hlt, n5, us, acc, h5.2 rfl, o5, AtAll.le o2 l25 _ a2, Wd.le_add hDl l2 l25, by omega⟩
      · exact h2.elim
    · exact h2.elim
  · have ei : i = ds.length := by omega
    subst ei
    rw [List.drop_length] at h2
    have hD2 : H2 Dl = some (.lst us) := (o2.owns (Dl, .lst us) List.mem_cons_self).1
    exact .inl ⟨w2 (Nat.le_refl _), hQ _ _ h2 H2 _ (l1.trans l2) o2.drop (.lst nrs hD2 (AtAll.weak (fun a z => Wd.rs_add z) rfl _ a2))⟩
def aLcX (I : AI) (G : D → Option (List (Nat × D))) (c : AT) (k : Nat) (B : ASX) (g' : AA) (vs : List Nat) (ow : List Nat) (a : D → Option (List (Nat × D))) : AS := fun E ρ n => I (wipeA ρ ow) n fun ds n1 => ds.length ≤ 1000000 ∧ aLcXGo vs G c k B g' (wipeA (wipeA ρ ow) vs) (E.ex ρ) (fun d n2 => aPut ow a d ρ fun ρ' => E.nx ρ' n2) [] ds n1
instance (priority := 1200) {wi : TI} {g : TG} {tt : TT} {ta : TA} {vs : List Nat} {I : AI} {G : D → Option (List (Nat × D))} {c : AT} {g' : AA} {k : Nat} {B : ASX} {gt : TG} {a : D → Option (List (Nat × D))} [DI K wi I] [DG K g G] [DT K tt c] [DA K ta g'] [DG K gt a] : DS K Wx ow (tAsg (tLcX wi g tt (tCallL K k B ta) vs Wx) gt) (aLcX I G c k B g' vs ow a) := ⟨fun W U σ ρ n H E Ea hD s h =>
  lcx_run (W := W.plus U) (fun d n2 h2 H2 v l2 o2 av => put_run (g := gt) (a := a) (s.le l2 o2) av h2 fun ρ' σ' q s' => hD.nx _ _ q U σ' H2 (.hid l2) s') (wants_ex hD s) s.hid s.ok h⟩
end

/-! ### isinstance(x, (a, b)), a and b built-in types -/
section
variable {K : PySem.W.Frag}
def tyOk : Ty → Bool
  | .non => false
  | .verr => false
  | _ => true
def tIsi2 (K : PySem.W.Frag) (te : TE) (a b : Ty) : TE := tCB (rIsiT K) (tCons te (tCons (tTup (tCons (tTy a) (tCons (tTy b) tNil))) tNil))
theorem k_isi2 {X : Cx} {e : Expr} {te : TE} {a b : Ty} (hK : X.K = K) (h : PE X e (tCB (rIsiT X.K) (tCons te (tCons (tTup (tCons (tTy a) (tCons (tTy b) tNil))) tNil)))) : PE X e (tIsi2 K te a b) := hK ▸ h
def aIsi2 (fa : AE) (a b : Ty) : AE := fun ρ n Q => fa ρ n fun d n1 => match d.tv with
  | some t => (tyOk a && tyOk b) = true ∧ Q (.bl (isiB t a || isiB t b)) n1
  | none => False
theorem kit_two {t a b : Ty} (ht : t ≠ .verr) (h : (tyOk a && tyOk b) = true) : PySem.W.kitAny K (.type t.nm) [.type a.nm, .type b.nm] = some (isiB t a || isiB t b) := by
  rw [Bool.and_eq_true] at h
  have na : ∀ {x : Ty}, tyOk x = true → x ≠ .non ∧ x ≠ .verr := fun {x} hx => ⟨(fun z => by rw [z] at hx; cases hx), (fun z => by rw [z] at hx; cases hx)⟩
  have k1 : PySem.W.kitOne K (.type t.nm) (.type a.nm) = some (isiB t a) := kit_ty (kitB_is _ _ (na h.1).1 (na h.1).2 ht)
  have k2 : PySem.W.kitOne K (.type t.nm) (.type b.nm) = some (isiB t b) := kit_ty (kitB_is _ _ (na h.2).1 (na h.2).2 ht)
  unfold PySem.W.kitAny
  rw [k1]
  cases isiB t a with
  | true => rfl
  | false =>
    unfold PySem.W.kitAny
    simp only
    rw [k2]
    cases isiB t b <;> rfl
instance {te : TE} {fa : AE} {a b : Ty} [DE K te fa] : DE K (tIsi2 K te a b) (aIsi2 fa a b) := ⟨fun W σ ρ n H Q Qa hQ hE o h =>
  DE.run (te := te) (f := fa) W σ ρ n H _ _ (fun d n1 h1 H1 x l1 o1 ax => by
    split at h1
    · rename_i t e
      obtain ⟨hk, q⟩ := h1
      refine ⟨(by show 2 ≤ sizeLine; decide), fun p hp => ?_⟩
      have sm : Same H1 (upd H1 p (.tup [.ty a.nm, .ty b.nm])) := same_upd hp
      have ax2 := At.le o1 (Wd.le_same sm) _ ax
      exact ⟨x, p, _, .type t.nm, [.type a.nm, .type b.nm], isiB t a || isiB t b, rfl, upd_same, .cons (.ty _) (.cons (.ty _) .nil), tv_is ax2 e, kit_two (fun z => tv_nv (z ▸ e)) hk, (hQ.le l1) _ _ q _ _ (Wd.le_same sm) (o1.same sm) (.bl _)⟩
    · exact h1.elim) hE o h⟩
end

/-! ### list(zip(a, b)) of two lists -/
namespace ZL
section
open PySem
open PySem.Sem (wp)
variable {prog : Program} {w : World} {A : Around} {E : Value → Shared → Prop} {s : Shared}
theorem zipH_item {z TI TO i1 i2 l1 l2 T0 : Addr} {k1 k2 : Nat} {xs ys : Array Value} {x y : Value} {bb : Bool} {oT : Obj} {Q : Value → Shared → Prop} (D : ZipApart z TI TO i1 i2 l1 l2)
    (hz : IsZipH s.heap z TI TO T0 bb) (hT0 : s.heap.get? T0 = some oT) (hTI : IsPair s.heap TI (.ref i1) (.ref i2))
    (h1 : s.heap.IsListIter i1 l1 k1) (h2 : s.heap.IsListIter i2 l2 k2) (hl1 : s.heap.IsList l1 xs) (hl2 : s.heap.IsList l2 ys) (hx : xs[k1]? = some x) (hy : ys[k2]? = some y)
    (hQ : ∀ h', IsZipH h' z TI TO T0 true → h'.IsListIter i1 l1 (k1 + 1) → h'.IsListIter i2 l2 (k2 + 1) → IsPair h' s.heap.objs.size x y →
      (∀ c o, c ≠ z → c ≠ i1 → c ≠ i2 → s.heap.get? c = some o → h'.get? c = some o) → Q (.ref s.heap.objs.size) { s with heap := h' }) :
    wpAny (model prog w) A (Builtin.«zip.__next__» ⟨[.ref z], []⟩) (fun fin s' => ∃ v, fin = .done (.ret v) ∧ Q v s') E s := by
  show wpAny _ _ (field (.ref z) 2 >>= _) _ _ _
  refine wpAny_bind (wpAny_field hz rfl (x := .bool false) rfl ?_)
  show wpAny _ _ (field (.ref z) 3 >>= _) _ _ _
  refine wpAny_bind (wpAny_field hz rfl (x := .ref TI) rfl ?_)
  refine wpAny_bind (wpAny_seqItems hTI rfl ?_)
  show wpAny _ _ (Builtin.SmallTypes.ownedTupleIsFree (.ref z) >>= _) _ _ _
  refine wpAny_bind (owned_held hz hT0 fun h₁ hz₁ hs₁ => ?_)
  simp only [Bool.false_eq_true, if_false]
  refine wpAny_bind ?_
  rw [show (#[Value.ref i1, Value.ref i2] : Array Value) = [Value.ref i1, Value.ref i2].toArray from rfl, List.forIn_toArray]
  simp only [List.forIn_cons, List.forIn_nil]
  refine wpAny_bind (wpAny_bind (wpAny_holding ?_))
  show wpAny _ _ (Builtin.SmallTypes.nextOf (.ref i1) >>= _) _ _ _
  refine wpAny_bind (wpAny_nextOf_list_item (h1.extBut hs₁.extBut D.i1z) (hl1.extBut hs₁.extBut D.l1z) hx fun h₂ h1₂ hs₂ => wpAny_pure (wpAny_pure ?_))
  show wpAny _ _ (_ >>= _) _ _ _
  refine wpAny_bind (wpAny_bind (wpAny_holding ?_))
  show wpAny _ _ (Builtin.SmallTypes.nextOf (.ref i2) >>= _) _ _ _
  refine wpAny_bind (wpAny_nextOf_list_item ((h2.extBut hs₁.extBut D.i2z).extBut hs₂.extBut D.i12.symm) ((hl2.extBut hs₁.extBut D.l2z).extBut hs₂.extBut D.l2i1) hy fun h₃ h2₃ hs₃ => wpAny_pure (wpAny_pure (wpAny_pure ?_)))
  show wpAny _ _ (newTuple [x, y] >>= _) _ _ _
  refine wpAny_bind (wpAny_newTuple (wpAny_pure ⟨_, rfl, ?_⟩))
  have hsz : h₃.objs.size = s.heap.objs.size := by rw [hs₃.1, hs₂.1, hs₁.1]
  have hz₃ : IsZipH h₃ z TI TO T0 true := hs₃.extBut _ _ D.i2z.symm (hs₂.extBut _ _ D.i1z.symm hz₁)
  have up : ∀ c o, h₃.get? c = some o → (h₃.push { cls := .type "tuple", data := .seq #[x, y] }).get? c = some o := fun c o e => Heap.get?_push_of_some _ e
  show Q (.ref h₃.objs.size) _
  rw [hsz]
  refine hQ _ (up _ _ hz₃) ((h1₂.extBut hs₃.extBut D.i12).at fun o e => up _ o e) (h2₃.at fun o e => up _ o e) ?_ fun c o c1 c2 c3 e => up _ _ (hs₃.extBut _ _ c3 (hs₂.extBut _ _ c2 (hs₁.extBut _ _ c1 e)))
  rw [← hsz]
  exact Heap.get?_push_size _ rfl
theorem zipH_end {z TI TO i1 i2 l1 l2 T0 : Addr} {k1 : Nat} {xs : Array Value} {bb : Bool} {oT : Obj} {Q : Fin → Shared → Prop} (hh : A.handled = none) (D : ZipApart z TI TO i1 i2 l1 l2)
    (hz : IsZipH s.heap z TI TO T0 bb) (hT0 : s.heap.get? T0 = some oT) (hTI : IsPair s.heap TI (.ref i1) (.ref i2))
    (h1 : s.heap.IsListIter i1 l1 k1) (hl1 : s.heap.IsList l1 xs) (hend : xs[k1]? = none)
    (hE : ∀ h' e, (∀ c o, c ≠ z → c ≠ i1 → s.heap.get? c = some o → h'.get? c = some o) → (∃ o, h'.get? e = some o ∧ o.cls = .type "StopIteration") → E (.ref e) { s with heap := h' }) :
    wpAny (model prog w) A (Builtin.«zip.__next__» ⟨[.ref z], []⟩) Q E s := by
  show wpAny _ _ (field (.ref z) 2 >>= _) _ _ _
  refine wpAny_bind (wpAny_field hz rfl (x := .bool false) rfl ?_)
  show wpAny _ _ (field (.ref z) 3 >>= _) _ _ _
  refine wpAny_bind (wpAny_field hz rfl (x := .ref TI) rfl ?_)
  refine wpAny_bind (wpAny_seqItems hTI rfl ?_)
  show wpAny _ _ (Builtin.SmallTypes.ownedTupleIsFree (.ref z) >>= _) _ _ _
  refine wpAny_bind (owned_held hz hT0 fun h₁ hz₁ hs₁ => ?_)
  simp only [Bool.false_eq_true, if_false]
  refine wpAny_bind ?_
  rw [show (#[Value.ref i1, Value.ref i2] : Array Value) = [Value.ref i1, Value.ref i2].toArray from rfl, List.forIn_toArray]
  simp only [List.forIn_cons, List.forIn_nil]
  refine wpAny_bind (wpAny_bind (wpAny_holding ?_))
  show wpAny _ _ (Builtin.SmallTypes.nextOf (.ref i1) >>= _) _ _ _
  refine wpAny_bind (wpAny_nextOf_list_end hh (h1.extBut hs₁.extBut D.i1z) (hl1.extBut hs₁.extBut D.l1z) hend fun h₂ e hs₂ he => ?_)
  exact hE h₂ e (fun c o c1 c3 x => hs₂ _ _ c3 (hs₁.extBut _ _ c1 x)) he
theorem next_zipH_item {z TI TO i1 i2 l1 l2 T0 : Addr} {k1 k2 : Nat} {xs ys : Array Value} {x y : Value} {bb : Bool} {oT : Obj} {Q : Option Value → Shared → Prop} (D : ZipApart z TI TO i1 i2 l1 l2)
    (hz : IsZipH s.heap z TI TO T0 bb) (hT0 : s.heap.get? T0 = some oT) (hTI : IsPair s.heap TI (.ref i1) (.ref i2))
    (h1 : s.heap.IsListIter i1 l1 k1) (h2 : s.heap.IsListIter i2 l2 k2) (hl1 : s.heap.IsList l1 xs) (hl2 : s.heap.IsList l2 ys) (hx : xs[k1]? = some x) (hy : ys[k2]? = some y)
    (hQ : ∀ h', IsZipH h' z TI TO T0 true → h'.IsListIter i1 l1 (k1 + 1) → h'.IsListIter i2 l2 (k2 + 1) → IsPair h' s.heap.objs.size x y →
      (∀ c o, c ≠ z → c ≠ i1 → c ≠ i2 → s.heap.get? c = some o → h'.get? c = some o) → Q (some (.ref s.heap.objs.size)) { s with heap := h' }) :
    wpAny (model prog w) A (pyNext (.ref z)) Q E s := by
  have hT : s.TypeIs (.ref z) "zip" := ⟨_, hz, rfl⟩
  unfold pyNext
  exact wpAny_bind (wpAny_attempt (wpAny_callSpecial?_slot (name := Str.ofString "__next__") hT F.slot_zip_next
    (wpAny_call_entry F.slot_zip_next hT F.entry_zip_next
      (zipH_item D hz hT0 hTI h1 h2 hl1 hl2 hx hy fun h' a1 a2 a3 a4 a5 => wpAny_pure (hQ h' a1 a2 a3 a4 a5)) (F.args_zip_next_1 _))))
theorem next_zipH_end {z TI TO i1 i2 l1 l2 T0 : Addr} {k1 : Nat} {xs : Array Value} {bb : Bool} {oT : Obj} {Q : Option Value → Shared → Prop} (hh : A.handled = none) (D : ZipApart z TI TO i1 i2 l1 l2)
    (hz : IsZipH s.heap z TI TO T0 bb) (hT0 : s.heap.get? T0 = some oT) (hTI : IsPair s.heap TI (.ref i1) (.ref i2))
    (h1 : s.heap.IsListIter i1 l1 k1) (hl1 : s.heap.IsList l1 xs) (hend : xs[k1]? = none)
    (hQ : ∀ h', (∀ c o, c ≠ z → c ≠ i1 → s.heap.get? c = some o → h'.get? c = some o) → Q none { s with heap := h' }) : wpAny (model prog w) A (pyNext (.ref z)) Q E s := by
  have hT : s.TypeIs (.ref z) "zip" := ⟨_, hz, rfl⟩
  unfold pyNext
  refine wpAny_bind (wpAny_attempt (wpAny_callSpecial?_slot (name := Str.ofString "__next__") hT F.slot_zip_next
    (wpAny_call_entry F.slot_zip_next hT F.entry_zip_next (zipH_end hh D hz hT0 hTI h1 hl1 hend fun h' e hk he => ?_) (F.args_zip_next_1 _))))
  obtain ⟨o, ho, hc⟩ := he
  refine wpAny_bind (wpAny_isInstance (T := "StopIteration") (b := true) ⟨o, ho, hc⟩ isSubtype_stop ?_)
  exact wpAny_pure (hQ _ hk)
end
section
open PySem
variable {X : Cx} {pins : List (Addr × Obj)} {σ : L2.St}
def ZSt (h : Heap) (z TI TO : Addr) (ts : List Addr) : Prop := (ts = [] ∧ IsZip h z TI TO .none ∧ ∃ x y, IsPair h TO x y) ∨ ∃ T0 r b, ts = T0 :: r ∧ IsZipH h z TI TO T0 b
theorem zip_loop {A : Around} {a b z TI TO i1 i2 S : Addr} {xs ys : List V} {res : Value} {Rr : Result → Shared → Prop} {H0 : Hp} (hh : A.handled = none) (D : ZipApart z TI TO i1 i2 a b) (hS0 : H0 S = none) (aS : a ≠ S) (bS : b ≠ S)
    (hlen : xs.length = ys.length) (hsz : xs.length ≤ 1000000) :
    ∀ (k : Nat) (s : Shared) (H : Hp) (ts : List Addr), xs.length - ts.length = k → ts.length ≤ xs.length → Inv X pins σ H s → ZSt s.heap z TI TO ts → IsPair s.heap TI (.ref i1) (.ref i2) →
      s.heap.IsListIter i1 a ts.length → s.heap.IsListIter i2 b ts.length → SqL X.K H a xs → SqL X.K H b ys → H S = some (.lst (ts.map V.ref)) → PairsAt H xs ys ts → (∀ c o, H0 c = some o → H c = some o) →
      (∀ c ∈ [z, TI, TO, i1, i2], FpOk X pins H c) → (∀ c ∈ [z, TI, TO, i1, i2], c < s.heap.objs.size) →
      (∀ s' H' ts', Inv X pins σ H' s' → (∀ c o, H0 c = some o → H' c = some o) → H' S = some (.lst (ts'.map V.ref)) → ts'.length = xs.length → PairsAt H' xs ys ts' → Rr (.ok (.ret res)) s') →
      codeAny (model X.prog X.w) A (.builtin "list.extend.loop" ⟨[.ref S, .ref z, res], []⟩) Rr s := by
  intro k
  induction k with
  | zero =>
    intro s H ts hk hi I hz hTI h1 h2 qa qb hS hP hold hf hbd hR
    have hin : ts.length = xs.length := by omega
    obtain ⟨its, rv, p, _⟩ := I.list qa
    obtain ⟨its2, rv2, p2, _⟩ := I.list qb
    have hend : its.toArray[ts.length]? = none := by
      have := rv.length
      simp
      omega
    refine codeAny_builtin F.entry_extend_loop ?_
    rw [Around.under_plainId F.plain_extend_loop _]
    show wpAny _ A.in1 (pyNext (.ref z) >>= _) _ _ s
    refine wpAny_bind ?_
    have fin : ∀ h' : Heap, (∀ c o, c ≠ z → c ≠ TO → c ≠ i1 → c ≠ i2 → s.heap.get? c = some o → h'.get? c = some o) → Rr (.ok (.ret res)) { s with heap := h' } := fun h' hk' =>
      hR _ H ts (I.turnedL (t' := s.toks) (ch := [z, TI, TO, i1, i2]) (fun c o hb q => hk' c o (fun e => hb (by simp [e])) (fun e => hb (by simp [e])) (fun e => hb (by simp [e])) (fun e => hb (by simp [e])) q) hf) hold hS hin hP
    rcases hz with ⟨_, hz, x0, y0, hTO⟩ | ⟨T0, r, bb, rfl, hz⟩
    · exact wpAny_pyNext_zip_end (show A.in1.handled = none from hh) D hz hTI hTO h1 h2 p.isList p2.isList (.inl hend) fun h' hk' => wpAny_pure (fin h' hk')
    · obtain ⟨x, y, _, _, hT0⟩ := hP 0 T0 rfl
      obtain ⟨_, its0, _, ⟨oT, hoT, _⟩⟩ : ObjOk X.prog X.w H s.heap T0 (.tup [x, y]) := I.hok T0 _ hT0
      exact next_zipH_end (show A.in1.handled = none from hh) D hz hoT hTI h1 p.isList hend fun h' hk' => wpAny_pure (fin h' fun c o c1 _ c3 _ e => hk' c o c1 c3 e)
  | succ k ih =>
    intro s H ts hk hi I hz hTI h1 h2 qa qb hS hP hold hf hbd hR
    have hlt : ts.length < xs.length := by omega
    obtain ⟨its, rv, p, _⟩ := I.list qa
    obtain ⟨its2, rv2, p2, _⟩ := I.list qb
    have hx : xs[ts.length]? = some xs[ts.length] := List.getElem?_eq_getElem hlt
    have hlt2 : ts.length < ys.length := by omega
    have hy : ys[ts.length]? = some ys[ts.length] := List.getElem?_eq_getElem hlt2
    generalize xs[ts.length] = x at hx
    generalize ys[ts.length] = y at hy
    obtain ⟨u, hu, ru⟩ := rv.get hx
    obtain ⟨u2, hu2, ru2⟩ := rv2.get hy
    refine codeAny_builtin F.entry_extend_loop ?_
    rw [Around.under_plainId F.plain_extend_loop _]
    show wpAny _ A.in1 (pyNext (.ref z) >>= _) _ _ s
    refine wpAny_bind ?_
    have fin : ∀ h' : Heap, ZSt h' z TI TO (ts ++ [s.heap.objs.size]) → h'.IsListIter i1 a (ts.length + 1) → h'.IsListIter i2 b (ts.length + 1) → IsPair h' s.heap.objs.size u u2 →
        (∀ c o, c ≠ z → c ≠ TO → c ≠ i1 → c ≠ i2 → s.heap.get? c = some o → h'.get? c = some o) →
        wpAny (model X.prog X.w) A.in1 (updateSeq S (·.push (.ref s.heap.objs.size)) >>= fun _ => again (.builtin "list.extend.loop" ⟨[.ref S, .ref z, res], []⟩))
          (fun fin s' => match fin with | .done f => Rr (.ok f) s' | .again c' => c'.quiet = true ∧ codeAny (model X.prog X.w) A c' Rr s') (fun e s' => Rr (.error e) s') { s with heap := h' } := fun h' hz' h1' h2' hT hk' => by
      have hTI' : IsPair h' TI (.ref i1) (.ref i2) := hk' TI _ D.TIz D.TITO D.TIi1 D.TIi2 hTI
      have new : ObjOk X.prog X.w (upd H s.heap.objs.size (.tup [x, y])) h' s.heap.objs.size (.tup [x, y]) :=
        ⟨by show 2 ≤ sizeLine; decide, [u, u2], .cons ru (.cons ru2 .nil), ⟨_, hT, rfl, _, rfl⟩⟩
      have I1 : Inv X pins σ (upd H s.heap.objs.size (.tup [x, y])) { s with heap := h' } :=
        I.turnedNew (t' := s.toks) (ch := [z, TI, TO, i1, i2]) (fun c o hb q => hk' c o (fun e => hb (by simp [e])) (fun e => hb (by simp [e])) (fun e => hb (by simp [e])) (fun e => hb (by simp [e])) q) hf (Nat.le_refl _) new
      have fr : H s.heap.objs.size = none := I.hok.fresh (Nat.le_refl _)
      have sm : ∀ c o, H c = some o → upd H s.heap.objs.size (.tup [x, y]) c = some o := fun c o e => by
        rw [upd_ne (ne_of_none e fr)]
        exact e
      have hS1 := sm S _ hS
      obtain ⟨hz1, itsS, nS, rvS, eS⟩ : ObjOk X.prog X.w _ h' S (.lst (ts.map V.ref)) := I1.hok S _ hS1
      have lS : itsS.length = ts.length := by
        have := rvS.length
        simp at this
        omega
      have line := sizeLine_eq
      refine wpAny_bind (wpAny_updateSeq (s := { s with heap := h' }) eS rfl (wpAny_pure ⟨plainId_quiet F.plain_extend_loop _, ?_⟩) (by simp; omega) (by simp; omega))
      have eS2 := Heap.get?_update_self (Obj.mapSeq (·.push (Value.ref s.heap.objs.size))) eS rfl
      have I2 : Inv X pins σ (upd (upd H s.heap.objs.size (.tup [x, y])) S (.lst ((ts ++ [s.heap.objs.size]).map V.ref))) { s with heap := h'.update S (Obj.mapSeq (·.push (Value.ref s.heap.objs.size))) } :=
        I1.write (x := S) (e := S) (t' := s.toks) (by rw [hS1]; trivial) (.inl rfl) (fun c o hc e => (Heap.get?_update_other _ _ (Ne.symm hc)).trans e) ⟨_, eS2⟩ ⟨by rw [List.length_map, List.length_append]; simp; omega, itsS ++ [.ref s.heap.objs.size], _, by
            rw [List.map_append]
            exact rvS.append (.cons rfl .nil), by
            rw [eS2]
            simp [Obj.mapSeq]
            rfl⟩
      have nS' : ∀ c, H c = none → c ≠ S := fun c e e' => by
        rw [e', hS] at e
        cases e
      have oth : ∀ c o, c ≠ S → h'.get? c = some o → (h'.update S (Obj.mapSeq (·.push (Value.ref s.heap.objs.size)))).get? c = some o := fun c o hc e => (Heap.get?_update_other _ _ (Ne.symm hc)).trans e
      have up : ∀ c o, c ≠ S → H c = some o → upd (upd H s.heap.objs.size (.tup [x, y])) S (.lst ((ts ++ [s.heap.objs.size]).map V.ref)) c = some o := fun c o hc e => by
        rw [upd_ne hc]
        exact sm c o e
      have nz := fun c hc => nS' c (hf c hc).1
      have TS : s.heap.objs.size ≠ S := nS' _ fr
      refine ih _ _ (ts ++ [s.heap.objs.size]) (by rw [List.length_append]; simp; omega) (by rw [List.length_append]; simp; omega) I2 ?_ (oth _ _ (nz TI (by simp)) hTI') ?_ ?_ ?_ ?_ (by rw [upd_same]) ?_ ?_ ?_ ?_ hR
      · rcases hz' with ⟨e, _⟩ | ⟨T0, r, bb, e, hz'⟩
        · simp at e
        · exact .inr ⟨T0, r, bb, e, oth _ _ (nz z (by simp)) hz'⟩
      · rw [List.length_append]
        exact h1'.at fun o e => oth _ o (nz i1 (by simp)) e
      · rw [List.length_append]
        exact h2'.at fun o e => oth _ o (nz i2 (by simp)) e
      · rcases qa with (g | ⟨ob, g⟩) | g
        · exact .inl (.inl (up _ _ aS g))
        · exact .inl (.inr ⟨ob, up _ _ aS g⟩)
        · exact .inr g
      · rcases qb with (g | ⟨ob, g⟩) | g
        · exact .inl (.inl (up _ _ bS g))
        · exact .inl (.inr ⟨ob, up _ _ bS g⟩)
        · exact .inr g
      · intro i t e
        by_cases hi' : i < ts.length
        · rw [List.getElem?_append_left hi'] at e
          obtain ⟨x', y', e1, e2, e3⟩ := hP i t e
          exact ⟨x', y', e1, e2, up _ _ (fun e' => by rw [e', hS] at e3; cases e3) e3⟩
        · have hi2 : i = ts.length := by
            have := (List.getElem?_eq_some_iff.mp e).1
            simp at this
            omega
          subst hi2
          have : t = s.heap.objs.size := by
            rw [List.getElem?_append_right (Nat.le_refl _)] at e
            simpa using e.symm
          subst this
          exact ⟨x, y, hx, hy, by rw [upd_ne TS, upd_same]⟩
      · intro c o e
        refine up c o (fun e' => ?_) (hold c o e)
        rw [e', hS0] at e
        cases e
      · intro c hc
        obtain ⟨g1, g2⟩ := hf c hc
        refine ⟨?_, g2⟩
        rw [upd_ne (nz c hc), upd_ne (Nat.ne_of_lt (hbd c hc))]
        exact g1
      · intro c hc
        exact Nat.lt_trans (hbd c hc) (Heap.lt_size (oth _ _ TS hT))
    rcases hz with ⟨rfl, hz, x0, y0, hTO⟩ | ⟨T0, r, bb, rfl, hz⟩
    · exact wpAny_pyNext_zip_item D hz hTI hTO h1 h2 p.isList p2.isList (x := u) (y := u2) (by simpa using hu) (by simpa using hu2) fun h' z' TO' h1' h2' hT hsz' hk' => fin h' (.inr ⟨_, [], false, rfl, z'⟩) h1' h2' hT hk'
    · obtain ⟨x', y', _, _, hT0⟩ := hP 0 T0 rfl
      obtain ⟨_, its0, _, ⟨oT, hoT, _⟩⟩ : ObjOk X.prog X.w H s.heap T0 (.tup [x', y']) := I.hok T0 _ hT0
      exact next_zipH_item D hz hoT hTI h1 h2 p.isList p2.isList (x := u) (y := u2) (by simpa using hu) (by simpa using hu2) fun h' z' h1' h2' hT hk' => fin h' (.inr ⟨T0, r ++ [s.heap.objs.size], true, rfl, z'⟩) h1' h2' hT fun c o c1 _ c3 c4 e => hk' c o c1 c3 c4 e
/-- the call list(z) of a zip at its start -/
theorem call_list_zip {A : Around} {a b z TI TO i1 i2 : Addr} {xs ys : List V} {Q : Value → Shared → Prop} {E : Value → Shared → Prop} {s : Shared} {H : Hp} (hh : A.handled = none) (D : ZipApart z TI TO i1 i2 a b)
    (hlen : xs.length = ys.length) (hsz : xs.length ≤ 1000000) (I : Inv X pins σ H s) (hz : IsZip s.heap z TI TO .none) (hTI : IsPair s.heap TI (.ref i1) (.ref i2)) (hTO : ∃ x y, IsPair s.heap TO x y)
    (h1 : s.heap.IsListIter i1 a 0) (h2 : s.heap.IsListIter i2 b 0) (qa : SqL X.K H a xs) (qb : SqL X.K H b ys) (hf : ∀ c ∈ [z, TI, TO, i1, i2], FpOk X pins H c) (hbd : ∀ c ∈ [z, TI, TO, i1, i2], c < s.heap.objs.size)
    (hQ : ∀ s' H' ts S, Inv X pins σ H' s' → H S = none → (∀ c o, H c = some o → H' c = some o) → H' S = some (.lst (ts.map V.ref)) → ts.length = xs.length → PairsAt H' xs ys ts → Q (.ref S) s') :
    wpAny (model X.prog X.w) A (call (.type "list") [.ref z]) Q E s := by
  refine callType_codes (Q₁ := fun obj s₁ => obj = .ref s.heap.objs.size ∧ s₁ = { s with heap := s.heap.push { cls := .type "list", data := .seq #[] } }) F.called_list (F.typeCall_list_1 _) F.entry_list_init
    (code_list_new _ ⟨rfl, rfl⟩) fun obj s₁ h₁ => ?_
  obtain ⟨rfl, rfl⟩ := h₁
  have hS : (s.heap.push { cls := .type "list", data := .seq #[] }).get? s.heap.objs.size = some { cls := .type "list", data := .seq #[] } := Heap.get?_push_size _ rfl
  refine ⟨⟨_, hS, rfl⟩, F.args_list_init_2 _ _, ?_⟩
  obtain ⟨S, hSd⟩ : ∃ S, S = s.heap.objs.size := ⟨_, rfl⟩
  rw [← hSd] at hS ⊢
  have fr : H S = none := I.hok.fresh (Nat.le_of_eq hSd.symm)
  have k0 : ∀ c o, s.heap.get? c = some o → (s.heap.push { cls := .type "list", data := .seq #[] }).get? c = some o := fun c o e => Heap.get?_push_of_some _ e
  have nS : ∀ c o, s.heap.get? c = some o → c ≠ S := fun c o e => Nat.ne_of_lt (Nat.lt_of_lt_of_eq (Heap.lt_size e) hSd.symm)
  have hSz : S ≠ z := Nat.ne_of_gt (Nat.lt_of_lt_of_eq (hbd z (by simp)) hSd.symm)
  generalize s.heap.push { cls := .type "list", data := .seq #[] } = g0 at hS k0 ⊢
  show wpAny _ A.in1.in1 (do let old ← Builtin.List.listItems (.ref S); Builtin.List.listUpdate (.ref S) (fun _ => #[]); letGo old.toList.reverse; Builtin.List.listExtendWith (.ref S) (.ref z) .none) _ _ _
  refine wpAny_bind ?_
  unfold Builtin.List.listItems
  refine wpAny_bind (wpAny_seqItems (s := { s with heap := g0 }) hS rfl (wpAny_pure ?_))
  show wpAny _ A.in1.in1 (updateSeq S (fun _ => #[]) >>= fun _ => letGo (#[] : Array Value).toList.reverse >>= fun _ => Builtin.List.listExtendWith (.ref S) (.ref z) .none) _ _ _
  refine wpAny_bind (wpAny_updateSeq (s := { s with heap := g0 }) hS rfl ?_)
  have hS₂ := Heap.get?_update_self (Obj.mapSeq (fun _ => (#[] : Array Value))) hS rfl
  have oth : ∀ c o, s.heap.get? c = some o → (g0.update S (Obj.mapSeq (fun _ => (#[] : Array Value)))).get? c = some o := fun c o e => (Heap.get?_update_other _ _ (Ne.symm (nS c o e))).trans (k0 c o e)
  generalize g0.update S (Obj.mapSeq (fun _ => (#[] : Array Value))) = g1 at hS₂ oth ⊢
  refine wpAny_bind (wpAny_letGo ?_)
  have hT : ({ s with heap := g1 } : Shared).TypeIs (.ref z) "zip" := ⟨_, oth _ _ hz, rfl⟩
  unfold Builtin.List.listExtendWith
  refine wpAny_bind (wpAny_typeOf hT ?_)
  have e1 : Builtin.List.listSameRef (.ref S) (.ref z) = false := by simp [Builtin.List.listSameRef, hSz]
  have e2 : (Value.type "zip" == Value.type "list") = false := by decide
  have e3 : (Value.type "zip" == Value.type "tuple") = false := by decide
  simp only [e1, e2, e3, Bool.or_false, Bool.false_eq_true, if_false]
  refine wpAny_bind (wpAny_pyIter_zip (s := { s with heap := g1 }) (oth _ _ hz) ?_)
  refine wpAny_bind (wpAny_holding ?_)
  unfold Builtin.List.listLengthHint
  refine wpAny_bind (wpAny_specialOf hT zip_no_len ?_)
  show wpAny _ A.in1.in1 (specialOf (Value.ref z) (Str.ofString "__length_hint__") >>= _) _ _ _
  refine wpAny_bind (wpAny_specialOf hT zip_no_hint ?_)
  refine wpAny_pure ?_
  show wpAny _ A.in1.in1 (rule "list.extend.makes-room" >>= fun _ => Builtin.List.listTouch (.ref S) >>= fun _ =>
    again (.builtin "list.extend.loop" ⟨[.ref S, .ref z, .none], []⟩)) _ _ _
  refine wpAny_bind (wpAny_rule ?_)
  refine wpAny_bind ?_
  show wpAny _ A.in1.in1 (updateSeq S (·.push .none) >>= fun _ => updateSeq S (·.pop)) _ _ _
  refine wpAny_bind (wpAny_updateSeq (s := { s with heap := g1 }) hS₂ rfl ?_)
  have hS₃ := Heap.get?_update_self (Obj.mapSeq (·.push Value.none)) hS₂ rfl
  refine wpAny_updateSeq (hz := by seq_fits) (s := { s with heap := g1.update S (Obj.mapSeq (·.push Value.none)) }) hS₃ rfl ?_
  have hS₄ := Heap.get?_update_self (Obj.mapSeq (·.pop)) hS₃ rfl
  have oth2 : ∀ c o, s.heap.get? c = some o → ((g1.update S (Obj.mapSeq (·.push Value.none))).update S (Obj.mapSeq (·.pop))).get? c = some o :=
    fun c o e => (Heap.get?_update_other _ _ (Ne.symm (nS c o e))).trans ((Heap.get?_update_other _ _ (Ne.symm (nS c o e))).trans (oth c o e))
  generalize (g1.update S (Obj.mapSeq (·.push Value.none))).update S (Obj.mapSeq (·.pop)) = g2 at hS₄ oth2 ⊢
  have I2 : Inv X pins σ (upd H S (.lst [])) { s with heap := g2 } := I.laid (t' := s.toks) oth2 (Nat.le_of_eq hSd.symm) (show ObjOk X.prog X.w _ g2 _ (.lst []) from ⟨Nat.zero_le _, [], _, .nil, hS₄⟩)
  have sm : ∀ c o, H c = some o → upd H S (.lst []) c = some o := fun c o e => by
    rw [upd_ne (ne_of_none e fr)]
    exact e
  refine wpAny_pure ⟨plainId_quiet F.plain_extend_loop _, zip_loop (A := A.in1) (H0 := H) (X := X) (pins := pins) (σ := σ) hh D fr (fun e => by obtain ⟨_, _, p, _⟩ := I.list qa; exact absurd p.lt (by rw [e, hSd]; exact Nat.lt_irrefl _)) (fun e => by obtain ⟨_, _, p, _⟩ := I.list qb; exact absurd p.lt (by rw [e, hSd]; exact Nat.lt_irrefl _)) hlen hsz _ _ (upd H S (.lst [])) [] rfl (Nat.zero_le _) I2 (.inl ⟨rfl, oth2 _ _ hz, let ⟨x, y, e⟩ := hTO; ⟨x, y, oth2 _ _ e⟩⟩) (oth2 _ _ hTI) (h1.at fun o e => oth2 _ o e) (h2.at fun o e => oth2 _ o e) ?_ ?_ (by rw [upd_same]; rfl) (fun i t e => by cases e) sm ?_ ?_ fun s' H' ts' I' k' q' l' p' => ⟨rfl, hQ s' H' ts' S I' fr k' q' l' p'⟩⟩
  · rcases qa with (g | ⟨ob, g⟩) | g
    · exact .inl (.inl (sm _ _ g))
    · exact .inl (.inr ⟨ob, sm _ _ g⟩)
    · exact .inr g
  · rcases qb with (g | ⟨ob, g⟩) | g
    · exact .inl (.inl (sm _ _ g))
    · exact .inl (.inr ⟨ob, sm _ _ g⟩)
    · exact .inr g
  · intro c hc
    obtain ⟨q1, q2⟩ := hf c hc
    refine ⟨?_, q2⟩
    rw [upd_ne (Nat.ne_of_lt (Nat.lt_of_lt_of_eq (hbd c hc) hSd.symm))]
    exact q1
  · intro c hc
    exact Nat.lt_trans (Nat.lt_of_lt_of_eq (hbd c hc) hSd.symm) (Heap.lt_size hS₄)
/-- list(zip(a, b)) of two lists of one length -/
def tLZipL (K : PySem.W.Frag) (ta : TA) : TE := fun σ H Q => ta σ H fun vs H1 => ∃ a b xs ys, vs = [.ref a, .ref b] ∧ SqL K H1 a xs ∧ SqL K H1 b ys ∧ xs.length = ys.length ∧ xs.length ≤ 1000000 ∧
  ∀ H' ts S, H1 S = none → (∀ c o, H1 c = some o → H' c = some o) → H' S = some (.lst (ts.map V.ref)) → ts.length = xs.length → PairsAt H' xs ys ts → Q (.ref S) H'
theorem k_lzipL {K : PySem.W.Frag} {e e2 : Expr} {ta : TA} {p p0 pos pos0 : Pos} (hK : X.K = K) (hc : X.calm = true) (hg0 : Gl X "list") (hm0 : X.mg "list" = none) (hg : Gl X "zip") (hm : X.mg "zip" = none) (ha : PA X [e, e2] ta)
    (hs : starEach [e, e2] X.env = (false, eval e X.env) :: starEach [e2] X.env := by rfl) (hpl : (backTo pos (starEach [e2] X.env)).any (·.1) = false := by rfl)
    (hs0 : starEach [Expr.Call (.Name "zip" p) [e, e2] [] pos] X.env = (false, eval (Expr.Call (.Name "zip" p) [e, e2] [] pos) X.env) :: starEach [] X.env := by rfl) :
    PE X (.Call (.Name "list" p0) [.Call (.Name "zip" p) [e, e2] [] pos] [] pos0) (tLZipL K ta) := by
  subst hK
  refine ⟨fun pins s σ H Q I h => ?_⟩
  refine Call_ (ld_blt I hg0 hm0 PyProof.Rows.boot_list (PyProof.Rows.callWith_type1 ?_ hs0 rfl))
  rw [hs0]
  show wpAny _ _ (spliced ((false, _) :: backTo pos0 (starEach [] X.env))) _ _ s
  refine Calls.spliced_cons ?_
  refine Call_ (ld_blt I hg hm PyProof.Rows.boot_zip (PyProof.Rows.callWith_type1 (thn (ha.run pos pins s σ H _ I h) fun us s1 ⟨vs, H1, I1, r1, q1⟩ => ?_) hs hpl))
  obtain ⟨a, b, xs, ys, ex, qa, qb, hlen, hsz, q⟩ := q1
  subst ex
  cases r1 with
  | cons r rr =>
    cases rr with
    | cons r' rr =>
      cases rr
      cases r
      cases r'
      obtain ⟨its, rv, p1, _⟩ := I1.list qa
      obtain ⟨its2, rv2, p2, _⟩ := I1.list qb
      refine call_zip_2 p1.isList p2.isList fun h' hz hTI hTO h1 h2 hsz' hk => ?_
      have I2 : Inv X pins σ H1 { s1 with heap := h' } := I1.kept (t' := s1.toks) hk
      have five : ∀ c, c ∈ [s1.heap.objs.size + 4, s1.heap.objs.size + 2, s1.heap.objs.size + 3, s1.heap.objs.size, s1.heap.objs.size + 1] → s1.heap.objs.size ≤ c ∧ c < s1.heap.objs.size + 5 := fun c hcm => by
        have e' : c = s1.heap.objs.size + 4 ∨ c = s1.heap.objs.size + 2 ∨ c = s1.heap.objs.size + 3 ∨ c = s1.heap.objs.size ∨ c = s1.heap.objs.size + 1 := by simpa using hcm
        omega
      refine Calls.spliced_nil ?_
      refine call_list_zip (X := X) (pins := pins) (σ := σ) (I2.ok.hd hc) (PySem.W.ktu_apart s1.heap.objs.size a b p1.lt p2.lt) hlen hsz I2 hz hTI ⟨_, _, hTO⟩ h1 h2 qa qb (fun c hcm => I1.fpOk (five c hcm).1 (I1.hok.fresh (five c hcm).1)) (fun c hcm => by
        show c < h'.objs.size
        rw [hsz']
        exact (five c hcm).2) fun s' H' ts S I' hS k' q' l' p' => ⟨.ref S, H', I', rfl, q H' ts S hS k' q' l' p'⟩
end
end ZL
section
open PySem
variable {X : Cx} {pins : List (Addr × Obj)} {σ : L2.St}
/-- list(zip(a, b)) of two tuples or two lists of one length -/
def tLZipA (K : PySem.W.Frag) (ta : TA) : TE := fun σ H Q => ta σ H fun vs H1 =>
  (∃ a b xs ys, vs = [.ref a, .ref b] ∧ SqT K H1 a xs ∧ SqT K H1 b ys ∧ xs.length = ys.length ∧ xs.length ≤ 1000000 ∧
    ∀ H' ts S, H1 S = none → (∀ c o, H1 c = some o → H' c = some o) → H' S = some (.lst (ts.map V.ref)) → ts.length = xs.length → PairsAt H' xs ys ts → Q (.ref S) H') ∨
  (∃ a b xs ys, vs = [.ref a, .ref b] ∧ SqL K H1 a xs ∧ SqL K H1 b ys ∧ xs.length = ys.length ∧ xs.length ≤ 1000000 ∧
    ∀ H' ts S, H1 S = none → (∀ c o, H1 c = some o → H' c = some o) → H' S = some (.lst (ts.map V.ref)) → ts.length = xs.length → PairsAt H' xs ys ts → Q (.ref S) H')
theorem k_lzipA {K : PySem.W.Frag} {e e2 : Expr} {ta : TA} {p p0 pos pos0 : Pos} (hK : X.K = K) (hc : X.calm = true) (hg0 : Gl X "list") (hm0 : X.mg "list" = none) (hg : Gl X "zip") (hm : X.mg "zip" = none) (ha : PA X [e, e2] ta)
    (hs : starEach [e, e2] X.env = (false, eval e X.env) :: starEach [e2] X.env := by rfl) (hpl : (backTo pos (starEach [e2] X.env)).any (·.1) = false := by rfl)
    (hs0 : starEach [Expr.Call (.Name "zip" p) [e, e2] [] pos] X.env = (false, eval (Expr.Call (.Name "zip" p) [e, e2] [] pos) X.env) :: starEach [] X.env := by rfl) :
    PE X (.Call (.Name "list" p0) [.Call (.Name "zip" p) [e, e2] [] pos] [] pos0) (tLZipA K ta) := by
  subst hK
  refine ⟨fun pins s σ H Q I h => ?_⟩
  refine Call_ (ld_blt I hg0 hm0 PyProof.Rows.boot_list (PyProof.Rows.callWith_type1 ?_ hs0 rfl))
  rw [hs0]
  show wpAny _ _ (spliced ((false, _) :: backTo pos0 (starEach [] X.env))) _ _ s
  refine Calls.spliced_cons ?_
  refine Call_ (ld_blt I hg hm PyProof.Rows.boot_zip (PyProof.Rows.callWith_type1 (thn (ha.run pos pins s σ H _ I h) fun us s1 ⟨vs, H1, I1, r1, q1⟩ => ?_) hs hpl))
  rcases q1 with q1 | q1
  · obtain ⟨a, b, xs, ys, ex, qa, qb, hlen, hsz, q⟩ := q1
    subst ex
    cases r1 with
    | cons r rr =>
      cases rr with
      | cons r' rr =>
        cases rr
        cases r
        cases r'
        obtain ⟨its, rv, p1, _⟩ := I1.tuple qa
        obtain ⟨its2, rv2, p2, _⟩ := I1.tuple qb
        obtain ⟨o1, ho1, _⟩ := id p1
        obtain ⟨o2, ho2, _⟩ := id p2
        refine RZ.call_zipT (show s1.heap.IsTuple a its.toArray from p1) (show s1.heap.IsTuple b its2.toArray from p2) fun h' hz hTI hTO h1 h2 hsz' hk => ?_
        have I2 : Inv X pins σ H1 { s1 with heap := h' } := I1.kept (t' := s1.toks) hk
        have five : ∀ c, c ∈ [s1.heap.objs.size + 4, s1.heap.objs.size + 2, s1.heap.objs.size + 3, s1.heap.objs.size, s1.heap.objs.size + 1] → s1.heap.objs.size ≤ c ∧ c < s1.heap.objs.size + 5 := fun c hcm => by
          have e' : c = s1.heap.objs.size + 4 ∨ c = s1.heap.objs.size + 2 ∨ c = s1.heap.objs.size + 3 ∨ c = s1.heap.objs.size ∨ c = s1.heap.objs.size + 1 := by simpa using hcm
          omega
        refine Calls.spliced_nil ?_
        refine call_list_zip (X := X) (pins := pins) (σ := σ) (I2.ok.hd hc) (PySem.W.ktu_apart s1.heap.objs.size a b (Heap.lt_size ho1) (Heap.lt_size ho2)) hlen hsz I2 hz hTI ⟨_, _, hTO⟩ h1 h2 qa qb (fun c hcm => I1.fpOk (five c hcm).1 (I1.hok.fresh (five c hcm).1)) (fun c hcm => by
          show c < h'.objs.size
          rw [hsz']
          exact (five c hcm).2) fun s' H' ts S I' hS k' q' l' p' => ⟨.ref S, H', I', rfl, q H' ts S hS k' q' l' p'⟩
  · obtain ⟨a, b, xs, ys, ex, qa, qb, hlen, hsz, q⟩ := q1
    subst ex
    cases r1 with
    | cons r rr =>
      cases rr with
      | cons r' rr =>
        cases rr
        cases r
        cases r'
        obtain ⟨its, rv, p1, _⟩ := I1.list qa
        obtain ⟨its2, rv2, p2, _⟩ := I1.list qb
        refine call_zip_2 p1.isList p2.isList fun h' hz hTI hTO h1 h2 hsz' hk => ?_
        have I2 : Inv X pins σ H1 { s1 with heap := h' } := I1.kept (t' := s1.toks) hk
        have five : ∀ c, c ∈ [s1.heap.objs.size + 4, s1.heap.objs.size + 2, s1.heap.objs.size + 3, s1.heap.objs.size, s1.heap.objs.size + 1] → s1.heap.objs.size ≤ c ∧ c < s1.heap.objs.size + 5 := fun c hcm => by
          have e' : c = s1.heap.objs.size + 4 ∨ c = s1.heap.objs.size + 2 ∨ c = s1.heap.objs.size + 3 ∨ c = s1.heap.objs.size ∨ c = s1.heap.objs.size + 1 := by simpa using hcm
          omega
        refine Calls.spliced_nil ?_
        refine ZL.call_list_zip (X := X) (pins := pins) (σ := σ) (I2.ok.hd hc) (PySem.W.ktu_apart s1.heap.objs.size a b p1.lt p2.lt) hlen hsz I2 hz hTI ⟨_, _, hTO⟩ h1 h2 qa qb (fun c hcm => I1.fpOk (five c hcm).1 (I1.hok.fresh (five c hcm).1)) (fun c hcm => by
          show c < h'.objs.size
          rw [hsz']
          exact (five c hcm).2) fun s' H' ts S I' hS k' q' l' p' => ⟨.ref S, H', I', rfl, q H' ts S hS k' q' l' p'⟩
end
section
variable {K : PySem.W.Frag}
def aLZipA (g : AA) : AE := fun ρ n Q => g ρ n fun ds n1 => match ds with
  | [.tup as, .tup bs] => as.length = bs.length ∧ as.length ≤ 1000000 ∧ Q (.lst (zipD as bs)) n1
  | [.lst as, .lst bs] => as.length = bs.length ∧ as.length ≤ 1000000 ∧ Q (.lst (zipD as bs)) n1
  | _ => False
instance {ta : TA} {g : AA} [DA K ta g] : DE K (tLZipA K ta) (aLZipA g) := ⟨fun W σ ρ n H Q Qa hQ hE o h =>
  DA.run (te := ta) (f := g) W σ ρ n H _ _ (fun ds n1 h1 H1 vs l1 o1 ax => by
    split at h1
    · obtain ⟨e1, e2, h1⟩ := h1
      cases ax with
      | cons a r =>
        cases r with
        | cons b r =>
          cases r
          cases a with
          | tup sa aa =>
            cases b with
            | tup sb ab =>
              have la := aa.length
              have lb := ab.length
              refine .inl ⟨_, _, _, _, rfl, sa, sb, by omega, by omega, fun H' ts S hS k' q' l' p' => ?_⟩
              have sm : Same H1 H' := k'
              exact hQ _ _ h1 H' _ (l1.trans (Wd.le_same sm)) (o1.same sm) (.lst (o1.fresh hS) q' (pairs_at ts _ _ _ _ (AtAll.le o1 (Wd.le_same sm) _ aa) (AtAll.le o1 (Wd.le_same sm) _ ab) (by omega) l' p'))
    · obtain ⟨e1, e2, h1⟩ := h1
      cases ax with
      | cons a r =>
        cases r with
        | cons b r =>
          cases r
          cases a with
          | lst ra sa aa =>
            cases b with
            | lst rb sb ab =>
              have la := aa.length
              have lb := ab.length
              refine .inr ⟨_, _, _, _, rfl, SqL.of sa, SqL.of sb, by omega, by omega, fun H' ts S hS k' q' l' p' => ?_⟩
              have sm : Same H1 H' := k'
              exact hQ _ _ h1 H' _ (l1.trans (Wd.le_same sm)) (o1.same sm) (.lst (o1.fresh hS) q' (pairs_at ts _ _ _ _ (AtAll.le o1 (Wd.le_same sm) _ aa) (AtAll.le o1 (Wd.le_same sm) _ ab) (by omega) l' p'))
    · exact h1.elim) hE o h⟩
end

theorem mk0 {X : Cx} {e : Expr} {C : Addr} (h : L2N.PMk X e (fun _ H Q => Q (.ref C) none H)) : L2N.PMk X e (tMk0 C) := h
/-! ### in, not in, index: things at any depth -/
section
variable {K : PySem.W.Frag}
def rInDp (K : PySem.W.Frag) : R2 := rInD K
def rNotInDp (K : PySem.W.Frag) : R2 := rNotInD K
theorem k_inD {X : Cx} (hK : X.K = K) (hu : X.A.units + 65 < cLine) : OpR X (compareOp .In) (rInDp K) := hK ▸ op_inD hu
theorem k_notInD {X : Cx} (hK : X.K = K) (hu : X.A.units + 65 < cLine) : OpR X (compareOp .NotIn) (rNotInDp K) := hK ▸ op_notInD hu
def anyD (ds : List D) (d : D) : Bool := (pdAll ds).any fun z => PyData.eqv z d.pd
structure PlD (ds : List D) (d : D) : Prop where
  d1 : d.isD = true
  d2 : isDAll ds = true
  s1 : SeqAt.shaped d.pd = true
  s2 : SeqAt.shaped (.list (pdAll ds)) = true
def aInDp (f : Bool → Bool) : D → D → Nat → (D → Nat → Prop) → Prop := fun d e n Q => ∃ ds, e = .lst ds ∧ PlD ds d ∧ Q (.bl (f (anyD ds d))) n
instance : D2 K (rInDp K) (aInDp id) := ⟨fun W n H x y d e Q Qa hQ o ax ay h => by
  obtain ⟨ds, rfl, p, q⟩ := h
  exact ⟨d.pd, pdAll ds, At.dp d p.d1 ax, At.dp (.lst ds) p.d2 ay, p.s1, p.s2, hQ.now o q (.bl _)⟩⟩
instance : D2 K (rNotInDp K) (aInDp not) := ⟨fun W n H x y d e Q Qa hQ o ax ay h => by
  obtain ⟨ds, rfl, p, q⟩ := h
  exact ⟨d.pd, pdAll ds, At.dp d p.d1 ax, At.dp (.lst ds) p.d2 ay, p.s1, p.s2, hQ.now o q (.bl _)⟩⟩
def tIdxD (K : PySem.W.Frag) (to te : TE) : TE := tBM K "list" (rIndexD K) to (tCons te tNil)
theorem k_idxD {X : Cx} {e : Expr} {to te : TE} (hK : X.K = K) (h : PE X e (tBM X.K "list" (rIndexD X.K) to (tCons te tNil))) : PE X e (tIdxD K to te) := hK ▸ h
def aIdxD (fa fb : AE) : AE := fun ρ n Q => fa ρ n fun d n1 => ∃ ds, d = .lst ds ∧ fb ρ n1 fun e n2 => ∃ j z, PlD ds e ∧ ds[j]? = some z ∧ PyData.eqv z.pd e.pd = true ∧ (∀ (m : Nat) (z' : D), m < j → ds[m]? = some z' → PyData.eqv z'.pd e.pd = false) ∧ Q (.int (j : Nat)) n2
theorem pdAll_get : ∀ {ds : List D} {j : Nat}, (pdAll ds)[j]? = (ds[j]?).map D.pd
  | [], j => by simp [pdAll]
  | d :: ds, 0 => rfl
  | d :: ds, j + 1 => pdAll_get (ds := ds) (j := j)
instance {to te : TE} {fa fb : AE} [DE K to fa] [DE K te fb] : DE K (tIdxD K to te) (aIdxD fa fb) := ⟨fun W σ ρ n H Q Qa hQ hE o h =>
  DE.run (te := to) (f := fa) W σ ρ n H _ _ (fun d n1 h1 H1 x l1 o1 ax => by
    obtain ⟨ds, rfl, h1⟩ := h1
    have hx : ∃ p, x = .ref p ∧ ∃ xs, SqL K H1 p xs := by
      cases ax with
      | lst r s a => exact ⟨_, rfl, _, SqL.of s⟩
    obtain ⟨p, rfl, hs⟩ := hx
    refine ⟨.inl ⟨rfl, hs⟩, ?_⟩
    refine DE.run (te := te) (f := fb) W σ ρ n1 H1 _ _ (fun e n2 h2 H2 y l2 o2 ay => ?_) (hE.le o l1) o1 h1
    obtain ⟨j, z, pl, e1, e2, e3, q⟩ := h2
    refine ⟨p, y, e.pd, pdAll ds, j, z.pd, rfl, rfl, At.dp (.lst ds) pl.d2 (At.le o1 l2 _ ax), At.dp e pl.d1 ay, pl.s2, pl.s1, by rw [pdAll_get, e1]; rfl, e2, fun m z' hm hz' => ?_, ((hQ.le l1).le l2).now o2 q (.int _)⟩
    rw [pdAll_get] at hz'
    obtain ⟨z'', h3, rfl⟩ := Option.map_eq_some_iff.mp hz'
    exact e3 m z'' hm h3) hE o h⟩
theorem anyD_idx {d : D} : ∀ {ds : List D}, anyD ds d = true → ∃ j z, ds[j]? = some z ∧ PyData.eqv z.pd d.pd = true ∧ ∀ (m : Nat) (z' : D), m < j → ds[m]? = some z' → PyData.eqv z'.pd d.pd = false
  | [], h => by cases h
  | x :: ds, h => by
    have h' : (PyData.eqv x.pd d.pd || anyD ds d) = true := h
    cases e : PyData.eqv x.pd d.pd with
    | true => exact ⟨0, x, rfl, e, fun m z' hm => absurd hm (Nat.not_lt_zero _)⟩
    | false =>
      rw [e, Bool.false_or] at h'
      obtain ⟨j, z, h1, h2, h3⟩ := anyD_idx (ds := ds) h'
      refine ⟨j + 1, z, h1, h2, fun m z' hm hz' => ?_⟩
      cases m with
      | zero => cases hz'; exact e
      | succ m => exact h3 m z' (by omega) hz'
theorem anyD_mem {d : D} {ds : List D} (h : anyD ds d = true) : ∃ z ∈ ds, PyData.eqv z.pd d.pd = true := by
  obtain ⟨j, z, h1, h2, _⟩ := anyD_idx h
  exact ⟨z, List.mem_of_getElem? h1, h2⟩
theorem mem_anyD {d z : D} : ∀ {ds : List D}, z ∈ ds → PyData.eqv z.pd d.pd = true → anyD ds d = true
  | x :: ds, hz, e => by
    show (PyData.eqv x.pd d.pd || anyD ds d) = true
    rcases List.mem_cons.mp hz with rfl | hz
    · rw [e]; rfl
    · rw [mem_anyD hz e, Bool.or_true]
end

/-! ### defs that know that no repr is under way -/
section
variable {K : PySem.W.Frag} {ow : List Nat} {Wx : WX}
structure FnG (P : Program) (w : World) (K : PySem.W.Frag) (mg : Str → Option Value) (base : Heap) (k : Nat) (f : Addr) (fd : FuncData) (ps : List Str) (sp : Sp) : Prop where
  lenG : ∀ vs H Q E, sp vs H Q E → vs.length = ps.length
  runG : ∀ (B : Around) (out : List Env) (z : Shared) (H : Hp) (args : Args) (us : List Value) (vs : List V) (Q : VK) (E : XK), Room k B → B.guards = some [] → Env0 P w K mg base B out z H → BindsTo z fd args (ps.zip us) → Vals vs us → sp vs H Q E →
    codeAny (model P w) B (.call (.ref f) args) (CR CX0 out P w H z Q E) z
theorem FnG.mono {P : Program} {w : World} {K : PySem.W.Frag} {mg : Str → Option Value} {base : Heap} {j k : Nat} {f : Addr} {fd : FuncData} {ps : List Str} {sp : Sp} (F : FnG P w K mg base j f fd ps sp) (h : j ≤ k) : FnG P w K mg base k f fd ps sp :=
  ⟨F.lenG, fun B out z H args us vs Q E hr => F.runG B out z H args us vs Q E (hr.mono h)⟩
theorem fn_ofG {P : Program} {w : World} {K : PySem.W.Frag} {mg : Str → Option Value} {base : Heap} {k : Nat} {f : Addr} {nm qn : Str} {pa : Arguments} {bd : List Stmt} {sc : Scope} {dV kV doc pm cdv ct oc : Value} {an od : Option Addr}
    {osl : Array (Option Value)} {N ps : List Str} {sp : Sp} (lk : K.lookup f = some ⟨oc, od, .func (PySem.W.fnOf nm qn pa bd sc dV kV doc pm an cdv ct), osl⟩) (hcd : PySem.W.codeIn K cdv qn = true) (S : FnScope N ps sc)
    (len : ∀ vs H Q E, sp vs H Q E → vs.length = ps.length)
    (hbody : ∀ (B : Around) (out : List Env) (z : Shared) (H : Hp) (vs : List V) (Q : VK) (E : XK), Room k (B.deeper (envOfC qn sc z.heap.objs.size f cdv)) → (B.deeper (envOfC qn sc z.heap.objs.size f cdv)).guards = some [] → sp vs H Q E →
      ∃ t, PSs (cxOf CX0 P w K mg base N qn sc f cdv B out z H E) bd t ∧ t { nx := fun _ H' => Q .non H', rt := Q } (L2.start N vs) H) :
    FnG P w K mg base (k + 1) f (PySem.W.fnOf nm qn pa bd sc dV kV doc pm an cdv ct) ps sp := by
  refine ⟨len, fun B out z H args us vs Q E room hgd e0 bnd rel hsp => ?_⟩
  have kz : K.In z.heap := e0.mod.kin.keeps fun b o e => (e0.bs b o e).1
  have nolim : z.heap.NoLimit := e0.mod.nolimit.keeps fun b o e => (e0.bs b o e).1
  have kinds : ∀ y ∈ ps.zip us, sc.names.lookup y.1 = some .local ∨ (sc.names.lookup y.1 = some .cell ∧ ((cellsFrom (z.heap.objs.size + 1) sc.names []).lookup y.1).isSome = true) := fun y hy => by
    have hm := (List.of_mem_zip (show (y.1, y.2) ∈ ps.zip us from hy)).1
    exact (S.par y.1 hm).imp id fun q => ⟨q, PySem.W.cellsFrom_some _ _ _ (.inl q)⟩
  refine codeAny_call_function room.depth (kz _ _ lk) rfl S.co S.gen rfl (PySem.W.codeRec_of kz hcd) (bnd _ _ _ _ (wpAny_newFunctionEnv_cells S.kind kinds fun ev hev z1 ic => ?_))
  subst hev
  have hg2 : (B.deeper (envOfC qn sc z.heap.objs.size f cdv)).guards = some [] := by
    show B.guards = some []
    exact hgd
  obtain ⟨t, ht, hq⟩ := hbody B out z H vs Q E (room.deeper _) hg2 hsp
  have J0 : Inv (cxOf CX0 P w K mg base N qn sc f cdv B out z H E) [] (L2.start N vs) H z1 := inv_start S room.hd e0 (len _ _ _ _ hsp) rel ic
  refine ⟨nolim.keeps ic.toInCall.keep, codeAny_func (wpAny_mono (ht.run [] z1 (L2.start N vs) H _ J0 hq) (fun fl z' hz => ?_) fun _ _ hz => hz)⟩
  match fl, hz with
  | .ret _, ⟨v, _, H', J, rv, q⟩ => exact ⟨v, H', J.os, J.bare, J.base, J.hok, rv, q⟩
  | .next, ⟨_, H', J, q⟩ => exact ⟨V.non, H', J.os, J.bare, J.base, J.hok, rfl, q⟩
  | .brk, ⟨_, _, _, q⟩ => exact q.elim
  | .cont, ⟨_, _, _, q⟩ => exact q.elim
theorem fn_mirG {P : Program} {w : World} {mg : Str → Option Value} {base : Heap} {x qual : Str} {st : Stmt} {f : Addr} {fd : FuncData} {N ps : List Str} {k : Nat} {A : ASp} (ow : List Nat) (kk : Nat) (hk : N.length = kk) (hp : ps.length ≤ kk) (ho : ∀ i ∈ ow, ps.length ≤ i) (F : Fun K x qual st f fd) (S : FnScope N ps (defScope st))
    (hbody : ∀ (cdv : Value) (Ar : Around) (outer : List Env) (s : Shared) (H : Hp) (E : XK), Room k (Ar.deeper (envOfC qual (defScope st) s.heap.objs.size f cdv)) → (Ar.deeper (envOfC qual (defScope st) s.heap.objs.size f cdv)).guards = some [] →
      ∃ (t : TS) (fa : AS), PSs (cxOf CX0 P w K mg base N qual (defScope st) f cdv Ar outer s H E).nox (defBody st) t ∧ DS K W0 ow t fa ∧ ∀ ds n Q, ds.length = ps.length → A ds n Q → fa (aTop Q) (startA kk ds) n) : FnG P w K mg base (k + 1) f fd ps (spOf K ps.length A) := by
  obtain ⟨oc, od, kV, doc, pm, an, cdv, ct, osl, rfl, lk, hcd⟩ := F.ex
  refine fn_ofG lk hcd S (fun vs H Q E h => ?_) fun Ar outer s H vs Q E hr hgd h => ?_
  · obtain ⟨W, n, ds, Qa, a, hl, _⟩ := h
    rw [a.length, hl]
  · obtain ⟨W, n, ds, Qa, a, hl, o, hQ, hA⟩ := h
    obtain ⟨t, fa, h1, h2, h3⟩ := hbody cdv Ar outer s H E hr hgd
    exact ⟨t, h1.nox, DS.run (Wx := W0) (ow := ow) (t := t) (f := fa) W [] (L2.start N vs) (startA kk ds) n H _ (aTop Qa) ⟨fun ρ' n' q U' σ' H' l' s' => hQ _ _ q H' _ (le_start l') s'.base .non, fun d n' q U1 H1 H' v l' l2 o' a' => hQ _ _ q H' v ((le_start l').trans l2) o' a', fun _ _ q => q.elim, fun _ _ q => q.elim, fun _ _ _ _ _ q => q.elim⟩ (start_ok hk (by omega) (fun i hi => by rw [hl]; exact ho i hi) a o) (h3 ds n Qa hl hA)⟩
/-! such a call -/
theorem k_callG {X : Cx} {k j : Nat} {f : Addr} {fd : FuncData} {ps : List Str} {A : ASp} {x : Str} {e : Expr} {es : List Expr} {ta : TA} {q pos : Pos} (hK : X.K = K)
    (F : FnG X.prog X.w K X.mg X.base j f fd ps (spOf K k A)) (hr : Room j X.A) (hgd : X.A.guards = some []) (hg : Gl X x) (hm : X.mg x = some (.ref f)) (hk : PySem.W.keepIn K (.ref f) = true) (hb : Binds K fd ps [])
    (ha : PA X (e :: es) ta) (hdb : (x == ("__debug__" : Str)) = false := by decide) (he : starEach (e :: es) X.env = (false, eval e X.env) :: starEach es X.env := by rfl) (hpl : (backTo pos (starEach es X.env)).any (·.1) = false := by rfl) :
    PE X (.Call (.Name x q) (e :: es) [] pos) (tCall (spOf K k A) [] E0 ta) := by
  subst hK
  refine ⟨fun pins s σ H Q I h => ?_⟩
  refine wpAny_Call_Name_kw (ld_glob I hg hm (PySem.W.callWith_K (h₀ := X.base) I.ok.mod.kin hk (thn (ha.run pos pins s σ H _ I h) fun us s1 ⟨vs, H1, I1, rv, hsp⟩ => ⟨I1.kIn, ?_⟩) he hpl) hdb)
  have hsp' : spOf X.K k A (vs ++ []) H1 Q E0 := hsp
  rw [List.append_nil] at hsp'
  have hl : us.length = ps.length := by rw [← rv.length]; exact F.lenG _ _ _ _ hsp'
  have bnd := hb s1 us I1.kIn (by rw [List.append_nil]; exact hl)
  rw [List.append_nil] at bnd
  refine wpAny_call (codeAny_mono (F.runG X.A X.stack s1 H1 ⟨us, []⟩ us vs Q E0 hr hgd I1.env0 bnd rv hsp') fun r z' hq => ?_)
  match r, hq with
  | .error er, hq => exact hq.elim
  | .ok (.ret _), hq => exact I1.after hq
  | .ok .next, hq => exact hq.elim
  | .ok .brk, hq => exact hq.elim
  | .ok .cont, hq => exact hq.elim
/-! repr of plain things -/
def rRep (K : PySem.W.Frag) : List V → Hp → VK → Prop := fun xs H Q => ∃ a d, xs = [.ref a] ∧ Dp K H (.ref a) d ∧ d.showable = true ∧ d.hasDict = false ∧ d.depth ≤ 60 ∧ d.shown.length ≤ sizeLine ∧ Q (.str d.shown) H
theorem call_rep {X : Cx} (hK : X.K = K) (hgd : X.A.guards = some []) (hu : X.A.units + 65 < cLine) : CallR X (.builtin "repr") (rRep K) := by
  subst hK
  intro pins s σ H xs us Q I r h
  obtain ⟨a, d, rfl, hd, hs, hn, hdp, hl, q⟩ := h
  cases r with
  | cons rx rr =>
    cases rr
    cases rx
    obtain ⟨as, hr⟩ := Dp.reads I d _ _ hd rfl
    exact PySem.repr_of_reads' (h₀ := s.heap) hr hs (fun z => by rw [hn] at z; cases z) hgd (by omega) (fun b o e => e) (fun h' u tk hk => ⟨.str d.shown, H, I.kept (t' := tk) hk, ⟨_, rfl⟩, q⟩) hl
def aRep : List D → Nat → (D → Nat → Prop) → Prop := fun ds n Q => ∃ es : List D, ds = [.tup es] ∧ isDAll es = true ∧ (D.tup es).pd.showable = true ∧ (D.tup es).pd.hasDict = false ∧ (D.tup es).pd.depth ≤ 60 ∧ (D.tup es).pd.shown.length ≤ 1000000 ∧ Q (.str (D.tup es).pd.shown) n
instance : DL K (rRep K) aRep := ⟨fun W n H xs ds Q Qa hQ o av h => by
  obtain ⟨es, rfl, h1, h2, h3, h4, h5, q⟩ := h
  cases av with
  | cons a r =>
    cases r
    have dp := At.dp (.tup es) h1 a
    cases a with
    | tup s b => exact ⟨_, _, rfl, dp, h2, h3, h4, Nat.le_trans h5 lim, hQ.now o q (.str _)⟩⟩
end

/-! ### repr of anything plain, dicts (of whole numbers and texts as keys) at any depth -/
section
variable {K : PySem.W.Frag}
def keyD : Key → PyData
  | .inl i => .int i
  | .inr x => .str x
mutual
def D.zd : D → PyData
  | .bl b => .bool b | .int i => .int i | .str x => .str x | .tup ds => .tuple (zdAll ds) | .lst ds => .list (zdAll ds) | .dic ks ds => .dict ((ks.map keyD).zip (zdAll ds))
  | _ => .none
def zdAll : List D → List PyData
  | [] => []
  | d :: ds => d.zd :: zdAll ds
end
mutual
def D.isZ : D → Bool
  | .non => true | .bl _ => true | .int _ => true | .str _ => true | .tup ds => isZAll ds | .lst ds => isZAll ds | .dic ks ds => decide (ks.length = ds.length) && isZAll ds
  | _ => false
def isZAll : List D → Bool
  | [] => true
  | d :: ds => d.isZ && isZAll ds
end
theorem zdAll_len : ∀ ds : List D, (zdAll ds).length = ds.length
  | [] => rfl
  | d :: ds => by
    show (zdAll ds).length + 1 = ds.length + 1
    rw [zdAll_len ds]
theorem kv_split : ∀ (ks : List Key) (xs : List V) (va : List (Key × Value)), ks.length = xs.length → KV (ks.zip xs) va → ∃ us, va = ks.zip us ∧ ks.length = us.length ∧ Vals xs us
  | [], [], va, _, h => by
    cases h
    exact ⟨[], rfl, rfl, .nil⟩
  | [], _ :: _, _, e, _ => by cases e
  | _ :: _, [], _, e, _ => by cases e
  | k :: ks, x :: xs, va, e, h => by
    have h' : KV ((k, x) :: ks.zip xs) va := h
    cases h' with
    | @cons _ q _ qs r t =>
      obtain ⟨us, rfl, e2, rv⟩ := kv_split ks xs qs (Nat.succ.inj e) t
      obtain ⟨q1, q2⟩ := q
      obtain ⟨r1, r2⟩ := r
      have r1' : k = q1 := r1
      subst r1'
      exact ⟨q2 :: us, rfl, by rw [List.length_cons, List.length_cons, e2], .cons r2 rv⟩
theorem keys_read {P : Program} {w : World} {h : Heap} : ∀ (ks : List Key) (us : List Value) (es : List DictEntry), ks.length = us.length → PySem.Pairs (mixKind P w) es (ks.zip us) →
    ReadsAll h (es.map fun e => e.key) (ks.map keyD) [] ∧ (es.map fun e => e.val) = us ∧ (PyData.showableAll (ks.map keyD) = true → (∀ t ∈ PyData.shownAll (ks.map keyD), t.length ≤ sizeLine) → ∀ m, ReprAllK P w [] h m (es.map fun e => e.key) (PyData.shownAll (ks.map keyD)))
  | [], [], es, _, p => by
    cases p
    exact ⟨ReadsAll.nil, rfl, fun _ _ _ => .nil⟩
  | [], _ :: _, _, e, _ => by cases e
  | _ :: _, [], _, e, _ => by cases e
  | k :: ks, u :: us, es, e, p => by
    have p' : PySem.Pairs (mixKind P w) es ((k, u) :: ks.zip us) := p
    cases p' with
    | @cons en _ es' _ g1 g2 g3 =>
      obtain ⟨a1, a2, a3⟩ := keys_read (h := h) ks us es' (Nat.succ.inj e) g3
      have g1' : keyIs k en.key = true := g1
      have g2' : en.val = u := g2
      refine ⟨?_, ?_, fun hs hz m => ?_⟩
      · show ReadsAll h (en.key :: es'.map fun e => e.key) (keyD k :: ks.map keyD) ([] ++ [])
        refine ReadsAll.cons ?_ a1
        rcases keyIs_shape g1' with ⟨i, t, rfl, ek⟩ | ⟨x, t, rfl, ek⟩
        · rw [ek]; exact Reads.int i t
        · rw [ek]; exact Reads.str x t
      · rw [List.map_cons, a2, g2']
      · have hs' : (PyData.showable (keyD k) && PyData.showableAll (ks.map keyD)) = true := hs
        rw [Bool.and_eq_true] at hs'
        show ReprAllK P w [] h m (en.key :: es'.map fun e => e.key) (PyData.shown (keyD k) :: PyData.shownAll (ks.map keyD))
        have z1 : (PyData.shown (keyD k)).length ≤ sizeLine := hz _ List.mem_cons_self
        refine .cons ?_ (a3 hs'.2 (fun t ht => hz t (List.mem_cons_of_mem _ ht)) m)
        rcases keyIs_shape g1' with ⟨i, t, rfl, ek⟩ | ⟨x, t, rfl, ek⟩
        · rw [ek]
          exact .of_is (ReprIs.int t (of_decide_eq_true hs'.1)) _ _ _
        · rw [ek]
          exact .of_is (ReprIs.str x t z1) _ _ _
/-- what is known of a thing's text -/
def ZK (P : Program) (w : World) (h : Heap) (u : Value) (p : PyData) : Prop := ∃ as bs, Reads h u p as ∧ ReadAtMost h p.depth bs ∧ ReprK P w bs h p.depth u p.shown
def ZKs (P : Program) (w : World) (h : Heap) (us : List Value) (ps : List PyData) : Prop := ∃ as bs, ReadsAll h us ps as ∧ ReadAtMost h (PyData.depthAll ps) bs ∧ ReprAllK P w bs h (PyData.depthAll ps) us (PyData.shownAll ps)
/-- a container: its reading, what it holds -/
inductive ZC (P : Program) (w : World) (h : Heap) (a : Addr) : PyData → Prop
  | lst {o us n ps as bs} : Reads h (.ref a) (.list ps) (a :: as) → h.get? a = some o → o.cls = .type "list" → o.data = .seq us n → ReprAllK P w bs h (PyData.depthAll ps) us.toList (PyData.shownAll ps) → ReadAtMost h (PyData.depthAll ps) bs → a ∉ bs → ZC P w h a (.list ps)
  | tup {o us n ps as bs} : Reads h (.ref a) (.tuple ps) as → h.get? a = some o → o.cls = .type "tuple" → o.data = .seq us n → ReprAllK P w bs h (PyData.depthAll ps) us.toList (PyData.shownAll ps) → ReadAtMost h (PyData.depthAll ps) bs → a ∉ bs → ZC P w h a (.tuple ps)
  | dic {o es n kvs as bs} : Reads h (.ref a) (.dict kvs) as → h.get? a = some o → o.cls = .type "dict" → o.data = .dict es n → (a == sysModules) = false → ReprEntriesK P w bs h (PyData.depthKv kvs) es.toList (PyData.shownKv kvs) → ReadAtMost h (PyData.depthKv kvs) bs → a ∉ bs → ZC P w h a (.dict kvs)
theorem ZC.k {P : Program} {w : World} {h : Heap} {a : Addr} {p : PyData} (z : ZC P w h a p) : ZK P w h (.ref a) p := by
  cases z with
  | @lst o us n ps as bs r ho hc hd hk hb hn =>
    refine ⟨_, a :: bs, r, ReadAtMost.cons r (by simp only [PyData.depth]; omega) hb, ?_⟩
    simp only [PyData.depth, PyData.shown]
    obtain ⟨l⟩ := us
    cases l with
    | nil =>
      have hk' : ReprAllK P w bs h (PyData.depthAll ps) [] (PyData.shownAll ps) := hk
      generalize hT : PyData.shownAll ps = T at hk' ⊢
      cases hk'
      rw [listText_nil]
      exact ReprK.listEmpty ho hc hd
    | cons y l => exact ReprK.list ho hc hd hn (by simpa using hk.length_eq) fun i v e => hk.item i v (by simpa using e)
  | @tup o us n ps as bs r ho hc hd hk hb hn =>
    refine ⟨_, a :: bs, r, ReadAtMost.cons r (by simp only [PyData.depth]; omega) hb, ?_⟩
    simp only [PyData.depth, PyData.shown]
    exact ReprK.tuple ho hc hd hn hk
  | @dic o es n kvs as bs r ho hc hd hs hk hb hn =>
    refine ⟨_, a :: bs, r, ReadAtMost.cons r (by simp only [PyData.depth]; omega) hb, ?_⟩
    simp only [PyData.depth, PyData.shown]
    exact ReprK.dict ho hc hd hs hn hk
theorem rd_neg {P : Program} {w : World} {h : Heap} {a : Addr} {p : PyData} {as bs : List Addr} {n : Nat} (r : Reads h (.ref a) p as) (hd : n < p.depth) (hb : ReadAtMost h n bs) : a ∉ bs := not_mem_of_deeper r hd hb
mutual
theorem zc_of {X : Cx} {W : Wd} {pins : List (Addr × Obj)} {σ : L2.St} {H : Hp} {s : Shared} (I : Inv X pins σ H s) : ∀ (d : D) {a : Addr}, d.isZ = true → At X.K W H (.ref a) d → d.zd.showable = true → d.zd.shown.length ≤ sizeLine → ZC X.prog X.w s.heap a d.zd
  | .tup ds, a, hz, h, hs, hl => by
    cases h with
    | tup st b =>
      obtain ⟨its, rv, ⟨o, ho, hc, n, hd⟩, _⟩ := I.tuple st
      have hs' : PyData.showableAll (zdAll ds) = true := by simpa only [D.zd, PyData.showable] using hs
      have hl' : (tupleText (PyData.shownAll (zdAll ds))).length ≤ sizeLine := by simpa only [D.zd, PyData.shown] using hl
      obtain ⟨as, bs, r1, r2, r3⟩ := zks_of I ds (by simpa only [D.isZ] using hz) b rv hs' fun t ht => Nat.le_trans (tupleText_mem_le ht) hl'
      have r : Reads s.heap (.ref a) (.tuple (zdAll ds)) as := Reads.tuple ho hc hd r1
      exact ZC.tup r ho hc hd r3 r2 (not_mem_of_deeper r (by simp only [PyData.depth]; omega) r2)
  | .lst ds, a, hz, h, hs, hl => by
    cases h with
    | lst nr e b =>
      obtain ⟨its, rv, ⟨⟨cls, dd, data, sls⟩, n, ho, hc, hdn, hdt⟩, hlen⟩ := I.list (SqL.of e)
      have hs' : PyData.showableAll (zdAll ds) = true := by simpa only [D.zd, PyData.showable] using hs
      have hl' : (listText (PyData.shownAll (zdAll ds))).length ≤ sizeLine := by simpa only [D.zd, PyData.shown] using hl
      obtain ⟨as, bs, r1, r2, r3⟩ := zks_of I ds (by simpa only [D.isZ] using hz) b rv hs' fun t ht => Nat.le_trans (listText_mem_le ht) hl'
      have r : Reads s.heap (.ref a) (.list (zdAll ds)) (a :: as) := Reads.list ho hc hdt r1
      exact ZC.lst r ho hc hdt r3 r2 (not_mem_of_deeper r (by simp only [PyData.depth]; omega) r2)
  | .dic ks ds, a, hz, h, hs, hl => by
    cases h with
    | @dic _ _ xs _ nr e hn b =>
      have hz' : (decide (ks.length = ds.length) && isZAll ds) = true := by simpa only [D.isZ] using hz
      rw [Bool.and_eq_true, decide_eq_true_eq] at hz'
      obtain ⟨_, hsys, va, ra, o, es, ep, ho, ⟨hc, hd, hsl⟩, hdt, _, hp, _⟩ := (show ObjOk X.prog X.w H s.heap a (.dK (ks.zip xs)) from I.hok a _ e)
      obtain ⟨us, rfl, e2, rv⟩ := kv_split ks xs va hn ra
      have hkl : (ks.map keyD).length = (zdAll ds).length := by rw [List.length_map, zdAll_len, hz'.1]
      have f1 : ((ks.map keyD).zip (zdAll ds)).map (fun kv => kv.1) = ks.map keyD := List.map_fst_zip (by omega)
      have f2 : ((ks.map keyD).zip (zdAll ds)).map (fun kv => kv.2) = zdAll ds := List.map_snd_zip (by omega)
      have hs' : PyData.showableKv ((ks.map keyD).zip (zdAll ds)) = true := by simpa only [D.zd, PyData.showable] using hs
      have hl' : (dictText (PyData.shownKv ((ks.map keyD).zip (zdAll ds)))).length ≤ sizeLine := by simpa only [D.zd, PyData.shown] using hl
      obtain ⟨s1, s2⟩ := PyData.showableKv_split _ hs'
      have lk : ∀ t ∈ PyData.shownAll (((ks.map keyD).zip (zdAll ds)).map (fun kv => kv.1)), t.length ≤ sizeLine := fun t ht =>
        let ⟨p, q1, q2⟩ := PyData.shownKv_key_le _ t ht
        Nat.le_trans q2 (Nat.le_trans (dictText_mem_le q1) hl')
      have lv : ∀ t ∈ PyData.shownAll (((ks.map keyD).zip (zdAll ds)).map (fun kv => kv.2)), t.length ≤ sizeLine := fun t ht =>
        let ⟨p, q1, q2⟩ := PyData.shownKv_val_le _ t ht
        Nat.le_trans q2 (Nat.le_trans (dictText_mem_le q1) hl')
      have s1' : PyData.showableAll (((ks.map keyD).zip (zdAll ds)).map (fun kv => kv.1)) = true := s1
      have s2' : PyData.showableAll (((ks.map keyD).zip (zdAll ds)).map (fun kv => kv.2)) = true := s2
      rw [f1] at lk s1'
      rw [f2] at lv s2'
      obtain ⟨k1, k2, k3⟩ := keys_read (P := X.prog) (w := X.w) (h := s.heap) ks us es.toList e2 hp
      obtain ⟨as, bs, r1, r2, r3⟩ := zks_of I ds hz'.2 b rv s2' lv
      have rk : ReadsAll s.heap (es.toList.map fun e => e.key) (((ks.map keyD).zip (zdAll ds)).map fun kv => kv.1) [] := by rw [f1]; exact k1
      have rw2 : ReadsAll s.heap (es.toList.map fun e => e.val) (((ks.map keyD).zip (zdAll ds)).map fun kv => kv.2) as := by rw [f2, k2]; exact r1
      have r : Reads s.heap (.ref a) (.dict ((ks.map keyD).zip (zdAll ds))) (a :: [] ++ as) := Reads.dict ho hc hdt rk rw2
      have d2 : PyData.depthAll (zdAll ds) ≤ PyData.depthKv ((ks.map keyD).zip (zdAll ds)) := by
        have := PyData.depthAll_vals_le ((ks.map keyD).zip (zdAll ds))
        have f2' : ((ks.map keyD).zip (zdAll ds)).map (·.2) = zdAll ds := f2
        rw [f2'] at this
        exact this
      have rb := r2.mono d2
      have hEn : ReprEntriesK X.prog X.w bs s.heap (PyData.depthKv ((ks.map keyD).zip (zdAll ds))) es.toList (PyData.shownKv ((ks.map keyD).zip (zdAll ds))) := by
        rw [PyData.shownKv_eq]
        have f1' : ((ks.map keyD).zip (zdAll ds)).map (·.1) = ks.map keyD := f1
        have f2' : ((ks.map keyD).zip (zdAll ds)).map (·.2) = zdAll ds := f2
        rw [f1', f2']
        refine ReprEntriesK.of_two es.toList _ _ ((k3 s1' lk _).more_le (fun b hb => by cases hb) (Nat.le_refl _)) ?_
        have k2' : es.toList.map (·.val) = us := k2
        rw [k2']
        exact r3.more_le (fun b hb => hb) d2
      exact ZC.dic r ho hc hdt hsys hEn rb (not_mem_of_deeper r (by simp only [PyData.depth]; omega) rb)
  | .non, _, _, h, _, _ => by cases h
  | .bl _, _, _, h, _, _ => by cases h
  | .int _, _, _, h, _, _ => by cases h
  | .str _, _, _, h, _, _ => by cases h
  | .ty _, _, _, h, _, _ => by cases h
  | .cls _, _, hz, _, _, _ => by simp only [D.isZ] at hz; cases hz
  | .ins _ _ _, _, hz, _, _, _ => by simp only [D.isZ] at hz; cases hz
  | .deck, _, hz, _, _, _ => by simp only [D.isZ] at hz; cases hz
  | .xcp _ _ _ _ _, _, hz, _, _, _ => by simp only [D.isZ] at hz; cases hz
theorem zk_of {X : Cx} {W : Wd} {pins : List (Addr × Obj)} {σ : L2.St} {H : Hp} {s : Shared} (I : Inv X pins σ H s) : ∀ (d : D) {v : V} {u : Value}, d.isZ = true → At X.K W H v d → RelV v u → d.zd.showable = true → d.zd.shown.length ≤ sizeLine → ZK X.prog X.w s.heap u d.zd
  | .non, _, _, _, h, r, _, _ => by
    cases h
    cases r
    exact ⟨[], [], Reads.none, (fun _ z => nomatch z), .of_is ReprIs.none _ _ _⟩
  | .bl b, _, _, _, h, r, _, _ => by
    cases h
    cases r
    exact ⟨[], [], Reads.bool b, (fun _ z => nomatch z), .of_is (ReprIs.bool b) _ _ _⟩
  | .int i, _, _, _, h, r, hs, _ => by
    cases h
    obtain ⟨t, rfl⟩ := r
    exact ⟨[], [], Reads.int i t, (fun _ z => nomatch z), .of_is (ReprIs.int t (of_decide_eq_true hs)) _ _ _⟩
  | .str x, _, _, _, h, r, _, hl => by
    cases h
    obtain ⟨t, rfl⟩ := r
    exact ⟨[], [], Reads.str x t, (fun _ z => nomatch z), .of_is (ReprIs.str x t hl) _ _ _⟩
  | .tup ds, v, _, hz, h, r, hs, hl => by
    obtain ⟨a, rfl⟩ : ∃ a, v = .ref a := by cases h; exact ⟨_, rfl⟩
    cases r
    exact (zc_of I (.tup ds) hz h hs hl).k
  | .lst ds, v, _, hz, h, r, hs, hl => by
    obtain ⟨a, rfl⟩ : ∃ a, v = .ref a := by cases h; exact ⟨_, rfl⟩
    cases r
    exact (zc_of I (.lst ds) hz h hs hl).k
  | .dic ks ds, v, _, hz, h, r, hs, hl => by
    obtain ⟨a, rfl⟩ : ∃ a, v = .ref a := by cases h; exact ⟨_, rfl⟩
    cases r
    exact (zc_of I (.dic ks ds) hz h hs hl).k
  | .ty _, _, _, hz, _, _, _, _ => by simp only [D.isZ] at hz; cases hz
  | .cls _, _, _, hz, _, _, _, _ => by simp only [D.isZ] at hz; cases hz
  | .ins _ _ _, _, _, hz, _, _, _, _ => by simp only [D.isZ] at hz; cases hz
  | .deck, _, _, hz, _, _, _, _ => by simp only [D.isZ] at hz; cases hz
  | .xcp _ _ _ _ _, _, _, hz, _, _, _, _ => by simp only [D.isZ] at hz; cases hz
theorem zks_of {X : Cx} {W : Wd} {pins : List (Addr × Obj)} {σ : L2.St} {H : Hp} {s : Shared} (I : Inv X pins σ H s) : ∀ (ds : List D) {vs : List V} {us : List Value}, isZAll ds = true → AtAll X.K W H vs ds → Vals vs us → PyData.showableAll (zdAll ds) = true → (∀ t ∈ PyData.shownAll (zdAll ds), t.length ≤ sizeLine) → ZKs X.prog X.w s.heap us (zdAll ds)
  | [], _, _, _, h, r, _, _ => by
    cases h
    cases r
    exact ⟨[], [], ReadsAll.nil, (fun _ z => nomatch z), .nil⟩
  | d :: ds, _, _, hz, h, r, hs, hl => by
    have hz' : (d.isZ && isZAll ds) = true := by simpa only [isZAll] using hz
    have hs' : (PyData.showable d.zd && PyData.showableAll (zdAll ds)) = true := by simpa only [zdAll, PyData.showableAll] using hs
    rw [Bool.and_eq_true] at hz' hs'
    cases h with
    | cons h1 h2 =>
      cases r with
      | cons r1 r2 =>
        have l1 : d.zd.shown.length ≤ sizeLine := hl _ (by simp only [zdAll, PyData.shownAll]; exact List.mem_cons_self ..)
        have l2 : ∀ t ∈ PyData.shownAll (zdAll ds), t.length ≤ sizeLine := fun t ht => hl t (by simp only [zdAll, PyData.shownAll]; exact List.mem_cons_of_mem _ ht)
        obtain ⟨as, bs, a1, a2, a3⟩ := zk_of I d hz'.1 h1 r1 hs'.1 l1
        obtain ⟨cs, es, c1, c2, c3⟩ := zks_of I ds hz'.2 h2 r2 hs'.2 l2
        refine ⟨as ++ cs, bs ++ es, ReadsAll.cons a1 c1, (a2.mono ?_).append (c2.mono ?_), ?_⟩
        · simp only [zdAll, PyData.depthAll]
          omega
        · simp only [zdAll, PyData.depthAll]
          omega
        · simp only [zdAll, PyData.depthAll, PyData.shownAll]
          exact .cons ((a3.more fun b hb => List.mem_append_left _ hb).level_le (Nat.le_max_left _ _)) (c3.more_le (fun b hb => List.mem_append_right _ hb) (Nat.le_max_right _ _))
end
theorem zc_repr {P : Program} {w : World} {A : Around} {E : Value → Shared → Prop} {s : Shared} {Q : Value → Shared → Prop} {a : Addr} {p : PyData} (z : ZC P w s.heap a p) (hg : A.guards = some []) (hu : A.units + (p.depth + 1) < cLine) (hl : p.shown.length ≤ sizeLine)
    (hQ : ∀ h' u tk, (∀ b o, s.heap.get? b = some o → h'.get? b = some o) → Q (.str p.shown u) { s with heap := h', toks := tk }) : wpAny (model P w) A (call (.builtin "repr") [.ref a]) Q E s := by
  have fin : ∀ h' u tk, (∀ b o, s.heap.get? b = some o → h'.get? b = some o) → ∃ x t, Value.str p.shown u = .str x t ∧ Q (.str p.shown u) { s with heap := h', toks := tk } := fun h' u tk hk => ⟨_, _, rfl, hQ h' u tk hk⟩
  have same : ∀ b o, s.heap.get? b = some o → s.heap.get? b = some o := fun _ _ e => e
  have hu2 : A.in1.units + p.depth < cLine := by
    show A.units + 1 + p.depth < cLine
    omega
  cases z with
  | @lst o us n ps as bs r ho hc hd hk hb hn =>
    simp only [PyData.depth] at hu2
    simp only [PyData.shown] at fin hl
    refine call_repr_slot (by omega) ⟨o, ho, hc⟩ F.slot_list_repr.toG ?_
    obtain ⟨l⟩ := us
    cases l with
    | nil =>
      have hk' : ReprAllK P w bs s.heap (PyData.depthAll ps) [] (PyData.shownAll ps) := hk
      generalize hT : PyData.shownAll ps = T at hk' fin
      cases hk'
      rw [listText_nil] at fin
      exact call_list_repr_empty ⟨o, ho, hc⟩ ho hd (fin s.heap _ _ same)
    | cons y l => exact call_list_reprK ho hc hd hn (by simpa using hk.length_eq) (fun i v e => hk.item i v (by simpa using e)) hg (fun b _ => Clear.nil b) hu2 same fin hl
  | @tup o us n ps as bs r ho hc hd hk hb hn =>
    simp only [PyData.depth] at hu2
    simp only [PyData.shown] at fin hl
    exact call_repr_slot (by omega) ⟨o, ho, hc⟩ F.slot_tuple_repr (call_tuple_reprK ho hc hd hn hk hg (fun b _ => Clear.nil b) hu2 same fin hl)
  | @dic o es n kvs as bs r ho hc hd hs hk hb hn =>
    simp only [PyData.depth] at hu2
    simp only [PyData.shown] at fin hl
    exact call_repr_slot (by omega) ⟨o, ho, hc⟩ F.slot_dict_repr (call_dict_reprK ho hc hd hs hn hk hg (fun b _ => Clear.nil b) hu2 same fin hl)
def rRepZ (K : PySem.W.Frag) : List V → Hp → VK → Prop := fun xs H Q => ∃ (W : Wd) (v : V) (d : D), xs = [v] ∧ At K W H v d ∧ d.isZ = true ∧ d.zd.showable = true ∧ d.zd.depth ≤ 60 ∧ d.zd.shown.length ≤ sizeLine ∧ Q (.str d.zd.shown) H
theorem call_repZ {X : Cx} (hK : X.K = K) (hgd : X.A.guards = some []) (hu : X.A.units + 65 < cLine) : CallR X (.builtin "repr") (rRepZ K) := by
  subst hK
  intro pins s σ H xs us Q I r h
  obtain ⟨W, v, d, rfl, hat, hz, hs, hdp, hl, q⟩ := h
  obtain ⟨u, rfl, r1⟩ := vals1 r
  have big : ∀ a, v = .ref a → ZC X.prog X.w s.heap a d.zd → wpAny (model X.prog X.w) X.A (call (.builtin "repr") [u]) (EP X pins σ Q) X.xe s := fun a ea z => by
    subst ea
    cases r1
    exact zc_repr z hgd (by omega) hl fun h' u tk hk => ⟨.str _, H, I.kept (t' := tk) hk, ⟨_, rfl⟩, q⟩
  cases d with
  | non =>
    cases hat
    cases r1
    exact PySem.P.repr_of_none ⟨.str _, H, I.tok _, ⟨_, rfl⟩, q⟩
  | bl b =>
    cases hat
    cases r1
    exact PySem.P.repr_of_bool ⟨.str _, H, I.tok _, ⟨_, rfl⟩, q⟩
  | int i =>
    cases hat
    obtain ⟨t, rfl⟩ := r1
    exact PySem.P.repr_of_int (of_decide_eq_true hs) ⟨.str _, H, I.tok _, ⟨_, rfl⟩, q⟩
  | str x =>
    cases hat
    obtain ⟨t, rfl⟩ := r1
    exact PySem.P.repr_of_str ⟨.str _, H, I.tok _, ⟨_, rfl⟩, q⟩ hl
  | tup ds =>
    obtain ⟨a, rfl⟩ : ∃ a, v = .ref a := by cases hat; exact ⟨_, rfl⟩
    exact big a rfl (zc_of I (.tup ds) hz hat hs hl)
  | lst ds =>
    obtain ⟨a, rfl⟩ : ∃ a, v = .ref a := by cases hat; exact ⟨_, rfl⟩
    exact big a rfl (zc_of I (.lst ds) hz hat hs hl)
  | dic ks ds =>
    obtain ⟨a, rfl⟩ : ∃ a, v = .ref a := by cases hat; exact ⟨_, rfl⟩
    exact big a rfl (zc_of I (.dic ks ds) hz hat hs hl)
  | _ => simp only [D.isZ] at hz; cases hz
def shz (d : D) : Prop := d.isZ = true ∧ d.zd.showable = true ∧ d.zd.depth ≤ 60 ∧ d.zd.shown.length ≤ sizeLine
def aRepz : List D → Nat → (D → Nat → Prop) → Prop := fun ds n Q => ∃ d, ds = [d] ∧ shz d ∧ Q (.str d.zd.shown) n
instance : DL K (rRepZ K) aRepz := ⟨fun W n H xs ds Q Qa hQ o av h => by
  obtain ⟨d, rfl, ⟨h1, h2, h3, h4⟩, q⟩ := h
  cases av with
  | cons a r =>
    cases r
    exact ⟨W, _, d, rfl, a, h1, h2, h3, h4, hQ.now o q (.str _)⟩⟩
/-- plain, dicts too, not deep, not long -/
structure Rz (k w : Nat) (d : D) : Prop where
  z : d.isZ = true
  sh : d.zd.showable = true
  lf : d.zd.leavesShort 600 = true
  dp : d.zd.depth ≤ k
  wt : d.zd.weight ≤ w
theorem Rz.le {k w k' w' : Nat} {d : D} (h : Rz k w d) (h1 : k ≤ k') (h2 : w ≤ w') : Rz k' w' d := ⟨h.z, h.sh, h.lf, Nat.le_trans h.dp h1, Nat.le_trans h.wt h2⟩
theorem Rz.int {k : Nat} {i : Int} (h : Bd 1919 i) : Rz k 1920 (.int i) := by
  have l : i.natAbs.log2 < 1920 := Nat.lt_of_lt_of_le (log2_lt (k := 1919) h (by decide)) (by decide)
  have e : (2 : Nat) ^ 1919 ≤ 10 ^ 579 := by decide +kernel
  unfold Bd at h
  have len := int_text_length_le10 (a := i) (k := 579) (by decide) (Nat.lt_of_lt_of_le h e)
  refine ⟨rfl, decide_eq_true l, decide_eq_true ?_, Nat.zero_le _, ?_⟩
  · show (Str.ofString (toString i)).length ≤ 600
    rw [PySem.ofString_length]
    omega
  · show (if i == 0 then 0 else i.natAbs.log2 + 1) ≤ 1920
    split <;> omega
theorem Rz.intS {k : Nat} {i : Int} (h : Bd 200 i) : Rz k 201 (.int i) := by
  have g := Rz.int (k := k) (h.of_le (Nat.le_refl _) |>.le (show 200 ≤ 1919 by decide))
  refine ⟨g.z, g.sh, g.lf, g.dp, ?_⟩
  show (if i == 0 then 0 else i.natAbs.log2 + 1) ≤ 201
  have l : i.natAbs.log2 < 201 := log2_lt (k := 201) (Nat.lt_of_lt_of_le h (by decide)) (by decide)
  split <;> omega
theorem Rz.non {k w : Nat} : Rz k w .non := ⟨rfl, rfl, rfl, Nat.zero_le _, Nat.zero_le _⟩
theorem Rz.bl {k w : Nat} {b : Bool} : Rz k w (.bl b) := ⟨rfl, rfl, rfl, Nat.zero_le _, Nat.zero_le _⟩
theorem Rz.str {k w : Nat} {z : Str} (h : PyData.canLay0 (.str z) = true) (hw : z.cps.size ≤ w) : Rz k w (.str z) := ⟨rfl, rfl, PyData.leavesShort_of_canLay0 600 (.str z) h rfl, Nat.zero_le _, hw⟩
theorem rz_all {k w : Nat} : ∀ {ds : List D}, (∀ d ∈ ds, Rz k w d) → isZAll ds = true ∧ PyData.showableAll (zdAll ds) = true ∧ PyData.leavesShortAll 600 (zdAll ds) = true ∧ PyData.depthAll (zdAll ds) ≤ k ∧ PyData.weightAll (zdAll ds) ≤ ds.length * (w + 1)
  | [], _ => ⟨rfl, rfl, rfl, Nat.zero_le _, Nat.zero_le _⟩
  | d :: ds, h => by
    obtain ⟨h0, h1, h2, h3, h4⟩ := rz_all (ds := ds) fun x hx => h x (List.mem_cons_of_mem _ hx)
    have g := h d List.mem_cons_self
    refine ⟨?_, ?_, ?_, ?_, ?_⟩
    · show (d.isZ && isZAll ds) = true
      rw [g.z, h0]; rfl
    · show (PyData.showable d.zd && PyData.showableAll (zdAll ds)) = true
      rw [g.sh, h1]; rfl
    · show (PyData.leavesShort 600 d.zd && PyData.leavesShortAll 600 (zdAll ds)) = true
      rw [g.lf, h2]; rfl
    · show max (PyData.depth d.zd) (PyData.depthAll (zdAll ds)) ≤ k
      have := g.dp
      omega
    · show PyData.weight d.zd + 1 + PyData.weightAll (zdAll ds) ≤ (ds.length + 1) * (w + 1)
      have := g.wt
      rw [Nat.add_mul]
      omega
theorem Rz.tup {k w m : Nat} {ds : List D} (h : ∀ d ∈ ds, Rz k w d) (hl : ds.length * (w + 1) ≤ m) : Rz (k + 1) m (.tup ds) := by
  obtain ⟨h0, h1, h2, h3, h4⟩ := rz_all h
  exact ⟨h0, h1, h2, Nat.succ_le_succ h3, Nat.le_trans h4 hl⟩
theorem Rz.lst {k w m : Nat} {ds : List D} (h : ∀ d ∈ ds, Rz k w d) (hl : ds.length * (w + 1) ≤ m) : Rz (k + 1) m (.lst ds) := by
  obtain ⟨h0, h1, h2, h3, h4⟩ := rz_all h
  exact ⟨h0, h1, h2, Nat.succ_le_succ h3, Nat.le_trans h4 hl⟩
theorem rz_kv {k w : Nat} : ∀ {ks : List Int} {ds : List D}, ks.length = ds.length → (∀ i ∈ ks, Bd 200 i) → (∀ d ∈ ds, Rz k w d) → PyData.showableKv (((ks.map fun i => (Sum.inl i : Key)).map keyD).zip (zdAll ds)) = true ∧ PyData.leavesShortKv 600 (((ks.map fun i => (Sum.inl i : Key)).map keyD).zip (zdAll ds)) = true ∧
    PyData.depthKv (((ks.map fun i => (Sum.inl i : Key)).map keyD).zip (zdAll ds)) ≤ k ∧ PyData.weightKv (((ks.map fun i => (Sum.inl i : Key)).map keyD).zip (zdAll ds)) ≤ ds.length * (w + 203)
  | [], [], _, _, _ => ⟨rfl, rfl, Nat.zero_le _, Nat.zero_le _⟩
  | [], _ :: _, e, _, _ => by cases e
  | _ :: _, [], e, _, _ => by cases e
  | i :: ks, d :: ds, e, hk, h => by
    obtain ⟨h1, h2, h3, h4⟩ := rz_kv (ks := ks) (ds := ds) (Nat.succ.inj e) (fun x hx => hk x (List.mem_cons_of_mem _ hx)) fun x hx => h x (List.mem_cons_of_mem _ hx)
    have g := h d List.mem_cons_self
    have gi := Rz.intS (k := 0) (hk i List.mem_cons_self)
    refine ⟨?_, ?_, ?_, ?_⟩
    · show (PyData.showable (.int i) && PyData.showable d.zd && PyData.showableKv (((ks.map fun i => (Sum.inl i : Key)).map keyD).zip (zdAll ds))) = true
      have : PyData.showable (.int i) = true := gi.sh
      rw [this, g.sh, h1]; rfl
    · show (PyData.leavesShort 600 (.int i) && PyData.leavesShort 600 d.zd && PyData.leavesShortKv 600 (((ks.map fun i => (Sum.inl i : Key)).map keyD).zip (zdAll ds))) = true
      have : PyData.leavesShort 600 (.int i) = true := gi.lf
      rw [this, g.lf, h2]; rfl
    · show max (max (PyData.depth (.int i)) (PyData.depth d.zd)) (PyData.depthKv (((ks.map fun i => (Sum.inl i : Key)).map keyD).zip (zdAll ds))) ≤ k
      have : PyData.depth (.int i) = 0 := rfl
      have := g.dp
      omega
    · show PyData.weight (.int i) + PyData.weight d.zd + 2 + PyData.weightKv (((ks.map fun i => (Sum.inl i : Key)).map keyD).zip (zdAll ds)) ≤ (ds.length + 1) * (w + 203)
      have g1 := g.wt
      have g2 : PyData.weight (.int i) ≤ 201 := gi.wt
      rw [Nat.add_mul]
      omega
theorem Rz.dic {k w m : Nat} {ks : List Int} {ds : List D} (e : ks.length = ds.length) (hk : ∀ i ∈ ks, Bd 200 i) (h : ∀ d ∈ ds, Rz k w d) (hl : ds.length * (w + 203) ≤ m) : Rz (k + 1) m (.dic (ks.map fun i => (Sum.inl i : Key)) ds) := by
  obtain ⟨h1, h2, h3, h4⟩ := rz_kv e hk h
  obtain ⟨h0, _⟩ := rz_all h
  refine ⟨?_, h1, h2, Nat.succ_le_succ h3, Nat.le_trans h4 hl⟩
  show (decide ((ks.map fun i => (Sum.inl i : Key)).length = ds.length) && isZAll ds) = true
  rw [List.length_map, h0, decide_eq_true e]
  rfl
theorem Rz.ok {k w : Nat} {d : D} (h : Rz k w d) (hk : k ≤ 60) (hw : w ≤ 27000) : shz d := by
  refine ⟨h.z, h.sh, Nat.le_trans h.dp hk, ?_⟩
  have := PyData.shown_le 600 (by decide) d.zd h.lf
  have hw := h.wt
  rw [sizeLine_eq]
  omega
end

/-! ### every second item of a list -/
theorem vals_pick {xs : List V} {its : List Value} (r : Vals xs its) : ∀ idx : List Nat, Vals (idx.filterMap fun i => xs[i]?) (idx.filterMap fun i => its.toArray[i]?)
  | [] => .nil
  | i :: idx => by
    have ih := vals_pick r idx
    have hl := r.length
    cases e : xs[i]? with
    | none =>
      have h1 : xs.length ≤ i := List.getElem?_eq_none_iff.mp e
      have e2 : its.toArray[i]? = none := by simp; omega
      rw [List.filterMap_cons_none e, List.filterMap_cons_none e2]
      exact ih
    | some x =>
      obtain ⟨u, h1, h2⟩ := Vals.get r e
      have e2 : its.toArray[i]? = some u := by simpa using h1
      rw [List.filterMap_cons_some e, List.filterMap_cons_some e2]
      exact .cons h2 ih
def tStpL (K : PySem.W.Frag) (te : TE) : TE := fun σ H Q => te σ H fun x H1 => ∃ a xs, x = .ref a ∧ SqL K H1 a xs ∧ ∀ p (idx : List Nat), H1 p = none → (idx.filterMap fun i => xs[i]?).length ≤ xs.length → Q (.ref p) (upd H1 p (.lst (idx.filterMap fun i => xs[i]?)))
theorem pe_stpL {X : Cx} {e : Expr} {te : TE} {el : Option Expr} {tl : TO} {lo : Option Int} {c : Int} {k : Nat} {p1 p3 pos : Pos} (hc : c ≠ 0) (hl : PO X el tl) (hv : ∀ σ H, tl σ H fun o H2 => o = lo ∧ H2 = H) (he : PE X e te) : PE X (.Subscript e (.Slice el none (some (.Constant (.int c) k p1)) p3) pos) (tStpL X.K te) := ⟨fun pins s σ H Q I h => by
  refine Subscript_ (thn (he.run pins s σ H _ I h) fun v s1 ⟨x, H1, I1, r1, q1⟩ => ?_)
  obtain ⟨a, xs, rfl, hx, q⟩ := q1
  cases r1
  have part : PO X (some (.Constant (.int c) k p1)) (tPart (tC (.int c))) := po_some pe_int
  refine wpAny_Slice (thn (hl.run pins s1 σ H1 (fun o H2 => o = lo ∧ H2 = H1) I1 (hv σ H1)) fun vl s2 ⟨l, H2, I2, pl, el, e2⟩ => ?_)
  subst el e2
  refine thn (po_none.run pins s2 σ H2 (fun o H3 => o = none ∧ H3 = H2) I2 ⟨rfl, rfl⟩) fun vu s3 ⟨u, H3, I3, pu, eu, e3⟩ => ?_
  subst eu e3
  refine thn (part.run pins s3 σ H3 (fun o H4 => o = some c ∧ H4 = H3) I3 ⟨c, rfl, rfl, rfl⟩) fun vs s4 ⟨o, H4, I4, ps, eo, e4⟩ => ?_
  subst eo e4
  have J : Inv X pins σ H4 { s4 with heap := s4.heap.push { cls := .type "slice", data := .fields #[vl, vu, vs] } } := I4.kept (t' := s4.toks) fun b ob q => Heap.get?_push_of_some _ q
  obtain ⟨its, r, ht, hz⟩ := J.list hx
  have hlen := r.length
  show wpAny (model X.prog X.w) X.A (subscriptTail e (.Slice _ none (some (.Constant (.int c) k p1)) p3) (.ref a) (.ref s4.heap.objs.size)) (EP X pins σ Q) X.xe { s4 with heap := s4.heap.push { cls := .type "slice", data := .fields #[vl, vu, vs] } }
  refine tail_any (ops := [.ref a, .ref s4.heap.objs.size]) ht.isList.typeIs (PySem.slot_list_getitem.lookup) ?_ (by with_unfolding_all rfl)
  refine wpAny_getItem_list_slice ht.isList (Heap.IsSliceOf.new _ vl vu vs) pl pu ps (fun z => hc (Option.some.inj z)) ?_ (by rw [List.size_toArray]; omega)
  have hsz := slicePick_size_le its.toArray l none (some c)
  unfold slicePick at hsz ⊢
  generalize sliceRange _ _ _ = idx at hsz ⊢
  have rp := vals_pick r idx
  have hpl := rp.length
  rw [List.size_toArray, List.size_toArray] at hsz
  refine ⟨.ref _, _, J.laid (t' := s4.toks) (o := .lst (idx.filterMap fun i => xs[i]?)) (fun b ob q => Heap.get?_push_of_some _ q) (Nat.le_refl _) ?_, rfl, q _ idx (J.hok.fresh (Nat.le_refl _)) (by omega)⟩
  exact ⟨by omega, _, 0, rp, Heap.get?_push_size _ rfl⟩⟩
section
variable {K : PySem.W.Frag}
theorem k_stp0 {X : Cx} {e : Expr} {te : TE} {c : Int} {k : Nat} {p1 p3 pos : Pos} (hK : X.K = K) (hc : c ≠ 0) (he : PE X e te) : PE X (.Subscript e (.Slice none none (some (.Constant (.int c) k p1)) p3) pos) (tStpL K te) := hK ▸ pe_stpL hc po_none (fun _ _ => ⟨rfl, rfl⟩) he
theorem k_stp1 {X : Cx} {e : Expr} {te : TE} {b c : Int} {k k2 : Nat} {p1 p2 p3 pos : Pos} (hK : X.K = K) (hc : c ≠ 0) (he : PE X e te) : PE X (.Subscript e (.Slice (some (.Constant (.int b) k2 p2)) none (some (.Constant (.int c) k p1)) p3) pos) (tStpL K te) := hK ▸ pe_stpL (lo := some b) hc (po_some pe_int) (fun _ _ => ⟨b, rfl, rfl, rfl⟩) he
theorem at_pick {W : Wd} {H : Hp} {xs : List V} {ds : List D} (r : AtAll K W H xs ds) : ∀ idx : List Nat, AtAll K W H (idx.filterMap fun i => xs[i]?) (idx.filterMap fun i => ds[i]?)
  | [] => .nil
  | i :: idx => by
    have ih := at_pick r idx
    have hl := r.length
    cases e : xs[i]? with
    | none =>
      have h1 : xs.length ≤ i := List.getElem?_eq_none_iff.mp e
      have e2 : ds[i]? = none := List.getElem?_eq_none_iff.mpr (by omega)
      rw [List.filterMap_cons_none e, List.filterMap_cons_none e2]
      exact ih
    | some x =>
      obtain ⟨d, h1, h2⟩ := r.get' e
      rw [List.filterMap_cons_some e, List.filterMap_cons_some h1]
      exact .cons h2 ih
def aStpL (f : AE) : AE := fun ρ n Q => f ρ n fun d n1 => match d with
  | .lst ds => ∀ es : List D, (∀ e ∈ es, e ∈ ds) → es.length ≤ ds.length → Q (.lst es) n1
  | _ => False
instance {te : TE} {f : AE} [DE K te f] : DE K (tStpL K te) (aStpL f) := ⟨fun W σ ρ n H Q Qa hQ hE o h => DE.run (te := te) (f := f) W σ ρ n H _ _ (fun d n1 h1 H1 x l1 o1 ax => by
    split at h1
    · cases ax with
      | lst nr s a =>
        refine ⟨_, _, rfl, SqL.of s, fun p idx hp hl => ?_⟩
        have ap := at_pick a idx
        have q := h1 _ (fun e he => ?_) (by rw [← ap.length, ← a.length]; exact hl)
        · exact (hQ.le l1).new o1 q hp (.lst (o1.fresh hp) upd_same (AtAll.le o1 (Wd.le_same (same_upd hp)) _ ap))
        · obtain ⟨i, _, hi⟩ := List.mem_filterMap.mp he
          exact List.mem_of_getElem? hi
    · exact h1.elim) hE o h⟩
end

/-! ### dict(enumerate(t)) of a tuple -/
namespace RX
open PySem
section
variable {prog : Program} {w : World} {A : Around} {E : Value → Shared → Prop} {s : Shared} {e it l : Addr} {J : Nat → Heap → Prop} {get : Nat → Option Value}
theorem enum_itemH {k : Nat} {x old : Value} {T : Addr} {f : Bool} {oT : Obj} {Q : Value → Shared → Prop} (S : Src prog w it l J get) (ee : IsEnumHeld s.heap e it k old T f) (hT : s.heap.get? T = some oT) (te : T ≠ e) (ti : T ≠ it) (j : J k s.heap) (hx : get k = some x) (n1 : e ≠ it) (n2 : l ≠ e)
    (q : ∀ g, IsEnumHeld g e it ((k : Int) + 1) old T true → J (k + 1) g → g.get? s.heap.objs.size = some { cls := .type "tuple", data := .seq #[.int k s.toks, x] } → (∀ b o, b ≠ e → b ≠ it → s.heap.get? b = some o → g.get? b = some o) → Q (.ref s.heap.objs.size) { s with heap := g, toks := s.toks + 1 }) :
    wpAny (model prog w) A (Builtin.«enumerate.__next__» ⟨[.ref e], []⟩) (fun fin s' => ∃ v, fin = .done (.ret v) ∧ Q v s') E s := by
  obtain ⟨hp, gn, dp, tk, os⟩ := s
  show wpAny _ _ (field (.ref e) 2 >>= _) _ _ _; refine wpAny_bind (wpAny_field ee rfl (x := .ref it) rfl (wpAny_bind (S.step (s := ⟨hp, gn, dp, tk, os⟩) j hx fun ha ja sa => ?_)))
  replace sa : Heap.SameBut it hp ha := sa
  have ea : IsEnumHeld ha e it k old T f := (sa.2 e n1).trans ee
  show wpAny _ _ (field (.ref e) 3 >>= _) _ _ ⟨ha, gn, dp, tk, os⟩; refine wpAny_bind (wpAny_field ea rfl (x := rawInt k) rfl ?_)
  show wpAny _ _ (field (.ref e) 4 >>= _) _ _ ⟨ha, gn, dp, tk, os⟩; refine wpAny_bind (wpAny_field ea rfl (x := .none) rfl ?_)
  show wpAny _ _ (mkInt k >>= _) _ _ ⟨ha, gn, dp, tk, os⟩; refine wpAny_bind (wpAny_mkInt ?_)
  show wpAny _ _ (setField (.ref e) 3 (rawInt ((k : Int) + 1)) >>= _) _ _ ⟨ha, gn, dp, tk + 1, os⟩; refine wpAny_bind (wpAny_setField_rec ea (by simp) fun hb eb sb => ?_)
  replace sb : Heap.SameBut e ha hb := sb
  replace eb : IsEnumHeld hb e it ((k : Int) + 1) old T f := eb
  show wpAny _ _ (setField (.ref e) 4 .none >>= _) _ _ ⟨hb, gn, dp, tk + 1, os⟩; refine wpAny_bind (wpAny_setField_rec eb (by simp) fun hc ec sc => ?_)
  replace sc : Heap.SameBut e hb hc := sc
  replace ec : IsEnumHeld hc e it ((k : Int) + 1) old T f := ec
  show wpAny _ _ (newTuple [.int k tk, x] >>= _) _ _ ⟨hc, gn, dp, tk + 1, os⟩; refine wpAny_bind (wpAny_newTuple ?_)
  have size : hc.objs.size = hp.objs.size := by rw [sc.1, sb.1, sa.1]
  have low : e < hp.objs.size := Heap.lt_size ee
  have kc : ∀ b o, b ≠ e → b ≠ it → hp.get? b = some o → hc.get? b = some o := fun b o c1 c2 v => sc.extBut b o c1 (sb.extBut b o c1 (sa.extBut b o c2 v))
  have jc : J (k + 1) hc := S.keep n1.symm n2 sc.extBut (S.keep n1.symm n2 sb.extBut ja)
  obtain ⟨hd, ehd⟩ : ∃ hd, hd = hc.push { cls := .type "tuple", data := .seq #[.int k tk, x] } := ⟨_, rfl⟩
  have gd : Heap.ExtBut e hc hd := fun b o _ v => by rw [ehd]; exact Heap.get?_push_of_some _ v
  have ed : IsEnumHeld hd e it ((k : Int) + 1) old T f := by rw [ehd]; exact Heap.get?_push_of_some _ ec
  have td : hd.get? hp.objs.size = some { cls := .type "tuple", data := .seq #[.int k tk, x] } := by rw [ehd, ← size]; exact Heap.get?_push_size _ rfl
  have jd : J (k + 1) hd := S.keep n1.symm n2 gd jc
  have kd : ∀ b o, b ≠ e → b ≠ it → hp.get? b = some o → hd.get? b = some o := fun b o c1 c2 v => gd b o c1 (kc b o c1 c2 v)
  rw [← ehd, size]
  show wpAny _ _ (Builtin.SmallTypes.ownedTupleIsFree (.ref e) >>= _) _ _ ⟨hd, gn, dp, tk + 1, os⟩; refine wpAny_bind (wpAny_tupleHeld_enum (s := ⟨hd, gn, dp, tk + 1, os⟩) ed (kd T oT te ti hT) fun hf ef sf => ?_)
  replace sf : Heap.SameBut e hd hf := sf
  simp only [Bool.false_eq_true, if_false]
  exact wpAny_pure ⟨_, rfl, q hf ef (S.keep n1.symm n2 sf.extBut jd) (sf.extBut _ _ (Nat.ne_of_gt low) td) fun b o c1 c2 v => sf.extBut b o c1 (kd b o c1 c2 v)⟩
theorem enum_nextH {k : Nat} {x old : Value} {T : Addr} {f : Bool} {oT : Obj} {Q : Option Value → Shared → Prop} (S : Src prog w it l J get) (ee : IsEnumHeld s.heap e it k old T f) (hT : s.heap.get? T = some oT) (te : T ≠ e) (ti : T ≠ it) (j : J k s.heap) (hx : get k = some x) (n1 : e ≠ it) (n2 : l ≠ e)
    (q : ∀ g, IsEnumHeld g e it ((k : Int) + 1) old T true → J (k + 1) g → g.get? s.heap.objs.size = some { cls := .type "tuple", data := .seq #[.int k s.toks, x] } → (∀ b o, b ≠ e → b ≠ it → s.heap.get? b = some o → g.get? b = some o) → Q (some (.ref s.heap.objs.size)) { s with heap := g, toks := s.toks + 1 }) :
    wpAny (model prog w) A (pyNext (.ref e)) Q E s := by
  have ty : s.TypeIs (.ref e) "enumerate" := ⟨_, ee, rfl⟩
  unfold pyNext
  refine wpAny_bind (wpAny_attempt (wpAny_callSpecial?_slot (name := Str.ofString "__next__") ty F.slot_enumerate_next (wpAny_call_entry F.slot_enumerate_next ty F.entry_enumerate_next (enum_itemH S ee hT te ti j hx n1 n2 fun g b1 b2 b3 b4 => ?_) (F.args_enumerate_next_1 _))))
  exact wpAny_pure (q g b1 b2 b3 b4)
theorem enum_endH {k : Nat} {old : Value} {T : Addr} {f : Bool} {Q : Option Value → Shared → Prop} (hn : A.handled = none) (S : Src prog w it l J get) (ee : IsEnumHeld s.heap e it k old T f) (j : J k s.heap) (hx : get k = none) (q : ∀ g, Heap.ExtBut it s.heap g → Q none { s with heap := g }) : wpAny (model prog w) A (pyNext (.ref e)) Q E s := by
  have ty : s.TypeIs (.ref e) "enumerate" := ⟨_, ee, rfl⟩
  unfold pyNext
  refine wpAny_bind (wpAny_attempt (wpAny_callSpecial?_slot (name := Str.ofString "__next__") ty F.slot_enumerate_next (wpAny_call_entry F.slot_enumerate_next ty F.entry_enumerate_next ?_ (F.args_enumerate_next_1 _))))
  show wpAny _ _ (field (.ref e) 2 >>= _) _ _ _; refine wpAny_bind (wpAny_field ee rfl (x := .ref it) rfl (wpAny_bind (S.stop (A := A.in1) (s := s) hn j hx fun g v ev ⟨o, ho, hc⟩ => ?_)))
  exact wpAny_bind (wpAny_isInstance (T := "StopIteration") (b := true) ⟨o, ho, hc⟩ isSubtype_stop (wpAny_pure (q _ ev)))
end
theorem arg_enumT {prog : Program} {w : World} (e it l : Addr) (n1 : e ≠ it) (n2 : l ≠ e) (n3 : l ≠ it) (xs : Array Value) :
    PairArg prog w "enumerate" e [e, it, l] [e, it] xs.size (fun i k v => (∃ t, k = .int (i : Int) t) ∧ xs[i]? = some v) (fun h => (∃ old, IsEnum h e it 0 old) ∧ h.IsTupleIter it l 0 ∧ h.IsTuple l xs) where
  type := fun s ok => by obtain ⟨⟨_, he⟩, _⟩ := ok; exact ⟨_, he, rfl⟩
  notDict := by decide
  keep := fun h h' ⟨⟨old, c1⟩, c2, c3⟩ hk => ⟨⟨old, hk _ _ c1⟩, c2.at fun o x => hk _ o x, c3.at fun o x => hk _ o x⟩
  there := fun h ⟨⟨old, c1⟩, ⟨o1, d1, _⟩, ⟨o2, d2, _⟩⟩ b hb => by
    have hb' : b = e ∨ b = it ∨ b = l := by simpa using hb
    rcases hb' with rfl | rfl | rfl
    · exact ⟨_, c1⟩
    · exact ⟨_, d1⟩
    · exact ⟨_, d2⟩
  sub := fun b hb => by
    have hb' : b = e ∨ b = it := by simpa using hb
    rcases hb' with rfl | rfl <;> simp
  noKeys := fun B s Q E hB ok h => by
    obtain ⟨⟨_, he⟩, _⟩ := ok
    exact getAttrOr_miss_enumerate he rfl rfl rfl enumerate_no_keys (by decide +kernel) hB h
  iter := fun B s d Q E hB ⟨⟨old, c1⟩, c2, c3⟩ hd hdf h => by
    have hdf' : d ≠ e ∧ d ≠ it ∧ d ≠ l := by simpa [not_or] using hdf
    obtain ⟨de, dit, dl⟩ := hdf'
    refine wpAny_pyIter_enum c1 (h e [e, it] (fun i h => (h.IsTupleIter it l i ∧ h.IsTuple l xs) ∧ ((∃ old, IsEnum h e it i old) ∨ ∃ old T f oT, IsEnumHeld h e it i old T f ∧ h.get? T = some oT ∧ T ≠ e ∧ T ≠ it ∧ T ≠ d)) s.heap s.toks ?_ ⟨⟨c2, c3⟩, .inl ⟨old, c1⟩⟩ (fun _ _ z => z) fun b hb => .inl hb)
    exact {
      off := fun hm => by
        have hm' : d = e ∨ d = it := by simpa using hm
        rcases hm' with z | z
        · exact de z
        · exact dit z
      frame := fun i g g' st hk => by
        obtain ⟨⟨t1, t2⟩, st⟩ := st
        refine ⟨⟨t1.at fun o x => hk _ o (Ne.symm dit) x, t2.at fun o x => hk _ o (Ne.symm dl) x⟩, ?_⟩
        rcases st with ⟨old, c⟩ | ⟨old, T, f, oT, c, hT, r⟩
        · exact .inl ⟨old, hk _ _ (Ne.symm de) c⟩
        · exact .inr ⟨old, T, f, oT, hk _ _ (Ne.symm de) c, hk _ _ r.2.2 hT, r⟩
      item := fun i s₁ Q₁ E₁ hi st hds hQ => by
        obtain ⟨jt, st⟩ := st
        have ex : xs[i]? = some xs[i] := Array.getElem?_eq_getElem hi
        have ec : ((i + 1 : Nat) : Int) = (i : Int) + 1 := by omega
        have nit : s₁.heap.objs.size ≠ it := let ⟨_, x, _⟩ := jt.1; Nat.ne_of_gt (Heap.lt_size x)
        rcases st with ⟨old, c⟩ | ⟨old, T, f, oT, c, hT, r1, r2, r3⟩
        · refine enum_next (srcT n3 xs) c jt ex n1 n2 fun g hg jg tg kp => ?_
          exact hQ s₁.heap.objs.size _ _ g (s₁.toks + 1) ⟨⟨_, rfl⟩, ex⟩ (.inl ⟨_, tg, rfl, _, rfl⟩) ⟨jg, .inr ⟨_, s₁.heap.objs.size, false, _, (by rw [ec]; exact hg), tg, Nat.ne_of_gt (Heap.lt_size c), nit, Nat.ne_of_gt hds⟩⟩ fun b o hb x => kp b o (fun y => hb (by simp [y])) (fun y => hb (by simp [y])) x
        · refine enum_nextH (srcT n3 xs) c hT r1 r2 jt ex n1 n2 fun g hg jg tg kp => ?_
          exact hQ s₁.heap.objs.size _ _ g (s₁.toks + 1) ⟨⟨_, rfl⟩, ex⟩ (.inl ⟨_, tg, rfl, _, rfl⟩) ⟨jg, .inr ⟨old, T, true, oT, (by rw [ec]; exact hg), kp _ _ r1 r2 hT, r1, r2, r3⟩⟩ fun b o hb x => kp b o (fun y => hb (by simp [y])) (fun y => hb (by simp [y])) x
      done := fun s₁ Q₁ E₁ st hQ => by
        obtain ⟨jt, st⟩ := st
        have ex : xs[xs.size]? = none := Array.getElem?_eq_none (Nat.le_refl _)
        rcases st with ⟨old, c⟩ | ⟨old, T, f, oT, c, hT, r⟩
        · exact enum_end hB (srcT n3 xs) c jt ex fun g hk => hQ g s₁.toks fun b o hb x => hk b o (fun y => hb (by simp [y])) x
        · exact enum_endH hB (srcT n3 xs) c jt ex fun g hk => hQ g s₁.toks fun b o hb x => hk b o (fun y => hb (by simp [y])) x }
end RX
namespace RX
open PySem PySem.Spec PyProof.Rows L2
def numKV {α : Type} : Nat → List α → List (Key × α)
  | _, [] => []
  | i, x :: r => (.inl (i : Int), x) :: numKV (i + 1) r
def numK : Nat → Nat → List Key
  | _, 0 => []
  | i, n + 1 => .inl (i : Int) :: numK (i + 1) n
theorem numKV_len {α : Type} : ∀ (i : Nat) (xs : List α), (numKV i xs).length = xs.length
  | _, [] => rfl
  | i, x :: r => by rw [numKV, List.length_cons, List.length_cons, numKV_len]
theorem numKV_zip {α : Type} : ∀ (i : Nat) (xs : List α), numKV i xs = (numK i xs.length).zip xs
  | _, [] => rfl
  | i, x :: r => by
    show (Sum.inl (i : Int), x) :: numKV (i + 1) r = (Sum.inl (i : Int), x) :: (numK (i + 1) r.length).zip r
    rw [numKV_zip]
theorem numK_len : ∀ i n : Nat, (numK i n).length = n
  | _, 0 => rfl
  | i, n + 1 => by rw [numK, List.length_cons, numK_len]
theorem numKV_at {α : Type} : ∀ (i j : Nat) (xs : List α) (x : α), xs[j]? = some x → (numKV i xs)[j]? = some (.inl ((i + j : Nat) : Int), x)
  | _, _, [], _, e => by simp at e
  | i, 0, y :: r, x, e => by
    cases e
    rfl
  | i, j + 1, y :: r, x, e => by
    have := numKV_at (i + 1) j r x (by simpa using e)
    rw [show i + (j + 1) = i + 1 + j by omega]
    exact this
theorem numKV_rel : ∀ (i : Nat) {xs : List V} {us : List Value}, Vals xs us → KV (numKV i xs) (numKV i us)
  | _, _, _, .nil => .nil
  | i, _, _, .cons r t => .cons ⟨rfl, r⟩ (numKV_rel (i + 1) t)
theorem merge_num : ∀ (xs : List V) (i : Nat) (acc : List (Key × V)), (∀ p ∈ acc, ∃ j : Nat, p.1 = .inl (j : Int) ∧ j < i) → mergeK acc (numKV i xs) = acc ++ numKV i xs
  | [], _, acc, _ => by
    show acc = acc ++ []
    rw [List.append_nil]
  | x :: r, i, acc, h => by
    have e : putK acc (Sum.inl (i : Int)) x = acc ++ [(.inl (i : Int), x)] := by
      unfold putK
      rw [if_neg]
      intro z
      obtain ⟨p, hp, hd⟩ := List.any_eq_true.mp z
      obtain ⟨j, e, hj⟩ := h p hp
      have hd' := of_decide_eq_true hd
      rw [e] at hd'
      have := Sum.inl.inj hd'
      omega
    show mergeK (putK acc (Sum.inl (i : Int)) x) (numKV (i + 1) r) = acc ++ ((Sum.inl (i : Int), x) :: numKV (i + 1) r)
    rw [e, merge_num r (i + 1), List.append_assoc]
    · rfl
    · intro p hp
      rcases List.mem_append.mp hp with hp | hp
      · obtain ⟨j, e, hj⟩ := h p hp
        exact ⟨j, e, by omega⟩
      · rcases List.mem_singleton.mp hp with rfl
        exact ⟨i, rfl, by omega⟩
def tDEn (K : PySem.W.Frag) (ta : TA) : TE := fun σ H Q => ta σ H fun vs H1 => ∃ a xs, vs = [.ref a] ∧ SqT K H1 a xs ∧ ∀ p, H1 p = none → Q (.ref p) (upd H1 p (.dK (numKV 0 xs)))
theorem k_den {K : PySem.W.Frag} {X : Cx} {e : Expr} {ta : TA} {p p0 pos pos0 : Pos} (hK : X.K = K) (hc : X.calm = true) (hg0 : Gl X "dict") (hm0 : X.mg "dict" = none) (hg : Gl X "enumerate") (hm : X.mg "enumerate" = none) (ha : PA X [e] ta) (hs : starEach [e] X.env = [(false, eval e X.env)] := by rfl)
    (hs0 : starEach [Expr.Call (.Name "enumerate" p) [e] [] pos] X.env = (false, eval (Expr.Call (.Name "enumerate" p) [e] [] pos) X.env) :: starEach [] X.env := by rfl) :
    PE X (.Call (.Name "dict" p0) [.Call (.Name "enumerate" p) [e] [] pos] [] pos0) (tDEn K ta) := by
  subst hK
  refine ⟨fun pins s σ H Q I h => ?_⟩
  refine Call_ (ld_blt I hg0 hm0 PyProof.Rows.boot_dict (PyProof.Rows.callWith_type1 ?_ hs0 rfl))
  rw [hs0]
  show wpAny _ _ (spliced ((false, _) :: backTo pos0 (starEach [] X.env))) _ _ s
  refine Calls.spliced_cons ?_
  refine Call_ (ld_blt I hg hm boot_enumerate (PyProof.Rows.callWith_type1 (thn (ha.run pos pins s σ H _ I h) fun us s1 ⟨vs, H1, I1, r1, a, xs, ev, qx, q⟩ => ?_) hs rfl))
  subst ev
  cases r1 with
  | cons ra rr =>
  cases rr
  cases ra
  obtain ⟨its, rv, pa, hz⟩ := I1.tuple qx
  obtain ⟨oa, ea, _⟩ := id pa
  have low := Heap.lt_size ea
  refine call_enumT (show s1.heap.IsTuple a its.toArray from pa) fun g he t1 kp => ?_
  have I2 : Inv X pins σ H1 { s1 with heap := g } := I1.kept (t' := s1.toks) kp
  have up : ∀ b ∈ [s1.heap.objs.size + 1, s1.heap.objs.size], s1.heap.objs.size ≤ b := fun b hb => by
    simp only [List.mem_cons, List.not_mem_nil, or_false] at hb
    rcases hb with rfl | rfl <;> first | exact Nat.le_add_right _ _ | exact Nat.le_refl _
  have len := rv.length
  refine Calls.spliced_nil ?_
  refine PySem.call_dict_pairs (s := { s1 with heap := g }) (knd := mixKind X.prog X.w) (kvs := numKV 0 its) (arg_enumT (prog := X.prog) (w := X.w) (s1.heap.objs.size + 1) s1.heap.objs.size a (Nat.succ_ne_self _) (Nat.ne_of_lt (Nat.lt_succ_of_lt low)) (Nat.ne_of_lt low) its.toArray) (I2.ok.hd hc) ⟨⟨_, he⟩, t1, (show s1.heap.IsTuple a its.toArray from pa).at fun o z => kp _ o z⟩ ⟨by rw [numKV_len]; simp, fun i key v ⟨⟨t, ek⟩, ev⟩ => ?_⟩ (by simp; omega) fun h' tk hd' k => ?_
  · have := numKV_at 0 i its v (by simpa using ev)
    rw [Nat.zero_add] at this
    refine ⟨_, this, ?_⟩
    rw [ek]
    exact mixKind_int X.prog X.w _ _
  · have hm' : (g.objs.size == sysModules) = false := beq_eq_false_iff_ne.mpr (Nat.ne_of_gt I2.big)
    have rel := KV.merge (numKV_rel 0 rv) (show KV [] [] from .nil)
    rw [merge_num xs 0 [] (fun p hp => by cases hp), List.nil_append] at rel
    refine ⟨.ref g.objs.size, upd H1 g.objs.size (.dK (numKV 0 xs)), I2.turnedNew (t' := tk) (ch := [s1.heap.objs.size + 1, s1.heap.objs.size]) k (fun b hb => I1.fpOk (up b hb) (I1.hok.fresh (up b hb))) (Nat.le_refl _) ?_, rfl, q _ (I2.hok.fresh (Nat.le_refl _))⟩
    exact (show ObjOk X.prog X.w _ h' g.objs.size (.dK (numKV 0 xs)) from ⟨by rw [numKV_len]; exact hz, hm', _, rel, hd'⟩)
section
variable {K : PySem.W.Frag}
def aDEn (g : AA) : AE := fun ρ n Q => g ρ n fun ds n1 => match ds with
  | [.tup es] => Q (.dic (numK 0 es.length) es) n1
  | _ => False
instance {ta : TA} {g : AA} [DA K ta g] : DE K (tDEn K ta) (aDEn g) := ⟨fun W σ ρ n H Q Qa hQ hE o h =>
  DA.run (te := ta) (f := g) W σ ρ n H _ _ (fun ds n1 h1 H1 vs l1 o1 ax => by
    split at h1
    · cases ax with
      | cons a r =>
        cases r
        cases a with
        | tup s b =>
          refine ⟨_, _, rfl, s, fun p hp => ?_⟩
          have hl := b.length
          rw [numKV_zip, hl]
          exact (hQ.le l1).new o1 h1 hp (.dic (o1.fresh hp) upd_same (by rw [numK_len, hl]) (AtAll.le o1 (Wd.le_same (same_upd hp)) _ b))
    · exact h1.elim) hE o h⟩
end
end RX
open RX (k_den)

/-! ### {} and {a: b} of two names -/
section
variable {K : PySem.W.Frag}
def aDNew : AE := fun _ n Q => Q (.dic [] []) n
instance : DE K tDNewK aDNew := ⟨fun W σ ρ n H Q Qa hQ hE o h p hp => hQ.new o h hp (.dic (ks := []) (xs := []) (o.fresh hp) upd_same rfl .nil)⟩
def aDisp1 (i j : Nat) : AE := fun ρ n Q => match eGet ρ i, eGet ρ j with
  | some (.int k), some d => Q (.dic [.inl k] [d]) n
  | _, _ => False
instance {i j : Nat} : DE K (tDisp [(tVar i, tVar j)]) (aDisp1 i j) := ⟨fun W σ ρ n H Q Qa hQ hE o h p hp => by
  unfold aDisp1 at h
  split at h
  · rename_i k d e1 e2
    obtain ⟨v1, f1, a1⟩ := hE.2 i _ e1
    obtain ⟨v2, f2, a2⟩ := hE.2 j _ e2
    cases a1
    refine ⟨_, f1, _, f2, upd_same, [(.inl k, v2)], rfl, (show 1 ≤ 15 by decide), ?_⟩
    have em : mergeK [] [((Sum.inl k : Key), v2)] = [(.inl k, v2)] := rfl
    rw [upd_upd, em]
    exact hQ.new o h hp (.dic (ks := [.inl k]) (xs := [v2]) (o.fresh hp) upd_same rfl (.cons (At.le o (Wd.le_same (same_upd hp)) _ a2) .nil))
  · exact h.elim⟩
end

/-! ### isinstance facts of own classes -/
theorem kit_ref {K : PySem.W.Frag} {D C : Addr} {b : Bool} (hc : PySem.W.isClsIn K C = true) (ht : PySem.W.typeIn K (.ref C) = some (.type "type")) (hs : PySem.W.subIn K (.ref D) (.ref C) = some b) (hd : PySem.W.subIn K (.ref D) (.ref D) = some true) : PySem.W.kitOne K (.ref D) (.ref C) = some b := by
  unfold PySem.W.kitOne
  by_cases e : D = C
  · subst e
    rw [hd] at hs
    cases hs
    rw [if_pos (beq_self_eq_true _)]
  · have hne : ¬ ((Value.ref D == Value.ref C) = true) := fun z => e (Value.ref.inj (beq_iff_eq.mp z))
    rw [if_neg hne]
    have h2 : ((PySem.W.clsIn K C).isSome && PySem.W.typeIn K (.ref C) == some (.type "type")) = true := by
      have h2' : (PySem.W.clsIn K C).isSome = true := hc
      rw [h2', ht] <;> rfl
    show (if ((PySem.W.clsIn K C).isSome && PySem.W.typeIn K (.ref C) == some (.type "type")) = true then PySem.W.subIn K (.ref D) (.ref C) else none) = some b
    rw [if_pos h2]
    exact hs
theorem kit_type {K : PySem.W.Frag} {D : Addr} {n : String} {b : Bool} (hm : PySem.W.kitMeta n = true) (hs : PySem.W.subIn K (.ref D) (.type n) = some b) : PySem.W.kitOne K (.ref D) (.type n) = some b := by
  unfold PySem.W.kitOne
  have hne : ¬ ((Value.ref D == Value.type n) = true) := fun z => nomatch (beq_iff_eq.mp z)
  rw [if_neg hne]
  show (if PySem.W.kitMeta n = true then PySem.W.subIn K (.ref D) (.type n) else none) = some b
  rw [if_pos hm]
  exact hs

section
variable {P : Program} {w : World} {K : PySem.W.Frag} {mg : Str → Option Value} {base : Heap} {A : Ad}
/-! CUT -/
/-! ### shares in the mirror -/
def sh (q : Rat) : D := .tup [.int q.num, .int (q.den : Int)]
theorem sh_of {t u a b : Int} (h : IsSh t u) (hb : b ≠ 0) (c : t * b = u * a) : D.tup [.int t, .int u] = sh (Rat.divInt a b) := by
  obtain ⟨h1, h2⟩ := rep_divInt h hb c
  rw [h1, h2]
  rfl
theorem mulA {n m : Nat} {x y : Int} (h : Bd n x) (g : Bd m y) (hn : n ≤ 400000) (hm : m ≤ 400000) : CMulA x y := .inr (h.mulW g hn hm)
theorem divA {n : Nat} {x y : Int} (h : Bd n y) (h0 : 0 < y) (hn : n < 9000) : CDivA x y := .inr (h.divW h0 hn)
theorem dIte {p : Prop} [Decidable p] {a b : Prop} (h : p → a) (g : ¬ p → b) : aIte (decide p) a b := ⟨fun e => h (of_decide_eq_true e), fun e => g (of_decide_eq_false e)⟩
def a_gcd : ASp := fun ds n Q => ∃ a b : Int, ds = [.int a, .int b] ∧ Q (.int (gcdI a b)) n
theorem kon_NOUGHT' {K : PySem.W.Frag} {a : Addr} (h : ∀ H, SqT K H a [.int 0, .int 1]) : Kon K a (sh 0) := ⟨fun W H => .tup (h H) (.cons (.int _) (.cons (.int _) .nil))⟩

theorem room65 {k : Nat} {A : Around} (r : Room k A) : A.units + 65 < cLine := by
  have := r.un
  omega
/-! ### a corner, of whatever is handed in -/
def Th : D → Prop
  | .non => True
  | .bl _ => True
  | .int _ => True
  | .str _ => True
  | .tup _ => True
  | .lst _ => True
  | .dic _ _ => True
  | _ => False
def isInt : D → Bool
  | .int _ => true
  | _ => false
def reach : D → Bool
  | .int i => decide (-1000000 ≤ i) && decide (i ≤ 1000000)
  | _ => false
def a_p_is_whole : ASp := fun ds n Q => ∃ d, ds = [d] ∧ Th d ∧ Q (.bl (isInt d)) n
theorem ok_p_is_whole (T : Tx K mg A) : FnOk P w K mg base CX0 1 A.f_p_is_whole A.fd_p_is_whole ["thing"] (spOf K 1 a_p_is_whole) := by
  refine fn_mir [] 1 rfl (by decide) (by decide) T.F_p_is_whole sc_p_is_whole fun cdv Ar outer s H E hr => ?_
  refine ⟨_, _, (pss_one (ps_ret (pe_and (pe_callB (k_isi (K := K) rfl) (by rfl) T.m_isinstance (by decide +kernel) (pa_cons (pv 0) (pa_cons (k_ty (t := .int) (by rfl) T.m_int (by decide +kernel)) pa_nil))) (pe_one (pe_not (pe_callB (k_isi (K := K) rfl) (by rfl) T.m_isinstance (by decide +kernel) (pa_cons (pv 0) (pa_cons (k_ty (t := .bl) (by rfl) T.m_bool (by decide +kernel)) pa_nil)))))))), by infer_instance, fun ds n Q hl hA => ?_⟩
  obtain ⟨d, rfl, h, q⟩ := hA
  cases d with
  | int i => exact aT q
  | bl b => exact aT q
  | non => exact aF q
  | str z => exact aF q
  | tup ds => exact aF q
  | lst ds => exact aF q
  | dic ks ds => exact aF q
  | _ => exact h.elim
def a_p_in_reach : ASp := fun ds n Q => ∃ d, ds = [d] ∧ Th d ∧ Q (.bl (reach d)) n
theorem ok_p_in_reach (T : Tx K mg A) : FnOk P w K mg base CX0 2 A.f_p_in_reach A.fd_p_in_reach ["thing"] (spOf K 1 a_p_in_reach) := by
  refine fn_mir [] 1 rfl (by decide) (by decide) T.F_p_in_reach sc_p_in_reach fun cdv Ar outer s H E hr => ?_
  refine ⟨_, _, (pss_one (ps_ret (pe_and (pe_call (ok_p_is_whole (P := P) (K := K) T) (hr.mono (by decide)) (by rfl) T.g_p_is_whole T.F_p_is_whole.kp T.b_p_is_whole .nil pass0 (pa_cons (pv 0) pa_nil)) (pe_one (pe_chain op_le op_le (pe_un un_neg (pe_glob (v := .int 1000000) (by rfl) T.g_REACH ⟨_, rfl⟩)) (pv 0) (pe_glob (v := .int 1000000) (by rfl) T.g_REACH ⟨_, rfl⟩)))))), by infer_instance, fun ds n Q hl hA => ?_⟩
  obtain ⟨d, rfl, h, q⟩ := hA
  refine ⟨d, rfl, h, ?_⟩
  cases d with
  | int i =>
    refine aT ?_
    by_cases h1 : -1000000 ≤ i
    · have e : decide (-1000000 ≤ i) = true := decide_eq_true h1
      show aIte (decide (-1000000 ≤ i)) _ _
      rw [e]
      refine aT ?_
      have q' : Q (.bl (decide (-1000000 ≤ i) && decide (i ≤ 1000000))) n := q
      rw [e] at q'
      exact q'
    · have e : decide (-1000000 ≤ i) = false := decide_eq_false h1
      show aIte (decide (-1000000 ≤ i)) _ _
      rw [e]
      refine aF ?_
      have q' : Q (.bl (decide (-1000000 ≤ i) && decide (i ≤ 1000000))) n := q
      rw [e] at q'
      exact q'
  | bl b => exact aF q
  | non => exact aF q
  | str z => exact aF q
  | tup ds => exact aF q
  | lst ds => exact aF q
  | dic ks ds => exact aF q
  | _ => exact h.elim
def pairD : D → Option (D × D)
  | .tup [a, b] => some (a, b)
  | .lst [a, b] => some (a, b)
  | _ => none
def a_p_look_corner (A : Ad) : ASX := fun ds n Q X => ∃ d, ds = [d] ∧ Th d ∧ (∀ a b, pairD d = some (a, b) → Th a ∧ Th b) ∧ (∀ a b, pairD d = some (a, b) → reach a = true → reach b = true → Q (.tup [a, b]) n) ∧ ((∀ a b, pairD d = some (a, b) → ¬ (reach a = true ∧ reach b = true)) → X A.c_BadShape [] [] n)
theorem ok_p_look_corner (T : Tx K mg A) : FnOk P w K mg base (L2N.CX P w) 3 A.f_p_look_corner A.fd_p_look_corner ["thing"] (spE K 1 (a_p_look_corner A)) := by
  refine fn_mirX [] 3 rfl (by decide) (by decide) T.F_p_look_corner sc_p_look_corner fun cdv Ar outer s H E hr => ?_
  refine ⟨_, _, (pss_cons (ps_if (PW.pt (pw_or (pt_not (pt_val (k_isi2 (K := K) rfl (pe_callB call_isiT (by rfl) T.m_isinstance (by decide +kernel) (pa_cons (pv 0) (pa_cons (pe_tup (pa_cons (k_ty (t := .lst) (by rfl) T.m_list (by decide +kernel)) (pa_cons (k_ty (t := .tup) (by rfl) T.m_tuple (by decide +kernel)) pa_nil))) pa_nil)))))) (pw_or1 (pt_cmpR (k_ne (K := K) rfl hr.units) (pe_callB (k_len (K := K) rfl) (by rfl) T.m_len (by decide +kernel) (pa_cons (pv 0) pa_nil)) pe_int (nomark _)))))
      (pss_one (k_rse rfl (L2N.takes_of rfl rfl rfl rfl) (mk0 (L2N.pmk_own PySem.F.excBase_ValueError T.x_BadShape T.g_BadShape T.k_BadShape (raises_own T.b_BadShape T.t_BadShape) rfl))))
      pss_nil)
    (pss_cons (ps_asg (pv 0) (k_gtup (K := K) (m := 2) rfl rfl (pgs_cons (pg_name (i := 1) sc_p_look_corner.nd rfl (.inl rfl)) (pgs_cons (pg_name (i := 2) sc_p_look_corner.nd rfl (.inl rfl)) pgs_nil))))
    (pss_cons (ps_if (PW.pt (pw_or (pt_not (pt_val (pe_call (ok_p_in_reach (P := P) (K := K) T) (hr.mono (by decide)) (by rfl) T.g_p_in_reach T.F_p_in_reach.kp T.b_p_in_reach .nil pass0 (pa_cons (pv 1) pa_nil)))) (pw_or1 (pt_not (pt_val (pe_call (ok_p_in_reach (P := P) (K := K) T) (hr.mono (by decide)) (by rfl) T.g_p_in_reach T.F_p_in_reach.kp T.b_p_in_reach .nil pass0 (pa_cons (pv 2) pa_nil)))))))
      (pss_one (k_rse rfl (L2N.takes_of rfl rfl rfl rfl) (mk0 (L2N.pmk_own PySem.F.excBase_ValueError T.x_BadShape T.g_BadShape T.k_BadShape (raises_own T.b_BadShape T.t_BadShape) rfl))))
      pss_nil)
    (pss_one (ps_ret (pe_tup (pa_cons (pv 1) (pa_cons (pv 2) pa_nil)))))))), by infer_instance, fun ds n Q X hl hA => ?_⟩
  obtain ⟨d, rfl, h, hab, q, x⟩ := hA
  have no : (∀ a b, pairD d ≠ some (a, b)) → X A.c_BadShape [] [] n := fun e => x fun a b z => absurd z (e a b)
  have two : ∀ a b, pairD d = some (a, b) → (reach a = true → reach b = true → Q (.tup [a, b]) n) ∧ ((reach a && reach b) = false → X A.c_BadShape [] [] n) := fun a b e => ⟨q a b e, fun z => x fun a' b' e' => by
    rw [e] at e'
    cases e'
    rintro ⟨z1, z2⟩
    rw [z1, z2] at z
    cases z⟩
  cases d with
  | int i => exact ⟨rfl, aT (aT (no fun a b z => by cases z))⟩
  | bl b => exact ⟨rfl, aT (aT (no fun a b z => by cases z))⟩
  | non => exact ⟨rfl, aT (aT (no fun a b z => by cases z))⟩
  | str z => exact ⟨rfl, aT (aT (no fun a b z => by cases z))⟩
  | dic ks ds => exact ⟨rfl, aT (aT (no fun a b z => by cases z))⟩
  | tup ds =>
    rcases ds with _ | ⟨a, _ | ⟨b, _ | ⟨c, r⟩⟩⟩
    · exact ⟨rfl, aF (aT (no fun a b z => by cases z))⟩
    · exact ⟨rfl, aF (aT (no fun a b z => by cases z))⟩
    · obtain ⟨ta, tb⟩ := hab a b rfl
      obtain ⟨good, bad⟩ := two a b rfl
      refine ⟨rfl, aF (aF ⟨a, rfl, ta, ?_⟩)⟩
      cases h1 : reach a with
      | false => exact aT (aT (bad (by rw [h1]; rfl)))
      | true =>
        refine aF ⟨b, rfl, tb, ?_⟩
        cases h2 : reach b with
        | false => exact aT (bad (by rw [h1, h2]; rfl))
        | true => exact aF (good h1 h2)
    · have e : (!(decide (((a :: b :: c :: r).length : Int) = 2))) = true := by
        rw [decide_eq_false (by simp only [List.length_cons]; omega)]
        rfl
      refine ⟨rfl, aF ?_⟩
      show aIte (!(decide (((a :: b :: c :: r).length : Int) = 2))) _ _
      rw [e]
      exact aT (no fun a b z => by cases z)
  | lst ds =>
    rcases ds with _ | ⟨a, _ | ⟨b, _ | ⟨c, r⟩⟩⟩
    · exact ⟨rfl, aF (aT (no fun a b z => by cases z))⟩
    · exact ⟨rfl, aF (aT (no fun a b z => by cases z))⟩
    · obtain ⟨ta, tb⟩ := hab a b rfl
      obtain ⟨good, bad⟩ := two a b rfl
      refine ⟨rfl, aF (aF ⟨a, rfl, ta, ?_⟩)⟩
      cases h1 : reach a with
      | false => exact aT (aT (bad (by rw [h1]; rfl)))
      | true =>
        refine aF ⟨b, rfl, tb, ?_⟩
        cases h2 : reach b with
        | false => exact aT (bad (by rw [h1, h2]; rfl))
        | true => exact aF (good h1 h2)
    · have e : (!(decide (((a :: b :: c :: r).length : Int) = 2))) = true := by
        rw [decide_eq_false (by simp only [List.length_cons]; omega)]
        rfl
      refine ⟨rfl, aF ?_⟩
      show aIte (!(decide (((a :: b :: c :: r).length : Int) = 2))) _ _
      rw [e]
      exact aT (no fun a b z => by cases z)
  | _ => exact h.elim
/-! ### corners and sides -/
def PtR (p : Pt) : Prop := Bd 21 p.1 ∧ Bd 21 p.2
def lft (s e c : Pt) : Bool := decide (0 < (e.1 - s.1) * (c.2 - s.2) - (e.2 - s.2) * (c.1 - s.1))
theorem Bd.sub {n : Nat} {x y : Int} (h : Bd n x) (g : Bd n y) : Bd (n + 1) (x - y) := h.add g.neg
def a_p_is_left : ASp := fun ds n Q => ∃ s e c : Pt, ds = [pt s, pt e, pt c] ∧ PtR s ∧ PtR e ∧ PtR c ∧ Q (.bl (lft s e c)) n
theorem ok_p_is_left (T : Tx K mg A) : FnOk P w K mg base CX0 1 A.f_p_is_left A.fd_p_is_left ["start", "end", "corner"] (spOf K 3 a_p_is_left) := by
  refine fn_mir [] 9 rfl (by decide) (by decide) T.F_p_is_left sc_p_is_left fun cdv Ar outer s H E hr => ?_
  refine ⟨_, _, (pss_cons (ps_asg (pv 0) (k_gtup (K := K) (m := 2) rfl rfl (pgs_cons (pg_name (i := 3) sc_p_is_left.nd rfl (.inl rfl)) (pgs_cons (pg_name (i := 4) sc_p_is_left.nd rfl (.inl rfl)) pgs_nil))))
    (pss_cons (ps_asg (pv 1) (k_gtup (K := K) (m := 2) rfl rfl (pgs_cons (pg_name (i := 5) sc_p_is_left.nd rfl (.inl rfl)) (pgs_cons (pg_name (i := 6) sc_p_is_left.nd rfl (.inl rfl)) pgs_nil))))
    (pss_cons (ps_asg (pv 2) (k_gtup (K := K) (m := 2) rfl rfl (pgs_cons (pg_name (i := 7) sc_p_is_left.nd rfl (.inl rfl)) (pgs_cons (pg_name (i := 8) sc_p_is_left.nd rfl (.inl rfl)) pgs_nil))))
    (pss_one (ps_ret (pe_cmpR op_gt (pe_op op_sub (pe_op k_mul (pe_op op_sub (pv 5) (pv 3)) (pe_op op_sub (pv 8) (pv 4))) (pe_op k_mul (pe_op op_sub (pv 6) (pv 4)) (pe_op op_sub (pv 7) (pv 3)))) pe_int (nomark _))))))), by infer_instance, fun ds n Q hl hA => ?_⟩
  obtain ⟨s, e, c, rfl, hs, he, hc, q⟩ := hA
  exact ⟨mulA (he.1.sub hs.1) (hc.2.sub hs.2) (by decide) (by decide), mulA (he.2.sub hs.2) (hc.1.sub hs.1) (by decide) (by decide), q⟩
def a_p_is_side : ASp := fun ds n Q => ∃ (cs : List Pt) (s e : Pt), ds = [.lst (cs.map pt), pt s, pt e] ∧ cs.length ≤ 8 ∧ (∀ c ∈ cs, PtR c) ∧ PtR s ∧ PtR e ∧ Q (.bl (decide (((cs.filter (lft s e)).length : Int) = (cs.length : Int) - 2))) n
theorem ok_p_is_side (T : Tx K mg A) : FnOk P w K mg base CX0 2 A.f_p_is_side A.fd_p_is_side ["corners", "start", "end"] (spOf K 3 a_p_is_side) := by
  refine fn_mir [] 4 rfl (by decide) (by decide) T.F_p_is_side sc_p_is_side fun cdv Ar outer s H E hr => ?_
  refine ⟨_, _, (pss_one (ps_ret (pe_cmpR (k_eq (K := K) rfl hr.units) (pe_callB (k_len (K := K) rfl) (by rfl) T.m_len (by decide +kernel) (pa_cons (pe_lc (own := [("corner", 3)]) rfl sc_p_is_side.nd (k_iter (K := K) rfl (pv 0)) (blkOk_by (own := [("corner", 3)]) (N := ["corners", "start", "end", "corner"]) (sc := defScope s_p_is_side) (by decide +kernel)) (fun _ _ _ _ _ => (pg_name (i := 3) sc_p_is_side.nd rfl (Or.inl rfl))) (fun _ _ _ _ _ => (pts_one (pt_val (pe_call (ok_p_is_left (P := P) (K := K) T) (hr.mono (by decide)) (by rfl) T.g_p_is_left T.F_p_is_left.kp T.b_p_is_left .nil pass0 (pa_cons (pv 1) (pa_cons (pv 2) (pa_cons (pv 3) pa_nil))))))) (fun _ _ _ _ _ => (pv 3))) pa_nil)) (pe_op op_sub (pe_callB (k_len (K := K) rfl) (by rfl) T.m_len (by decide +kernel) (pa_cons (pv 0) pa_nil)) pe_int) (nomark _)))), by infer_instance, fun ds n Q hl hA => ?_⟩
  obtain ⟨cs, s, e, rfl, hl, hcs, hs, he, q⟩ := hA
  refine ⟨by rw [List.length_map]; omega, ?_⟩
  refine aLc_ind (fun acc ds m => m = n ∧ ∃ us vs : List Pt, cs = us ++ vs ∧ ds = vs.map pt ∧ acc = (us.filter (lft s e)).map pt) ?_ ?_ ⟨rfl, [], cs, rfl, rfl, rfl⟩
  · rintro acc d r m ⟨rfl, us, vs, e0, e1, rfl⟩ ih
    cases vs with
    | nil => cases e1
    | cons v vs =>
    rw [List.map_cons] at e1
    obtain ⟨rfl, rfl⟩ := List.cons.inj e1
    refine ⟨s, e, v, rfl, hs, he, hcs v (by rw [e0]; exact List.mem_append_right _ List.mem_cons_self), ?_⟩
    have e0' : cs = (us ++ [v]) ++ vs := by rw [e0, List.append_assoc]; rfl
    cases h : lft s e v with
    | true =>
      refine aT (ih _ _ ⟨rfl, us ++ [v], vs, e0', rfl, ?_⟩)
      rw [List.filter_append, List.filter_cons_of_pos (by exact h), List.map_append]
      rfl
    | false =>
      refine aF (ih _ _ ⟨rfl, us ++ [v], vs, e0', rfl, ?_⟩)
      rw [List.filter_append, List.filter_cons_of_neg (by rw [h]; exact Bool.false_ne_true), List.filter_nil, List.append_nil]
  · rintro acc m ⟨rfl, us, vs, e0, e1, rfl⟩
    cases vs with
    | cons v vs => cases e1
    | nil =>
    rw [List.append_nil] at e0
    subst e0
    have q' : Q (.bl (decide ((((cs.filter (lft s e)).map pt).length : Int) = ((cs.map pt).length : Int) - 2))) m := by
      rw [List.length_map, List.length_map]
      exact q
    exact q'
theorem sIx_one {n d : Nat} (h : 1 ≤ n) : HT.sIx n d (some 1) = 1 := by
  unfold HT.sIx
  simp
  omega
theorem cut_drop {xs : List D} (h : 1 ≤ xs.length) : cutL xs (some 1) none = xs.drop 1 := by
  unfold cutL
  rw [HT.sIx_none, sIx_one h, ← List.length_drop, List.take_length]
theorem cut_take {xs : List D} (h : 1 ≤ xs.length) : cutL xs none (some 1) = xs.take 1 := by
  unfold cutL
  rw [HT.sIx_none, sIx_one h, List.drop_zero, Nat.sub_zero]
def a_p_side_ends : ASp := fun ds n Q => ∃ cs : List Pt, ds = [.lst (cs.map pt)] ∧ 1 ≤ cs.length ∧ cs.length ≤ 8 ∧ Q (.lst (zipD (cs.map pt) ((cs.drop 1 ++ cs.take 1).map pt))) n
theorem ok_p_side_ends (T : Tx K mg A) : FnOk P w K mg base CX0 1 A.f_p_side_ends A.fd_p_side_ends ["corners"] (spOf K 1 a_p_side_ends) := by
  refine fn_mir [] 1 rfl (by decide) (by decide) T.F_p_side_ends sc_p_side_ends fun cdv Ar outer s H E hr => ?_
  refine ⟨_, _, (pss_one (ps_ret (k_lzipA (K := K) rfl rfl (by rfl) T.m_list (by rfl) T.m_zip (pa_cons (pv 0) (pa_cons (pe_op (k_add (K := K) rfl) (pe_slice (k_sl (K := K) rfl) (pv 0) (po_some pe_int) po_none) (pe_slice (k_sl (K := K) rfl) (pv 0) po_none (po_some pe_int))) pa_nil))))), by infer_instance, fun ds n Q hl hA => ?_⟩
  obtain ⟨cs, rfl, h1, h8, q⟩ := hA
  have hl : (cs.map pt).length = cs.length := List.length_map _
  have e1 := cut_drop (xs := cs.map pt) (by omega)
  have e2 := cut_take (xs := cs.map pt) (by omega)
  have e3 : (cs.map pt).drop 1 ++ (cs.map pt).take 1 = (cs.drop 1 ++ cs.take 1).map pt := by rw [List.map_append, List.map_drop, List.map_take]
  refine ⟨?_, ?_, ?_, ?_⟩
  · rw [e1, e2, List.length_drop, List.length_take]
    omega
  · rw [e1, e2, List.length_append, List.length_drop, List.length_take]
    omega
  · omega
  · show Q (.lst (zipD (cs.map pt) (cutL (cs.map pt) (some 1) none ++ cutL (cs.map pt) none (some 1)))) n
    rw [e1, e2, e3]
    exact q
/-! ### points: compared, looked for, cut at a place (out of pgeo.src and plook.src) -/
theorem pt_isD : ∀ ws : List Pt, isDAll (ws.map pt) = true
  | [] => rfl
  | w :: ws => by
    show ((pt w).isD && isDAll (ws.map pt)) = true
    rw [pt_isD ws]
    rfl
theorem pt_lay : ∀ ws : List Pt, PyData.canLayAll0 (pdAll (ws.map pt)) = true ∧ PyData.depthAll (pdAll (ws.map pt)) ≤ 1
  | [] => ⟨rfl, Nat.zero_le _⟩
  | w :: ws => by
    obtain ⟨h1, h2⟩ := pt_lay ws
    refine ⟨?_, ?_⟩
    · show (PyData.canLay0 (pt w).pd && PyData.canLayAll0 (pdAll (ws.map pt))) = true
      rw [h1]
      rfl
    · show max (PyData.depth (pt w).pd) (PyData.depthAll (pdAll (ws.map pt))) ≤ 1
      exact Nat.max_le.mpr ⟨by show PyData.depth (.tuple [.int w.1, .int w.2]) ≤ 1; simp [PyData.depth, PyData.depthAll], h2⟩
theorem pt_shaped (ws : List Pt) : SeqAt.shaped (.list (pdAll (ws.map pt))) = true := by
  obtain ⟨h1, h2⟩ := pt_lay ws
  unfold SeqAt.shaped
  refine Bool.and_eq_true_iff.mpr ⟨h1, decide_eq_true ?_⟩
  show PyData.depthAll (pdAll (ws.map pt)) + 1 ≤ 64
  omega
theorem pt_eqv (v w : Pt) : PyData.eqv (pt v).pd (pt w).pd = decide (v = w) := by
  show PyData.eqv (.tuple [.int v.1, .int v.2]) (.tuple [.int w.1, .int w.2]) = _
  simp only [PyData.eqv, PyData.eqvAll, Bool.and_true]
  by_cases h : v = w
  · subst h
    simp
  · rw [decide_eq_false h]
    have : ¬ (v.1 = w.1 ∧ v.2 = w.2) := fun z => h (Prod.ext z.1 z.2)
    by_cases h1 : v.1 = w.1
    · have h2 : v.2 ≠ w.2 := fun z => this ⟨h1, z⟩
      simp [h2]
    · simp [h1]
theorem pt_lt {v p : Pt} (h : MM.ltK 1 (pt v).kt (pt p).kt = false) : ¬ (v.1 < p.1 ∨ v.1 = p.1 ∧ v.2 < p.2) := by
  have e : MM.ltK 1 (pt v).kt (pt p).kt = (if MM.eqK 0 (.n v.1) (.n p.1) = true then (if MM.eqK 0 (.n v.2) (.n p.2) = true then MM.ltL (MM.eqK 0) (MM.ltK 0) [] [] else MM.ltK 0 (.n v.2) (.n p.2)) else MM.ltK 0 (.n v.1) (.n p.1)) := rfl
  rw [e, MM.eqK_n, MM.eqK_n, MM.ltK_n, MM.ltK_n] at h
  intro z
  rcases z with z | ⟨z1, z2⟩
  · rw [if_neg (by simp; omega)] at h
    exact absurd h (by simp; omega)
  · rw [if_pos (by simp; omega), if_neg (by simp; omega)] at h
    exact absurd h (by simp; omega)
theorem pt_pld (ps : List Pt) (m : Pt) : PlD (ps.map pt) (pt m) := ⟨rfl, pt_isD ps, by simp [SeqAt.shaped, pt, D.pd, pdAll, PyData.canLay0, PyData.canLayAll0, PyData.depth, PyData.depthAll], pt_shaped ps⟩
theorem shp_n (d : Nat) (i j : Int) : MM.shp d (.n i) (.n j) := by cases d <;> trivial
theorem shp2 {d : Nat} {x y x' y' : MM.KT} (h1 : MM.shp d x x') (h2 : MM.shp d y y') : MM.shp (d + 1) (.t [x, y]) (.t [x', y']) := by
  refine ⟨rfl, fun j u v hu hv => ?_⟩
  match j, hu, hv with
  | 0, hu, hv => cases hu; cases hv; exact h1
  | 1, hu, hv => cases hu; cases hv; exact h2
theorem pt_kd (c : Pt) : (pt c).kd 1 := fun y hy => by
  have : y = .int c.1 ∨ y = .int c.2 := by simpa using hy
  rcases this with rfl | rfl <;> trivial
theorem cut_fr {xs : List D} {k : Nat} (h : k ≤ xs.length) : cutL xs (some (k : Int)) none = xs.drop k := by
  unfold cutL
  rw [HT.sIx_none, HT.sIx_nat, Nat.min_eq_left h, ← List.length_drop, List.take_length]
theorem cut_to {xs : List D} {k : Nat} (h : k ≤ xs.length) : cutL xs none (some (k : Int)) = xs.take k := by
  unfold cutL
  rw [HT.sIx_none, HT.sIx_nat, Nat.min_eq_left h, List.drop_zero, Nat.sub_zero]

/-! ### the look at a shape -/
def itemsD : D → Option (List D)
  | .tup ds => some ds
  | .lst ds => some ds
  | _ => none
def cornP (d : D) : Option Pt := match pairD d with
  | some (.int x, .int y) => if reach (.int x) && reach (.int y) then some (x, y) else none
  | _ => none
def ptsD : List D → Option (List Pt)
  | [] => some []
  | e :: es => match cornP e with
    | some p => (match ptsD es with
      | some ps => some (p :: ps)
      | none => none)
    | none => none
def Th2 (e : D) : Prop := Th e ∧ ∀ a b, pairD e = some (a, b) → Th a ∧ Th b
theorem reach_int {d : D} (h : reach d = true) : ∃ i : Int, d = .int i := by
  cases d <;> first
    | exact ⟨_, rfl⟩
    | cases h
theorem corner_ok {e : D} {n : Nat} {Q : D → Nat → Prop} {X : AX} (h : Th2 e) (hn : cornP e = none → X A.c_BadShape [] [] n) (hs : ∀ p, cornP e = some p → Q (pt p) n) : a_p_look_corner A [e] n Q X := by
  refine ⟨e, rfl, h.1, h.2, fun a b e1 h1 h2 => ?_, fun hno => hn ?_⟩
  · obtain ⟨x, rfl⟩ := reach_int h1
    obtain ⟨y, rfl⟩ := reach_int h2
    refine hs (x, y) ?_
    unfold cornP
    rw [e1]
    show (if (reach (.int x) && reach (.int y)) = true then some (x, y) else none) = _
    rw [h1, h2]
    rfl
  · unfold cornP
    split
    · rename_i x y e1
      have := hno _ _ e1
      rw [if_neg]
      intro z
      rw [Bool.and_eq_true] at z
      exact this z
    · rfl
theorem corners_ok {b0 b1 b2 b3 b4 b5 : Option D} {n : Nat} {Q : D → Nat → Prop} {X : AX} : ∀ (es : List D) (us : List Pt), (∀ e ∈ es, Th2 e) → (ptsD es = none → X A.c_BadShape [] [] n) → (∀ cs, ptsD es = some cs → Q (.lst ((us ++ cs).map pt)) n) → aLcXGo [3] (aName 3) aYes 1 (a_p_look_corner A) (aCons (aVar 3) aNil) [b0, b1, b2, b3, b4, b5] X Q (us.map pt) es n
  | [], us, _, _, q => by
    have := q [] rfl
    rw [List.append_nil] at this
    exact this
  | e :: es, us, h, hn, q => by
    refine aT ?_
    show a_p_look_corner A [e] n (fun y n4 => aLcXGo [3] (aName 3) aYes 1 (a_p_look_corner A) (aCons (aVar 3) aNil) [b0, b1, b2, b3, b4, b5] X Q (us.map pt ++ [y]) es n4) X
    refine corner_ok (h e List.mem_cons_self) (fun z => hn ?_) fun p hp => ?_
    · show (match cornP e with | some p => _ | none => none) = none
      rw [z]
    · have key := corners_ok (b0 := b0) (b1 := b1) (b2 := b2) (b3 := b3) (b4 := b4) (b5 := b5) (n := n) (Q := Q) (X := X) es (us ++ [p]) (fun e' he' => h e' (List.mem_cons_of_mem _ he')) (fun z => hn ?_) fun cs hcs => ?_
      · rw [List.map_append] at key
        exact key
      · show (match cornP e with | some p => (match ptsD es with | some ps => some (p :: ps) | none => none) | none => none) = none
        rw [hp]
        show (match ptsD es with | some ps => some (p :: ps) | none => none) = none
        rw [z]
      · rw [List.append_assoc]
        refine q (p :: cs) ?_
        show (match cornP e with | some p => (match ptsD es with | some ps => some (p :: ps) | none => none) | none => none) = _
        rw [hp]
        show (match ptsD es with | some ps => some (p :: ps) | none => none) = _
        rw [hcs]
def prD (e : Pt × Pt) : D := .tup [pt e.1, pt e.2]
def sdE (cs : List Pt) (e : Pt × Pt) : Bool := decide (((cs.filter (lft e.1 e.2)).length : Int) = (cs.length : Int) - 2)
def zpE (cs : List Pt) : List (Pt × Pt) := cs.zip (cs.drop 1 ++ cs.take 1)
def sidesOk (cs : List Pt) : Bool := (zpE cs).all (sdE cs)
theorem zipD_zip : ∀ as bs : List Pt, zipD (as.map pt) (bs.map pt) = (as.zip bs).map prD
  | [], _ => rfl
  | _ :: _, [] => rfl
  | a :: as, b :: bs => by
    show D.tup [pt a, pt b] :: zipD (as.map pt) (bs.map pt) = _
    rw [zipD_zip as bs]
    rfl
theorem aLc_maps {α : Type} {vs : List Nat} {G : D → Option (List (Nat × D))} {c : AT} {e : AE} {ρ : Env'} {Q : D → Nat → Prop} {n : Nat} (F R : α → D) : ∀ (xs : List α) (acc : List D), (∀ x ∈ xs, ∀ (Kn : D → Nat → Prop) (L : Nat → Prop), Kn (R x) n → aPutC vs G (F x) ρ fun ρ1 => c ρ1 n fun b n2 => aIte b (e ρ1 n2 Kn) (L n2)) → Q (.lst (acc ++ xs.map R)) n → aLcGo vs G c e ρ Q acc (xs.map F) n
  | [], acc, _, q => by
    rw [List.map_nil, List.append_nil] at q
    exact q
  | x :: r, acc, h, q => by
    refine h x List.mem_cons_self (fun y n3 => aLcGo vs G c e ρ Q (acc ++ [y]) (r.map F) n3) (fun n2 => aLcGo vs G c e ρ Q acc (r.map F) n2) (aLc_maps F R r (acc ++ [R x]) (fun y hy => h y (List.mem_cons_of_mem _ hy)) ?_)
    rw [List.append_assoc]
    exact q
def form (d : D) : Option (List Pt) := match itemsD d with
  | some es => if 3 ≤ es.length ∧ es.length ≤ 8 then (match ptsD es with
    | some cs => if sidesOk cs = true then some cs else none
    | none => none) else none
  | none => none
theorem cornP_ok {e : D} {p : Pt} (h : cornP e = some p) : PtR p := by
  unfold cornP at h
  split at h
  · rename_i x y e1
    split at h
    · rename_i hr
      cases h
      rw [Bool.and_eq_true] at hr
      have h1 : (decide (-1000000 ≤ x) && decide (x ≤ 1000000)) = true := hr.1
      have h2 : (decide (-1000000 ≤ y) && decide (y ≤ 1000000)) = true := hr.2
      rw [Bool.and_eq_true, decide_eq_true_eq, decide_eq_true_eq] at h1 h2
      unfold PtR Bd
      constructor
      · show x.natAbs < 2 ^ 21
        omega
      · show y.natAbs < 2 ^ 21
        omega
    · cases h
  · cases h
theorem ptsD_ok : ∀ {es : List D} {cs : List Pt}, ptsD es = some cs → cs.length = es.length ∧ ∀ p ∈ cs, PtR p
  | [], _, h => by
    cases h
    exact ⟨rfl, fun p hp => by cases hp⟩
  | e :: es, cs, h => by
    cases h1 : cornP e with
    | none =>
      have h' : (match cornP e with | some p => (match ptsD es with | some ps => some (p :: ps) | none => none) | none => none) = some cs := h
      rw [h1] at h'
      cases h'
    | some p =>
      have h' : (match cornP e with | some p => (match ptsD es with | some ps => some (p :: ps) | none => none) | none => none) = some cs := h
      rw [h1] at h'
      have h2 : (match ptsD es with | some ps => some (p :: ps) | none => none) = some cs := h'
      cases h3 : ptsD es with
      | none => rw [h3] at h2; cases h2
      | some ps =>
        rw [h3] at h2
        cases h2
        obtain ⟨i1, i2⟩ := ptsD_ok h3
        refine ⟨by rw [List.length_cons, List.length_cons, i1], fun q hq => ?_⟩
        rcases List.mem_cons.mp hq with rfl | hq
        · exact cornP_ok h1
        · exact i2 q hq
/-- begun at the first of its least corners -/
def IsRot (cs rs : List Pt) : Prop := ∃ j v, cs[j]? = some v ∧ (∀ p ∈ cs, ¬ (p.1 < v.1 ∨ p.1 = v.1 ∧ p.2 < v.2)) ∧ (∀ m, m < j → cs[m]? ≠ some v) ∧ rs = cs.drop j ++ cs.take j
theorem IsRot.uniq {cs rs ts : List Pt} (h : IsRot cs rs) (g : IsRot cs ts) : rs = ts := by
  obtain ⟨j, v, h1, h2, h3, rfl⟩ := h
  obtain ⟨i, u, g1, g2, g3, rfl⟩ := g
  have a := h2 u (List.mem_of_getElem? g1)
  have b := g2 v (List.mem_of_getElem? h1)
  have e : v = u := Prod.ext (by omega) (by omega)
  subst e
  have : j = i := by
    rcases Nat.lt_trichotomy j i with z | z | z
    · exact absurd h1 (g3 j z)
    · exact z
    · exact absurd g1 (h3 i z)
  rw [this]
theorem look_tail {cs : List Pt} {n : Nat} {Q : D → Nat → Prop} {X : AX} {b0 b3 b4 b5 : Option D} (h3 : 3 ≤ cs.length) (h8 : cs.length ≤ 8) (q : ∀ rs, IsRot cs rs → Q (.tup (rs.map pt)) n) :
    aSeq (aAsg [] (aIdxD (aVar 1) (aCB (aBestT false) (aCons (aVar 1) aNil))) (aName 2)) (aRet (aCB aTupOf (aCons (a2 aAdd (aSl (aVar 1) (aPart (aVar 2)) aNoPart) (aSl (aVar 1) aNoPart (aPart (aVar 2)))) aNil))) (aTopX Q X) [b0, some (.lst (cs.map pt)), none, b3, b4, b5] n := by
  have hl : (cs.map pt).length = cs.length := List.length_map _
  refine ⟨_, rfl, _, 1, rfl, fun z => ?_, by decide, fun e he => ?_, fun e he e' he' => ?_, fun e he hm => ?_⟩
  · have := congrArg List.length z
    rw [hl] at this
    simp at this
    rw [this] at h3
    simp at h3
  · obtain ⟨p, _, rfl⟩ := List.mem_map.mp he
    exact pt_kd p
  · obtain ⟨p, _, rfl⟩ := List.mem_map.mp he
    obtain ⟨p', _, rfl⟩ := List.mem_map.mp he'
    exact shp2 (shp_n _ _ _) (shp_n _ _ _)
  obtain ⟨p, hp, rfl⟩ := List.mem_map.mp he
  obtain ⟨j', z, g1, g2, g3⟩ := anyD_idx (ds := cs.map pt) (d := pt p) (mem_anyD he (by rw [pt_eqv]; simp))
  have hj : j' < cs.length := by
    obtain ⟨h, _⟩ := List.getElem?_eq_some_iff.mp g1
    simpa using h
  refine ⟨j', z, pt_pld _ _, g1, g2, g3, ?_⟩
  have f1 : cutL (cs.map pt) (some (j' : Int)) none = (cs.drop j').map pt := by rw [cut_fr (by rw [List.length_map]; omega), List.map_drop]
  have f2 : cutL (cs.map pt) none (some (j' : Int)) = (cs.take j').map pt := by rw [cut_to (by rw [List.length_map]; omega), List.map_take]
  have gv : cs[j']? = some p := by
    rw [List.getElem?_map] at g1
    obtain ⟨v, v1, rfl⟩ := Option.map_eq_some_iff.mp g1
    rw [pt_eqv] at g2
    rw [v1, of_decide_eq_true g2]
  refine ⟨by rw [f1, f2]; simp; omega, ?_⟩
  rw [f1, f2, ← List.map_append]
  refine q _ ⟨j', p, gv, fun x hx => pt_lt (hm (pt x) (List.mem_map_of_mem hx)), fun m hm' em => ?_, rfl⟩
  have g := g3 m (pt p) hm' (by rw [List.getElem?_map, em]; rfl)
  rw [pt_eqv] at g
  simp at g
def a_p_look_shape (A : Ad) : ASX := fun ds n Q X => ∃ d, ds = [d] ∧ Th d ∧ (∀ es, itemsD d = some es → ∀ e ∈ es, Th2 e) ∧ (form d = none → X A.c_BadShape [] [] n) ∧ ∀ cs rs, form d = some cs → IsRot cs rs → Q (.tup (rs.map pt)) n
theorem ok_p_look_shape (T : Tx K mg A) : FnOk P w K mg base (L2N.CX P w) 4 A.f_p_look_shape A.fd_p_look_shape ["thing"] (spE K 1 (a_p_look_shape A)) := by
  refine fn_mirX [] 6 rfl (by decide) (by decide) T.F_p_look_shape sc_p_look_shape fun cdv Ar outer s H E hr => ?_
  refine ⟨_, _, (pss_cons (ps_if (PW.pt (pw_or (pt_not (pt_val (k_isi2 (K := K) rfl (pe_callB call_isiT (by rfl) T.m_isinstance (by decide +kernel) (pa_cons (pv 0) (pa_cons (pe_tup (pa_cons (k_ty (t := .lst) (by rfl) T.m_list (by decide +kernel)) (pa_cons (k_ty (t := .tup) (by rfl) T.m_tuple (by decide +kernel)) pa_nil))) pa_nil)))))) (pw_or1 (pt_not (pt_chain op_le op_le pe_int (pe_callB (k_len (K := K) rfl) (by rfl) T.m_len (by decide +kernel) (pa_cons (pv 0) pa_nil)) (pe_glob (v := .int 8) (by rfl) T.g_CORNERS ⟨_, rfl⟩))))))
      (pss_one (k_rse rfl (L2N.takes_of rfl rfl rfl rfl) (mk0 (L2N.pmk_own PySem.F.excBase_ValueError T.x_BadShape T.g_BadShape T.k_BadShape (raises_own T.b_BadShape T.t_BadShape) rfl))))
      pss_nil)
    (pss_cons (ps_set (i := 1) sc_p_look_shape.nd rfl (.inr rfl) (pe_lcX (own := [("corner", 3)]) rfl rfl rfl (L2N.takes_of rfl rfl rfl rfl) sc_p_look_shape.nd (k_iter (K := K) rfl (pv 0)) (blkOk_by (own := [("corner", 3)]) (N := ["thing", "corners", "first", "corner", "start", "end"]) (sc := defScope s_p_look_shape) (by decide +kernel)) (fun _ _ _ _ _ _ => (pg_name (i := 3) sc_p_look_shape.nd rfl (Or.inl rfl))) (fun _ _ _ _ _ _ => pts_nil) (fun _ _ _ _ _ _ _ hl => (k_callL (pe_callS (ok_p_look_corner (P := P) (K := K) T) (hr.mono (by decide)) (by rfl) T.g_p_look_corner T.F_p_look_corner.kp T.b_p_look_corner (lets_at rfl rfl rfl hl) (pa_cons (pv 3) pa_nil))))))
    (pss_cons (ps_if (pt_not (pt_val (pe_callB (k_all (K := K) rfl rfl) (by rfl) T.m_all (by decide +kernel) (pa_cons (pe_lc (own := [("start", 4), ("end", 5)]) rfl sc_p_look_shape.nd (k_iter (K := K) rfl (pe_call (ok_p_side_ends (P := P) (K := K) T) (hr.mono (by decide)) (by rfl) T.g_p_side_ends T.F_p_side_ends.kp T.b_p_side_ends .nil pass0 (pa_cons (pv 1) pa_nil))) (blkOk_by (own := [("start", 4), ("end", 5)]) (N := ["thing", "corners", "first", "corner", "start", "end"]) (sc := defScope s_p_look_shape) (by decide +kernel)) (fun _ _ _ _ _ => (k_gtup (K := K) (m := 2) rfl rfl (pgs_cons (pg_name (i := 4) sc_p_look_shape.nd rfl (Or.inl rfl)) (pgs_cons (pg_name (i := 5) sc_p_look_shape.nd rfl (Or.inl rfl)) pgs_nil)))) (fun _ _ _ _ _ => pts_nil) (fun _ _ _ _ _ => (pe_call (ok_p_is_side (P := P) (K := K) T) (hr.mono (by decide)) (by rfl) T.g_p_is_side T.F_p_is_side.kp T.b_p_is_side .nil pass0 (pa_cons (pv 1) (pa_cons (pv 4) (pa_cons (pv 5) pa_nil)))))) pa_nil))))
      (pss_one (k_rse rfl (L2N.takes_of rfl rfl rfl rfl) (mk0 (L2N.pmk_own PySem.F.excBase_ValueError T.x_BadShape T.g_BadShape T.k_BadShape (raises_own T.b_BadShape T.t_BadShape) rfl))))
      pss_nil)
    (pss_cons (ps_set (i := 2) sc_p_look_shape.nd rfl (.inl rfl) (k_idxD (K := K) rfl (pe_bm PySem.F.plainAttrs_list PySem.F.slot_list_index PySem.F.type_list_index (mt_indexD (room65 hr)) (pv 1) (pa_cons (pe_callB (k_minT (K := K) rfl rfl hr.units) (by rfl) T.m_min (by decide +kernel) (pa_cons (pv 1) pa_nil)) pa_nil))))
    (pss_one (ps_ret (pe_callTy (k_tuple (K := K) rfl) (by rfl) T.m_tuple (by decide +kernel) (pa_cons (pe_op (k_add (K := K) rfl) (pe_slice (k_sl (K := K) rfl) (pv 1) (po_some (pv 2)) po_none) (pe_slice (k_sl (K := K) rfl) (pv 1) po_none (po_some (pv 2)))) pa_nil)))))))), by infer_instance, fun ds n Q X hl hA => ?_⟩
  obtain ⟨d, rfl, h, h2, hbad, q⟩ := hA
  have f1 : ∀ es, itemsD d = some es → ¬ (3 ≤ es.length ∧ es.length ≤ 8) → form d = none := fun es e hn => by
    unfold form
    rw [e]
    exact if_neg hn
  have f2 : ∀ es, itemsD d = some es → ptsD es = none → form d = none := fun es e hn => by
    unfold form
    rw [e]
    show (if 3 ≤ es.length ∧ es.length ≤ 8 then (match ptsD es with | some cs => if sidesOk cs = true then some cs else none | none => none) else none) = none
    rw [hn]
    split <;> rfl
  have f3 : ∀ es cs, itemsD d = some es → 3 ≤ es.length ∧ es.length ≤ 8 → ptsD es = some cs → form d = if sidesOk cs = true then some cs else none := fun es cs e h38 hcs => by
    unfold form
    rw [e]
    show (if 3 ≤ es.length ∧ es.length ≤ 8 then (match ptsD es with | some cs => if sidesOk cs = true then some cs else none | none => none) else none) = _
    rw [if_pos h38, hcs]
  cases d with
  | int i => exact ⟨rfl, aT (aT (hbad rfl))⟩
  | bl b => exact ⟨rfl, aT (aT (hbad rfl))⟩
  | non => exact ⟨rfl, aT (aT (hbad rfl))⟩
  | str z => exact ⟨rfl, aT (aT (hbad rfl))⟩
  | dic ks ds => exact ⟨rfl, aT (aT (hbad rfl))⟩
  | tup es =>
    refine ⟨rfl, aF ?_⟩
    by_cases h3 : 3 ≤ es.length
    rotate_left
    · exact ⟨fun z => absurd (of_decide_eq_true z : (3 : Int) ≤ (es.length : Int)) (by omega), fun _ => aT (hbad (f1 es rfl fun z => h3 z.1))⟩
    refine ⟨fun _ => ?_, fun z => absurd (decide_eq_true (show (3 : Int) ≤ (es.length : Int) by omega)) (by rw [z]; exact Bool.false_ne_true)⟩
    by_cases h8 : es.length ≤ 8
    rotate_left
    · show aIte (!(decide ((es.length : Int) ≤ 8))) _ _
      rw [decide_eq_false (by omega)]
      exact aT (hbad (f1 es rfl fun z => h8 z.2))
    show aIte (!(decide ((es.length : Int) ≤ 8))) _ _
    rw [decide_eq_true (show (es.length : Int) ≤ 8 by omega)]
    refine aF ⟨by omega, corners_ok es [] (h2 es rfl) (fun z => hbad (f2 es rfl z)) fun cs hcs => ?_⟩
    obtain ⟨hcl, hcr⟩ := ptsD_ok hcs
    have ef := f3 es cs rfl ⟨h3, h8⟩ hcs
    rw [List.nil_append]
    refine ⟨cs, rfl, by omega, by omega, ?_⟩
    rw [zipD_zip]
    have hzl : (zpE cs).length ≤ 8 := by
      unfold zpE
      rw [List.length_zip]
      omega
    refine ⟨by rw [List.length_map]; exact Nat.le_trans hzl (by decide), aLc_maps prD (fun e => .bl (sdE cs e)) (zpE cs) [] (fun e he Kn L k => ?_) ?_⟩
    · have hm := List.of_mem_zip (a := e.1) (b := e.2) he
      have hm2 : e.2 ∈ cs := by
        rcases List.mem_append.mp hm.2 with z | z
        · exact List.mem_of_mem_drop z
        · exact List.mem_of_mem_take z
      exact aT ⟨cs, e.1, e.2, rfl, by omega, hcr, hcr _ hm.1, hcr _ hm2, k⟩
    refine ⟨(zpE cs).map (sdE cs), by rw [List.map_map]; rfl, ?_⟩
    have ea : ((zpE cs).map (sdE cs)).all id = sidesOk cs := by
      rw [List.all_map]
      rfl
    show aIte (!(((zpE cs).map (sdE cs)).all id)) _ _
    rw [ea]
    cases hso : sidesOk cs with
    | false =>
      refine aT (hbad ?_)
      rw [ef, hso]
      rfl
    | true =>
      refine aF ?_
      have q2 := fun rs => q cs rs (by rw [ef, hso]; rfl)
      exact look_tail (X := X) (by omega) (by omega) q2
  | lst es =>
    refine ⟨rfl, aF ?_⟩
    by_cases h3 : 3 ≤ es.length
    rotate_left
    · exact ⟨fun z => absurd (of_decide_eq_true z : (3 : Int) ≤ (es.length : Int)) (by omega), fun _ => aT (hbad (f1 es rfl fun z => h3 z.1))⟩
    refine ⟨fun _ => ?_, fun z => absurd (decide_eq_true (show (3 : Int) ≤ (es.length : Int) by omega)) (by rw [z]; exact Bool.false_ne_true)⟩
    by_cases h8 : es.length ≤ 8
    rotate_left
    · show aIte (!(decide ((es.length : Int) ≤ 8))) _ _
      rw [decide_eq_false (by omega)]
      exact aT (hbad (f1 es rfl fun z => h8 z.2))
    show aIte (!(decide ((es.length : Int) ≤ 8))) _ _
    rw [decide_eq_true (show (es.length : Int) ≤ 8 by omega)]
    refine aF ⟨by omega, corners_ok es [] (h2 es rfl) (fun z => hbad (f2 es rfl z)) fun cs hcs => ?_⟩
    obtain ⟨hcl, hcr⟩ := ptsD_ok hcs
    have ef := f3 es cs rfl ⟨h3, h8⟩ hcs
    rw [List.nil_append]
    refine ⟨cs, rfl, by omega, by omega, ?_⟩
    rw [zipD_zip]
    have hzl : (zpE cs).length ≤ 8 := by
      unfold zpE
      rw [List.length_zip]
      omega
    refine ⟨by rw [List.length_map]; exact Nat.le_trans hzl (by decide), aLc_maps prD (fun e => .bl (sdE cs e)) (zpE cs) [] (fun e he Kn L k => ?_) ?_⟩
    · have hm := List.of_mem_zip (a := e.1) (b := e.2) he
      have hm2 : e.2 ∈ cs := by
        rcases List.mem_append.mp hm.2 with z | z
        · exact List.mem_of_mem_drop z
        · exact List.mem_of_mem_take z
      exact aT ⟨cs, e.1, e.2, rfl, by omega, hcr, hcr _ hm.1, hcr _ hm2, k⟩
    refine ⟨(zpE cs).map (sdE cs), by rw [List.map_map]; rfl, ?_⟩
    have ea : ((zpE cs).map (sdE cs)).all id = sidesOk cs := by
      rw [List.all_map]
      rfl
    show aIte (!(((zpE cs).map (sdE cs)).all id)) _ _
    rw [ea]
    cases hso : sidesOk cs with
    | false =>
      refine aT (hbad ?_)
      rw [ef, hso]
      rfl
    | true =>
      refine aF ?_
      have q2 := fun rs => q cs rs (by rw [ef, hso]; rfl)
      exact look_tail (X := X) (by omega) (by omega) q2
  | _ => exact h.elim

/-! CUT -/
/-! ### the deck in the mirror -/
def a_l_take : ASp := fun ds n Q => ∃ m : Int, ds = [.deck, .int m] ∧ 0 < m ∧ m.natAbs.log2 < 9000 ∧ 1 ≤ n ∧ ∀ r, 0 ≤ r → r < m → Q (.int r) (n - 1)
theorem ok_l_take (T : Tx K mg A) : FnOk P w K mg base CX0 3 A.f_l_take A.fd_l_take ["_law_deck_here", "_law_many"] (spOf K 2 a_l_take) := (ok0_l_take T).imp fun vs H Q E h => by
  obtain ⟨W, n, ds, Qa, a, hl, o, hQ, m, rfl, hm, hlog, hn, q⟩ := h
  cases a with
  | cons a r =>
    cases r with
    | cons b r =>
      cases r
      cases b
      cases a with
      | @deck d b e =>
        obtain ⟨c, D, lc⟩ := o.deck d b e
        refine ⟨d, b, c, m, rfl, D, by omega, hm, hlog, fun H' r D' kp h0 h1 => hQ _ _ (q r h0 h1) H' _ (fun x ob nr hx => kp x ob (fun z => nr (.inl ⟨d, b, e, .inl z⟩)) (fun z => nr (.inl ⟨d, b, e, .inr z⟩)) hx) ⟨fun d' b' e' => ?_, fun p hp => ?_, o.dis⟩ (.int r)⟩
        · rw [e] at e'
          cases e'
          exact ⟨c + 1, D', by omega⟩
        · obtain ⟨h1, h2⟩ := o.owns p hp
          obtain ⟨n1, n2⟩ := o.dis d b e p hp
          exact ⟨kp _ _ n1 n2 h1, h2⟩
/-! ### the law's own def -/
def sp_law (K : PySem.W.Frag) : Sp := fun vs H Q _ => ∃ (a : Addr) (ns : List Int), vs = [.ref a] ∧ Only H ∧ SqL K H a (ns.map V.int) ∧ ns.length ≤ 63 ∧ ∀ H', Q (.bl true) H'
theorem law_start {W : Wd} {ow : List Nat} {n : Nat} {H : Hp} {N : List Str} {k i : Nat} {a d b : Addr} (hk : N.length = k) (h0 : 0 < k) (hi : i ∉ ow) (hd : W.dk = some (d, b)) (o : W.ok K n H) : SOk K W ow n H ((L2.start N [.ref a]).set i (some (.ref d))) (eSet (startA k []) i (some .deck)) [] := by
  have hg : ∀ j e, eGet (eSet (startA k []) i (some .deck)) j = some e → i = j ∧ e = .deck ∧ i < k := fun j e he => by
    by_cases hij : i = j
    · subst hij
      obtain ⟨h1, h2⟩ := eGet_set he
      rw [startA_length] at h1
      exact ⟨rfl, (Option.some.inj h2).symm, h1⟩
    · rw [eGet_ne hij] at he
      exact (startA_none he).elim
  have hlen : (L2.start N [V.ref a]).length = k := by
    unfold L2.start
    rw [List.length_append, List.length_map, List.length_replicate]
    show 1 + (N.length - 1) = k
    omega
  refine ⟨List.nodup_nil, fun u hu => (by cases hu), o, by rw [List.length_set, eSet_length, startA_length, hlen], fun j e _ he => ?_, fun j e hj he => ?_, fun j m p hj hm _ _ _ => .inl ?_⟩
  · obtain ⟨rfl, rfl, hlt⟩ := hg j e he
    exact ⟨_, List.getElem?_set_self (by rw [hlen]; exact hlt), .deck hd⟩
  · obtain ⟨rfl, _⟩ := hg j e he
    exact absurd hj hi
  · cases e : eGet (eSet (startA k []) i (some .deck)) j with
    | none => rfl
    | some e' =>
      obtain ⟨rfl, _⟩ := hg j e' e
      exact absurd hj hi
theorem law_mir {P : Program} {w : World} {mg : Str → Option Value} {base : Heap} {x qual : Str} {st : Stmt} {f : Addr} {fd : FuncData} {N : List Str} {k : Nat} (ow : List Nat) (kk i : Nat) (hk : N.length = kk) (h0 : 0 < kk) (hi : i ∉ ow) (F : Fun K x qual st f fd) (S : FnScope N ["_law_script"] (defScope st))
    (hbody : ∀ (cdv : Value) (Ar : Around) (outer : List Env) (s : Shared) (H : Hp) (E : XK), Room k (Ar.deeper (envOfC qual (defScope st) s.heap.objs.size f cdv)) →
      ∃ (t : TS) (fa : AS), PSs (cxOf CX0 P w K mg base N qual (defScope st) f cdv Ar outer s H E).nox (defBody st) (tSeq (tAsg (tCall (sp_l_deck K) [] E0 (tCons (tVar 0) tNil)) (gName i)) t) ∧ DS K W0 ow t fa ∧ fa (aTop fun d _ => d = .bl true) (eSet (startA kk []) i (some .deck)) 900000) : FnOk P w K mg base CX0 (k + 1) f fd ["_law_script"] (sp_law K) := by
  refine F.ok S (fun vs H Q E h => ?_) (fun cdv Ar outer s H vs Q E hr h => ?_)
  · obtain ⟨a, ns, rfl, _⟩ := h
    rfl
  · obtain ⟨a, ns, rfl, hO, hS, hn, q⟩ := h
    obtain ⟨t, fa, h1, h2, h3⟩ := hbody cdv Ar outer s H E hr
    refine ⟨_, h1, ?_⟩
    refine ⟨.ref a, rfl, a, ns, rfl, Sc.mk hO hS, hn, fun H' d b hd hb D sm => ?_⟩
    refine DS.run (K := K) (Wx := W0) (ow := ow) (t := t) (f := fa) ⟨some (d, b), []⟩ [] _ _ 900000 H' _ (aTop fun d _ => d = .bl true) ⟨fun ρ' n' z => (by cases z), fun d' n' z U1 H1 H2 v _ _ _ a' => ?_, fun _ _ q => q.elim, fun _ _ q => q.elim, fun _ _ _ _ _ q => q.elim⟩ (law_start hk h0 hi rfl ⟨fun d' b' e' => ?_, fun p hp => (by cases hp), fun _ _ _ p hp => (by cases hp)⟩) h3
    · subst z
      cases a'
      exact q _
    · cases e'
      exact ⟨0, D, by omega⟩

end
/-! ### the law's own promise, and what the head asks of it -/
section
variable {K : PySem.W.Frag}
theorem law_mirG {P : Program} {w : World} {mg : Str → Option Value} {base : Heap} {x qual : Str} {st : Stmt} {f : Addr} {fd : FuncData} {N : List Str} {k : Nat} (ow : List Nat) (kk i : Nat) (hk : N.length = kk) (h0 : 0 < kk) (hi : i ∉ ow) (F : Fun K x qual st f fd) (S : FnScope N ["_law_script"] (defScope st))
    (hbody : ∀ (cdv : Value) (Ar : Around) (outer : List Env) (s : Shared) (H : Hp) (E : XK), Room k (Ar.deeper (envOfC qual (defScope st) s.heap.objs.size f cdv)) → (Ar.deeper (envOfC qual (defScope st) s.heap.objs.size f cdv)).guards = some [] →
      ∃ (t : TS) (fa : AS), PSs (cxOf CX0 P w K mg base N qual (defScope st) f cdv Ar outer s H E).nox (defBody st) (tSeq (tAsg (tCall (sp_l_deck K) [] E0 (tCons (tVar 0) tNil)) (gName i)) t) ∧ DS K W0 ow t fa ∧ fa (aTop fun d _ => d = .bl true) (eSet (startA kk []) i (some .deck)) 900000) : FnG P w K mg base (k + 1) f fd ["_law_script"] (sp_law K) := by
  obtain ⟨oc, od, kV, doc, pm, an, cdv, ct, osl, rfl, lk, hcd⟩ := F.ex
  refine fn_ofG lk hcd S (fun vs H Q E h => ?_) fun Ar outer s H vs Q E hr hgd h => ?_
  · obtain ⟨a, ns, rfl, _⟩ := h
    rfl
  · obtain ⟨a, ns, rfl, hO, hS, hn, q⟩ := h
    obtain ⟨t, fa, h1, h2, h3⟩ := hbody cdv Ar outer s H E hr hgd
    refine ⟨_, h1.nox, ?_⟩
    refine ⟨.ref a, rfl, a, ns, rfl, Sc.mk hO hS, hn, fun H' d b hd hb D sm => ?_⟩
    refine DS.run (K := K) (Wx := W0) (ow := ow) (t := t) (f := fa) ⟨some (d, b), []⟩ [] _ _ 900000 H' _ (aTop fun d _ => d = .bl true) ⟨fun ρ' n' z => (by cases z), fun d' n' z U1 H1 H2 v _ _ _ a' => ?_, fun _ _ q => q.elim, fun _ _ q => q.elim, fun _ _ _ _ _ q => q.elim⟩ (law_start hk h0 hi rfl ⟨fun d' b' e' => ?_, fun p hp => (by cases hp), fun _ _ _ p hp => (by cases hp)⟩) h3
    · subst z
      cases a'
      exact q _
    · cases e'
      exact ⟨0, D, by omega⟩
/-- what is told of the heap behind the top: the script, frozen, unless it is one of the module's own -/
def scH (K : PySem.W.Frag) (a : Addr) (vs : List Value) (ns : List Int) : Hp := fun c => match K.lookup a with
  | some _ => none
  | none => if c = a then some (.frz { cls := .type "list", data := .seq vs.toArray } (.lst (ns.map V.int))) else none
theorem scH_cases {K : PySem.W.Frag} {a : Addr} {vs : List Value} {ns : List Int} (c : Addr) : scH K a vs ns c = none ∨ (c = a ∧ K.lookup a = none ∧ scH K a vs ns c = some (.frz { cls := .type "list", data := .seq vs.toArray } (.lst (ns.map V.int)))) := by
  unfold scH
  cases e : K.lookup a with
  | some o => exact .inl rfl
  | none =>
    by_cases hc : c = a
    · exact .inr ⟨hc, rfl, if_pos hc⟩
    · exact .inl (if_neg hc)
theorem scH_at {K : PySem.W.Frag} {a : Addr} {vs : List Value} {ns : List Int} (e : K.lookup a = none) : scH K a vs ns a = some (.frz { cls := .type "list", data := .seq vs.toArray } (.lst (ns.map V.int))) := by
  unfold scH
  rw [e]
  exact if_pos rfl
theorem runG {P : Program} {w : World} {mg mb : Str → Option Value} {k : Nat} {fa a : Addr} {fd : FuncData} {x : Str} {sp : Sp} {z : Shared} {vs : List Value} {ns : List Int}
    (kin : K.In z.heap) (gns : z.heap.Ns mainGlobals mg) (bns : z.heap.Ns builtinsNs mb) (boot : ∀ x : Str, x ≠ "__name__" → mb x = bootBuiltins x) (nol : z.heap.NoLimit) (nog : z.gens = #[])
    (lst : z.heap.get? a = some { cls := .type "list", data := .seq vs.toArray }) (hints : IntsAre vs ns) (len : ns.length ≤ sizeLine) (room : Room k callerA)
    (F : ∀ base : Heap, K.In base → base.Ns mainGlobals mg → FnG P w K mg base k fa fd [x] sp) (bind : ∀ (s : Shared) (u : Value), BindsTo s fd ⟨[u], []⟩ [(x, u)])
    (pr : ∀ H : Hp, Only H → SqL K H a (ns.map V.int) → sp [.ref a] H (fun v _ => v = .bl true) fun _ _ _ => False) :
    codeAny (model P w) callerA (.call (.ref fa) ⟨[.ref a], []⟩) (fun r s' => r = .ok (.ret (.bool true)) ∧ OldK z.heap s'.heap ∧ s'.os = z.os ∧ AllBare s'.gens) z := by
  obtain ⟨H, eH⟩ : ∃ H, scH K a vs ns = H := ⟨_, rfl⟩
  have two := fun c => scH_cases (K := K) (a := a) (vs := vs) (ns := ns) c
  rw [eH] at two
  have rel := vals_ints hints
  have same := hints.length
  have hseq : SqL K H a (ns.map V.int) := by
    cases e : K.lookup a with
    | some o =>
      have e' := kin a o e
      rw [lst] at e'
      obtain rfl := Option.some.inj e'
      exact .inr ⟨_, vs.toArray, _, e, rfl, rfl, rfl, by rw [List.size_toArray, same]; exact len, rel⟩
    | none => exact .inl (.inr ⟨_, by rw [← eH]; exact scH_at e⟩)
  have honly : Only H := fun c => (two c).imp id fun t => ⟨_, _, t.2.2⟩
  have hold : HOk P w H z.heap := fun c o e => by
    rcases two c with t | ⟨rfl, _, t⟩
    · rw [t] at e; cases e
    · rw [t] at e
      obtain rfl := Option.some.inj e
      exact ⟨lst, by rw [List.length_map]; exact len, vs, _, rel, lst⟩
  -- what is no part of the script stays in sight
  have sees : ∀ {c : Addr} {o : Obj}, z.heap.get? c = some o → (c = a → K.lookup a ≠ none) → (hidT z.heap H).get? c = some o := fun {c o} e n => by
    rcases two c with t | ⟨hc, hn, _⟩
    · exact hidT_get e t
    · exact absurd hn (n hc)
  have names : ∀ {c : Addr} {m : Str → Option Value}, z.heap.Ns c m → (hidT z.heap H).Ns c m := fun {c m} ⟨o, es, ep, e, d, r⟩ => by
    refine ⟨o, es, ep, ?_, d, r⟩
    rcases two c with t | ⟨rfl, _, _⟩
    · exact hidT_get e t
    · rw [lst] at e
      obtain rfl := Option.some.inj e
      cases d
  have kin2 : K.In (hidT z.heap H) := fun c o e => sees (kin c o e) fun hc hn => by
    rw [hc, hn] at e
    cases e
  have env : Env0 P w K mg (hidT z.heap H) callerA [] z H := ⟨rfl, ⟨kin2, names gns, ⟨mb, names bns, boot⟩, (by
    obtain ⟨mc, n1, n2⟩ := nol
    exact ⟨mc, names n1, n2⟩)⟩, (fun c o e => of_hidT e), Nat.le_of_eq (hidT_size _ _), trivial, (fun c hc => by cases hc), hold, .of_eq nog⟩
  refine codeAny_mono ((F _ kin2 (names gns)).runG callerA [] z H ⟨[.ref a], []⟩ [.ref a] [.ref a] _ _ room rfl env (bind z (.ref a)) (.cons rfl .nil) (pr H honly hseq)) fun r s' t => ?_
  match r, t with
  | .error _, t => exact t.elim
  | .ok .next, t => exact t.elim
  | .ok .brk, t => exact t.elim
  | .ok .cont, t => exact t.elim
  | .ok (.ret u), ⟨v, H', os, bare, un, hok2, rv, q⟩ =>
    have q2 : v = .bl true := q
    subst q2
    obtain rfl : u = Value.bool true := rv
    refine ⟨rfl, OldK.of_keep fun c o e => ?_, os, bare⟩
    rcases two c with t | ⟨rfl, _, t⟩
    · exact un.keep c o e t (fun y => by cases y) (fun y => by cases y)
    · obtain ⟨e2, _⟩ := hok2 c _ (un.frzs c _ _ t)
      rw [lst] at e
      obtain rfl := Option.some.inj e
      exact e2
end
theorem walkG {l : PySem.W.OpenLaw} {n k : Nat} {q : Program} {loose : List Str} {XP : (Str → Option Value) → Heap → Prop} {YP : World → Heap → Prop} {d : DefRec} {K : Params → PySem.W.Frag} {sp : World → Sp} {x : Str}
    (hn : l.most = some n) (small : n ≤ sizeLine) (plain : d.params.defaults = []) (room : Room k callerA) (kin : ∀ (w : World) (h : Heap), YP w h → (K w.params).In h)
    (F : ∀ (w : World) (mg : Str → Option Value) (fa : Addr) (h : Heap), (K w.params).In h → h.Ns mainGlobals mg → mg d.name = some (.ref fa) →
      ∃ fd : FuncData, (∀ (s : Shared) (u : Value), BindsTo s fd ⟨[u], []⟩ [(x, u)]) ∧ ∀ base : Heap, (K w.params).In base → base.Ns mainGlobals mg → FnG l.prog w (K w.params) mg base k fa fd [x] (sp w))
    (pr : ∀ (w : World) (H : Hp) (a : Addr) (ns : List Int), ns.length ≤ n → Only H → SqL (K w.params) H a (ns.map V.int) → sp w [.ref a] H (fun v _ => v = .bl true) fun _ _ _ => False) :
    PySem.W.WalkO q loose XP YP l.row.toRowW d [] (fun f vs => PySem.call f vs) := by
  refine Att.attach_call hn plain fun w z0 z mg mb fa o pm cd doc a vs ns G Y _ _ _ hmg hobj hints hlen hgen => ?_
  have k1 := kin w _ Y
  obtain ⟨fd, b, f⟩ := F w mg fa _ k1 G.T.g hmg
  exact runG k1 G.T.g G.T.b G.T.builtins G.T.nolimit hgen hobj hints (Nat.le_trans hlen small) room f b fun H h1 h2 => pr w H a ns hlen h1 h2

/-! ### zip of a tuple and a list, slices of any tuple -/
section
variable {K : PySem.W.Frag}
def iZipMK (K : PySem.W.Frag) (ta : TA) : TI := RX.iZipM K ta
theorem k_zipM {X : Cx} {e e2 : Expr} {ta : TA} {p pos tpos : Pos} {elts : List Expr} {kk : Nat} (hK : X.K = K) (hg : Gl X "zip") (hm : X.mg "zip" = none) (ha : PA X [e, e2] ta) (hs : starEach [e, e2] X.env = (false, eval e X.env) :: starEach [e2] X.env := by rfl) (hpl : (backTo pos (starEach [e2] X.env)).any (·.1) = false := by rfl) :
    PI X (.Tuple elts kk tpos) (.Call (.Name "zip" p) [e, e2] [] pos) (iZipMK K ta) := hK ▸ RX.pi_zipM hg hm ha hs hpl
def aZipM (g : AA) : AI := fun ρ n Q => g ρ n fun ds n1 => match ds with
  | [.tup as, .lst bs] => Q (zipD as bs) n1
  | _ => False
instance {ta : TA} {g : AA} [DA K ta g] : DI K (iZipMK K ta) (aZipM g) := ⟨fun W σ ρ n H R Qa hQ hE o h =>
  DA.run (te := ta) (f := g) W σ ρ n H _ _ (fun ds n1 h1 H1 vs l1 o1 ax => by
    split at h1
    · cases ax with
      | cons a r =>
        cases r with
        | cons b r =>
          cases r
          cases a with
          | tup sa a =>
            cases b with
            | lst rb sb b =>
              refine ⟨_, _, _, _, rfl, sa, SqL.of sb, hQ _ _ h1 _ H1 l1 o1 fun W' hr hd H2 n2 l2 o2 i => ?_⟩
              have s2 := sqt_lk (o1.lk' hr) l2 sa
              have s3 := sql_lk (K := K) l2 (fun z => by rw [hr _ z rb] at sb; cases sb) sb
              refine ⟨fun d e => ?_, fun hi => ⟨_, _, s2, s3, ?_⟩⟩
              · obtain ⟨x, y, e1, e2, rfl⟩ := zipD_get e
                obtain ⟨v, e1', a1⟩ := a.get e1
                obtain ⟨u, e2', a2⟩ := b.get e2
                refine ⟨⟨_, _, v, u, s2, s3, e1', e2'⟩, fun z H3 ⟨T, x', y', ez, hT, eH, e3, e4⟩ => ?_⟩
                have q1 := e3 _ s2
                have q2 := e4 _ s3
                rw [e1'] at q1
                rw [e2'] at q2
                cases q1
                cases q2
                subst ez eH
                have st : Same H2 (upd H2 T (.tup [v, u])) := same_upd hT
                refine ⟨st, .tup (.inl (.inl upd_same)) (.cons ?_ (.cons ?_ .nil))⟩
                · exact At.le o2 (Wd.le_same st) _ (At.lk (o1.lk' hr) l2 _ (At.ext hr hd _ a1))
                · exact At.le o2 (Wd.le_same st) _ (At.lk (o1.lk' hr) l2 _ (At.ext hr hd _ a2))
              · rw [zipD_length] at hi
                rw [a.length, b.length]
                omega
    · exact h1.elim) hE o h⟩
def rSlW (K : PySem.W.Frag) : V → Option Int → Option Int → Hp → VK → Prop := L2.rSlA K
theorem k_slW {X : Cx} (hK : X.K = K) : SlR X (rSlW K) := hK ▸ sl_tupA
def aCutW (d : D) (l u : Option Int) (n : Nat) (Q : D → Nat → Prop) : Prop := match d with
  | .tup ds => Q (.tup (cutL ds l u)) n
  | _ => False
def aSlW (fa : AE) (fl fu : Env' → Nat → (Option Int → Nat → Prop) → Prop) : AE := fun ρ n Q => fa ρ n fun d n1 => fl ρ n1 fun l n2 => fu ρ n2 fun u n3 => aCutW d l u n3 Q
theorem cutL_whole {ds : List D} {l u : Option Int} (h : HT.sIx ds.length 0 l = 0 ∧ HT.sIx ds.length ds.length u = ds.length) : cutL ds l u = ds := by
  unfold cutL
  rw [h.1, h.2]
  simp
instance {te : TE} {tl tu : TO} {fa : AE} {fl fu : Env' → Nat → (Option Int → Nat → Prop) → Prop} [DE K te fa] [DO K tl fl] [DO K tu fu] : DE K (tSl (rSlW K) te tl tu) (aSlW fa fl fu) := ⟨fun W σ ρ n H Q Qa hQ hE o h =>
  DE.run (te := te) (f := fa) W σ ρ n H _ _ (fun d n1 h1 H1 x l1 o1 ax => DO.run (te := tl) (f := fl) W σ ρ n1 H1 _ _ (fun l n2 h2 H2 l2 o2 => DO.run (te := tu) (f := fu) W σ ρ n2 H2 _ _ (fun u n3 h3 H3 l3 o3 => by
    have hQ3 := hQ.le (l1.trans (l2.trans l3))
    unfold aCutW at h3
    split at h3
    · cases At.le o1 (l2.trans l3) _ ax with
      | tup s a =>
        refine ⟨_, _, rfl, s, fun hw => ?_, fun _ p hp => hQ3.new o3 h3 hp ?_⟩
        · rw [a.length] at hw
          rw [cutL_whole hw] at h3
          exact hQ3.now o3 h3 (.tup s a)
        · refine .tup (.inl (.inl upd_same)) ?_
          unfold cutV cutL
          rw [a.length]
          exact take_at _ (drop_at _ (AtAll.le o3 (Wd.le_same (same_upd hp)) _ a))
    · exact h3.elim) (hE.le o (l1.trans l2)) o2 h2) (hE.le o l1) o1 h1) hE o h⟩
end

section
variable {P : Program} {w : World} {K : PySem.W.Frag} {mg : Str → Option Value} {base : Heap} {A : Ad}
/-! ### the hull -/
def leftI (a b c : Pt) : Int := (b.1 - a.1) * (c.2 - a.2) - (b.2 - a.2) * (c.1 - a.1)
def PtB (p : Pt) : Prop := -10000000 ≤ p.1 ∧ p.1 ≤ 10000000 ∧ -10000000 ≤ p.2 ∧ p.2 ≤ 10000000
def a_l_left : ASp := fun ds n Q => ∃ a b c : Pt, ds = [pt a, pt b, pt c] ∧ PtB a ∧ PtB b ∧ PtB c ∧ Q (.int (leftI a b c)) n
theorem ok_l_left (T : Tx K mg A) : FnOk P w K mg base CX0 1 A.f_l_left A.fd_l_left ["_law_a", "_law_b", "_law_c"] (spOf K 3 a_l_left) := by
  refine fn_mir [] 3 rfl (by decide) (by decide) T.F_l_left sc_l_left fun cdv Ar outer s H E hr => ?_
  refine ⟨_, _, (pss_one (ps_ret (pe_op op_sub (pe_op k_mul (pe_op op_sub (pe_ix (k_ix (K := K) rfl) (pv 1) pe_int (fun _ _ => rfl)) (pe_ix (k_ix (K := K) rfl) (pv 0) pe_int (fun _ _ => rfl))) (pe_op op_sub (pe_ix (k_ix (K := K) rfl) (pv 2) pe_int (fun _ _ => rfl)) (pe_ix (k_ix (K := K) rfl) (pv 0) pe_int (fun _ _ => rfl)))) (pe_op k_mul (pe_op op_sub (pe_ix (k_ix (K := K) rfl) (pv 1) pe_int (fun _ _ => rfl)) (pe_ix (k_ix (K := K) rfl) (pv 0) pe_int (fun _ _ => rfl))) (pe_op op_sub (pe_ix (k_ix (K := K) rfl) (pv 2) pe_int (fun _ _ => rfl)) (pe_ix (k_ix (K := K) rfl) (pv 0) pe_int (fun _ _ => rfl))))))), by infer_instance, fun ds n Q hl hA => ?_⟩
  obtain ⟨a, b, c, rfl, ba, bb, bc, q⟩ := hA
  unfold PtB at ba bb bc
  exact ⟨.inl (.inl ⟨by omega, by omega⟩), .inl (.inl ⟨by omega, by omega⟩), q⟩
/-- the half hull, its last point first -/
def popR (p : Pt) : List Pt → List Pt
  | b :: a :: r => if leftI a b p ≤ 0 then popR p (a :: r) else b :: a :: r
  | s => s
def halfS (st : List Pt) (ps : List Pt) : List Pt := ps.foldl (fun st p => p :: popR p st) st
def halfR (ps : List Pt) : List Pt := halfS [] ps
theorem popR_sub (p : Pt) : ∀ st : List Pt, ∀ x ∈ popR p st, x ∈ st
  | [], x, h => h
  | [b], x, h => h
  | b :: a :: r, x, h => by
    unfold popR at h
    split at h
    · exact List.mem_cons_of_mem _ (popR_sub p (a :: r) x h)
    · exact h
theorem popR_len (p : Pt) : ∀ st : List Pt, (popR p st).length ≤ st.length
  | [] => Nat.le_refl _
  | [b] => Nat.le_refl _
  | b :: a :: r => by
    unfold popR
    split
    · exact Nat.le_succ_of_le (popR_len p (a :: r))
    · exact Nat.le_refl _
theorem halfS_sub : ∀ (ps st : List Pt), ∀ x ∈ halfS st ps, x ∈ st ∨ x ∈ ps
  | [], st, x, h => .inl h
  | p :: ps, st, x, h => by
    rcases halfS_sub ps (p :: popR p st) x h with h | h
    · rcases List.mem_cons.mp h with rfl | h
      · exact .inr List.mem_cons_self
      · exact .inl (popR_sub p st x h)
    · exact .inr (List.mem_cons_of_mem _ h)
theorem halfS_len : ∀ (ps st : List Pt), (halfS st ps).length ≤ st.length + ps.length
  | [], st => Nat.le_refl _
  | p :: ps, st => by
    have h1 := halfS_len ps (p :: popR p st)
    have h2 := popR_len p st
    rw [List.length_cons] at h1 ⊢
    show (halfS (p :: popR p st) ps).length ≤ _
    omega
theorem atI_m1 {xs : List D} {a b : D} : atI (xs ++ [a, b]) (-1) = some b := by
  have := atI_last (xs ++ [a]) b
  rw [List.append_assoc] at this
  exact this
theorem atI_m2 {xs : List D} {a b : D} : atI (xs ++ [a, b]) (-2) = some a := by
  have hl : (xs ++ [a, b]).length = xs.length + 2 := by simp
  unfold atI ixN
  rw [if_neg (by omega), if_pos (by omega), hl]
  show (xs ++ [a, b])[(-2 + ((xs.length + 2 : Nat) : Int)).toNat]? = some a
  have e : (-2 + ((xs.length + 2 : Nat) : Int)).toNat = xs.length := by omega
  rw [e, List.getElem?_append_right (Nat.le_refl _), Nat.sub_self]
  rfl
theorem cutL_last (xs : List D) (a : D) : cutL (xs ++ [a]) none (some (-1)) = xs := by
  unfold cutL
  have hl : (xs ++ [a]).length = xs.length + 1 := by simp
  rw [HT.sIx_none]
  have e : HT.sIx (xs ++ [a]).length (xs ++ [a]).length (some (-1)) = xs.length := by
    rw [hl]
    unfold HT.sIx
    simp
    omega
  rw [e, List.drop_zero, Nat.sub_zero, List.take_left]
/-- a stack of points, the last first -/
def stk (st : List Pt) : List D := st.reverse.map pt
theorem stk_two (a b : Pt) (r : List Pt) : stk (b :: a :: r) = stk r ++ [pt a, pt b] := by
  unfold stk
  simp
theorem stk_one (a : Pt) (r : List Pt) : stk (a :: r) = stk r ++ [pt a] := by
  unfold stk
  simp
theorem stk_len (st : List Pt) : (stk st).length = st.length := by
  unfold stk
  rw [List.length_map, List.length_reverse]
theorem cut_nil : cutL [] none (some (-1)) = [] := by
  unfold cutL
  simp
def a_l_half : ASp := fun ds n Q => ∃ ps : List Pt, ds = [.lst (ps.map pt)] ∧ (∀ p ∈ ps, PtB p) ∧ ps.length ≤ 100 ∧ Q (.lst (stk (halfR ps).tail)) n
theorem ok_l_half (T : Tx K mg A) : FnOk P w K mg base CX0 2 A.f_l_half A.fd_l_half ["_law_points"] (spOf K 1 a_l_half) := by
  refine fn_mir [] 3 rfl (by decide) (by decide) T.F_l_half sc_l_half fun cdv Ar outer s H E hr => ?_
  refine ⟨_, _, (pss_cons (ps_set (i := 1) sc_l_half.nd rfl (.inl rfl) (pe_lst pa_nil))
    (pss_cons (ps_for PassesOwn.never rfl (k_iter (K := K) rfl (pv 0)) (pg_name (i := 2) sc_l_half.nd rfl (.inl rfl))
      (pss_cons (ps_while PassesOwn.never (PW.pt (pw_and (pt_cmpR op_gt (pe_callB (k_len (K := K) rfl) (by rfl) T.m_len (by decide +kernel) (pa_cons (pv 1) pa_nil)) pe_int (nomark _)) (pw_and1 (pt_cmpR op_le (pe_call (ok_l_left (P := P) (K := K) T) (hr.mono (by decide)) (by rfl) T.g_l_left T.F_l_left.kp T.b_l_left .nil pass0 (pa_cons (pe_ix (k_ixS (K := K) rfl) (pv 1) (pe_un un_neg pe_int) (fun _ _ => rfl)) (pa_cons (pe_ix (k_ixS (K := K) rfl) (pv 1) (pe_un un_neg pe_int) (fun _ _ => rfl)) (pa_cons (pv 2) pa_nil)))) pe_int (nomark _)))))
      (pss_one (ps_set (i := 1) sc_l_half.nd rfl (.inl rfl) (pe_slice (k_sl (K := K) rfl) (pv 1) po_none (po_some (pe_un un_neg pe_int))))))
    (pss_one (ps_set (i := 1) sc_l_half.nd rfl (.inl rfl) (pe_op (k_add (K := K) rfl) (pv 1) (pe_lst (pa_cons (pv 2) pa_nil)))))))
    (pss_one (ps_ret (pe_slice (k_sl (K := K) rfl) (pv 1) po_none (po_some (pe_un un_neg pe_int))))))), by infer_instance, fun ds n Q hl hA => ?_⟩
  obtain ⟨ps, rfl, hB, hlen, q⟩ := hA
  refine aFor_ind (fun ds ρ n' => n' = n ∧ ∃ (qs st : List Pt) (y : Option D), ds = qs.map pt ∧ ρ = [some (.lst (ps.map pt)), some (.lst (stk st)), y] ∧ halfS st qs = halfR ps ∧ (∀ p ∈ st, PtB p) ∧ (∀ p ∈ qs, PtB p) ∧ st.length + qs.length ≤ 100) ?_ ?_ ⟨rfl, ps, [], none, rfl, rfl, rfl, (fun p h => by cases h), hB, by simpa using hlen⟩
  · rintro d r _ n' ⟨rfl, qs, st, y, hq, rfl, he, hs, hqs, hl⟩ ih
    obtain ⟨p, qs, rfl, rfl, rfl⟩ : ∃ p qs', qs = p :: qs' ∧ d = pt p ∧ r = qs'.map pt := by
      cases qs with
      | nil => cases hq
      | cons p qs => cases hq; exact ⟨p, qs, rfl, rfl, rfl⟩
    have bp := hqs p List.mem_cons_self
    rw [List.length_cons] at hl
    refine ⟨fun m ρ m' => m' = n' ∧ ∃ st', ρ = [some (.lst (ps.map pt)), some (.lst (stk st')), some (pt p)] ∧ m = st'.length ∧ popR p st' = popR p st ∧ (∀ p ∈ st', PtB p) ∧ st'.length ≤ st.length, ⟨_, rfl, st, rfl, rfl, rfl, hs, Nat.le_refl _⟩, ?_⟩
    rintro m ρ k ⟨hk, st', rfl, rfl, hp, hs', hl'⟩
    subst hk
    have done : popR p st' = st' → k = k ∧ ∃ (qs' st : List Pt) (y : Option D), qs.map pt = qs'.map pt ∧ [some (D.lst (ps.map pt)), some (.lst (stk st' ++ [pt p])), some (pt p)] = [some (.lst (ps.map pt)), some (.lst (stk st)), y] ∧ halfS st qs' = halfR ps ∧ (∀ p ∈ st, PtB p) ∧ (∀ p ∈ qs', PtB p) ∧ st.length + qs'.length ≤ 100 := fun hfix => by
      refine ⟨rfl, qs, p :: st', _, rfl, by rw [stk_one], ?_, ?_, fun x hx => hqs x (List.mem_cons_of_mem _ hx), ?_⟩
      · rw [← he]
        show halfS (p :: st') qs = halfS (p :: popR p st) qs
        rw [← hp, hfix]
      · intro x hx
        rcases List.mem_cons.mp hx with rfl | hx
        · exact bp
        · exact hs' x hx
      · rw [List.length_cons]
        omega
    have hsz : (stk st').length + 1 ≤ 1000000 := by rw [stk_len]; omega
    match st', hp, hs', hl', done, hsz with
    | [], _, _, _, done, hsz => exact dIte (fun e => absurd e (by decide)) fun _ => aF ⟨hsz, ih _ _ (done rfl)⟩
    | [x], _, _, _, done, hsz => exact dIte (fun e => absurd e (show ¬ (1 : Int) < ((1 : Nat) : Int) by decide)) fun _ => aF ⟨hsz, ih _ _ (done rfl)⟩
    | b :: a :: r, hp, hs', hl', done, hsz =>
      rw [stk_two] at done hsz ⊢
      have hlen2 : (1 : Int) < ((stk r ++ [pt a, pt b]).length : Int) := by
        rw [List.length_append]
        show (1 : Int) < (((stk r).length + 2 : Nat) : Int)
        omega
      refine dIte (fun _ => ?_) fun e => absurd hlen2 e
      refine aIx_lst atI_m2 ?_
      refine aIx_lst atI_m1 ?_
      refine ⟨a, b, p, rfl, hs' a (List.mem_cons_of_mem _ List.mem_cons_self), hs' b List.mem_cons_self, bp, ?_⟩
      refine dIte (fun e => ?_) fun e => ?_
      · refine ⟨(a :: r).length, Nat.lt_succ_self _, rfl, a :: r, ?_, rfl, ?_, fun x hx => hs' x (List.mem_cons_of_mem _ hx), Nat.le_of_succ_le hl'⟩
        · have e2 : stk r ++ [pt a, pt b] = stk (a :: r) ++ [pt b] := by rw [stk_one, List.append_assoc]; rfl
          show [some (D.lst (ps.map pt)), some (.lst (cutL (stk r ++ [pt a, pt b]) none (some (-1)))), some (pt p)] = _
          rw [e2, cutL_last]
        · rw [← hp]
          conv => rhs; unfold popR
          rw [if_pos e]
      · refine ⟨hsz, ih _ _ (done ?_)⟩
        unfold popR
        rw [if_neg e]
  · rintro _ n' ⟨rfl, qs, st, y, hq, rfl, he, hs, hqs, hl⟩
    cases qs with
    | cons p qs => cases hq
    | nil =>
      have e : st = halfR ps := he
      subst e
      show Q (.lst (cutL (stk (halfR ps)) none (some (-1)))) _
      cases h : halfR ps with
      | nil => rw [h] at q; exact q
      | cons a r =>
        rw [h] at q
        rw [stk_one, cutL_last]
        exact q
def hullOf (rs : List Pt) : List Pt :=
  if ((halfR rs).tail.reverse ++ (halfR rs.reverse).tail.reverse).length < 3 then [(0, 0), (2, 0), (0, 2)] else (halfR rs).tail.reverse ++ (halfR rs.reverse).tail.reverse

/-! ### the law's own shapes -/
theorem small_log {m : Int} (h0 : 0 < m) (h1 : m ≤ 4000000) : m.natAbs.log2 < 9000 := by
  have e : (2 : Nat) ^ 22 = 4194304 := by decide
  exact Nat.lt_of_lt_of_le (log2_lt (k := 22) (by omega) (by decide)) (by decide)
def PtM (p : Pt) : Prop := -1000000 ≤ p.1 ∧ p.1 ≤ 1000000 ∧ -1000000 ≤ p.2 ∧ p.2 ≤ 1000000
def Cs (cs : List Pt) : Prop := 3 ≤ cs.length ∧ cs.length ≤ 16 ∧ ∀ p ∈ cs, PtM p
def a_l_hull : ASp := fun ds k Q => ∃ ps : List Pt, ds = [.lst (ps.map pt)] ∧ ps.length ≤ 8 ∧ (∀ p ∈ ps, PtM p) ∧ ∀ cs, Cs cs → Q (.tup (cs.map pt)) k
theorem ok_l_hull (T : Tx K mg A) : FnOk P w K mg base CX0 3 A.f_l_hull A.fd_l_hull ["_law_points"] (spOf K 1 a_l_hull) := by
  refine fn_mir [] 3 rfl (by decide) (by decide) T.F_l_hull sc_l_hull fun cdv Ar outer s H E hr => ?_
  refine ⟨_, _, (pss_cons (ps_set (i := 1) sc_l_hull.nd rfl (.inl rfl) (pe_callB (k_sortP (K := K) rfl) (by rfl) T.m_sorted (by decide +kernel) (pa_cons (pv 0) pa_nil)))
    (pss_cons (ps_set (i := 2) sc_l_hull.nd rfl (.inl rfl) (pe_callTy (k_tuple (K := K) rfl) (by rfl) T.m_tuple (by decide +kernel) (pa_cons (pe_op (k_add (K := K) rfl) (pe_call (ok_l_half (P := P) (K := K) T) (hr.mono (by decide)) (by rfl) T.g_l_half T.F_l_half.kp T.b_l_half .nil pass0 (pa_cons (pv 1) pa_nil)) (pe_call (ok_l_half (P := P) (K := K) T) (hr.mono (by decide)) (by rfl) T.g_l_half T.F_l_half.kp T.b_l_half .nil pass0 (pa_cons (k_rev (K := K) rfl (pv 1)) pa_nil))) pa_nil)))
    (pss_cons (ps_if (pt_cmpR op_lt (pe_callB (k_len (K := K) rfl) (by rfl) T.m_len (by decide +kernel) (pa_cons (pv 2) pa_nil)) pe_int (nomark _))
      (pss_one (ps_ret (pe_tup (pa_cons (pe_tup (pa_cons pe_int (pa_cons pe_int pa_nil))) (pa_cons (pe_tup (pa_cons pe_int (pa_cons pe_int pa_nil))) (pa_cons (pe_tup (pa_cons pe_int (pa_cons pe_int pa_nil))) pa_nil))))))
      pss_nil)
    (pss_one (ps_ret (pv 2)))))), by infer_instance, fun ds n Q hl hA => ?_⟩
  obtain ⟨ps, rfl, hl, hp, q⟩ := hA
  refine ⟨ps, rfl, fun rs hr hrs => ?_⟩
  have hrB : ∀ p ∈ rs, PtB p := fun p h => by have := hp p (hr.mem_iff.mp h); unfold PtM at this; unfold PtB; omega
  have hrl : rs.length ≤ 8 := by have := hr.length_eq; omega
  refine ⟨rs, rfl, hrB, by omega, ?_⟩
  refine ⟨rs.reverse, by rw [List.map_reverse], fun p h => hrB p (List.mem_reverse.mp h), by rw [List.length_reverse]; omega, ?_⟩
  have hraw : ∀ x ∈ (halfR rs).tail.reverse ++ (halfR rs.reverse).tail.reverse, x ∈ rs := fun x hx => by
    rcases List.mem_append.mp hx with h | h
    · rcases halfS_sub rs [] x (List.mem_of_mem_tail (List.mem_reverse.mp h)) with h | h
      · cases h
      · exact h
    · rcases halfS_sub rs.reverse [] x (List.mem_of_mem_tail (List.mem_reverse.mp h)) with h | h
      · cases h
      · exact List.mem_reverse.mp h
  have hlen1 := halfS_len rs []
  have hlen2 := halfS_len rs.reverse []
  have hrawl : ((halfR rs).tail.reverse ++ (halfR rs.reverse).tail.reverse).length ≤ 16 := by
    rw [List.length_append, List.length_reverse, List.length_reverse, List.length_tail, List.length_tail]
    have e1 : (halfR rs).length ≤ rs.length := by show (halfS [] rs).length ≤ _; simpa using hlen1
    have e2 : (halfR rs.reverse).length ≤ rs.length := by show (halfS [] rs.reverse).length ≤ _; simpa using hlen2
    omega
  have el : stk (halfR rs).tail ++ stk (halfR rs.reverse).tail = ((halfR rs).tail.reverse ++ (halfR rs.reverse).tail.reverse).map pt := by
    rw [List.map_append]
    rfl
  refine ⟨?_, ?_⟩
  · have h := congrArg List.length el
    rw [List.length_append, List.length_map] at h
    omega
  generalize (halfR rs).tail.reverse ++ (halfR rs.reverse).tail.reverse = cs at *
  show aIte (decide (((stk (halfR rs).tail ++ stk (halfR rs.reverse).tail).length : Int) < 3)) _ (Q (.tup (stk (halfR rs).tail ++ stk (halfR rs.reverse).tail)) n)
  rw [el, List.length_map]
  refine dIte (fun e3 => ?_) fun e3 => ?_
  · exact q [(0, 0), (2, 0), (0, 2)] ⟨by decide, by decide, by unfold PtM; decide⟩
  · exact q cs ⟨by omega, hrawl, fun p h => hp p (hr.mem_iff.mp (hraw p h))⟩
theorem cut8 (ps : List Pt) : cutL (ps.map pt) (some (-8)) none = (ps.drop ((ps.length : Int) - 8).toNat).map pt := by
  have e : HT.sIx (ps.map pt).length 0 (some (-8)) = ((ps.length : Int) - 8).toNat := by
    rw [List.length_map]
    show (if (-8 : Int) < 0 then ((-8 : Int) + (ps.length : Int)).toNat else min (-8 : Int).toNat ps.length) = _
    rw [if_pos (by decide)]
    congr 1
  unfold cutL
  rw [HT.sIx_none, e, ← List.length_drop, List.take_length, List.map_drop]
theorem bd_abs {k : Nat} {n r : Int} (h1 : n.natAbs < 2 ^ k) (h2 : -n ≤ r) (h3 : r ≤ n) : Bd k r := by
  unfold Bd
  omega
def a_l_shape : ASp := fun ds n Q => ds = [.deck] ∧ 100 ≤ n ∧ ∀ (cs : List Pt) (n' : Nat), Cs cs → n ≤ n' + 60 → Q (.tup (cs.map pt)) n'
theorem ok_l_shape (T : Tx K mg A) : FnOk P w K mg base CX0 4 A.f_l_shape A.fd_l_shape ["_law_deck_here"] (spOf K 1 a_l_shape) := by
  refine fn_mir [5] 8 rfl (by decide) (by decide) T.F_l_shape sc_l_shape fun cdv Ar outer s H E hr => ?_
  refine ⟨_, _, (pss_cons (ps_set (i := 1) sc_l_shape.nd rfl (.inl rfl) (pe_call (ok_l_take (P := P) (K := K) T) (hr.mono (by decide)) (by rfl) T.g_l_take T.F_l_take.kp T.b_l_take .nil pass0 (pa_cons (pv 0) (pa_cons pe_int pa_nil))))
    (pss_cons (ps_set (i := 2) sc_l_shape.nd rfl (.inl rfl) (pe_ix (k_ixS (K := K) rfl) (pe_lst (pa_cons pe_int (pa_cons pe_int (pa_cons pe_int pa_nil)))) (pe_call (ok_l_take (P := P) (K := K) T) (hr.mono (by decide)) (by rfl) T.g_l_take T.F_l_take.kp T.b_l_take .nil pass0 (pa_cons (pv 0) (pa_cons pe_int pa_nil))) (fun _ _ => rfl)))
    (pss_cons (ps_if (pt_cmpR (k_eq (K := K) rfl hr.units) (pv 1) pe_int (nomark _))
      (pss_cons (ps_set (i := 3) sc_l_shape.nd rfl (.inr rfl) (pe_op (k_add (K := K) rfl) pe_int (pe_call (ok_l_take (P := P) (K := K) T) (hr.mono (by decide)) (by rfl) T.g_l_take T.F_l_take.kp T.b_l_take .nil pass0 (pa_cons (pv 0) (pa_cons (pv 2) pa_nil)))))
    (pss_cons (ps_set (i := 4) sc_l_shape.nd rfl (.inr rfl) (pe_op (k_add (K := K) rfl) pe_int (pe_call (ok_l_take (P := P) (K := K) T) (hr.mono (by decide)) (by rfl) T.g_l_take T.F_l_take.kp T.b_l_take .nil pass0 (pa_cons (pv 0) (pa_cons (pv 2) pa_nil)))))
    (pss_one (ps_ret (pe_tup (pa_cons (pe_tup (pa_cons pe_int (pa_cons pe_int pa_nil))) (pa_cons (pe_tup (pa_cons (pv 3) (pa_cons pe_int pa_nil))) (pa_cons (pe_tup (pa_cons (pv 3) (pa_cons (pv 4) pa_nil))) (pa_cons (pe_tup (pa_cons pe_int (pa_cons (pv 4) pa_nil))) pa_nil)))))))))
      pss_nil)
    (pss_cons (ps_if (pt_cmpR (k_eq (K := K) rfl hr.units) (pv 1) pe_int (nomark _))
      (pss_cons (ps_set (i := 3) sc_l_shape.nd rfl (.inr rfl) (pe_op (k_add (K := K) rfl) pe_int (pe_call (ok_l_take (P := P) (K := K) T) (hr.mono (by decide)) (by rfl) T.g_l_take T.F_l_take.kp T.b_l_take .nil pass0 (pa_cons (pv 0) (pa_cons pe_int pa_nil)))))
    (pss_cons (ps_set (i := 4) sc_l_shape.nd rfl (.inr rfl) (pe_op (k_add (K := K) rfl) pe_int (pe_call (ok_l_take (P := P) (K := K) T) (hr.mono (by decide)) (by rfl) T.g_l_take T.F_l_take.kp T.b_l_take .nil pass0 (pa_cons (pv 0) (pa_cons pe_int pa_nil)))))
    (pss_one (ps_ret (pe_call (ok_l_hull (P := P) (K := K) T) (hr.mono (by decide)) (by rfl) T.g_l_hull T.F_l_hull.kp T.b_l_hull .nil pass0 (pa_cons (pe_lc (own := [("_law_k", 7)]) rfl sc_l_shape.nd (pi_range2 (by rfl) T.m_range (pa_cons (pe_un un_neg pe_int) (pa_cons pe_int pa_nil))) (blkOk_by (own := [("_law_k", 7)]) (N := ["_law_deck_here", "_law_kind", "_law_span", "_law_wide", "_law_high", "_law_points", "_law_turn", "_law_k"]) (sc := defScope s_l_shape) (by decide +kernel)) (fun _ _ _ _ _ => (pg_name (i := 7) sc_l_shape.nd rfl (Or.inl rfl))) (fun _ _ _ _ _ => pts_nil) (fun _ _ _ _ _ => (pe_tup (pa_cons (pe_op k_mul (pe_op k_mul (pv 3) (pv 7)) (pv 7)) (pa_cons (pe_op k_mul (pv 4) (pv 7)) pa_nil))))) pa_nil))))))
      pss_nil)
    (pss_cons (k_own (ps_set (i := 5) sc_l_shape.nd rfl (.inl rfl) (pe_lst (pa_cons (pe_tup (pa_cons (pv 2) (pa_cons pe_int pa_nil))) (pa_cons (pe_tup (pa_cons pe_int (pa_cons (pv 2) pa_nil))) (pa_cons (pe_tup (pa_cons (pe_un un_neg (pv 2)) (pa_cons pe_int pa_nil))) (pa_cons (pe_tup (pa_cons pe_int (pa_cons (pe_un un_neg (pv 2)) pa_nil))) pa_nil)))))))
    (pss_cons (ps_for PassesOwn.never rfl (pi_range1 (by rfl) T.m_range (pa_cons (pe_ix (k_ixS (K := K) rfl) (pe_lst (pa_cons pe_int (pa_cons pe_int pa_nil))) (pe_op op_sub (pv 1) pe_int) (fun _ _ => rfl)) pa_nil)) (pg_name (i := 6) sc_l_shape.nd rfl (.inl rfl))
      (pss_one (k_app (K := K) rfl (ps_expr (pe_bm PySem.F.plainAttrs_list PySem.F.slot_list_append PySem.F.type_list_append mt_append (pv 5) (pa_cons (pe_tup (pa_cons (pe_op op_sub (pe_call (ok_l_take (P := P) (K := K) T) (hr.mono (by decide)) (by rfl) T.g_l_take T.F_l_take.kp T.b_l_take .nil pass0 (pa_cons (pv 0) (pa_cons (pe_op (k_add (K := K) rfl) (pe_op k_mul pe_int (pv 2)) pe_int) pa_nil))) (pv 2)) (pa_cons (pe_op op_sub (pe_call (ok_l_take (P := P) (K := K) T) (hr.mono (by decide)) (by rfl) T.g_l_take T.F_l_take.kp T.b_l_take .nil pass0 (pa_cons (pv 0) (pa_cons (pe_op (k_add (K := K) rfl) (pe_op k_mul pe_int (pv 2)) pe_int) pa_nil))) (pv 2)) pa_nil))) pa_nil))))))
    (pss_one (ps_ret (pe_call (ok_l_hull (P := P) (K := K) T) (hr.mono (by decide)) (by rfl) T.g_l_hull T.F_l_hull.kp T.b_l_hull .nil pass0 (pa_cons (pe_slice (k_sl (K := K) rfl) (pv 5) (po_some (pe_un un_neg pe_int)) po_none) pa_nil)))))))))), by infer_instance, fun ds n Q hl hA => ?_⟩
  obtain ⟨rfl, hn, q⟩ := hA
  refine ⟨4, rfl, by decide, by decide, by omega, fun kd lk uk => ?_⟩
  refine ⟨3, rfl, by decide, by decide, by omega, fun r l u => ?_⟩
  obtain ⟨sp, hs0, hs1, hat⟩ : ∃ sp : Int, 1 ≤ sp ∧ sp ≤ 1000000 ∧ atI [D.int 4, D.int 30, D.int 1000000] r = some (D.int sp) := by
    obtain rfl | rfl | rfl : r = 0 ∨ r = 1 ∨ r = 2 := by omega
    · exact ⟨4, by decide, by decide, rfl⟩
    · exact ⟨30, by decide, by decide, rfl⟩
    · exact ⟨1000000, by decide, by decide, rfl⟩
  refine aIx_lst hat ?_
  refine dIte (fun e => ?_) fun e => dIte (fun e2 => ?_) fun e2 => ?_
  · refine ⟨sp, rfl, by omega, small_log (by omega) (by omega), by omega, fun wd lw uw => ?_⟩
    refine ⟨sp, rfl, by omega, small_log (by omega) (by omega), by omega, fun hg lh uh => ?_⟩
    refine q [(0, 0), (1 + wd, 0), (1 + wd, 1 + hg), (0, 1 + hg)] _ ⟨by simp, by simp, fun p hp => ?_⟩ (by omega)
    simp only [List.mem_cons, List.not_mem_nil, or_false] at hp
    rcases hp with rfl | rfl | rfl | rfl <;> (unfold PtM; simp only; omega)
  · refine ⟨9, rfl, by decide, by decide, by omega, fun wd lw uw => ?_⟩
    refine ⟨99, rfl, by decide, by decide, by omega, fun hg lh uh => ?_⟩
    refine ⟨⟨by decide, by decide, by decide, by decide⟩, by rw [rangeD_length]; decide, ?_⟩
    refine aLc_ind (fun acc ds m => m = n - 1 - 1 - 1 - 1 ∧ ∃ (ps : List Pt) (i : Int) (c : Nat), acc = ps.map pt ∧ ds = rangeD i c ∧ ps.length + c = 8 ∧ -4 ≤ i ∧ i + c = 4 ∧ ∀ p ∈ ps, PtM p) ?_ ?_ ⟨rfl, [], -4, 8, rfl, rfl, rfl, by decide, by decide, fun c h => by cases h⟩
    · rintro acc d r' m ⟨rfl, ps, i, c, rfl, e5, hl, hi0, hi1, hp⟩ ih
      cases c with
      | zero => cases e5
      | succ c =>
      obtain ⟨rfl, rfl⟩ := List.cons.inj e5
      have hi : i = -4 ∨ i = -3 ∨ i = -2 ∨ i = -1 ∨ i = 0 ∨ i = 1 ∨ i = 2 ∨ i = 3 := by omega
      have k1 : -1000 ≤ (1 + wd) * i ∧ (1 + wd) * i ≤ 1000 := by rcases hi with rfl | rfl | rfl | rfl | rfl | rfl | rfl | rfl <;> omega
      have k2 : -1000 ≤ (1 + wd) * i * i ∧ (1 + wd) * i * i ≤ 1000 := by rcases hi with rfl | rfl | rfl | rfl | rfl | rfl | rfl | rfl <;> omega
      have k3 : -1000 ≤ (1 + hg) * i ∧ (1 + hg) * i ≤ 1000 := by rcases hi with rfl | rfl | rfl | rfl | rfl | rfl | rfl | rfl <;> omega
      have bw : Bd 30 (1 + wd) := bd_abs (n := 1000) (by decide) (by omega) (by omega)
      have bh : Bd 30 (1 + hg) := bd_abs (n := 1000) (by decide) (by omega) (by omega)
      have bi : Bd 30 i := bd_abs (n := 1000) (by decide) (by omega) (by omega)
      have bwi : Bd 30 ((1 + wd) * i) := bd_abs (n := 1000) (by decide) k1.1 k1.2
      refine aT ⟨mulA bw bi (by decide) (by decide), mulA bwi bi (by decide) (by decide), mulA bh bi (by decide) (by decide), ih _ _ ⟨rfl, ps ++ [((1 + wd) * i * i, (1 + hg) * i)], i + 1, c, by rw [List.map_append]; rfl, rfl, by rw [List.length_append]; simp; omega, by omega, by omega, fun p h => ?_⟩⟩
      rcases List.mem_append.mp h with h | h
      · exact hp p h
      · rw [List.mem_singleton.mp h]
        exact ⟨by simp only; omega, by simp only; omega, by simp only; omega, by simp only; omega⟩
    · rintro acc m ⟨rfl, ps, i, c, rfl, e5, hl, hi0, hi1, hp⟩
      exact ⟨ps, rfl, by omega, hp, fun cs ok => q cs _ ok (by omega)⟩
  · obtain ⟨mn, hm0, hm1, hat2⟩ : ∃ mn : Int, 4 ≤ mn ∧ mn ≤ 8 ∧ atI [D.int 4, D.int 8] (kd - 2) = some (D.int mn) := by
      obtain rfl | rfl : kd = 2 ∨ kd = 3 := by omega
      · exact ⟨4, by decide, by decide, rfl⟩
      · exact ⟨8, by decide, by decide, rfl⟩
    refine aIx_lst hat2 ?_
    refine ⟨⟨by omega, by omega⟩, ?_⟩
    have hsp : Bd 30 sp := bd_abs (n := 1000000) (by decide) (by omega) (by omega)
    have h2 : Bd 30 (2 : Int) := bd_abs (n := 2) (by decide) (by decide) (by decide)
    refine aFor_ind (fun ds ρ m => ∃ (ps : List Pt) (y6 : Option D), ρ = [some .deck, some (.int kd), some (.int sp), none, none, some (.lst (ps.map pt)), y6, none] ∧ 4 ≤ ps.length ∧ ps.length + ds.length ≤ 12 ∧ n + 8 ≤ m + 2 + 2 * ps.length ∧ ∀ p ∈ ps, PtM p) ?_ ?_ ⟨[(sp, 0), (0, sp), (-sp, 0), (0, -sp)], none, rfl, by simp, by rw [rangeD_length]; simp; omega, by simp; omega, fun p hp => ?_⟩
    · rintro d r' _ m ⟨ps, y6, rfl, h4, hl, hm, hp⟩ ih
      rw [List.length_cons] at hl
      refine ⟨mulA h2 hsp (by decide) (by decide), 2 * sp + 1, rfl, by omega, small_log (by omega) (by omega), by omega, fun a la ua => ?_⟩
      refine ⟨mulA h2 hsp (by decide) (by decide), 2 * sp + 1, rfl, by omega, small_log (by omega) (by omega), by omega, fun b lb ub => ?_⟩
      refine ⟨by rw [List.length_map]; omega, ih _ _ ⟨ps ++ [(a - sp, b - sp)], some d, by rw [List.map_append]; rfl, by rw [List.length_append]; omega, by rw [List.length_append]; simp; omega, by rw [List.length_append]; simp; omega, fun p h => ?_⟩⟩
      rcases List.mem_append.mp h with h | h
      · exact hp p h
      · rw [List.mem_singleton.mp h]
        exact ⟨by simp only; omega, by simp only; omega, by simp only; omega, by simp only; omega⟩
    · rintro _ m ⟨ps, y6, rfl, h4, hl, hm, hp⟩
      exact ⟨ps.drop ((ps.length : Int) - 8).toNat, congrArg (fun z => [D.lst z]) (cut8 ps), by rw [List.length_drop]; omega, fun p h => hp p (List.mem_of_mem_drop h), fun cs ok => q cs _ ok (by simp at hl; omega)⟩
    · simp only [List.mem_cons, List.not_mem_nil, or_false] at hp
      rcases hp with rfl | rfl | rfl | rfl <;> exact ⟨by simp only; omega, by simp only; omega, by simp only; omega, by simp only; omega⟩
/-! CUT -/
/-! ### the law's own look -/
theorem ptsD_none {us vs : List D} {e : D} (h : cornP e = none) : ptsD (us ++ e :: vs) = none := by
  induction us with
  | nil =>
    show (match cornP e with | some p => _ | none => none) = none
    rw [h]
  | cons u us ih =>
    show (match cornP u with | some p => (match ptsD (us ++ e :: vs) with | some ps => some (p :: ps) | none => none) | none => none) = none
    rw [ih]
    cases cornP u <;> rfl
theorem ptsD_snoc {e : D} {p : Pt} (h : cornP e = some p) : ∀ {us : List D} {ps : List Pt}, ptsD us = some ps → ptsD (us ++ [e]) = some (ps ++ [p])
  | [], _, hu => by
    cases hu
    show (match cornP e with | some p => (match ptsD [] with | some ps => some (p :: ps) | none => none) | none => none) = _
    rw [h]
    rfl
  | u :: us, ps, hu => by
    have hu' : (match cornP u with | some p => (match ptsD us with | some ps => some (p :: ps) | none => none) | none => none) = some ps := hu
    cases hc : cornP u with
    | none => rw [hc] at hu'; cases hu'
    | some q =>
      rw [hc] at hu'
      cases hd : ptsD us with
      | none =>
        rw [hd] at hu'
        cases hu'
      | some qs =>
        rw [hd] at hu'
        cases hu'
        have ih := ptsD_snoc h hd
        show (match cornP u with | some p => (match ptsD (us ++ [e]) with | some ps => some (p :: ps) | none => none) | none => none) = _
        rw [hc, ih]
        rfl
theorem cornP_cases {e : D} {p : Pt} (h : cornP e = some p) : e = .tup [.int p.1, .int p.2] ∨ e = .lst [.int p.1, .int p.2] := by
  unfold cornP at h
  split at h
  · rename_i x y e1
    split at h
    · cases h
      unfold pairD at e1
      split at e1
      · cases e1
        exact .inl rfl
      · cases e1
        exact .inr rfl
      · cases e1
    · cases h
  · cases h
theorem ptsD_zip : ∀ {es : List D} {ps : List Pt}, ptsD es = some ps → ∀ x ∈ es.zip ps, cornP x.1 = some x.2
  | [], _, _, x, hx => by cases hx
  | e :: es, ps, h, x, hx => by
    have h' : (match cornP e with | some p => (match ptsD es with | some ps => some (p :: ps) | none => none) | none => none) = some ps := h
    cases hc : cornP e with
    | none => rw [hc] at h'; cases h'
    | some q =>
      rw [hc] at h'
      cases hd : ptsD es with
      | none => rw [hd] at h'; cases h'
      | some qs =>
        rw [hd] at h'
        cases h'
        rcases List.mem_cons.mp hx with rfl | hx
        · exact hc
        · exact ptsD_zip hd x hx
/-! counting: all but two -/
def nb (bad : Nat → Bool) : Nat → Nat
  | 0 => 0
  | m + 1 => (if bad 0 then 1 else 0) + nb (fun j => bad (j + 1)) m
theorem filt_nb {α : Type} (p : α → Bool) : ∀ (cs : List α) (bad : Nat → Bool), (∀ j c, cs[j]? = some c → bad j = true → p c = false) → (cs.filter p).length + nb bad cs.length ≤ cs.length ∧ ((cs.filter p).length + nb bad cs.length = cs.length ↔ ∀ j c, cs[j]? = some c → bad j = false → p c = true)
  | [], _, _ => ⟨Nat.le_refl _, fun _ j c e => by simp at e, fun _ => rfl⟩
  | c :: r, bad, h => by
    obtain ⟨i1, i2⟩ := filt_nb p r (fun j => bad (j + 1)) fun j c' e => h (j + 1) c' (by simpa using e)
    have hn : nb bad (c :: r).length = (if bad 0 then 1 else 0) + nb (fun j => bad (j + 1)) r.length := rfl
    have iff0 : (∀ j c', (c :: r)[j]? = some c' → bad j = false → p c' = true) ↔ (bad 0 = false → p c = true) ∧ ∀ j c', r[j]? = some c' → bad (j + 1) = false → p c' = true :=
      ⟨fun z => ⟨fun b => z 0 c rfl b, fun j c' e b => z (j + 1) c' (by simpa using e) b⟩, fun z j c' e b => by
        cases j with
        | zero => cases e; exact z.1 b
        | succ j => exact z.2 j c' (by simpa using e) b⟩
    rw [iff0, hn, List.length_cons]
    cases hb : bad 0 with
    | true =>
      have hp := h 0 c rfl hb
      rw [List.filter_cons_of_neg (by rw [hp]; exact Bool.false_ne_true), if_pos rfl]
      refine ⟨by omega, ?_⟩
      rw [← i2]
      constructor
      · intro z
        exact ⟨fun b => (by cases b), (by omega)⟩
      · intro z
        have := z.2
        omega
    | false =>
      rw [if_neg Bool.false_ne_true]
      cases hp : p c with
      | true =>
        rw [List.filter_cons_of_pos hp, List.length_cons]
        refine ⟨by omega, ?_⟩
        rw [← i2]
        constructor
        · intro z
          exact ⟨fun _ => rfl, (by omega)⟩
        · intro z
          have := z.2
          omega
      | false =>
        rw [List.filter_cons_of_neg (by rw [hp]; exact Bool.false_ne_true)]
        refine ⟨by omega, ?_⟩
        constructor
        · intro z
          omega
        · intro z
          have := z.1 rfl
          cases this
theorem nb_one (k : Nat) : ∀ (m s : Nat), nb (fun j => decide (j + s = k)) m = if s ≤ k ∧ k < s + m then 1 else 0
  | 0, s => by
    rw [if_neg (by omega)]
    rfl
  | m + 1, s => by
    have ih := nb_one k m (s + 1)
    have e : (fun j => decide (j + 1 + s = k)) = fun j => decide (j + (s + 1) = k) := by
      funext j
      exact decide_eq_decide.mpr (by omega)
    show (if decide (0 + s = k) = true then 1 else 0) + nb (fun j => decide (j + 1 + s = k)) m = _
    rw [e, ih]
    by_cases h : 0 + s = k
    · rw [if_pos (decide_eq_true h), if_neg (by omega), if_pos (by omega)]
    · rw [if_neg (by rw [decide_eq_false h]; exact Bool.false_ne_true)]
      by_cases h2 : s + 1 ≤ k ∧ k < s + 1 + m
      · rw [if_pos h2, if_pos (by omega)]
      · rw [if_neg h2, if_neg (by omega)]
theorem nb_or : ∀ (m : Nat) (f g : Nat → Bool), (∀ j, ¬ (f j = true ∧ g j = true)) → nb (fun j => f j || g j) m = nb f m + nb g m
  | 0, _, _, _ => rfl
  | m + 1, f, g, h => by
    have ih := nb_or m (fun j => f (j + 1)) (fun j => g (j + 1)) fun j => h (j + 1)
    show (if (f 0 || g 0) = true then 1 else 0) + nb (fun j => f (j + 1) || g (j + 1)) m = (if f 0 = true then 1 else 0) + nb (fun j => f (j + 1)) m + ((if g 0 = true then 1 else 0) + nb (fun j => g (j + 1)) m)
    rw [ih]
    have h0 := h 0
    cases hf : f 0 <;> cases hg : g 0 <;> simp [hf, hg] at h0 ⊢ <;> omega
theorem nb_two {k i m : Nat} (h : k ≠ i) (hk : k < m) (hi : i < m) : nb (fun j => decide (j = k) || decide (j = i)) m = 2 := by
  have e1 := nb_one k m 0
  have e2 := nb_one i m 0
  rw [if_pos (by omega)] at e1 e2
  rw [nb_or m _ _ fun j ⟨z1, z2⟩ => h (by rw [← of_decide_eq_true z1, ← of_decide_eq_true z2])]
  have e1' : nb (fun j => decide (j = k)) m = 1 := e1
  have e2' : nb (fun j => decide (j = i)) m = 1 := e2
  rw [e1', e2']
theorem lft_eq (a b c : Pt) : lft a b c = decide (0 < leftI a b c) := rfl
theorem left_self (a b : Pt) : leftI a b a = 0 := by
  unfold leftI
  rw [Int.sub_self, Int.sub_self, Int.mul_zero, Int.mul_zero, Int.sub_self]
theorem left_end (a b : Pt) : leftI a b b = 0 := by
  unfold leftI
  rw [Int.mul_comm (b.2 - a.2), Int.sub_self]
theorem sd_iff {cs : List Pt} {a b : Pt} {k i : Nat} (ha : cs[k]? = some a) (hb : cs[i]? = some b) (h : k ≠ i) : sdE cs (a, b) = true ↔ ∀ j c, cs[j]? = some c → j ≠ k → j ≠ i → 0 < leftI a b c := by
  obtain ⟨hk, _⟩ := List.getElem?_eq_some_iff.mp ha
  obtain ⟨hi, _⟩ := List.getElem?_eq_some_iff.mp hb
  obtain ⟨f1, f2⟩ := filt_nb (lft a b) cs (fun j => decide (j = k) || decide (j = i)) fun j c e bd => by
    rw [lft_eq]
    rw [Bool.or_eq_true, decide_eq_true_eq, decide_eq_true_eq] at bd
    rcases bd with rfl | rfl
    · rw [ha] at e
      cases e
      rw [left_self]
      rfl
    · rw [hb] at e
      cases e
      rw [left_end]
      rfl
  rw [nb_two h hk hi] at f1 f2
  unfold sdE
  rw [decide_eq_true_eq]
  constructor
  · intro z j c e n1 n2
    have := f2.mp (by have z' : (((cs.filter (lft a b)).length : Nat) : Int) = (cs.length : Int) - 2 := z; omega) j c e (by rw [decide_eq_false n1, decide_eq_false n2]; rfl)
    exact of_decide_eq_true this
  · intro z
    have := f2.mpr fun j c e bd => by
      rw [Bool.or_eq_false_iff, decide_eq_false_iff_not, decide_eq_false_iff_not] at bd
      exact decide_eq_true (z j c e bd.1 bd.2)
    show (((cs.filter (lft a b)).length : Nat) : Int) = (cs.length : Int) - 2
    omega
theorem zp_at {cs : List Pt} {k : Nat} {a : Pt} (ha : cs[k]? = some a) (h3 : 3 ≤ cs.length) : ∃ b, cs[(k + 1) % cs.length]? = some b ∧ (zpE cs)[k]? = some (a, b) ∧ k ≠ (k + 1) % cs.length := by
  obtain ⟨hk, _⟩ := List.getElem?_eq_some_iff.mp ha
  have hm : (k + 1) % cs.length < cs.length := Nat.mod_lt _ (by omega)
  obtain ⟨b, hb⟩ : ∃ b, cs[(k + 1) % cs.length]? = some b := ⟨_, List.getElem?_eq_getElem hm⟩
  refine ⟨b, hb, ?_, ?_⟩
  · unfold zpE
    rw [List.getElem?_zip_eq_some]
    refine ⟨ha, ?_⟩
    by_cases hl : k + 1 < cs.length
    · rw [List.getElem?_append_left (by rw [List.length_drop]; omega), List.getElem?_drop, Nat.add_comm 1 k]
      have e : (k + 1) % cs.length = k + 1 := Nat.mod_eq_of_lt hl
      rw [e] at hb
      exact hb
    · have e : k + 1 = cs.length := by omega
      have e0 : (k + 1) % cs.length = 0 := by rw [e]; exact Nat.mod_self _
      rw [List.getElem?_append_right (by rw [List.length_drop]; omega), List.length_drop, show k - (cs.length - 1) = 0 by omega, List.getElem?_take_of_lt (by omega)]
      rw [e0] at hb
      exact hb
  · by_cases hl : k + 1 < cs.length
    · rw [Nat.mod_eq_of_lt hl]
      omega
    · have e : k + 1 = cs.length := by omega
      rw [e, Nat.mod_self]
      omega
theorem aLc_maps2 {α : Type} {vs : List Nat} {G : D → Option (List (Nat × D))} {c : AT} {e : AE} {ρ : Env'} {Q : D → Nat → Prop} {n : Nat} {ds rs : List D} (F R : α → D) (xs : List α) (h1 : xs.map F = ds) (h2 : xs.map R = rs) (h : ∀ x ∈ xs, ∀ (Kn : D → Nat → Prop) (L : Nat → Prop), Kn (R x) n → aPutC vs G (F x) ρ fun ρ1 => c ρ1 n fun b n2 => aIte b (e ρ1 n2 Kn) (L n2)) (q : Q (.lst rs) n) : aLcGo vs G c e ρ Q [] ds n := by
  subst h1 h2
  exact aLc_maps F R xs [] h q
theorem nIte {p : Prop} [Decidable p] {a b : Prop} (h : ¬ p → a) (g : p → b) : aIte (not (decide p)) a b := by
  by_cases e : p
  · rw [decide_eq_true e]
    exact aF (g e)
  · rw [decide_eq_false e]
    exact aT (h e)
theorem enum_cons {k : Nat} {ps : List Pt} {d : D} {r : List D} (e : enumD k ((ps.drop k).map pt) = d :: r) : ∃ a, ps[k]? = some a ∧ d = .tup [.int (k : Nat), pt a] ∧ r = enumD (k + 1) ((ps.drop (k + 1)).map pt) := by
  by_cases h : k < ps.length
  · rw [List.drop_eq_getElem_cons h, List.map_cons] at e
    obtain ⟨rfl, rfl⟩ := List.cons.inj e
    exact ⟨ps[k], List.getElem?_eq_getElem h, rfl, rfl⟩
  · rw [List.drop_of_length_le (by omega)] at e
    cases e
theorem enum_nil {k : Nat} {ps : List Pt} (e : enumD k ((ps.drop k).map pt) = []) : ps.length ≤ k := by
  rcases Nat.lt_or_ge k ps.length with h | h
  · rw [List.drop_eq_getElem_cons h, List.map_cons] at e
    cases e
  · exact h
theorem num_step {a : D} {r : List D} {E : AEn} {b0 b1 b2 : Option D} {n : Nat} (h : Th a) (no : reach a = false → E.rt .non n)
    (yes : reach a = true → aForGo [] (aName 2) (aIfS (aOrT (aNotT (aTest (aCB (aIsi K) (aCons (aVar 2) (aCons (aD (D.ty Ty.int)) aNil))))) (aOrT (aTest (aCB (aIsi K) (aCons (aVar 2) (aCons (aD (D.ty Ty.bl)) aNil)))) (aTest (a2 (aInt0 fun i j => V.bl (decide (j < i))) (aCB aAbs (aCons (aVar 2) aNil)) (aC (V.int 1000000)))))) (aRet (aC V.non)) aNext) E r [b0, b1, some a, none, none, none, none, none, none, none] n) :
    aForGo [] (aName 2) (aIfS (aOrT (aNotT (aTest (aCB (aIsi K) (aCons (aVar 2) (aCons (aD (D.ty Ty.int)) aNil))))) (aOrT (aTest (aCB (aIsi K) (aCons (aVar 2) (aCons (aD (D.ty Ty.bl)) aNil)))) (aTest (a2 (aInt0 fun i j => V.bl (decide (j < i))) (aCB aAbs (aCons (aVar 2) aNil)) (aC (V.int 1000000)))))) (aRet (aC V.non)) aNext) E (a :: r) [b0, b1, b2, none, none, none, none, none, none, none] n := by
  cases a with
  | int i =>
    refine aF (aF ?_)
    by_cases hr : reach (.int i) = true
    · have hr' : (decide (-1000000 ≤ i) && decide (i ≤ 1000000)) = true := hr
      rw [Bool.and_eq_true, decide_eq_true_eq, decide_eq_true_eq] at hr'
      refine dIte (fun e => ?_) fun _ => yes hr
      exact absurd (show (1000000 : Int) < (if i < 0 then -i else i) from e) (by split <;> omega)
    · refine dIte (fun e => no (Bool.eq_false_iff.mpr hr)) fun e => ?_
      refine absurd (show ¬ (1000000 : Int) < (if i < 0 then -i else i) from e) fun z => hr ?_
      show (decide (-1000000 ≤ i) && decide (i ≤ 1000000)) = true
      rw [Bool.and_eq_true, decide_eq_true_eq, decide_eq_true_eq]
      split at z <;> omega
  | bl b => exact aF (aT (aT (no rfl)))
  | non => exact aT (aT (no rfl))
  | str z => exact aT (aT (no rfl))
  | tup ds => exact aT (aT (no rfl))
  | lst ds => exact aT (aT (no rfl))
  | dic ks ds => exact aT (aT (no rfl))
  | _ => exact h.elim
def a_l_form : ASp := fun ds n Q => ∃ d, ds = [d] ∧ Th d ∧ (∀ es, itemsD d = some es → ∀ e ∈ es, Th2 e) ∧ (form d = none → Q .non n) ∧ ∀ cs rs, form d = some cs → IsRot cs rs → Q (.tup (rs.map pt)) n
theorem ok_l_form (T : Tx K mg A) : FnOk P w K mg base CX0 2 A.f_l_form A.fd_l_form ["_law_thing_here"] (spOf K 1 a_l_form) := by
  refine fn_mir [] 10 rfl (by decide) (by decide) T.F_l_form sc_l_form fun cdv Ar outer s H E hr => ?_
  refine ⟨_, _, (pss_cons (ps_if (PW.pt (pw_or (pt_not (pt_val (k_isi2 (K := K) rfl (pe_callB call_isiT (by rfl) T.m_isinstance (by decide +kernel) (pa_cons (pv 0) (pa_cons (pe_tup (pa_cons (k_ty (t := .lst) (by rfl) T.m_list (by decide +kernel)) (pa_cons (k_ty (t := .tup) (by rfl) T.m_tuple (by decide +kernel)) pa_nil))) pa_nil)))))) (pw_or (pt_cmpR op_lt (pe_callB (k_len (K := K) rfl) (by rfl) T.m_len (by decide +kernel) (pa_cons (pv 0) pa_nil)) pe_int (nomark _)) (pw_or1 (pt_cmpR op_gt (pe_callB (k_len (K := K) rfl) (by rfl) T.m_len (by decide +kernel) (pa_cons (pv 0) pa_nil)) pe_int (nomark _))))))
      (pss_one (ps_ret pe_non))
      pss_nil)
    (pss_cons (ps_for PassesOwn.never rfl (k_iter (K := K) rfl (pv 0)) (pg_name (i := 1) sc_l_form.nd rfl (.inl rfl))
      (pss_cons (ps_if (PW.pt (pw_or (pt_not (pt_val (k_isi2 (K := K) rfl (pe_callB call_isiT (by rfl) T.m_isinstance (by decide +kernel) (pa_cons (pv 1) (pa_cons (pe_tup (pa_cons (k_ty (t := .lst) (by rfl) T.m_list (by decide +kernel)) (pa_cons (k_ty (t := .tup) (by rfl) T.m_tuple (by decide +kernel)) pa_nil))) pa_nil)))))) (pw_or1 (pt_cmpR (k_ne (K := K) rfl hr.units) (pe_callB (k_len (K := K) rfl) (by rfl) T.m_len (by decide +kernel) (pa_cons (pv 1) pa_nil)) pe_int (nomark _)))))
      (pss_one (ps_ret pe_non))
      pss_nil)
    (pss_one (ps_for PassesOwn.never rfl (k_iter (K := K) rfl (pv 1)) (pg_name (i := 2) sc_l_form.nd rfl (.inl rfl))
      (pss_one (ps_if (PW.pt (pw_or (pt_not (pt_val (pe_callB (k_isi (K := K) rfl) (by rfl) T.m_isinstance (by decide +kernel) (pa_cons (pv 2) (pa_cons (k_ty (t := .int) (by rfl) T.m_int (by decide +kernel)) pa_nil))))) (pw_or (pt_val (pe_callB (k_isi (K := K) rfl) (by rfl) T.m_isinstance (by decide +kernel) (pa_cons (pv 2) (pa_cons (k_ty (t := .bl) (by rfl) T.m_bool (by decide +kernel)) pa_nil)))) (pw_or1 (pt_cmpR op_gt (pe_callB k_abs (by rfl) T.m_abs (by decide +kernel) (pa_cons (pv 2) pa_nil)) pe_int (nomark _))))))
      (pss_one (ps_ret pe_non))
      pss_nil))))))
    (pss_cons (ps_setLc (i := 3) (own := [("_law_corner", 1)]) rfl sc_l_form.nd rfl rfl (sw_true rfl rfl rfl (by decide +kernel)) (k_iter (K := K) rfl (pv 0)) (blkOk_by (own := [("_law_corner", 1)]) (N := ["_law_thing_here", "_law_corner", "_law_number", "_law_corners", "_law_many", "_law_k", "_law_a", "_law_b", "_law_j", "_law_c"]) (sc := defScope s_l_form) (by decide +kernel)) (fun _ _ _ _ _ => (pg_name (i := 1) sc_l_form.nd rfl (Or.inl rfl))) (fun _ _ _ _ _ => pts_nil) (fun _ _ _ _ _ => (pe_callTy (k_tuple (K := K) rfl) (by rfl) T.m_tuple (by decide +kernel) (pa_cons (pv 1) pa_nil))))
    (pss_cons (ps_set (i := 4) sc_l_form.nd rfl (.inl rfl) (pe_callB (k_len (K := K) rfl) (by rfl) T.m_len (by decide +kernel) (pa_cons (pv 3) pa_nil)))
    (pss_cons (ps_for PassesOwn.never rfl (k_enum (K := K) rfl (by rfl) T.m_enumerate (pa_cons (pv 3) pa_nil)) (k_gtup (K := K) (m := 2) rfl rfl (pgs_cons (pg_name (i := 5) sc_l_form.nd rfl (.inl rfl)) (pgs_cons (pg_name (i := 6) sc_l_form.nd rfl (.inl rfl)) pgs_nil)))
      (pss_cons (ps_set (i := 7) sc_l_form.nd rfl (.inl rfl) (pe_ix (k_ixS (K := K) rfl) (pv 3) (pe_op op_mod (pe_op (k_add (K := K) rfl) (pv 5) pe_int) (pv 4)) (fun _ _ => rfl)))
    (pss_one (ps_for PassesOwn.never rfl (k_enum (K := K) rfl (by rfl) T.m_enumerate (pa_cons (pv 3) pa_nil)) (k_gtup (K := K) (m := 2) rfl rfl (pgs_cons (pg_name (i := 8) sc_l_form.nd rfl (.inl rfl)) (pgs_cons (pg_name (i := 9) sc_l_form.nd rfl (.inl rfl)) pgs_nil)))
      (pss_one (ps_if (PW.pt (pw_and (pt_cmpR (k_ne (K := K) rfl hr.units) (pv 8) (pv 5) (nomark _)) (pw_and (pt_cmpR (k_ne (K := K) rfl hr.units) (pv 8) (pe_op op_mod (pe_op (k_add (K := K) rfl) (pv 5) pe_int) (pv 4)) (nomark _)) (pw_and1 (pt_cmpR op_le (pe_call (ok_l_left (P := P) (K := K) T) (hr.mono (by decide)) (by rfl) T.g_l_left T.F_l_left.kp T.b_l_left .nil pass0 (pa_cons (pv 6) (pa_cons (pv 7) (pa_cons (pv 9) pa_nil)))) pe_int (nomark _))))))
      (pss_one (ps_ret pe_non))
      pss_nil))))))
    (pss_cons (ps_set (i := 5) sc_l_form.nd rfl (.inl rfl) (k_idxD (K := K) rfl (pe_bm PySem.F.plainAttrs_list PySem.F.slot_list_index PySem.F.type_list_index (mt_indexD (room65 hr)) (pv 3) (pa_cons (pe_callB (k_minT (K := K) rfl rfl hr.units) (by rfl) T.m_min (by decide +kernel) (pa_cons (pv 3) pa_nil)) pa_nil))))
    (pss_one (ps_ret (pe_callTy (k_tuple (K := K) rfl) (by rfl) T.m_tuple (by decide +kernel) (pa_cons (pe_op (k_add (K := K) rfl) (pe_slice (k_sl (K := K) rfl) (pv 3) (po_some (pv 5)) po_none) (pe_slice (k_sl (K := K) rfl) (pv 3) po_none (po_some (pv 5)))) pa_nil)))))))))), by infer_instance, fun ds n Q hl hA => ?_⟩
  obtain ⟨d, rfl, h, h2, hno, q⟩ := hA
  cases d with
  | int i => exact ⟨rfl, aT (aT (hno rfl))⟩
  | bl b => exact ⟨rfl, aT (aT (hno rfl))⟩
  | non => exact ⟨rfl, aT (aT (hno rfl))⟩
  | str z => exact ⟨rfl, aT (aT (hno rfl))⟩
  | dic ks ds => exact ⟨rfl, aT (aT (hno rfl))⟩
  | tup es =>
    refine ⟨rfl, aF ?_⟩
    by_cases h3 : 3 ≤ es.length
    rotate_left
    · refine dIte (fun _ => aT (hno ?_)) fun e => absurd (show (es.length : Int) < 3 by omega) e
      unfold form
      exact if_neg fun z => h3 z.1
    refine dIte (fun e => absurd e (by omega)) fun _ => ?_
    by_cases h8 : es.length ≤ 8
    rotate_left
    · refine dIte (fun _ => hno ?_) fun e => absurd (show (8 : Int) < es.length by omega) e
      unfold form
      exact if_neg fun z => h8 z.2
    refine dIte (fun e => absurd e (by omega)) fun _ => ?_
    refine aFor_ind (fun ds ρ m => m = n ∧ ∃ (us vs : List D) (ps : List Pt) (y1 y2 : Option D), es = us ++ vs ∧ ds = vs ∧ ptsD us = some ps ∧ ρ = [some (.tup es), y1, y2, none, none, none, none, none, none, none]) ?_ ?_ ⟨rfl, [], es, [], none, none, rfl, rfl, rfl, rfl⟩
    · rintro e r _ m ⟨rfl, us, vs, ps, y1, y2, e0, e1, e2, rfl⟩ ih
      subst e1
      have hm := h2 es rfl e (by rw [e0]; exact List.mem_append_right _ List.mem_cons_self)
      have bad : cornP e = none → Q .non m := fun z => hno (by
        unfold form
        show (if 3 ≤ es.length ∧ es.length ≤ 8 then (match ptsD es with | some cs => if sidesOk cs = true then some cs else none | none => none) else none) = none
        rw [e0, ptsD_none z]
        split <;> rfl)
      cases e with
      | int i => exact ⟨rfl, aT (aT (bad rfl))⟩
      | bl b => exact ⟨rfl, aT (aT (bad rfl))⟩
      | non => exact ⟨rfl, aT (aT (bad rfl))⟩
      | str z => exact ⟨rfl, aT (aT (bad rfl))⟩
      | dic ks ds => exact ⟨rfl, aT (aT (bad rfl))⟩
      | tup es2 =>
        rcases es2 with _ | ⟨a, _ | ⟨b, _ | ⟨c, r2⟩⟩⟩
        · exact ⟨rfl, aF (aT (bad rfl))⟩
        · exact ⟨rfl, aF (aT (bad rfl))⟩
        · obtain ⟨ta, tb⟩ := hm.2 a b rfl
          have nono : (reach a && reach b) = false → cornP (.tup [a, b]) = none := fun z => by
            unfold cornP
            split
            · rename_i x y e1
              have e2 : (a, b) = (D.int x, D.int y) := Option.some.inj e1
              cases e2
              rw [if_neg (by rw [z]; exact Bool.false_ne_true)]
            · rfl
          refine ⟨rfl, aF (aF (num_step ta (fun z => bad (nono (by rw [z]; rfl))) fun ra => num_step tb (fun z => bad (nono (by rw [z, ra]; rfl))) fun rb => ?_))⟩
          obtain ⟨x, rfl⟩ := reach_int ra
          obtain ⟨y, rfl⟩ := reach_int rb
          have ec : cornP (.tup [.int x, .int y]) = some (x, y) := by
            show (if (reach (.int x) && reach (.int y)) = true then some (x, y) else none) = _
            rw [ra, rb]
            rfl
          exact ih _ _ ⟨rfl, us ++ [.tup [.int x, .int y]], r, ps ++ [(x, y)], _, _, by rw [e0, List.append_assoc]; rfl, rfl, ptsD_snoc ec e2, rfl⟩
        · have e3 : (!(decide (((a :: b :: c :: r2).length : Int) = 2))) = true := by
            rw [decide_eq_false (by simp only [List.length_cons]; omega)]
            rfl
          refine ⟨rfl, aF ?_⟩
          show aIte (!(decide (((a :: b :: c :: r2).length : Int) = 2))) _ _
          rw [e3]
          exact aT (bad rfl)
      | lst es2 =>
        rcases es2 with _ | ⟨a, _ | ⟨b, _ | ⟨c, r2⟩⟩⟩
        · exact ⟨rfl, aF (aT (bad rfl))⟩
        · exact ⟨rfl, aF (aT (bad rfl))⟩
        · obtain ⟨ta, tb⟩ := hm.2 a b rfl
          have nono : (reach a && reach b) = false → cornP (.lst [a, b]) = none := fun z => by
            unfold cornP
            split
            · rename_i x y e1
              have e2 : (a, b) = (D.int x, D.int y) := Option.some.inj e1
              cases e2
              rw [if_neg (by rw [z]; exact Bool.false_ne_true)]
            · rfl
          refine ⟨rfl, aF (aF (num_step ta (fun z => bad (nono (by rw [z]; rfl))) fun ra => num_step tb (fun z => bad (nono (by rw [z, ra]; rfl))) fun rb => ?_))⟩
          obtain ⟨x, rfl⟩ := reach_int ra
          obtain ⟨y, rfl⟩ := reach_int rb
          have ec : cornP (.lst [.int x, .int y]) = some (x, y) := by
            show (if (reach (.int x) && reach (.int y)) = true then some (x, y) else none) = _
            rw [ra, rb]
            rfl
          exact ih _ _ ⟨rfl, us ++ [.lst [.int x, .int y]], r, ps ++ [(x, y)], _, _, by rw [e0, List.append_assoc]; rfl, rfl, ptsD_snoc ec e2, rfl⟩
        · have e3 : (!(decide (((a :: b :: c :: r2).length : Int) = 2))) = true := by
            rw [decide_eq_false (by simp only [List.length_cons]; omega)]
            rfl
          refine ⟨rfl, aF ?_⟩
          show aIte (!(decide (((a :: b :: c :: r2).length : Int) = 2))) _ _
          rw [e3]
          exact aT (bad rfl)
      | _ => exact hm.1.elim
    · rintro _ m ⟨rfl, us, vs, ps, y1, y2, e0, e1, e2, rfl⟩
      subst e1
      rw [List.append_nil] at e0
      subst e0
      have hform : ∀ b, sidesOk ps = b → form (.tup es) = if b = true then some ps else none := fun b hb => by
        unfold form
        show (if 3 ≤ es.length ∧ es.length ≤ 8 then (match ptsD es with | some cs => if sidesOk cs = true then some cs else none | none => none) else none) = _
        rw [if_pos ⟨h3, h8⟩, e2]
        show (if sidesOk ps = true then some ps else none) = _
        rw [hb]
      obtain ⟨hlen, hok⟩ := ptsD_ok e2
      refine ⟨by omega, ?_⟩
      have hz := ptsD_zip e2
      have hmap : (es.zip ps).map (fun x => x.1) = es := List.map_fst_zip (by omega)
      have hmap2 : (es.zip ps).map (fun x => pt x.2) = ps.map pt := by
        rw [show (fun x : D × Pt => pt x.2) = pt ∘ fun x => x.2 from rfl, ← List.map_map, List.map_snd_zip (by omega)]
      refine aLc_maps2 (fun x : D × Pt => x.1) (fun x => pt x.2) (es.zip ps) hmap hmap2 (fun x hx Kn L k => ?_) ?_
      · rcases cornP_cases (hz x hx) with e | e
        · rw [e]
          exact aT k
        · rw [e]
          exact aT k
      have hl : (ps.map pt).length = ps.length := List.length_map _
      have hB : ∀ p ∈ ps, PtB p := fun p hp => by
        have h := hok p hp
        unfold PtR Bd at h
        unfold PtB
        omega
      refine aFor_ind (fun ds ρ m' => m' = m ∧ ∃ (k : Nat) (y5 y6 y7 y8 y9 : Option D), ρ = [some (.tup es), y1, y2, some (.lst (ps.map pt)), some (.int (((ps.map pt).length : Nat) : Int)), y5, y6, y7, y8, y9] ∧ ds = enumD k ((ps.drop k).map pt) ∧ ∀ i x, i < k → (zpE ps)[i]? = some x → sdE ps x = true) ?_ ?_ ⟨rfl, 0, none, none, none, none, none, rfl, rfl, fun i x hi => absurd hi (Nat.not_lt_zero _)⟩
      · rintro d' r' _ m' ⟨rfl, k, y5, y6, y7, y8, y9, rfl, e3, hall⟩ ih
        obtain ⟨a, ha, rfl, rfl⟩ := enum_cons e3.symm
        obtain ⟨b, hb, hz2, hne⟩ := zp_at ha (by omega)
        have hat : atI (ps.map pt) (((k : Int) + 1) % ((ps.map pt).length : Int)) = some (pt b) := by
          have e1 : ((k : Int) + 1) % ((ps.map pt).length : Int) = (((k + 1) % ps.length : Nat) : Int) := by rw [List.length_map]; simp
          rw [e1]
          exact atI_nat (by rw [List.getElem?_map, hb]; rfl)
        have hab := sd_iff ha hb hne
        refine ⟨by rw [hl]; omega, aIx_lst hat ?_⟩
        refine aFor_ind (fun ds ρ m2 => m2 = m' ∧ ∃ (j : Nat) (y8 y9 : Option D), ρ = [some (.tup es), y1, y2, some (.lst (ps.map pt)), some (.int (((ps.map pt).length : Nat) : Int)), some (.int (k : Nat)), some (pt a), some (pt b), y8, y9] ∧ ds = enumD j ((ps.drop j).map pt) ∧ ∀ i c, i < j → ps[i]? = some c → i ≠ k → i ≠ (k + 1) % ps.length → 0 < leftI a b c) ?_ ?_ ⟨rfl, 0, y8, y9, rfl, rfl, fun i c hi => absurd hi (Nat.not_lt_zero _)⟩
        · rintro d2 r2 _ m2 ⟨rfl, j, y8, y9, rfl, e4, hj⟩ ih2
          obtain ⟨c, hc, rfl, rfl⟩ := enum_cons e4.symm
          have next : (j ≠ k → j ≠ (k + 1) % ps.length → 0 < leftI a b c) → ∀ i c', i < j + 1 → ps[i]? = some c' → i ≠ k → i ≠ (k + 1) % ps.length → 0 < leftI a b c' := fun z i c' hi hi2 n1 n2 => by
            rcases Nat.lt_or_ge i j with h | h
            · exact hj i c' h hi2 n1 n2
            · have : i = j := by omega
              subst this
              rw [hc] at hi2
              cases hi2
              exact z n1 n2
          refine nIte (fun n1 => ?_) fun n1 => aF (ih2 _ _ ⟨rfl, j + 1, _, _, rfl, rfl, next fun z => absurd (by omega) z⟩)
          refine ⟨by rw [hl]; omega, ?_⟩
          have e1 : ((k : Int) + 1) % ((ps.map pt).length : Int) = (((k + 1) % ps.length : Nat) : Int) := by rw [List.length_map]; simp
          show aIte (!(decide ((j : Int) = ((k : Int) + 1) % ((ps.map pt).length : Int)))) _ _
          rw [e1]
          refine nIte (fun n2 => ?_) fun n2 => aF (ih2 _ _ ⟨rfl, j + 1, _, _, rfl, rfl, next fun _ z => absurd (by omega) z⟩)
          refine ⟨a, b, c, rfl, hB a (List.mem_of_getElem? ha), hB b (List.mem_of_getElem? hb), hB c (List.mem_of_getElem? hc), ?_⟩
          refine dIte (fun e => hno ?_) fun e => ih2 _ _ ⟨rfl, j + 1, _, _, rfl, rfl, next fun _ _ => by omega⟩
          rw [hform false]
          · rfl
          · refine Bool.eq_false_iff.mpr fun z => ?_
            have := hab.mp (List.all_eq_true.mp z _ (List.mem_of_getElem? hz2)) j c hc (by omega) (by omega)
            omega
        · rintro _ m2 ⟨rfl, j, y8, y9, rfl, e4, hj⟩
          have hle := enum_nil e4.symm
          refine ih _ _ ⟨rfl, k + 1, _, _, _, _, _, rfl, rfl, fun i x hi hx => ?_⟩
          rcases Nat.lt_or_ge i k with h | h
          · exact hall i x h hx
          · have : i = k := by omega
            subst this
            rw [hz2] at hx
            cases hx
            exact hab.mpr fun j' c hc n1 n2 => hj j' c (by obtain ⟨z, _⟩ := List.getElem?_eq_some_iff.mp hc; omega) hc n1 n2
      · rintro _ m' ⟨rfl, k, y5, y6, y7, y8, y9, rfl, e3, hall⟩
        have hle := enum_nil e3.symm
        have hso : sidesOk ps = true := List.all_eq_true.mpr fun x hx => by
          obtain ⟨i, hi⟩ := List.getElem?_of_mem hx
          obtain ⟨hi2, _⟩ := List.getElem?_eq_some_iff.mp hi
          have : (zpE ps).length ≤ ps.length := by
            unfold zpE
            rw [List.length_zip]
            omega
          exact hall i x (by omega) hi
        have q2 := fun rs => q ps rs (by rw [hform true hso]; rfl)
        refine ⟨_, rfl, _, 1, rfl, fun z => ?_, by decide, fun e he => ?_, fun e he e' he' => ?_, fun e he hm => ?_⟩
        · have := congrArg List.length z
          rw [hl] at this
          simp at this
          rw [this] at hlen
          simp at hlen
          omega
        · obtain ⟨p, _, rfl⟩ := List.mem_map.mp he
          exact pt_kd p
        · obtain ⟨p, _, rfl⟩ := List.mem_map.mp he
          obtain ⟨p', _, rfl⟩ := List.mem_map.mp he'
          exact shp2 (shp_n _ _ _) (shp_n _ _ _)
        obtain ⟨p, hp, rfl⟩ := List.mem_map.mp he
        obtain ⟨j', z, g1, g2, g3⟩ := anyD_idx (ds := ps.map pt) (d := pt p) (mem_anyD he (by rw [pt_eqv]; simp))
        have hj : j' < ps.length := by
          obtain ⟨h, _⟩ := List.getElem?_eq_some_iff.mp g1
          simpa using h
        refine ⟨j', z, pt_pld _ _, g1, g2, g3, ?_⟩
        have f1 : cutL (ps.map pt) (some (j' : Int)) none = (ps.drop j').map pt := by rw [cut_fr (by rw [List.length_map]; omega), List.map_drop]
        have f2 : cutL (ps.map pt) none (some (j' : Int)) = (ps.take j').map pt := by rw [cut_to (by rw [List.length_map]; omega), List.map_take]
        have gv : ps[j']? = some p := by
          rw [List.getElem?_map] at g1
          obtain ⟨v, v1, rfl⟩ := Option.map_eq_some_iff.mp g1
          rw [pt_eqv] at g2
          rw [v1, of_decide_eq_true g2]
        refine ⟨by rw [f1, f2]; simp; omega, ?_⟩
        rw [f1, f2, ← List.map_append]
        refine q2 _ ⟨j', p, gv, fun x hx => pt_lt (hm (pt x) (List.mem_map_of_mem hx)), fun i hi em => ?_, rfl⟩
        have g := g3 i (pt p) hi (by rw [List.getElem?_map, em]; rfl)
        rw [pt_eqv] at g
        simp at g
  | lst es =>
    refine ⟨rfl, aF ?_⟩
    by_cases h3 : 3 ≤ es.length
    rotate_left
    · refine dIte (fun _ => aT (hno ?_)) fun e => absurd (show (es.length : Int) < 3 by omega) e
      unfold form
      exact if_neg fun z => h3 z.1
    refine dIte (fun e => absurd e (by omega)) fun _ => ?_
    by_cases h8 : es.length ≤ 8
    rotate_left
    · refine dIte (fun _ => hno ?_) fun e => absurd (show (8 : Int) < es.length by omega) e
      unfold form
      exact if_neg fun z => h8 z.2
    refine dIte (fun e => absurd e (by omega)) fun _ => ?_
    refine aFor_ind (fun ds ρ m => m = n ∧ ∃ (us vs : List D) (ps : List Pt) (y1 y2 : Option D), es = us ++ vs ∧ ds = vs ∧ ptsD us = some ps ∧ ρ = [some (.lst es), y1, y2, none, none, none, none, none, none, none]) ?_ ?_ ⟨rfl, [], es, [], none, none, rfl, rfl, rfl, rfl⟩
    · rintro e r _ m ⟨rfl, us, vs, ps, y1, y2, e0, e1, e2, rfl⟩ ih
      subst e1
      have hm := h2 es rfl e (by rw [e0]; exact List.mem_append_right _ List.mem_cons_self)
      have bad : cornP e = none → Q .non m := fun z => hno (by
        unfold form
        show (if 3 ≤ es.length ∧ es.length ≤ 8 then (match ptsD es with | some cs => if sidesOk cs = true then some cs else none | none => none) else none) = none
        rw [e0, ptsD_none z]
        split <;> rfl)
      cases e with
      | int i => exact ⟨rfl, aT (aT (bad rfl))⟩
      | bl b => exact ⟨rfl, aT (aT (bad rfl))⟩
      | non => exact ⟨rfl, aT (aT (bad rfl))⟩
      | str z => exact ⟨rfl, aT (aT (bad rfl))⟩
      | dic ks ds => exact ⟨rfl, aT (aT (bad rfl))⟩
      | tup es2 =>
        rcases es2 with _ | ⟨a, _ | ⟨b, _ | ⟨c, r2⟩⟩⟩
        · exact ⟨rfl, aF (aT (bad rfl))⟩
        · exact ⟨rfl, aF (aT (bad rfl))⟩
        · obtain ⟨ta, tb⟩ := hm.2 a b rfl
          have nono : (reach a && reach b) = false → cornP (.tup [a, b]) = none := fun z => by
            unfold cornP
            split
            · rename_i x y e1
              have e2 : (a, b) = (D.int x, D.int y) := Option.some.inj e1
              cases e2
              rw [if_neg (by rw [z]; exact Bool.false_ne_true)]
            · rfl
          refine ⟨rfl, aF (aF (num_step ta (fun z => bad (nono (by rw [z]; rfl))) fun ra => num_step tb (fun z => bad (nono (by rw [z, ra]; rfl))) fun rb => ?_))⟩
          obtain ⟨x, rfl⟩ := reach_int ra
          obtain ⟨y, rfl⟩ := reach_int rb
          have ec : cornP (.tup [.int x, .int y]) = some (x, y) := by
            show (if (reach (.int x) && reach (.int y)) = true then some (x, y) else none) = _
            rw [ra, rb]
            rfl
          exact ih _ _ ⟨rfl, us ++ [.tup [.int x, .int y]], r, ps ++ [(x, y)], _, _, by rw [e0, List.append_assoc]; rfl, rfl, ptsD_snoc ec e2, rfl⟩
        · have e3 : (!(decide (((a :: b :: c :: r2).length : Int) = 2))) = true := by
            rw [decide_eq_false (by simp only [List.length_cons]; omega)]
            rfl
          refine ⟨rfl, aF ?_⟩
          show aIte (!(decide (((a :: b :: c :: r2).length : Int) = 2))) _ _
          rw [e3]
          exact aT (bad rfl)
      | lst es2 =>
        rcases es2 with _ | ⟨a, _ | ⟨b, _ | ⟨c, r2⟩⟩⟩
        · exact ⟨rfl, aF (aT (bad rfl))⟩
        · exact ⟨rfl, aF (aT (bad rfl))⟩
        · obtain ⟨ta, tb⟩ := hm.2 a b rfl
          have nono : (reach a && reach b) = false → cornP (.lst [a, b]) = none := fun z => by
            unfold cornP
            split
            · rename_i x y e1
              have e2 : (a, b) = (D.int x, D.int y) := Option.some.inj e1
              cases e2
              rw [if_neg (by rw [z]; exact Bool.false_ne_true)]
            · rfl
          refine ⟨rfl, aF (aF (num_step ta (fun z => bad (nono (by rw [z]; rfl))) fun ra => num_step tb (fun z => bad (nono (by rw [z, ra]; rfl))) fun rb => ?_))⟩
          obtain ⟨x, rfl⟩ := reach_int ra
          obtain ⟨y, rfl⟩ := reach_int rb
          have ec : cornP (.lst [.int x, .int y]) = some (x, y) := by
            show (if (reach (.int x) && reach (.int y)) = true then some (x, y) else none) = _
            rw [ra, rb]
            rfl
          exact ih _ _ ⟨rfl, us ++ [.lst [.int x, .int y]], r, ps ++ [(x, y)], _, _, by rw [e0, List.append_assoc]; rfl, rfl, ptsD_snoc ec e2, rfl⟩
        · have e3 : (!(decide (((a :: b :: c :: r2).length : Int) = 2))) = true := by
            rw [decide_eq_false (by simp only [List.length_cons]; omega)]
            rfl
          refine ⟨rfl, aF ?_⟩
          show aIte (!(decide (((a :: b :: c :: r2).length : Int) = 2))) _ _
          rw [e3]
          exact aT (bad rfl)
      | _ => exact hm.1.elim
    · rintro _ m ⟨rfl, us, vs, ps, y1, y2, e0, e1, e2, rfl⟩
      subst e1
      rw [List.append_nil] at e0
      subst e0
      have hform : ∀ b, sidesOk ps = b → form (.lst es) = if b = true then some ps else none := fun b hb => by
        unfold form
        show (if 3 ≤ es.length ∧ es.length ≤ 8 then (match ptsD es with | some cs => if sidesOk cs = true then some cs else none | none => none) else none) = _
        rw [if_pos ⟨h3, h8⟩, e2]
        show (if sidesOk ps = true then some ps else none) = _
        rw [hb]
      obtain ⟨hlen, hok⟩ := ptsD_ok e2
      refine ⟨by omega, ?_⟩
      have hz := ptsD_zip e2
      have hmap : (es.zip ps).map (fun x => x.1) = es := List.map_fst_zip (by omega)
      have hmap2 : (es.zip ps).map (fun x => pt x.2) = ps.map pt := by
        rw [show (fun x : D × Pt => pt x.2) = pt ∘ fun x => x.2 from rfl, ← List.map_map, List.map_snd_zip (by omega)]
      refine aLc_maps2 (fun x : D × Pt => x.1) (fun x => pt x.2) (es.zip ps) hmap hmap2 (fun x hx Kn L k => ?_) ?_
      · rcases cornP_cases (hz x hx) with e | e
        · rw [e]
          exact aT k
        · rw [e]
          exact aT k
      have hl : (ps.map pt).length = ps.length := List.length_map _
      have hB : ∀ p ∈ ps, PtB p := fun p hp => by
        have h := hok p hp
        unfold PtR Bd at h
        unfold PtB
        omega
      refine aFor_ind (fun ds ρ m' => m' = m ∧ ∃ (k : Nat) (y5 y6 y7 y8 y9 : Option D), ρ = [some (.lst es), y1, y2, some (.lst (ps.map pt)), some (.int (((ps.map pt).length : Nat) : Int)), y5, y6, y7, y8, y9] ∧ ds = enumD k ((ps.drop k).map pt) ∧ ∀ i x, i < k → (zpE ps)[i]? = some x → sdE ps x = true) ?_ ?_ ⟨rfl, 0, none, none, none, none, none, rfl, rfl, fun i x hi => absurd hi (Nat.not_lt_zero _)⟩
      · rintro d' r' _ m' ⟨rfl, k, y5, y6, y7, y8, y9, rfl, e3, hall⟩ ih
        obtain ⟨a, ha, rfl, rfl⟩ := enum_cons e3.symm
        obtain ⟨b, hb, hz2, hne⟩ := zp_at ha (by omega)
        have hat : atI (ps.map pt) (((k : Int) + 1) % ((ps.map pt).length : Int)) = some (pt b) := by
          have e1 : ((k : Int) + 1) % ((ps.map pt).length : Int) = (((k + 1) % ps.length : Nat) : Int) := by rw [List.length_map]; simp
          rw [e1]
          exact atI_nat (by rw [List.getElem?_map, hb]; rfl)
        have hab := sd_iff ha hb hne
        refine ⟨by rw [hl]; omega, aIx_lst hat ?_⟩
        refine aFor_ind (fun ds ρ m2 => m2 = m' ∧ ∃ (j : Nat) (y8 y9 : Option D), ρ = [some (.lst es), y1, y2, some (.lst (ps.map pt)), some (.int (((ps.map pt).length : Nat) : Int)), some (.int (k : Nat)), some (pt a), some (pt b), y8, y9] ∧ ds = enumD j ((ps.drop j).map pt) ∧ ∀ i c, i < j → ps[i]? = some c → i ≠ k → i ≠ (k + 1) % ps.length → 0 < leftI a b c) ?_ ?_ ⟨rfl, 0, y8, y9, rfl, rfl, fun i c hi => absurd hi (Nat.not_lt_zero _)⟩
        · rintro d2 r2 _ m2 ⟨rfl, j, y8, y9, rfl, e4, hj⟩ ih2
          obtain ⟨c, hc, rfl, rfl⟩ := enum_cons e4.symm
          have next : (j ≠ k → j ≠ (k + 1) % ps.length → 0 < leftI a b c) → ∀ i c', i < j + 1 → ps[i]? = some c' → i ≠ k → i ≠ (k + 1) % ps.length → 0 < leftI a b c' := fun z i c' hi hi2 n1 n2 => by
            rcases Nat.lt_or_ge i j with h | h
            · exact hj i c' h hi2 n1 n2
            · have : i = j := by omega
              subst this
              rw [hc] at hi2
              cases hi2
              exact z n1 n2
          refine nIte (fun n1 => ?_) fun n1 => aF (ih2 _ _ ⟨rfl, j + 1, _, _, rfl, rfl, next fun z => absurd (by omega) z⟩)
          refine ⟨by rw [hl]; omega, ?_⟩
          have e1 : ((k : Int) + 1) % ((ps.map pt).length : Int) = (((k + 1) % ps.length : Nat) : Int) := by rw [List.length_map]; simp
          show aIte (!(decide ((j : Int) = ((k : Int) + 1) % ((ps.map pt).length : Int)))) _ _
          rw [e1]
          refine nIte (fun n2 => ?_) fun n2 => aF (ih2 _ _ ⟨rfl, j + 1, _, _, rfl, rfl, next fun _ z => absurd (by omega) z⟩)
          refine ⟨a, b, c, rfl, hB a (List.mem_of_getElem? ha), hB b (List.mem_of_getElem? hb), hB c (List.mem_of_getElem? hc), ?_⟩
          refine dIte (fun e => hno ?_) fun e => ih2 _ _ ⟨rfl, j + 1, _, _, rfl, rfl, next fun _ _ => by omega⟩
          rw [hform false]
          · rfl
          · refine Bool.eq_false_iff.mpr fun z => ?_
            have := hab.mp (List.all_eq_true.mp z _ (List.mem_of_getElem? hz2)) j c hc (by omega) (by omega)
            omega
        · rintro _ m2 ⟨rfl, j, y8, y9, rfl, e4, hj⟩
          have hle := enum_nil e4.symm
          refine ih _ _ ⟨rfl, k + 1, _, _, _, _, _, rfl, rfl, fun i x hi hx => ?_⟩
          rcases Nat.lt_or_ge i k with h | h
          · exact hall i x h hx
          · have : i = k := by omega
            subst this
            rw [hz2] at hx
            cases hx
            exact hab.mpr fun j' c hc n1 n2 => hj j' c (by obtain ⟨z, _⟩ := List.getElem?_eq_some_iff.mp hc; omega) hc n1 n2
      · rintro _ m' ⟨rfl, k, y5, y6, y7, y8, y9, rfl, e3, hall⟩
        have hle := enum_nil e3.symm
        have hso : sidesOk ps = true := List.all_eq_true.mpr fun x hx => by
          obtain ⟨i, hi⟩ := List.getElem?_of_mem hx
          obtain ⟨hi2, _⟩ := List.getElem?_eq_some_iff.mp hi
          have : (zpE ps).length ≤ ps.length := by
            unfold zpE
            rw [List.length_zip]
            omega
          exact hall i x (by omega) hi
        have q2 := fun rs => q ps rs (by rw [hform true hso]; rfl)
        refine ⟨_, rfl, _, 1, rfl, fun z => ?_, by decide, fun e he => ?_, fun e he e' he' => ?_, fun e he hm => ?_⟩
        · have := congrArg List.length z
          rw [hl] at this
          simp at this
          rw [this] at hlen
          simp at hlen
          omega
        · obtain ⟨p, _, rfl⟩ := List.mem_map.mp he
          exact pt_kd p
        · obtain ⟨p, _, rfl⟩ := List.mem_map.mp he
          obtain ⟨p', _, rfl⟩ := List.mem_map.mp he'
          exact shp2 (shp_n _ _ _) (shp_n _ _ _)
        obtain ⟨p, hp, rfl⟩ := List.mem_map.mp he
        obtain ⟨j', z, g1, g2, g3⟩ := anyD_idx (ds := ps.map pt) (d := pt p) (mem_anyD he (by rw [pt_eqv]; simp))
        have hj : j' < ps.length := by
          obtain ⟨h, _⟩ := List.getElem?_eq_some_iff.mp g1
          simpa using h
        refine ⟨j', z, pt_pld _ _, g1, g2, g3, ?_⟩
        have f1 : cutL (ps.map pt) (some (j' : Int)) none = (ps.drop j').map pt := by rw [cut_fr (by rw [List.length_map]; omega), List.map_drop]
        have f2 : cutL (ps.map pt) none (some (j' : Int)) = (ps.take j').map pt := by rw [cut_to (by rw [List.length_map]; omega), List.map_take]
        have gv : ps[j']? = some p := by
          rw [List.getElem?_map] at g1
          obtain ⟨v, v1, rfl⟩ := Option.map_eq_some_iff.mp g1
          rw [pt_eqv] at g2
          rw [v1, of_decide_eq_true g2]
        refine ⟨by rw [f1, f2]; simp; omega, ?_⟩
        rw [f1, f2, ← List.map_append]
        refine q2 _ ⟨j', p, gv, fun x hx => pt_lt (hm (pt x) (List.mem_map_of_mem hx)), fun i hi em => ?_, rfl⟩
        have g := g3 i (pt p) hi (by rw [List.getElem?_map, em]; rfl)
        rw [pt_eqv] at g
        simp at g
  | _ => exact h.elim

/-! CUT -/
/-! ### things of any kind -/
/-- what stands as a corner -/
def Nc (d : D) : Prop := Th2 d ∧ Rz 3 700 d
/-- what is handed in as a shape -/
def Gd (d : D) : Prop := Th d ∧ (∀ es, itemsD d = some es → ∀ e ∈ es, Th2 e) ∧ Rz 5 27000 d
theorem th2_tup {ds : List D} (h : ∀ d ∈ ds, Th d) : Th2 (.tup ds) := ⟨trivial, fun a b e => by
  unfold pairD at e
  split at e
  · rename_i a' b' e'
    cases e
    cases e'
    exact ⟨h _ (by simp), h _ (by simp)⟩
  · rename_i e'
    cases e'
  · cases e⟩
theorem th2_lst {ds : List D} (h : ∀ d ∈ ds, Th d) : Th2 (.lst ds) := ⟨trivial, fun a b e => by
  unfold pairD at e
  split at e
  · rename_i e'
    cases e'
  · rename_i a' b' e'
    cases e
    cases e'
    exact ⟨h _ (by simp), h _ (by simp)⟩
  · cases e⟩
theorem th2_pt (p : Pt) : Th2 (pt p) := th2_tup fun d hd => by
  have hd' : d = .int p.1 ∨ d = .int p.2 := by simpa [pt] using hd
  rcases hd' with rfl | rfl <;> trivial
theorem bd_far {i : Int} (h : i.natAbs < 2 ^ 200) : Bd 200 i := h
theorem rz_pt {p : Pt} (h1 : Bd 200 p.1) (h2 : Bd 200 p.2) : Rz 1 404 (pt p) := Rz.tup (w := 201) (fun d hd => by
  have hd' : d = .int p.1 ∨ d = .int p.2 := by simpa [pt] using hd
  rcases hd' with rfl | rfl
  · exact Rz.intS h1
  · exact Rz.intS h2) (by show 2 * 202 ≤ 404; decide)
theorem rz_pl {p : Pt} (h1 : Bd 200 p.1) (h2 : Bd 200 p.2) : Rz 1 404 (.lst [.int p.1, .int p.2]) := Rz.lst (w := 201) (fun d hd => by
  have hd' : d = .int p.1 ∨ d = .int p.2 := by simpa using hd
  rcases hd' with rfl | rfl
  · exact Rz.intS h1
  · exact Rz.intS h2) (by show 2 * 202 ≤ 404; decide)
theorem nc_pt {p : Pt} (h1 : Bd 200 p.1) (h2 : Bd 200 p.2) : Nc (pt p) := ⟨th2_pt p, (rz_pt h1 h2).le (by decide) (by decide)⟩
theorem nc_pl {p : Pt} (h1 : Bd 200 p.1) (h2 : Bd 200 p.2) : Nc (.lst [.int p.1, .int p.2]) := ⟨th2_lst fun d hd => by
  have hd' : d = .int p.1 ∨ d = .int p.2 := by simpa using hd
  rcases hd' with rfl | rfl <;> trivial, (rz_pl h1 h2).le (by decide) (by decide)⟩
theorem gd_tup {es : List D} (h : ∀ e ∈ es, Nc e) (hl : es.length ≤ 38) : Gd (.tup es) := ⟨trivial, fun es' e x hx => by
  cases e
  exact (h x hx).1, (Rz.tup (fun x hx => (h x hx).2) (show es.length * (700 + 1) ≤ 27000 by omega)).le (by decide) (Nat.le_refl _)⟩
theorem gd_lst {es : List D} (h : ∀ e ∈ es, Nc e) (hl : es.length ≤ 38) : Gd (.lst es) := ⟨trivial, fun es' e x hx => by
  cases e
  exact (h x hx).1, (Rz.lst (fun x hx => (h x hx).2) (show es.length * (700 + 1) ≤ 27000 by omega)).le (by decide) (Nat.le_refl _)⟩
theorem bd200 {n i : Int} (h1 : n ≤ 10000000) (h2 : -n ≤ i) (h3 : i ≤ n) : Bd 200 i := by
  unfold Bd
  have e : (10000000 : Nat) < 2 ^ 200 := by decide
  omega
theorem nc_one {d : D} (h : Th d) (h1 : pairD d = none) (r : Rz 3 700 d) : Nc d := ⟨⟨h, fun a b e => by rw [h1] at e; cases e⟩, r⟩
theorem two_mem {a b d : D} (h : d ∈ [a, b]) {p : D → Prop} (h1 : p a) (h2 : p b) : p d := by
  have h' : d = a ∨ d = b := by simpa using h
  rcases h' with rfl | rfl
  · exact h1
  · exact h2
theorem nc_tt {a b : D} (ha : Th a) (hb : Th b) (ra : Rz 2 340 a) (rb : Rz 2 340 b) : Nc (.tup [a, b]) := ⟨th2_tup fun _ hd => two_mem hd ha hb, Rz.tup (fun _ hd => two_mem hd ra rb) (by show 2 * 341 ≤ 700; decide)⟩
theorem nc_ll {a b : D} (ha : Th a) (hb : Th b) (ra : Rz 2 340 a) (rb : Rz 2 340 b) : Nc (.lst [a, b]) := ⟨th2_lst fun _ hd => two_mem hd ha hb, Rz.lst (fun _ hd => two_mem hd ra rb) (by show 2 * 341 ≤ 700; decide)⟩
def crnL (x y : Int) : List D := [.tup [.int x], .tup [.int x, .int y, .int 0], .non, .int x, .str (Str.ofString "00"), .tup [.bl true, .int y], .tup [.int x, .str (Str.ofString "0")], .dic [] [], .lst [], .tup [.tup [.int x], .int y], .tup [.int 1000001, .int y], .tup [.int x, .int (-1000001)],
  .tup [.int x, .int (10 ^ Int.toNat 60)], .lst [.int (-(10 ^ Int.toNat 60)), .int y], .tup [.int x, .bl false], .dic [.inl x] [.int y]]
theorem rz_one {k w m : Nat} {d : D} (h : Rz k w d) (hm : w + 1 ≤ m) : Rz (k + 1) m (.tup [d]) := Rz.tup (fun e he => by rw [List.mem_singleton.mp he]; exact h) (by show 1 * (w + 1) ≤ m; omega)
theorem crn_ok {x y : Int} (hx : Bd 200 x) (hy : Bd 200 y) : ∀ d ∈ crnL x y, Nc d := by
  have ix : Rz 2 340 (.int x) := (Rz.intS hx).le (Nat.le_refl _) (by decide)
  have iy : Rz 2 340 (.int y) := (Rz.intS hy).le (Nat.le_refl _) (by decide)
  have bt : ∀ {b}, Rz 2 340 (.bl b) := Rz.bl
  have far : ∀ {i : Int}, i.natAbs ≤ 10 ^ 60 → Rz 2 340 (.int i) := fun h => (Rz.intS (Nat.lt_of_le_of_lt h (by decide))).le (Nat.le_refl _) (by decide)
  have st : ∀ {z : Str}, PyData.canLay0 (.str z) = true → z.cps.size ≤ 340 → Rz 2 340 (.str z) := fun h1 h2 => Rz.str h1 h2
  intro d hd
  simp only [crnL, List.mem_cons, List.not_mem_nil, or_false] at hd
  rcases hd with rfl | rfl | rfl | rfl | rfl | rfl | rfl | rfl | rfl | rfl | rfl | rfl | rfl | rfl | rfl | rfl
  · exact nc_one trivial rfl (rz_one (ix.le (Nat.le_refl _) (Nat.le_refl _)) (by decide))
  · refine nc_one trivial rfl (Rz.tup (k := 2) (w := 201) (fun e he => ?_) (by show 3 * 202 ≤ 700; decide))
    simp only [List.mem_cons, List.not_mem_nil, or_false] at he
    rcases he with rfl | rfl | rfl
    · exact Rz.intS hx
    · exact Rz.intS hy
    · exact Rz.intS (by unfold Bd; decide)
  · exact nc_one trivial rfl Rz.non
  · exact nc_one trivial rfl (ix.le (by decide) (by decide))
  · exact nc_one trivial rfl (Rz.str (by decide +kernel) (by decide +kernel))
  · exact nc_tt trivial trivial bt iy
  · exact nc_tt trivial trivial ix (st (by decide +kernel) (by decide +kernel))
  · exact nc_one trivial rfl ((Rz.dic (ks := []) (ds := []) (k := 0) (w := 0) (m := 0) rfl (fun _ h => by cases h) (fun _ h => by cases h) (by decide)).le (by decide) (by decide))
  · exact nc_one trivial rfl ((Rz.lst (ds := []) (k := 0) (w := 0) (m := 0) (fun _ h => by cases h) (by decide)).le (by decide) (by decide))
  · exact nc_tt trivial trivial ((rz_one (k := 1) (m := 340) (Rz.intS hx) (by decide))) iy
  · exact nc_tt trivial trivial (far (by decide)) iy
  · exact nc_tt trivial trivial ix (far (by decide))
  · exact nc_tt trivial trivial ix (far (by decide))
  · exact nc_ll trivial trivial (far (by decide)) iy
  · exact nc_tt trivial trivial ix bt
  · exact nc_one trivial rfl ((Rz.dic (ks := [x]) (ds := [.int y]) (k := 0) (w := 201) (m := 404) rfl (fun i h => by rw [List.mem_singleton.mp h]; exact hx) (fun e h => by rw [List.mem_singleton.mp h]; exact Rz.intS hy) (show 1 * (201 + 203) ≤ 404 by decide)).le (by decide) (by decide))
def a_l_no_corner : ASp := fun ds n Q => ∃ x y : Int, ds = [.deck, .int x, .int y] ∧ Bd 200 x ∧ Bd 200 y ∧ 1 ≤ n ∧ ∀ d, Nc d → Q d (n - 1)
theorem ok_l_no_corner (T : Tx K mg A) : FnOk P w K mg base CX0 4 A.f_l_no_corner A.fd_l_no_corner ["_law_deck_here", "_law_x", "_law_y"] (spOf K 3 a_l_no_corner) := by
  refine fn_mir [] 4 rfl (by decide) (by decide) T.F_l_no_corner sc_l_no_corner fun cdv Ar outer s H E hr => ?_
  refine ⟨_, _, (pss_cons (ps_set (i := 3) sc_l_no_corner.nd rfl (.inl rfl) (pe_lst (pa_cons (pe_tup (pa_cons (pv 1) pa_nil)) (pa_cons (pe_tup (pa_cons (pv 1) (pa_cons (pv 2) (pa_cons pe_int pa_nil)))) (pa_cons pe_non (pa_cons (pv 1) (pa_cons pe_str (pa_cons (pe_tup (pa_cons pe_bl (pa_cons (pv 2) pa_nil))) (pa_cons (pe_tup (pa_cons (pv 1) (pa_cons pe_str pa_nil))) (pa_cons pe_dnewK (pa_cons (pe_lst pa_nil) (pa_cons (pe_tup (pa_cons (pe_tup (pa_cons (pv 1) pa_nil)) (pa_cons (pv 2) pa_nil))) (pa_cons (pe_tup (pa_cons pe_int (pa_cons (pv 2) pa_nil))) (pa_cons (pe_tup (pa_cons (pv 1) (pa_cons (pe_un un_neg pe_int) pa_nil))) pa_nil))))))))))))))
    (pss_one (ps_ret (pe_ix (k_ixS (K := K) rfl) (pe_op (k_add (K := K) rfl) (pv 3) (pe_lst (pa_cons (pe_tup (pa_cons (pv 1) (pa_cons (pe_op op_pow pe_int pe_int) pa_nil))) (pa_cons (pe_lst (pa_cons (pe_un un_neg (pe_op op_pow pe_int pe_int)) (pa_cons (pv 2) pa_nil))) (pa_cons (pe_tup (pa_cons (pv 1) (pa_cons pe_bl pa_nil))) (pa_cons (pe_disp (pps_cons (pv 1) (pv 2) pps_nil) (by rfl) (by rfl) (fun z => by cases z) (by decide)) pa_nil)))))) (pe_call (ok_l_take (P := P) (K := K) T) (hr.mono (by decide)) (by rfl) T.g_l_take T.F_l_take.kp T.b_l_take .nil pass0 (pa_cons (pv 0) (pa_cons pe_int pa_nil))) (fun _ _ => rfl))))), by infer_instance, fun ds n Q hl hA => ?_⟩
  obtain ⟨x, y, rfl, hx, hy, hn, q⟩ := hA
  refine ⟨⟨by decide, by decide⟩, ?_⟩
  refine ⟨⟨by decide, by decide⟩, ?_⟩
  refine ⟨show 12 + 4 ≤ 1000000 by decide, 16, rfl, by decide, by decide, by omega, fun r l u => ?_⟩
  obtain ⟨d, hd, hat⟩ := pick_at (xs := crnL x y) l u
  exact aIx_lst hat (q d (crn_ok hx hy d hd))
/-! other things -/
theorem cutL_mem {xs : List D} {l u : Option Int} {d : D} (h : d ∈ cutL xs l u) : d ∈ xs := List.mem_of_mem_drop (List.mem_of_mem_take h)
theorem cutL_len {xs : List D} {l u : Option Int} : (cutL xs l u).length ≤ xs.length := by
  unfold cutL
  rw [List.length_take, List.length_drop]
  omega
theorem nc_map {cs : List Pt} (h : ∀ p ∈ cs, PtM p) : ∀ d ∈ cs.map pt, Nc d := fun d hd => by
  obtain ⟨p, hp, rfl⟩ := List.mem_map.mp hd
  have := h p hp
  unfold PtM at this
  exact nc_pt (bd200 (n := 1000000) (by decide) (by omega) (by omega)) (bd200 (n := 1000000) (by decide) (by omega) (by omega))
theorem rz_cs {cs : List Pt} (h : Cs cs) : Rz 2 6480 (.tup (cs.map pt)) := Rz.tup (k := 1) (w := 404) (fun d hd => by
  obtain ⟨p, hp, rfl⟩ := List.mem_map.mp hd
  have := h.2.2 p hp
  unfold PtM at this
  exact rz_pt (bd200 (n := 1000000) (by decide) (by omega) (by omega)) (bd200 (n := 1000000) (by decide) (by omega) (by omega))) (by have := h.2.1; rw [List.length_map]; omega)
theorem th2_cs {cs : List Pt} : Th2 (.tup (cs.map pt)) := th2_tup fun d hd => by
  obtain ⟨p, _, rfl⟩ := List.mem_map.mp hd
  trivial
theorem numK_map : ∀ i n : Nat, RX.numK i n = ((List.range n).map fun j => ((i + j : Nat) : Int)).map fun i => (Sum.inl i : Key)
  | _, 0 => rfl
  | i, n + 1 => by
    rw [List.range_succ_eq_map]
    show (Sum.inl (i : Int) : Key) :: RX.numK (i + 1) n = _
    rw [numK_map (i + 1) n]
    simp only [List.map_cons, List.map_map, Nat.add_zero]
    congr 1
    refine List.map_congr_left fun j _ => ?_
    show (Sum.inl ((i + 1 + j : Nat) : Int) : Key) = Sum.inl ((i + (j + 1) : Nat) : Int)
    rw [show i + 1 + j = i + (j + 1) by omega]
theorem gd_one {d : D} (h : Th d) (h1 : itemsD d = none) (r : Rz 5 27000 d) : Gd d := ⟨h, (fun es e => by rw [h1] at e; cases e), r⟩
theorem gd_den {cs : List Pt} (h : Cs cs) : Gd (.dic (RX.numK 0 (cs.map pt).length) (cs.map pt)) := by
  refine gd_one trivial rfl ?_
  rw [numK_map]
  refine (Rz.dic (k := 1) (w := 404) (m := 9712) (by simp) (fun i hi => ?_) (fun d hd => ?_) ?_).le (by decide) (by decide)
  · obtain ⟨j, hj, rfl⟩ := List.mem_map.mp hi
    have h1 := h.2.1
    rw [List.length_map, List.mem_range] at hj
    exact bd200 (n := 1000000) (by decide) (by omega) (by omega)
  · obtain ⟨p, hp, rfl⟩ := List.mem_map.mp hd
    have := h.2.2 p hp
    unfold PtM at this
    exact rz_pt (bd200 (n := 1000000) (by decide) (by omega) (by omega)) (bd200 (n := 1000000) (by decide) (by omega) (by omega))
  · have := h.2.1
    rw [List.length_map]
    omega
def nineP : List Pt := [(16, 20), (9, 15), (4, 10), (1, 5), (0, 0), (1, -5), (4, -10), (9, -15), (16, -20)]
def othL (cs : List Pt) : List D := [.lst (nineP.map pt), .lst (cutL (nineP.map pt) (some 1) none), .lst (cutL (nineP.map pt) none (some 8)), .tup (cutL (nineP.map pt) (some 1) none), .non, .int 7, .str (Str.ofString "abc"), .str (Str.ofString ""), .dic [] [], .tup [], .lst [], .bl true, .tup (cutL (cs.map pt) none (some 2)), .tup [.tup (cs.map pt), .tup (cs.map pt)]]
theorem nine_nc : ∀ d ∈ nineP.map pt, Nc d := nc_map fun p hp => by
  unfold PtM
  revert p
  decide
theorem gd_cut {K : List D → D} {xs : List D} {l u : Option Int} (g : ∀ {es : List D}, (∀ e ∈ es, Nc e) → es.length ≤ 38 → Gd (K es)) (h : ∀ d ∈ xs, Nc d) (hl : xs.length ≤ 38) : Gd (K (cutL xs l u)) := g (fun e he => h e (cutL_mem he)) (Nat.le_trans cutL_len hl)
theorem oth_ok {cs : List Pt} (h : Cs cs) : ∀ d ∈ othL cs, Gd d := by
  have nc := nc_map h.2.2
  have h16 := h.2.1
  intro d hd
  simp only [othL, List.mem_cons, List.not_mem_nil, or_false] at hd
  rcases hd with rfl | rfl | rfl | rfl | rfl | rfl | rfl | rfl | rfl | rfl | rfl | rfl | rfl | rfl
  · exact gd_lst nine_nc (by decide)
  · exact gd_cut (K := D.lst) gd_lst nine_nc (by decide)
  · exact gd_cut (K := D.lst) gd_lst nine_nc (by decide)
  · exact gd_cut (K := D.tup) gd_tup nine_nc (by decide)
  · exact gd_one trivial rfl Rz.non
  · exact gd_one trivial rfl ((Rz.intS (by unfold Bd; decide)).le (Nat.le_refl _) (by decide))
  · exact gd_one trivial rfl (Rz.str (by decide +kernel) (by decide +kernel))
  · exact gd_one trivial rfl (Rz.str (by decide +kernel) (by decide +kernel))
  · exact gd_one trivial rfl ((Rz.dic (ks := []) (ds := []) (k := 0) (w := 0) (m := 0) rfl (fun _ h => by cases h) (fun _ h => by cases h) (by decide)).le (by decide) (by decide))
  · exact gd_tup (fun _ h => by cases h) (by decide)
  · exact gd_lst (fun _ h => by cases h) (by decide)
  · exact gd_one trivial rfl Rz.bl
  · exact gd_cut (K := D.tup) gd_tup nc (by rw [List.length_map]; omega)
  · exact ⟨trivial, fun es e x hx => (by cases e; exact two_mem hx th2_cs th2_cs), (Rz.tup (fun x hx => two_mem hx (rz_cs h) (rz_cs h)) (show 2 * (6480 + 1) ≤ 27000 by decide)).le (by decide) (Nat.le_refl _)⟩
def a_l_other : ASp := fun ds n Q => ∃ cs : List Pt, ds = [.deck, .tup (cs.map pt)] ∧ Cs cs ∧ 1 ≤ n ∧ ∀ d, Gd d → Q d (n - 1)
theorem ok_l_other (T : Tx K mg A) : FnOk P w K mg base CX0 4 A.f_l_other A.fd_l_other ["_law_deck_here", "_law_shape_here"] (spOf K 2 a_l_other) := by
  refine fn_mir [] 5 rfl (by decide) (by decide) T.F_l_other sc_l_other fun cdv Ar outer s H E hr => ?_
  refine ⟨_, _, (pss_cons (ps_setLc (i := 2) (own := [("_law_k", 4)]) rfl sc_l_other.nd rfl rfl (sw_true rfl rfl rfl (by decide +kernel)) (pi_range2 (by rfl) T.m_range (pa_cons (pe_un un_neg pe_int) (pa_cons pe_int pa_nil))) (blkOk_by (own := [("_law_k", 4)]) (N := ["_law_deck_here", "_law_shape_here", "_law_nine", "_law_some", "_law_k"]) (sc := defScope s_l_other) (by decide +kernel)) (fun _ _ _ _ _ => (pg_name (i := 4) sc_l_other.nd rfl (Or.inl rfl))) (fun _ _ _ _ _ => pts_nil) (fun _ _ _ _ _ => (pe_tup (pa_cons (pe_op k_mul (pv 4) (pv 4)) (pa_cons (pe_op k_mul (pe_un un_neg pe_int) (pv 4)) pa_nil)))))
    (pss_cons (ps_set (i := 3) sc_l_other.nd rfl (.inl rfl) (pe_lst (pa_cons (pv 2) (pa_cons (pe_slice (k_sl (K := K) rfl) (pv 2) (po_some pe_int) po_none) (pa_cons (pe_slice (k_sl (K := K) rfl) (pv 2) po_none (po_some pe_int)) (pa_cons (pe_callTy (k_tuple (K := K) rfl) (by rfl) T.m_tuple (by decide +kernel) (pa_cons (pe_slice (k_sl (K := K) rfl) (pv 2) (po_some pe_int) po_none) pa_nil)) (pa_cons pe_non (pa_cons pe_int (pa_cons pe_str (pa_cons pe_str (pa_cons pe_dnewK (pa_cons (pe_tup pa_nil) (pa_cons (pe_lst pa_nil) (pa_cons pe_bl (pa_cons (pe_slice (k_slW (K := K) rfl) (pv 1) po_none (po_some pe_int)) (pa_cons (pe_tup (pa_cons (pv 1) (pa_cons (pv 1) pa_nil))) pa_nil))))))))))))))))
    (pss_one (ps_ret (pe_ix (k_ixS (K := K) rfl) (pe_op (k_add (K := K) rfl) (pv 3) (pe_lst (pa_cons (RX.k_den (K := K) rfl rfl (by rfl) T.m_dict (by rfl) T.m_enumerate (pa_cons (pv 1) pa_nil)) (pa_cons (pe_lst (pa_cons (pv 1) pa_nil)) (pa_cons (pe_ix (k_ix (K := K) rfl) (pv 1) pe_int (fun _ _ => rfl)) pa_nil))))) (pe_call (ok_l_take (P := P) (K := K) T) (hr.mono (by decide)) (by rfl) T.g_l_take T.F_l_take.kp T.b_l_take .nil pass0 (pa_cons (pv 0) (pa_cons pe_int pa_nil))) (fun _ _ => rfl)))))), by infer_instance, fun ds n Q hl hA => ?_⟩
  obtain ⟨cs, rfl, hc, hn, q⟩ := hA
  refine ⟨⟨by decide, by decide, by decide, by decide⟩, by rw [rangeD_length]; decide, ?_⟩
  refine aLc_maps2 D.int (fun k => .tup [.int (k * k), .int (-5 * k)]) [-4, -3, -2, -1, 0, 1, 2, 3, 4] rfl (rs := nineP.map pt) rfl (fun k hk Kn L q0 => ?_) ?_
  · have b : Bd 30 k := by
      clear q0
      unfold Bd
      revert k
      decide
    have b5 : Bd 30 (-5 : Int) := by unfold Bd; decide
    exact aT ⟨mulA b b (by decide) (by decide), mulA b5 b (by decide) (by decide), q0⟩
  have h3 := hc.1
  obtain ⟨c0, cr, ec⟩ : ∃ c0 cr, cs = c0 :: cr := by
    cases cs with
    | nil => simp at h3
    | cons c0 cr => exact ⟨c0, cr, rfl⟩
  have m0 := hc.2.2 c0 (by rw [ec]; exact List.mem_cons_self)
  unfold PtM at m0
  have g0 : Gd (pt c0) := gd_tup (es := [.int c0.1, .int c0.2]) (fun e he => two_mem he (nc_one trivial rfl ((Rz.intS (bd200 (n := 1000000) (by decide) (by omega) (by omega))).le (Nat.le_refl _) (by decide))) (nc_one trivial rfl ((Rz.intS (bd200 (n := 1000000) (by decide) (by omega) (by omega))).le (Nat.le_refl _) (by decide)))) (show 2 ≤ 38 by decide)
  have a0 : atI (cs.map pt) 0 = some (pt c0) := by rw [ec]; exact atI_nat (j := 0) rfl
  have g1 : Gd (.lst [.tup (cs.map pt)]) := ⟨trivial, fun es e x hx => (by cases e; rw [List.mem_singleton.mp hx]; exact th2_cs), (Rz.lst (fun x hx => by rw [List.mem_singleton.mp hx]; exact rz_cs hc) (show 1 * (6480 + 1) ≤ 27000 by decide)).le (by decide) (Nat.le_refl _)⟩
  conv => whnf
  rw [a0]
  refine ⟨show 14 + 3 ≤ 1000000 by decide, 17, rfl, by decide, by decide, by omega, fun r l u => ?_⟩
  obtain ⟨d, hd, hat⟩ := pick_at (xs := othL cs ++ [.dic (RX.numK 0 (cs.map pt).length) (cs.map pt), .lst [.tup (cs.map pt)], pt c0]) l u
  refine aIx_lst hat (q d ?_)
  rcases List.mem_append.mp hd with hd | hd
  · exact oth_ok hc d hd
  · simp only [List.mem_cons, List.not_mem_nil, or_false] at hd
    rcases hd with rfl | rfl | rfl
    · exact gd_den hc
    · exact g1
    · exact g0
/-! bent -/
def Hc (d : D) : Prop := ∃ p : Pt, PtM p ∧ (d = pt p ∨ d = .lst [.int p.1, .int p.2])
theorem Hc.nc {d : D} (h : Hc d) : Nc d := by
  obtain ⟨p, hp, h⟩ := h
  unfold PtM at hp
  have b1 : Bd 200 p.1 := bd200 (n := 1000000) (by decide) (by omega) (by omega)
  have b2 : Bd 200 p.2 := bd200 (n := 1000000) (by decide) (by omega) (by omega)
  rcases h with rfl | rfl
  · exact nc_pt b1 b2
  · exact nc_pl b1 b2
def a_l_bent : ASp := fun ds n Q => ∃ (kind : Int) (hs : List D), ds = [.deck, .int kind, .lst hs] ∧ (∀ d ∈ hs, Hc d) ∧ 3 ≤ hs.length ∧ hs.length ≤ 16 ∧ 10 ≤ n ∧ ∀ es n', (∀ e ∈ es, Nc e) → es.length ≤ 38 → n ≤ n' + 3 → Q (.lst es) n'
theorem ok_l_bent (T : Tx K mg A) : FnOk P w K mg base CX0 5 A.f_l_bent A.fd_l_bent ["_law_deck_here", "_law_kind", "_law_handed"] (spOf K 3 a_l_bent) := by
  refine fn_mir [] 8 rfl (by decide) (by decide) T.F_l_bent sc_l_bent fun cdv Ar outer s H E hr => ?_
  refine ⟨_, _, (pss_cons (ps_set (i := 3) sc_l_bent.nd rfl (.inl rfl) (pe_call (ok_l_take (P := P) (K := K) T) (hr.mono (by decide)) (by rfl) T.g_l_take T.F_l_take.kp T.b_l_take .nil pass0 (pa_cons (pv 0) (pa_cons (pe_callB (k_len (K := K) rfl) (by rfl) T.m_len (by decide +kernel) (pa_cons (pv 2) pa_nil)) pa_nil))))
    (pss_cons (ps_asg (pe_ix (k_ixS (K := K) rfl) (pv 2) (pv 3) (fun _ _ => rfl)) (k_gtup (K := K) (m := 2) rfl rfl (pgs_cons (pg_name (i := 4) sc_l_bent.nd rfl (.inl rfl)) (pgs_cons (pg_name (i := 5) sc_l_bent.nd rfl (.inl rfl)) pgs_nil))))
    (pss_cons (ps_asg (pe_ix (k_ixS (K := K) rfl) (pv 2) (pe_op op_sub (pv 3) pe_int) (fun _ _ => rfl)) (k_gtup (K := K) (m := 2) rfl rfl (pgs_cons (pg_name (i := 6) sc_l_bent.nd rfl (.inl rfl)) (pgs_cons (pg_name (i := 7) sc_l_bent.nd rfl (.inl rfl)) pgs_nil))))
    (pss_cons (ps_if (pt_cmpR (k_eq (K := K) rfl hr.units) (pv 1) pe_int (nomark _))
      (pss_one (ps_ret (k_rev (K := K) rfl (pv 2))))
      pss_nil)
    (pss_cons (ps_if (pt_cmpR (k_eq (K := K) rfl hr.units) (pv 1) pe_int (nomark _))
      (pss_one (ps_ret (pe_op (k_add (K := K) rfl) (pe_op (k_add (K := K) rfl) (pe_slice (k_sl (K := K) rfl) (pv 2) po_none (po_some (pv 3))) (pe_lst (pa_cons (pe_tup (pa_cons (pe_op op_sub (pe_op (k_add (K := K) rfl) (pv 4) (pe_call (ok_l_take (P := P) (K := K) T) (hr.mono (by decide)) (by rfl) T.g_l_take T.F_l_take.kp T.b_l_take .nil pass0 (pa_cons (pv 0) (pa_cons pe_int pa_nil)))) pe_int) (pa_cons (pe_op op_sub (pe_op (k_add (K := K) rfl) (pv 5) (pe_call (ok_l_take (P := P) (K := K) T) (hr.mono (by decide)) (by rfl) T.g_l_take T.F_l_take.kp T.b_l_take .nil pass0 (pa_cons (pv 0) (pa_cons pe_int pa_nil)))) pe_int) pa_nil))) pa_nil))) (pe_slice (k_sl (K := K) rfl) (pv 2) (po_some (pe_op (k_add (K := K) rfl) (pv 3) pe_int)) po_none))))
      pss_nil)
    (pss_cons (ps_if (pt_cmpR (k_eq (K := K) rfl hr.units) (pv 1) pe_int (nomark _))
      (pss_one (ps_ret (pe_op (k_add (K := K) rfl) (pe_op (k_add (K := K) rfl) (pe_slice (k_sl (K := K) rfl) (pv 2) po_none (po_some (pv 3))) (pe_lst (pa_cons (pe_tup (pa_cons (pe_op k_fdiv (pe_op (k_add (K := K) rfl) (pv 4) (pv 6)) pe_int) (pa_cons (pe_op k_fdiv (pe_op (k_add (K := K) rfl) (pv 5) (pv 7)) pe_int) pa_nil))) pa_nil))) (pe_slice (k_sl (K := K) rfl) (pv 2) (po_some (pv 3)) po_none))))
      pss_nil)
    (pss_cons (ps_if (pt_cmpR (k_eq (K := K) rfl hr.units) (pv 1) pe_int (nomark _))
      (pss_one (ps_ret (pe_op (k_add (K := K) rfl) (pe_op (k_add (K := K) rfl) (pe_slice (k_sl (K := K) rfl) (pv 2) po_none (po_some (pv 3))) (pe_lst (pa_cons (pe_tup (pa_cons (pv 4) (pa_cons (pv 5) pa_nil))) pa_nil))) (pe_slice (k_sl (K := K) rfl) (pv 2) (po_some (pv 3)) po_none))))
      pss_nil)
    (pss_cons (ps_if (pt_cmpR (k_eq (K := K) rfl hr.units) (pv 1) pe_int (nomark _))
      (pss_one (ps_ret (pe_op (k_add (K := K) rfl) (pe_slice (k_sl (K := K) rfl) (pv 2) po_none (po_some (pv 3))) (pe_slice (k_sl (K := K) rfl) (pv 2) (po_some (pe_op (k_add (K := K) rfl) (pv 3) pe_int)) po_none))))
      pss_nil)
    (pss_cons (ps_if (pt_cmpR (k_eq (K := K) rfl hr.units) (pv 1) pe_int (nomark _))
      (pss_one (ps_ret (pe_op (k_add (K := K) rfl) (pe_op (k_add (K := K) rfl) (pe_slice (k_sl (K := K) rfl) (pv 2) po_none (po_some (pv 3))) (pe_lst (pa_cons (pe_call (ok_l_no_corner (P := P) (K := K) T) (hr.mono (by decide)) (by rfl) T.g_l_no_corner T.F_l_no_corner.kp T.b_l_no_corner .nil pass0 (pa_cons (pv 0) (pa_cons (pv 4) (pa_cons (pv 5) pa_nil)))) pa_nil))) (pe_slice (k_sl (K := K) rfl) (pv 2) (po_some (pe_op (k_add (K := K) rfl) (pv 3) pe_int)) po_none))))
      pss_nil)
    (pss_cons (ps_if (pt_cmpR (k_eq (K := K) rfl hr.units) (pv 1) pe_int (nomark _))
      (pss_one (ps_ret (pe_op (k_add (K := K) rfl) (k_stp0 (K := K) rfl (by decide) (pv 2)) (k_stp1 (K := K) rfl (by decide) (pv 2)))))
      pss_nil)
    (pss_one (ps_ret (pe_op (k_add (K := K) rfl) (pe_op (k_add (K := K) rfl) (pe_op (k_add (K := K) rfl) (pe_slice (k_sl (K := K) rfl) (pv 2) po_none (po_some (pv 3))) (pe_slice (k_sl (K := K) rfl) (pv 2) (po_some (pe_op (k_add (K := K) rfl) (pv 3) pe_int)) (po_some (pe_op (k_add (K := K) rfl) (pv 3) pe_int)))) (pe_lst (pa_cons (pe_tup (pa_cons (pv 4) (pa_cons (pv 5) pa_nil))) pa_nil))) (pe_slice (k_sl (K := K) rfl) (pv 2) (po_some (pe_op (k_add (K := K) rfl) (pv 3) pe_int)) po_none)))))))))))))), by infer_instance, fun ds n Q hl hA => ?_⟩
  obtain ⟨kind, hs, rfl, hh, h3, h16, hn, q⟩ := hA
  refine ⟨(hs.length : Int), rfl, by omega, small_log (by omega) (by omega), by omega, fun j lj uj => ?_⟩
  obtain ⟨d1, hd1, hat1⟩ := pick_at lj uj
  refine aIx_lst hat1 ?_
  have hn1 : ∀ d ∈ hs, Nc d := fun d hd => (hh d hd).nc
  obtain ⟨p, hp, e1⟩ := hh d1 hd1
  obtain ⟨d2, hd2, hat2⟩ : ∃ d2 ∈ hs, atI hs (j - 1) = some d2 := by
    by_cases hj : j = 0
    · subst hj
      have : (hs.length - 1) < hs.length := by omega
      refine ⟨hs[hs.length - 1], List.getElem_mem _, ?_⟩
      unfold atI ixN
      rw [if_neg (by omega), if_pos (by omega)]
      show hs[((0 : Int) - 1 + (hs.length : Int)).toNat]? = _
      rw [show ((0 : Int) - 1 + (hs.length : Int)).toNat = hs.length - 1 by omega]
      exact List.getElem?_eq_getElem this
    · exact pick_at (by omega) (by omega)
  obtain ⟨p2, hp2, e2⟩ := hh d2 hd2
  unfold PtM at hp hp2
  have two : ∀ x y : Int, -3000000 ≤ x → x ≤ 3000000 → -3000000 ≤ y → y ≤ 3000000 → ∀ e ∈ [D.tup [.int x, .int y]], Nc e := fun x y a b c d e he => by
    rw [List.mem_singleton.mp he]
    exact nc_pt (p := (x, y)) (bd200 (n := 3000000) (by decide) (by omega) (by omega)) (bd200 (n := 3000000) (by decide) (by omega) (by omega))
  have cutm : ∀ l u, ∀ e ∈ cutL hs l u, Nc e := fun l u e he => hn1 e (cutL_mem he)
  have cutn : ∀ l u, (cutL hs l u).length ≤ 16 := fun l u => Nat.le_trans cutL_len h16
  have cut2 : (cutL hs none (some j)).length + (cutL hs (some (j + 2)) none).length ≤ 16 := by
    have e1 : HT.sIx hs.length hs.length (some j) = min j.toNat hs.length := by
      show (if j < 0 then (j + (hs.length : Int)).toNat else min j.toNat hs.length) = _
      rw [if_neg (by omega)]
    have e2 : HT.sIx hs.length 0 (some (j + 2)) = min (j + 2).toNat hs.length := by
      show (if j + 2 < 0 then (j + 2 + (hs.length : Int)).toNat else min (j + 2).toNat hs.length) = _
      rw [if_neg (by omega)]
    unfold cutL
    rw [HT.sIx_none, HT.sIx_none, e1, e2, List.length_take, List.length_take, List.length_drop, List.length_drop]
    omega
  have app : ∀ {a b : List D}, (∀ e ∈ a, Nc e) → (∀ e ∈ b, Nc e) → ∀ e ∈ a ++ b, Nc e := fun ha hb e he => (List.mem_append.mp he).elim (ha e) (hb e)
  rcases e1 with rfl | rfl <;> refine aIx_lst hat2 ?_ <;> rcases e2 with rfl | rfl
  all_goals
    refine dIte (fun _ => ?_) fun _ => dIte (fun _ => ?_) fun _ => dIte (fun _ => ?_) fun _ => dIte (fun _ => ?_) fun _ => dIte (fun _ => ?_) fun _ => dIte (fun _ => ?_) fun _ => dIte (fun _ => ?_) fun _ => ?_
    · exact q hs.reverse _ (fun e he => hn1 e (List.mem_reverse.mp he)) (by rw [List.length_reverse]; omega) (by omega)
    · refine ⟨3, rfl, by decide, by decide, by omega, fun r1 l1 u1 => ⟨3, rfl, by decide, by decide, by omega, fun r2 l2 u2 => ?_⟩⟩
      have c1 := cutn none (some j)
      have c2 := cutn (some (j + 1)) none
      refine ⟨show (cutL hs none (some j)).length + 1 ≤ 1000000 by omega, show ((cutL hs none (some j)) ++ [D.tup [.int (p.1 + r1 - 1), .int (p.2 + r2 - 1)]]).length + (cutL hs (some (j + 1)) none).length ≤ 1000000 by rw [List.length_append, List.length_singleton]; omega, ?_⟩
      exact q _ _ (app (app (cutm _ _) (two _ _ (by omega) (by omega) (by omega) (by omega))) (cutm _ _)) (by rw [List.length_append, List.length_append, List.length_singleton]; omega) (by omega)
    · refine ⟨.inl ⟨by decide, by decide⟩, .inl ⟨by decide, by decide⟩, ?_⟩
      have c1 := cutn none (some j)
      have c2 := cutn (some j) none
      refine ⟨show (cutL hs none (some j)).length + 1 ≤ 1000000 by omega, show ((cutL hs none (some j)) ++ [D.tup [.int ((p.1 + p2.1) / 2), .int ((p.2 + p2.2) / 2)]]).length + (cutL hs (some j) none).length ≤ 1000000 by rw [List.length_append, List.length_singleton]; omega, ?_⟩
      exact q _ _ (app (app (cutm _ _) (two _ _ (by omega) (by omega) (by omega) (by omega))) (cutm _ _)) (by rw [List.length_append, List.length_append, List.length_singleton]; omega) (by omega)
    · have c1 := cutn none (some j)
      have c2 := cutn (some j) none
      refine ⟨show (cutL hs none (some j)).length + 1 ≤ 1000000 by omega, show ((cutL hs none (some j)) ++ [D.tup [.int p.1, .int p.2]]).length + (cutL hs (some j) none).length ≤ 1000000 by rw [List.length_append, List.length_singleton]; omega, ?_⟩
      exact q _ _ (app (app (cutm _ _) (two _ _ (by omega) (by omega) (by omega) (by omega))) (cutm _ _)) (by rw [List.length_append, List.length_append, List.length_singleton]; omega) (by omega)
    · have c1 := cutn none (some j)
      have c2 := cutn (some (j + 1)) none
      refine ⟨show (cutL hs none (some j)).length + (cutL hs (some (j + 1)) none).length ≤ 1000000 by omega, ?_⟩
      exact q _ _ (app (cutm _ _) (cutm _ _)) (by rw [List.length_append]; omega) (by omega)
    · refine ⟨p.1, p.2, rfl, bd200 (n := 1000000) (by decide) (by omega) (by omega), bd200 (n := 1000000) (by decide) (by omega) (by omega), by omega, fun d hd => ?_⟩
      have c1 := cutn none (some j)
      have c2 := cutn (some (j + 1)) none
      refine ⟨show (cutL hs none (some j)).length + 1 ≤ 1000000 by omega, show ((cutL hs none (some j)) ++ [d]).length + (cutL hs (some (j + 1)) none).length ≤ 1000000 by rw [List.length_append, List.length_singleton]; omega, ?_⟩
      exact q _ _ (app (app (cutm _ _) (fun e he => by rw [List.mem_singleton.mp he]; exact hd)) (cutm _ _)) (by rw [List.length_append, List.length_append, List.length_singleton]; omega) (by omega)
    · intro es1 m1 k1 es2 m2 k2
      refine ⟨show es1.length + es2.length ≤ 1000000 by omega, ?_⟩
      exact q _ _ (app (fun e he => hn1 e (m1 e he)) (fun e he => hn1 e (m2 e he))) (by rw [List.length_append]; omega) (by omega)
    · have c1 := cutn none (some j)
      have c2 := cutn (some (j + 1)) (some (j + 2))
      have c3 := cutn (some (j + 2)) none
      refine ⟨show (cutL hs none (some j)).length + (cutL hs (some (j + 1)) (some (j + 2))).length ≤ 1000000 by omega, show ((cutL hs none (some j)) ++ (cutL hs (some (j + 1)) (some (j + 2)))).length + 1 ≤ 1000000 by rw [List.length_append]; omega,
        show (((cutL hs none (some j)) ++ (cutL hs (some (j + 1)) (some (j + 2)))) ++ [D.tup [.int p.1, .int p.2]]).length + (cutL hs (some (j + 2)) none).length ≤ 1000000 by rw [List.length_append, List.length_append, List.length_singleton]; omega, ?_⟩
      exact q _ _ (app (app (app (cutm _ _) (cutm _ _)) (two _ _ (by omega) (by omega) (by omega) (by omega))) (cutm _ _)) (by rw [List.length_append, List.length_append, List.length_append, List.length_singleton]; omega) (by omega)
/-! a thing -/
def a_l_thing : ASp := fun ds n Q => ds = [.deck] ∧ 200 ≤ n ∧ ∀ d n', Gd d → n ≤ n' + 150 → Q d n'
theorem ok_l_thing (T : Tx K mg A) : FnOk P w K mg base CX0 6 A.f_l_thing A.fd_l_thing ["_law_deck_here"] (spOf K 1 a_l_thing) := by
  refine fn_mir [] 6 rfl (by decide) (by decide) T.F_l_thing sc_l_thing fun cdv Ar outer s H E hr => ?_
  refine ⟨_, _, (pss_cons (ps_set (i := 1) sc_l_thing.nd rfl (.inl rfl) (pe_call (ok_l_take (P := P) (K := K) T) (hr.mono (by decide)) (by rfl) T.g_l_take T.F_l_take.kp T.b_l_take .nil pass0 (pa_cons (pv 0) (pa_cons pe_int pa_nil))))
    (pss_cons (ps_set (i := 2) sc_l_thing.nd rfl (.inl rfl) (pe_call (ok_l_shape (P := P) (K := K) T) (hr.mono (by decide)) (by rfl) T.g_l_shape T.F_l_shape.kp T.b_l_shape .nil pass0 (pa_cons (pv 0) pa_nil)))
    (pss_cons (ps_set (i := 3) sc_l_thing.nd rfl (.inl rfl) (pe_call (ok_l_take (P := P) (K := K) T) (hr.mono (by decide)) (by rfl) T.g_l_take T.F_l_take.kp T.b_l_take .nil pass0 (pa_cons (pv 0) (pa_cons (pe_callB (k_len (K := K) rfl) (by rfl) T.m_len (by decide +kernel) (pa_cons (pv 2) pa_nil)) pa_nil))))
    (pss_cons (ps_setLc (i := 4) (own := [("_law_corner", 5)]) rfl sc_l_thing.nd rfl rfl (sw_true rfl rfl rfl (by decide +kernel)) (k_iter (K := K) rfl (pe_op (k_add (K := K) rfl) (pe_slice (k_slW (K := K) rfl) (pv 2) (po_some (pv 3)) po_none) (pe_slice (k_slW (K := K) rfl) (pv 2) po_none (po_some (pv 3))))) (blkOk_by (own := [("_law_corner", 5)]) (N := ["_law_deck_here", "_law_kind", "_law_shape_here", "_law_at", "_law_handed", "_law_corner"]) (sc := defScope s_l_thing) (by decide +kernel)) (fun _ _ _ _ _ => (pg_name (i := 5) sc_l_thing.nd rfl (Or.inl rfl))) (fun _ _ _ _ _ => pts_nil) (fun _ _ _ _ _ => (pe_ix (k_ixS (K := K) rfl) (pe_lst (pa_cons (pv 5) (pa_cons (pe_callTy (k_list (K := K) rfl) (by rfl) T.m_list (by decide +kernel) (pa_cons (pv 5) pa_nil)) pa_nil))) (pe_call (ok_l_take (P := P) (K := K) T) (hr.mono (by decide)) (by rfl) T.g_l_take T.F_l_take.kp T.b_l_take .nil pass0 (pa_cons (pv 0) (pa_cons pe_int pa_nil))) (fun _ _ => rfl))))
    (pss_cons (ps_if (pt_cmpR op_lt (pv 1) pe_int (nomark _))
      (pss_one (ps_ret (pe_ix (k_ixS (K := K) rfl) (pe_lst (pa_cons (pv 4) (pa_cons (pe_callTy (k_tuple (K := K) rfl) (by rfl) T.m_tuple (by decide +kernel) (pa_cons (pv 4) pa_nil)) (pa_cons (pe_op (k_add (K := K) rfl) (pe_slice (k_slW (K := K) rfl) (pv 2) (po_some (pv 3)) po_none) (pe_slice (k_slW (K := K) rfl) (pv 2) po_none (po_some (pv 3)))) pa_nil)))) (pv 1) (fun _ _ => rfl))))
      pss_nil)
    (pss_cons (ps_if (pt_cmpR (k_eq (K := K) rfl hr.units) (pv 1) pe_int (nomark _))
      (pss_one (ps_ret (pe_call (ok_l_other (P := P) (K := K) T) (hr.mono (by decide)) (by rfl) T.g_l_other T.F_l_other.kp T.b_l_other .nil pass0 (pa_cons (pv 0) (pa_cons (pv 2) pa_nil)))))
      pss_nil)
    (pss_cons (ps_if (pt_cmpR op_lt (pv 1) pe_int (nomark _))
      (pss_one (ps_ret (pe_call (ok_l_bent (P := P) (K := K) T) (hr.mono (by decide)) (by rfl) T.g_l_bent T.F_l_bent.kp T.b_l_bent .nil pass0 (pa_cons (pv 0) (pa_cons (pe_op op_sub (pv 1) pe_int) (pa_cons (pv 4) pa_nil))))))
      pss_nil)
    (pss_one (ps_ret (pe_callTy (k_tuple (K := K) rfl) (by rfl) T.m_tuple (by decide +kernel) (pa_cons (pe_call (ok_l_bent (P := P) (K := K) T) (hr.mono (by decide)) (by rfl) T.g_l_bent T.F_l_bent.kp T.b_l_bent .nil pass0 (pa_cons (pv 0) (pa_cons (pe_op (k_add (K := K) rfl) pe_int (pe_op k_mul pe_int (pe_op op_sub (pv 1) pe_int))) (pa_cons (pv 4) pa_nil)))) pa_nil))))))))))), by infer_instance, fun ds n Q hl hA => ?_⟩
  obtain ⟨rfl, hn, q⟩ := hA
  refine ⟨14, rfl, by decide, by decide, by omega, fun kind lk uk => ?_⟩
  refine ⟨rfl, by omega, fun cs n1 hc hn1 => ?_⟩
  have h3 := hc.1
  have h16 := hc.2.1
  refine ⟨((cs.map pt).length : Int), rfl, by rw [List.length_map]; omega, small_log (by rw [List.length_map]; omega) (by rw [List.length_map]; omega), by omega, fun j lj uj => ?_⟩
  obtain ⟨j', rfl⟩ : ∃ j' : Nat, j = (j' : Int) := ⟨j.toNat, (Int.toNat_of_nonneg lj).symm⟩
  have hj' : j' < cs.length := by
    rw [List.length_map] at uj
    omega
  have f1 : cutL (cs.map pt) (some (j' : Int)) none = (cs.drop j').map pt := by rw [cut_fr (by rw [List.length_map]; omega), List.map_drop]
  have f2 : cutL (cs.map pt) none (some (j' : Int)) = (cs.take j').map pt := by rw [cut_to (by rw [List.length_map]; omega), List.map_take]
  have rne : (cs.drop j').map pt ≠ [] := fun z => by
    have := congrArg List.length z
    rw [List.length_map, List.length_drop] at this
    simp at this
    omega
  have rl : (cs.drop j' ++ cs.take j').length = cs.length := by rw [List.length_append, List.length_drop, List.length_take]; omega
  have rm : ∀ v ∈ cs.drop j' ++ cs.take j', PtM v := fun v hv => hc.2.2 v ((List.mem_append.mp hv).elim List.mem_of_mem_drop List.mem_of_mem_take)
  have rll : ((cs.drop j').map pt).length + ((cs.take j').map pt).length ≤ 1000000 := by
    rw [List.length_append] at rl
    rw [List.length_map, List.length_map]
    omega
  conv => whnf
  rw [f1, f2]
  refine ⟨rne, rll, ?_⟩
  rw [← List.map_append]
  refine ⟨by rw [List.length_map]; omega, ?_⟩
  refine aLc_ind (fun acc ds m => ∃ vs : List Pt, ds = vs.map pt ∧ (∀ v ∈ vs, PtM v) ∧ (∀ d ∈ acc, Hc d) ∧ acc.length + vs.length = cs.length ∧ n1 - 1 ≤ m + acc.length) ?_ ?_ ⟨cs.drop j' ++ cs.take j', rfl, rm, (fun d hd => nomatch hd), (by rw [rl]; exact Nat.zero_add _), Nat.le_refl _⟩
  · rintro acc d r m ⟨vs, e1, hv, ha, hl2, hm⟩ ih
    cases vs with
    | nil => cases e1
    | cons v vs =>
    rw [List.map_cons] at e1
    obtain ⟨rfl, rfl⟩ := List.cons.inj e1
    rw [List.length_cons] at hl2
    refine aT ?_
    refine ⟨2, rfl, by decide, by decide, by omega, fun r l u => ?_⟩
    obtain ⟨d, hd, hat⟩ := pick_at (xs := [pt v, D.lst [.int v.1, .int v.2]]) l u
    refine aIx_lst hat (ih _ _ ⟨vs, rfl, fun x hx => hv x (List.mem_cons_of_mem _ hx), fun x hx => ?_, by rw [List.length_append, List.length_singleton]; omega, by rw [List.length_append, List.length_singleton]; omega⟩)
    rcases List.mem_append.mp hx with hx | hx
    · exact ha x hx
    · rw [List.mem_singleton.mp hx]
      refine ⟨v, hv v List.mem_cons_self, ?_⟩
      simpa using hd
  · rintro acc m ⟨vs, e1, hv, ha, hl2, hm⟩
    cases vs with
    | cons v vs => cases e1
    | nil =>
    have hal : acc.length = cs.length := hl2
    have gl : Gd (.lst acc) := gd_lst (fun e he => (ha e he).nc) (by omega)
    have gt : Gd (.tup acc) := gd_tup (fun e he => (ha e he).nc) (by omega)
    have gc : Gd (.tup ((cs.drop j' ++ cs.take j').map pt)) := gd_tup (nc_map rm) (by rw [List.length_map]; omega)
    refine dIte (fun _ => ?_) fun _ => dIte (fun _ => ?_) fun _ => dIte (fun _ => ?_) fun _ => ?_
    · conv => whnf
      rw [f1, f2]
      refine ⟨rne, rll, ?_⟩
      rw [← List.map_append]
      obtain ⟨d, hd, hat⟩ := pick_at (xs := [D.lst acc, D.tup acc, D.tup ((cs.drop j' ++ cs.take j').map pt)]) lk (show kind < 3 by omega)
      refine aIx_lst hat (q d _ ?_ (by omega))
      simp only [List.mem_cons, List.not_mem_nil, or_false] at hd
      rcases hd with rfl | rfl | rfl
      · exact gl
      · exact gt
      · exact gc
    · exact ⟨cs, rfl, hc, by omega, fun d hd => q d _ hd (by omega)⟩
    · exact ⟨kind - 4, acc, rfl, ha, by omega, by omega, by omega, fun es n' he hl hn' => q _ _ (gd_lst he hl) (by omega)⟩
    · refine ⟨mulA (show Bd 30 (4 : Int) by unfold Bd; decide) (show Bd 30 (kind - 12) by unfold Bd; omega) (by decide) (by decide), ?_⟩
      exact ⟨1 + 4 * (kind - 12), acc, rfl, ha, by omega, by omega, by omega, fun es n' he hl hn' => q _ _ (gd_tup he hl) (by omega)⟩

/-! CUT -/
end
/-! ### defs that are handed a caught error, called within its suite -/
section
open L2H
variable {K : PySem.W.Frag} {ow : List Nat} {Wx : WX}
/-- as FnH of the kit, the promise knows the error p -/
structure FnX (P : Program) (w : World) (K : PySem.W.Frag) (mg : Str → Option Value) (base : Heap) (k : Nat) (f : Addr) (fd : FuncData) (ps : List Str) (sp : Addr × Obj → Sp) : Prop where
  lenX : ∀ p vs H Q E, sp p vs H Q E → vs.length = ps.length
  runX : ∀ (B : Around) (out : List Env) (z : Shared) (H : Hp) (args : Args) (us : List Value) (vs : List V) (Q : VK) (E : XK) (p : Addr × Obj), RoomH k B → Hot1 B p → PinOk out H z p → Env0 P w K mg base B out z H → BindsTo z fd args (ps.zip us) → Vals vs us → sp p vs H Q E →
    codeAny (model P w) B (.call (.ref f) args) (CR CX0 out P w H z Q E) z
theorem FnX.mono {P : Program} {w : World} {K : PySem.W.Frag} {mg : Str → Option Value} {base : Heap} {j k : Nat} {f : Addr} {fd : FuncData} {ps : List Str} {sp : Addr × Obj → Sp} (F : FnX P w K mg base j f fd ps sp) (h : j ≤ k) : FnX P w K mg base k f fd ps sp :=
  ⟨F.lenX, fun B out z H args us vs Q E p hr => F.runX B out z H args us vs Q E p (hr.mono h)⟩
theorem fn_ofX {P : Program} {w : World} {K : PySem.W.Frag} {mg : Str → Option Value} {base : Heap} {k : Nat} {f : Addr} {nm qn : Str} {pa : Arguments} {bd : List Stmt} {sc : Scope} {dV kV doc pm cdv ct oc : Value} {an od : Option Addr}
    {osl : Array (Option Value)} {N ps : List Str} {sp : Addr × Obj → Sp} (lk : K.lookup f = some ⟨oc, od, .func (PySem.W.fnOf nm qn pa bd sc dV kV doc pm an cdv ct), osl⟩) (hcd : PySem.W.codeIn K cdv qn = true) (S : FnScope N ps sc)
    (len : ∀ p vs H Q E, sp p vs H Q E → vs.length = ps.length)
    (hbody : ∀ (B : Around) (out : List Env) (z : Shared) (H : Hp) (vs : List V) (Q : VK) (E : XK) (p : Addr × Obj), Hot1 B p → RoomH k (B.deeper (envOfC qn sc z.heap.objs.size f cdv)) → sp p vs H Q E →
      ∃ t, PSs (cxH CX0 P w K mg base N qn sc f cdv B out z H E p) bd t ∧ t { nx := fun _ H' => Q .non H', rt := Q } (L2.start N vs) H) :
    FnX P w K mg base (k + 1) f (PySem.W.fnOf nm qn pa bd sc dV kV doc pm an cdv ct) ps sp := by
  refine ⟨len, fun B out z H args us vs Q E p room hot pin e0 bnd rel hsp => ?_⟩
  have kz : K.In z.heap := e0.mod.kin.keeps fun b o e => (e0.bs b o e).1
  have nolim : z.heap.NoLimit := e0.mod.nolimit.keeps fun b o e => (e0.bs b o e).1
  have kinds : ∀ y ∈ ps.zip us, sc.names.lookup y.1 = some .local ∨ (sc.names.lookup y.1 = some .cell ∧ ((cellsFrom (z.heap.objs.size + 1) sc.names []).lookup y.1).isSome = true) := fun y hy => by
    have hm := (List.of_mem_zip (show (y.1, y.2) ∈ ps.zip us from hy)).1
    exact (S.par y.1 hm).imp id fun q => ⟨q, PySem.W.cellsFrom_some _ _ _ (.inl q)⟩
  refine codeAny_call_function room.depth (kz _ _ lk) rfl S.co S.gen rfl (PySem.W.codeRec_of kz hcd) (bnd _ _ _ _ (wpAny_newFunctionEnv_cells S.kind kinds fun ev hev z1 ic => ?_))
  subst hev
  obtain ⟨t, ht, hq⟩ := hbody B out z H vs Q E p hot (room.deeper _) hsp
  have J0 : Inv (cxH CX0 P w K mg base N qn sc f cdv B out z H E p) [] (L2.start N vs) H z1 := inv_startH S pin e0 (len _ _ _ _ _ hsp) rel ic
  refine ⟨nolim.keeps ic.toInCall.keep, codeAny_func (wpAny_mono (ht.run [] z1 (L2.start N vs) H _ J0 hq) (fun fl z' hz => ?_) fun _ _ hz => hz)⟩
  match fl, hz with
  | .ret _, ⟨v, _, H', J, rv, q⟩ => exact ⟨v, H', J.os, J.bare, J.base, J.hok, rv, q⟩
  | .next, ⟨_, H', J, q⟩ => exact ⟨V.non, H', J.os, J.bare, J.base, J.hok, rfl, q⟩
  | .brk, ⟨_, _, _, q⟩ => exact q.elim
  | .cont, ⟨_, _, _, q⟩ => exact q.elim
/-- the promise of a def whose argument is the caught error of class D, its fields at d -/
abbrev ASH := Addr → Option Addr → ASp
def spH (K : PySem.W.Frag) (C : Addr) (k : Nat) (A : ASH) : Addr × Obj → Sp := fun p vs H Q _ => ∃ (W : Wd) (n : Nat) (ds : List D) (Qa : D → Nat → Prop) (d : Option Addr), AtAll K W H vs ds ∧ ds.length = k ∧ W.ok K n H ∧ Wants K W H Qa Q ∧ (L2N.Zn (.ref C) d p.2 ∧ ∃ fs, p.2.data = .fields fs) ∧ A p.1 d ds n Qa
theorem fn_mirH {P : Program} {w : World} {mg : Str → Option Value} {base : Heap} {x qual : Str} {st : Stmt} {f : Addr} {fd : FuncData} {N ps : List Str} {k : Nat} {A : ASH} (C : Addr) (ow : List Nat) (kk : Nat) (hk : N.length = kk) (hp : ps.length ≤ kk) (ho : ∀ i ∈ ow, ps.length ≤ i) (F : Fun K x qual st f fd) (S : FnScope N ps (defScope st))
    (hbody : ∀ (cdv : Value) (Ar : Around) (outer : List Env) (s : Shared) (H : Hp) (E : XK) (a : Addr) (oe : Obj) (d : Option Addr), Hot1 Ar (a, oe) → RoomH k (Ar.deeper (envOfC qual (defScope st) s.heap.objs.size f cdv)) → L2N.Zn (.ref C) d oe → (∃ fs, oe.data = .fields fs) →
      ∃ (t : TS) (fa : AS), PSs (cxH CX0 P w K mg base N qual (defScope st) f cdv Ar outer s H E (a, oe)) (defBody st) t ∧ DS K W0 ow t fa ∧ ∀ ds n Q, ds.length = ps.length → A a d ds n Q → fa (aTop Q) (startA kk ds) n) : FnX P w K mg base (k + 1) f fd ps (spH K C ps.length A) := by
  obtain ⟨oc, od, kV, doc, pm, an, cdv, ct, osl, rfl, lk, hcd⟩ := F.ex
  refine fn_ofX lk hcd S (fun p vs H Q E h => ?_) fun Ar outer s H vs Q E p hot hr h => ?_
  · obtain ⟨W, n, ds, Qa, d, a, hl, _⟩ := h
    rw [a.length, hl]
  · obtain ⟨W, n, ds, Qa, d, a, hl, o, hQ, ⟨hz, hf⟩, hA⟩ := h
    obtain ⟨t, fa, h1, h2, h3⟩ := hbody cdv Ar outer s H E p.1 p.2 d hot hr hz hf
    exact ⟨t, h1, DS.run (Wx := W0) (ow := ow) (t := t) (f := fa) W [] (L2.start N vs) (startA kk ds) n H _ (aTop Qa) ⟨fun ρ' n' q U' σ' H' l' s' => hQ _ _ q H' _ (le_start l') s'.base .non, fun d n' q U1 H1 H' v l' l2 o' a' => hQ _ _ q H' v ((le_start l').trans l2) o' a', fun _ _ q => q.elim, fun _ _ q => q.elim, fun _ _ _ _ _ q => q.elim⟩ (start_ok hk (by omega) (fun i hi => by rw [hl]; exact ho i hi) a o) (h3 ds n Qa hl hA)⟩
/-! such a call -/
def tCallH (K : PySem.W.Frag) (k : Nat) (A : ASH) (a : Addr) (d : Option Addr) (ta : TA) : TE := fun σ H Q => ta σ H fun vs H1 => ∃ (W : Wd) (n : Nat) (ds : List D) (Qa : D → Nat → Prop), AtAll K W H1 vs ds ∧ ds.length = k ∧ W.ok K n H1 ∧ Wants K W H1 Qa Q ∧ A a d ds n Qa
theorem pe_callHX {X : Cx} {k j : Nat} {f : Addr} {fd : FuncData} {ps : List Str} {C : Addr} {A : ASH} {a : Addr} {oe : Obj} {d : Option Addr} {x : Str} {e : Expr} {es : List Expr} {ta : TA} {q pos : Pos} (hz : L2N.Zn (.ref C) d oe) (hf : ∃ fs, oe.data = .fields fs) (hot : Hot1 X.A (a, oe)) (hpn : (a, oe) ∈ X.pn)
    (F : FnX X.prog X.w X.K X.mg X.base j f fd ps (spH X.K C k A)) (hr : RoomH j X.A) (hg : Gl X x) (hm : X.mg x = some (.ref f)) (hk : PySem.W.keepIn X.K (.ref f) = true) (hb : Binds X.K fd ps [])
    (ha : PA X (e :: es) ta) (hdb : (x == ("__debug__" : Str)) = false := by decide) (he : starEach (e :: es) X.env = (false, eval e X.env) :: starEach es X.env := by rfl) (hpl : (backTo pos (starEach es X.env)).any (·.1) = false := by rfl) :
    PE X (.Call (.Name x q) (e :: es) [] pos) (tCallH X.K k A a d ta) := ⟨fun pins s σ H Q I h => by
  refine wpAny_Call_Name_kw (ld_glob I hg hm (PySem.W.callWith_K (h₀ := X.base) I.ok.mod.kin hk (thn (ha.run pos pins s σ H _ I h) fun us s1 ⟨vs, H1, I1, rv, hsp⟩ => ⟨I1.kIn, ?_⟩) he hpl) hdb)
  obtain ⟨W, n, ds, Qa, h1, h2, h3, h4, h5⟩ := hsp
  have hsp' : spH X.K C k A (a, oe) vs H1 Q (fun _ _ _ => False) := ⟨W, n, ds, Qa, d, h1, h2, h3, h4, ⟨hz, hf⟩, h5⟩
  have hl : us.length = ps.length := by rw [← rv.length]; exact F.lenX _ _ _ _ _ hsp'
  have bnd := hb s1 us I1.kIn (by rw [List.append_nil]; exact hl)
  rw [List.append_nil] at bnd
  have PN := I1.pin (a, oe) (List.mem_append_left _ hpn)
  have pin : PinOk X.stack H1 s1 (a, oe) := ⟨PN.1, PN.2.1, fun hm => (List.mem_cons.mp (I1.stkSub a hm)).elim PN.2.2.1 PN.2.2.2.1, PN.2.2.2.2⟩
  refine wpAny_call (codeAny_mono (F.runX X.A X.stack s1 H1 ⟨us, []⟩ us vs Q (fun _ _ _ => False) (a, oe) hr hot pin I1.env0 bnd rv hsp') fun r z' hq => ?_)
  match r, hq with
  | .error er, hq => exact hq.elim
  | .ok (.ret _), hq => exact I1.after hq
  | .ok .next, hq => exact hq.elim
  | .ok .brk, hq => exact hq.elim
  | .ok .cont, hq => exact hq.elim⟩
theorem k_callH {X : Cx} {k j : Nat} {f : Addr} {fd : FuncData} {ps : List Str} {C : Addr} {A : ASH} {a : Addr} {oe : Obj} {d : Option Addr} {x : Str} {e : Expr} {es : List Expr} {ta : TA} {q pos : Pos} (hK : X.K = K) (hz : L2N.Zn (.ref C) d oe) (hf : ∃ fs, oe.data = .fields fs) (hot : Hot1 X.A (a, oe)) (hpn : (a, oe) ∈ X.pn)
    (F : FnX X.prog X.w K X.mg X.base j f fd ps (spH K C k A)) (hr : RoomH j X.A) (hg : Gl X x) (hm : X.mg x = some (.ref f)) (hk : PySem.W.keepIn K (.ref f) = true) (hb : Binds K fd ps [])
    (ha : PA X (e :: es) ta) (hdb : (x == ("__debug__" : Str)) = false := by decide) (he : starEach (e :: es) X.env = (false, eval e X.env) :: starEach es X.env := by rfl) (hpl : (backTo pos (starEach es X.env)).any (·.1) = false := by rfl) :
    PE X (.Call (.Name x q) (e :: es) [] pos) (tCallH K k A a d ta) := by
  subst hK
  exact pe_callHX hz hf hot hpn F hr hg hm hk hb ha hdb he hpl
def aCallH (k : Nat) (A : ASH) (a : Addr) (d : Option Addr) (g : AA) : AE := fun ρ n Q => g ρ n fun ds n1 => match Nat.beq ds.length k with
  | true => A a d ds n1 Q
  | false => False
instance {k : Nat} {A : ASH} {a : Addr} {d : Option Addr} {ta : TA} {g : AA} [DA K ta g] : DE K (tCallH K k A a d ta) (aCallH k A a d g) := ⟨fun W σ ρ n H Q Qa hQ hE o h =>
  DA.run (te := ta) (f := g) W σ ρ n H _ _ (fun ds n1 h1 H1 xs l1 o1 ax => by
    split at h1
    · rename_i e
      exact ⟨W, n1, ds, Qa, ax, Nat.eq_of_beq_eq_true e, o1, hQ.le l1, h1⟩
    · exact h1.elim) hE o h⟩
theorem hot_suite {X : Cx} {a : Addr} {oe : Obj} {cls : Value} {d : Option Addr} {pn : List (Addr × Obj)} (hz : L2N.Zn cls d oe) (hf : ∃ fs, oe.data = .fields fs) : Hot1 (X.suite a ((a, oe) :: pn)).A (a, oe) := by
  obtain ⟨fs, e⟩ := hf
  exact ⟨rfl, fs, e, hz.2.2 fs e⟩
/-! isinstance of it, wherever it is pinned -/
theorem call_isXg {X : Cx} {a D : Addr} {oe : Obj} {d : Option Addr} (hK : X.K = K) (C : ExcC K D) (hz : L2N.Zn (.ref D) d oe) (hf : ∃ vs, oe.data = .fields vs) (hpn : (a, oe) ∈ X.pn) : CallR X (.builtin "isinstance") (rIsX K D a d) := by
  subst hK
  intro pins s σ H xs us Q I r h
  obtain ⟨hdd, c, cv, b, rfl, hcv, e, q⟩ := h
  cases r with
  | cons rx rr =>
    cases rr with
    | cons rt rr =>
      cases rr
      cases rx
      have ec := hcv _ rt
      subst ec
      obtain ⟨hget, _⟩ := I.pin (a, oe) (List.mem_append.mpr (.inl hpn))
      obtain ⟨vs, hv⟩ := hf
      have J : ∃ od, PySem.W.InstAt s.heap a oe D od := by
        rcases hdd with hd | ⟨dx, fs, hd, hx⟩
        · obtain ⟨oc, od, oda, osl⟩ := oe
          obtain ⟨h1, h2, _⟩ := hz
          dsimp only at h1 h2 hv
          subst h1 h2 hv
          subst hd
          exact ⟨none, hget, rfl, rfl, trivial⟩
        · have hx' : ObjOk X.prog X.w H s.heap dx (.xd fs) := I.hok dx _ hx
          obtain ⟨mA, hns, hr⟩ := hx'
          obtain ⟨od, ho, hl⟩ := lookIn_ns hns
          exact ⟨some od, hget, hz.1, by unfold PySem.W.notCls; rw [hv] <;> rfl, by rw [hz.2.1, hd]; exact ho⟩
      exact PySem.W.kia_one (kitx_excA (x := a) (ox := oe) C) I.kIn J e (fun z => nomatch z) fun tk => ⟨.bl b, H, I.kept (t' := tk) fun _ _ z => z, rfl, q⟩
end
theorem _root_.L2H.RoomH.units {k : Nat} {A : Around} (r : L2H.RoomH k A) : A.units + 64 < cLine := by
  have h := r.un
  omega
theorem roomH_at {k j : Nat} {A : Around} {v : Option Value} (r : Room k A) (h : j ≤ k := by decide) : L2H.RoomH j (A.mark v) := ⟨by have h1 := r.dp; show A.depth + 3 * j + 5 < _; omega, by have h1 := r.un; show A.units + 16 * j + 200 < _; omega⟩

section
variable {P : Program} {w : World} {K : PySem.W.Frag} {mg : Str → Option Value} {base : Heap} {A : Ad}
/-! ### the law -/
def a_l_right : ASp := fun ds n Q => ∃ d, ds = [d] ∧ Gd d ∧ Q (.bl true) n
theorem ok_l_right (T : Tx K mg A) : FnG P w K mg base 5 A.f_l_right A.fd_l_right ["_law_thing_here"] (spOf K 1 a_l_right) := by
  refine fn_mirG [] 6 rfl (by decide) (by decide) T.F_l_right sc_l_right fun cdv Ar outer s H E hr hgd => ?_
  refine ⟨_, _, (pss_cons (ps_set (i := 1) sc_l_right.nd rfl (.inl rfl) (pe_callB (call_repZ (K := K) rfl hgd (room65 hr)) (by rfl) T.m_repr (by decide +kernel) (pa_cons (pv 0) pa_nil)))
    (pss_cons (ps_set (i := 2) sc_l_right.nd rfl (.inl rfl) (pe_call (ok_l_form (P := P) (K := K) T) (hr.mono (by decide)) (by rfl) T.g_l_form T.F_l_form.kp T.b_l_form .nil pass0 (pa_cons (pv 0) pa_nil)))
    (pss_cons (ps_set (i := 3) sc_l_right.nd rfl (.inl rfl) pe_non)
    (pss_cons (ps_set (i := 4) sc_l_right.nd rfl (.inl rfl) (pe_lst pa_nil))
    (pss_cons (k_try (K := K) (i := 5) (Wout := W0) rfl rfl rfl sc_l_right.nd rfl rfl ⟨rfl, by decide, Or.inl T.g_BadShape⟩ takesN0
      (fun W pn xe tk po => (pss_one (ps_set (i := 3) sc_l_right.nd rfl (.inl rfl) (k_callE (pe_callS (ok_p_look_shape (P := P) (K := K) T) (hr.mono (by decide)) (by rfl) T.g_p_look_shape T.F_p_look_shape.kp T.b_p_look_shape (fun σ => L2N.passAt tk σ) (pa_cons (pv 0) pa_nil))))))
      (fun a oe cls d pn hz hf => (suite_ownM (D := A.c_BadShape) hz fun hz => (pss_one (ps_set (i := 4) sc_l_right.nd rfl (.inl rfl) (pe_lst (pa_cons (pe_callB (call_isXg (K := K) rfl T.E_BadShape hz hf List.mem_cons_self) (by rfl) T.m_isinstance (by decide +kernel) (pa_cons (pv 5) (pa_cons (k_cls (by rfl) T.g_BodyError) pa_nil))) (pa_cons (pe_callB (call_isXg (K := K) rfl T.E_BadShape hz hf List.mem_cons_self) (by rfl) T.m_isinstance (by decide +kernel) (pa_cons (pv 5) (pa_cons (k_ty (t := .verr) (by rfl) T.m_ValueError (by decide +kernel)) pa_nil))) (pa_cons (pe_callB (call_isXg (K := K) rfl T.E_BadShape hz hf List.mem_cons_self) (by rfl) T.m_isinstance (by decide +kernel) (pa_cons (pv 5) (pa_cons (k_cls (by rfl) T.g_BadRow) pa_nil))) (pa_cons (pe_callB (call_isXg (K := K) rfl T.E_BadShape hz hf List.mem_cons_self) (by rfl) T.m_isinstance (by decide +kernel) (pa_cons (pv 5) (pa_cons (k_cls (by rfl) T.g_NoShare) pa_nil))) pa_nil))))))))))
    (pss_cons (ps_if (pt_cmpR (k_ne (K := K) rfl hr.units) (pe_callB (call_repZ (K := K) rfl hgd (room65 hr)) (by rfl) T.m_repr (by decide +kernel) (pa_cons (pv 0) pa_nil)) (pv 1) (nomark _))
      (pss_one (ps_ret pe_bl))
      pss_nil)
    (pss_cons (ps_if (pt_cmpR k_isN (pv 2) pe_non (nomark _))
      (pss_one (ps_ret (pe_cmpR (k_eq (K := K) rfl hr.units) (pv 4) (pe_lst (pa_cons pe_bl (pa_cons pe_bl (pa_cons pe_bl (pa_cons pe_bl pa_nil))))) (nomark _))))
      pss_nil)
    (pss_one (ps_ret (pe_and (pe_cmpR (k_eq (K := K) rfl hr.units) (pv 4) (pe_lst pa_nil) (nomark _)) (pe_and (pe_callB (k_isi (K := K) rfl) (by rfl) T.m_isinstance (by decide +kernel) (pa_cons (pv 3) (pa_cons (k_ty (t := .tup) (by rfl) T.m_tuple (by decide +kernel)) pa_nil))) (pe_one (pe_cmpR (k_eq (K := K) rfl hr.units) (pe_callB (call_repZ (K := K) rfl hgd (room65 hr)) (by rfl) T.m_repr (by decide +kernel) (pa_cons (pv 3) pa_nil)) (pe_callB (call_repZ (K := K) rfl hgd (room65 hr)) (by rfl) T.m_repr (by decide +kernel) (pa_cons (pv 2) pa_nil)) (nomark _)))))))))))))), by infer_instance, fun ds n Q hl hA => ?_⟩
  obtain ⟨d, rfl, hg, q⟩ := hA
  have hz : shz d := hg.2.2.ok (by decide) (by decide)
  refine ⟨d, rfl, hz, ?_⟩
  refine ⟨d, rfl, hg.1, hg.2.1, fun hf => ?_, fun cs rs hf hr => ?_⟩
  · refine ⟨by decide, ?_⟩
    refine ⟨d, rfl, hg.1, hg.2.1, fun _ => ?_, fun cs rs hf' => by rw [hf] at hf'; cases hf'⟩
    refine ⟨true, T.e_BadShape, fun _ a dd => ?_, fun z => by cases z⟩
    refine ⟨rfl, ?_⟩
    refine ⟨⟨rfl, rfl⟩, _, _, rfl, T.i_BadShape_BodyError, ⟨rfl, rfl⟩, _, _, rfl, T.i_BadShape_ValueError, ⟨rfl, rfl⟩, _, _, rfl, T.i_BadShape_BadRow, ⟨rfl, rfl⟩, _, _, rfl, T.i_BadShape_NoShare, ?_⟩
    refine ⟨d, rfl, hz, ?_⟩
    refine nIte (fun n => absurd rfl n) fun _ => aT ?_
    refine ⟨⟨rfl, rfl, rfl, rfl⟩, ?_⟩
    have e : PyData.eqv (D.lst [.bl true, .bl true, .bl false, .bl false]).pd (D.lst [.bl true, .bl true, .bl false, .bl false]).pd = true := by decide +kernel
    show Q (.bl (PyData.eqv (D.lst [.bl true, .bl true, .bl false, .bl false]).pd (D.lst [.bl true, .bl true, .bl false, .bl false]).pd)) n
    rw [e]
    exact q
  · refine ⟨by decide, ?_⟩
    refine ⟨d, rfl, hg.1, hg.2.1, (fun hf' => nomatch hf.symm.trans hf'), fun cs2 rs2 hf2 hr2 => ?_⟩
    obtain rfl : cs = cs2 := Option.some.inj (hf.symm.trans hf2)
    obtain rfl := hr.uniq hr2
    refine ⟨d, rfl, hz, ?_⟩
    refine nIte (fun n => absurd rfl n) fun _ => aF ?_
    refine ⟨⟨rfl, rfl, rfl, rfl⟩, ?_⟩
    have e0 : PyData.eqv (D.lst []).pd (D.lst []).pd = true := by decide +kernel
    have hs : shz (.tup (rs.map pt)) := by
      have hok : cs.length ≤ 8 ∧ ∀ p ∈ cs, PtR p := by
        unfold form at hf
        split at hf
        · rename_i es e1
          split at hf
          · rename_i h38
            split at hf
            · rename_i cs' e2
              split at hf
              · cases hf
                obtain ⟨a1, a2⟩ := ptsD_ok e2
                exact ⟨by omega, a2⟩
              · cases hf
            · cases hf
          · cases hf
        · cases hf
      obtain ⟨j, v, _, _, _, rfl⟩ := hr
      refine Rz.ok (k := 2) (w := 6480) (Rz.tup (k := 1) (w := 404) (fun e he => ?_) ?_) (by decide) (by decide)
      · obtain ⟨p, hp, rfl⟩ := List.mem_map.mp he
        have hp' := hok.2 p ((List.mem_append.mp hp).elim List.mem_of_mem_drop List.mem_of_mem_take)
        exact rz_pt (Nat.lt_trans hp'.1 (by decide)) (Nat.lt_trans hp'.2 (by decide))
      · rw [List.length_map, List.length_append, List.length_drop, List.length_take]
        omega
    show aIte (PyData.eqv (D.lst []).pd (D.lst []).pd) _ _
    rw [e0]
    refine aT (aT ⟨_, rfl, hs, _, rfl, hs, ?_⟩)
    have e1 : decide ((D.tup (rs.map pt)).zd.shown = (D.tup (rs.map pt)).zd.shown) = true := decide_eq_true rfl
    show Q (.bl (decide ((D.tup (rs.map pt)).zd.shown = (D.tup (rs.map pt)).zd.shown))) n
    rw [e1]
    exact q
theorem ok_law (T : Tx K mg A) : FnG P w K mg base 7 A.f_law A.fd_law ["_law_script"] (sp_law K) := by
  refine law_mirG [] 3 1 rfl (by decide) (by decide) T.F_law sc_law fun cdv Ar outer s H E hr hgd => ?_
  refine ⟨_, _, (pss_cons (ps_set (i := 1) sc_law.nd rfl (.inl rfl) (pe_call (ok_l_deck (P := P) (K := K) T) (hr.mono (by decide)) (by rfl) T.g_l_deck T.F_l_deck.kp T.b_l_deck .nil pass0 (pa_cons (pv 0) pa_nil)))
    (pss_cons (ps_for PassesOwn.never rfl (pi_range1 (by rfl) T.m_range (pa_cons pe_int pa_nil)) (pg_name (i := 2) sc_law.nd rfl (.inl rfl))
      (pss_one (ps_if (pt_not (pt_val (k_callG (K := K) rfl (ok_l_right (P := P) (K := K) T) (hr.mono (by decide)) hgd (by rfl) T.g_l_right T.F_l_right.kp T.b_l_right (pa_cons (pe_call (ok_l_thing (P := P) (K := K) T) (hr.mono (by decide)) (by rfl) T.g_l_thing T.F_l_thing.kp T.b_l_thing .nil pass0 (pa_cons (pv 1) pa_nil)) pa_nil))))
      (pss_one (ps_ret pe_bl))
      pss_nil)))
    (pss_one (ps_ret pe_bl)))), by infer_instance, ?_⟩
  refine ⟨⟨by decide, by decide⟩, ?_⟩
  refine aFor_ind (fun ds ρ m => ∃ (y2 : Option D), ρ = [none, some .deck, y2] ∧ 400 * ds.length ≤ m) ?_ ?_ ⟨none, rfl, by rw [rangeD_length]; decide⟩
  · rintro d r _ m ⟨y2, rfl, hm⟩ ih
    rw [List.length_cons] at hm
    refine ⟨rfl, by omega, fun d n1 hd h1 => ?_⟩
    exact ⟨d, rfl, hd, aF (ih _ _ ⟨_, rfl, by omega⟩)⟩
  · rintro _ m ⟨y2, rfl, hm⟩
    rfl

/-! CUT -/
end
theorem all_mk {l : PySem.W.OpenLaw} {w : World} {K : PySem.W.Frag} {h : Heap} {mg : Str → Option Value} {fa : Addr} (X : K.In h) (G : h.Ns mainGlobals mg) (hfa : mg "law" = some (.ref fa))
    {od0 an0 : Option Addr} {sl0 : Array (Option Value)} {oc0 kV0 dc0 pm0 cd0 ct0 : Value} {f0 : Addr}
    {od1 an1 : Option Addr} {sl1 : Array (Option Value)} {oc1 kV1 dc1 pm1 cd1 ct1 : Value} {f1 : Addr}
    {od2 an2 : Option Addr} {sl2 : Array (Option Value)} {oc2 kV2 dc2 pm2 cd2 ct2 : Value} {f2 : Addr}
    {od3 an3 : Option Addr} {sl3 : Array (Option Value)} {oc3 kV3 dc3 pm3 cd3 ct3 : Value} {f3 : Addr}
    {od4 an4 : Option Addr} {sl4 : Array (Option Value)} {oc4 kV4 dc4 pm4 cd4 ct4 : Value} {f4 : Addr}
    {od5 an5 : Option Addr} {sl5 : Array (Option Value)} {oc5 kV5 dc5 pm5 cd5 ct5 : Value} {f5 : Addr}
    {od6 an6 : Option Addr} {sl6 : Array (Option Value)} {oc6 kV6 dc6 pm6 cd6 ct6 : Value} {f6 : Addr}
    {od7 an7 : Option Addr} {sl7 : Array (Option Value)} {oc7 kV7 dc7 pm7 cd7 ct7 : Value} {f7 : Addr}
    {od8 an8 : Option Addr} {sl8 : Array (Option Value)} {oc8 kV8 dc8 pm8 cd8 ct8 : Value} {f8 : Addr}
    {od9 an9 : Option Addr} {sl9 : Array (Option Value)} {oc9 kV9 dc9 pm9 cd9 ct9 : Value} {f9 : Addr}
    {od10 an10 : Option Addr} {sl10 : Array (Option Value)} {oc10 kV10 dc10 pm10 cd10 ct10 : Value} {f10 : Addr}
    {od11 an11 : Option Addr} {sl11 : Array (Option Value)} {oc11 kV11 dc11 pm11 cd11 ct11 : Value} {f11 : Addr}
    {od12 an12 : Option Addr} {sl12 : Array (Option Value)} {oc12 kV12 dc12 pm12 cd12 ct12 : Value} {f12 : Addr}
    {od13 an13 : Option Addr} {sl13 : Array (Option Value)} {oc13 kV13 dc13 pm13 cd13 ct13 : Value} {f13 : Addr}
    {od14 an14 : Option Addr} {sl14 : Array (Option Value)} {oc14 kV14 dc14 pm14 cd14 ct14 : Value} {f14 : Addr}
    {od15 an15 : Option Addr} {sl15 : Array (Option Value)} {oc15 kV15 dc15 pm15 cd15 ct15 : Value} {f15 : Addr}
    {od16 an16 : Option Addr} {sl16 : Array (Option Value)} {oc16 kV16 dc16 pm16 cd16 ct16 : Value} {f16 : Addr}
    {od17 an17 : Option Addr} {sl17 : Array (Option Value)} {oc17 kV17 dc17 pm17 cd17 ct17 : Value} {f17 : Addr}
    {od18 an18 : Option Addr} {sl18 : Array (Option Value)} {oc18 kV18 dc18 pm18 cd18 ct18 : Value} {f18 : Addr}
    {od19 an19 : Option Addr} {sl19 : Array (Option Value)} {oc19 kV19 dc19 pm19 cd19 ct19 : Value} {f19 : Addr}
    {od20 an20 : Option Addr} {sl20 : Array (Option Value)} {oc20 kV20 dc20 pm20 cd20 ct20 : Value} {f20 : Addr}
    {od21 an21 : Option Addr} {sl21 : Array (Option Value)} {oc21 kV21 dc21 pm21 cd21 ct21 : Value} {f21 : Addr}
    {c_BodyError : Addr}
    {c_NoShare : Addr}
    {c_BadShape : Addr}
    {c_BadRow : Addr}
    {k_CORNERS : Tok}
    {k_REACH : Tok}
    (a0 : PySem.W.nsIn K mainGlobals "is_whole" = some (some (.ref f0))) (l0 : K.lookup f0 = some ⟨oc0, od0, .func (PySem.W.fnOf "is_whole" "is_whole" (defArgs s_p_is_whole) (defBody s_p_is_whole) (defScope s_p_is_whole) .none kV0 dc0 pm0 an0 cd0 ct0), sl0⟩) (c0 : PySem.W.codeIn K cd0 "is_whole" = true) (k0 : PySem.W.keepIn K (.ref f0) = true)
    (a1 : PySem.W.nsIn K mainGlobals "in_reach" = some (some (.ref f1))) (l1 : K.lookup f1 = some ⟨oc1, od1, .func (PySem.W.fnOf "in_reach" "in_reach" (defArgs s_p_in_reach) (defBody s_p_in_reach) (defScope s_p_in_reach) .none kV1 dc1 pm1 an1 cd1 ct1), sl1⟩) (c1 : PySem.W.codeIn K cd1 "in_reach" = true) (k1 : PySem.W.keepIn K (.ref f1) = true)
    (a2 : PySem.W.nsIn K mainGlobals "look_corner" = some (some (.ref f2))) (l2 : K.lookup f2 = some ⟨oc2, od2, .func (PySem.W.fnOf "look_corner" "look_corner" (defArgs s_p_look_corner) (defBody s_p_look_corner) (defScope s_p_look_corner) .none kV2 dc2 pm2 an2 cd2 ct2), sl2⟩) (c2 : PySem.W.codeIn K cd2 "look_corner" = true) (k2 : PySem.W.keepIn K (.ref f2) = true)
    (a3 : PySem.W.nsIn K mainGlobals "side_ends" = some (some (.ref f3))) (l3 : K.lookup f3 = some ⟨oc3, od3, .func (PySem.W.fnOf "side_ends" "side_ends" (defArgs s_p_side_ends) (defBody s_p_side_ends) (defScope s_p_side_ends) .none kV3 dc3 pm3 an3 cd3 ct3), sl3⟩) (c3 : PySem.W.codeIn K cd3 "side_ends" = true) (k3 : PySem.W.keepIn K (.ref f3) = true)
    (a4 : PySem.W.nsIn K mainGlobals "is_left" = some (some (.ref f4))) (l4 : K.lookup f4 = some ⟨oc4, od4, .func (PySem.W.fnOf "is_left" "is_left" (defArgs s_p_is_left) (defBody s_p_is_left) (defScope s_p_is_left) .none kV4 dc4 pm4 an4 cd4 ct4), sl4⟩) (c4 : PySem.W.codeIn K cd4 "is_left" = true) (k4 : PySem.W.keepIn K (.ref f4) = true)
    (a5 : PySem.W.nsIn K mainGlobals "is_side" = some (some (.ref f5))) (l5 : K.lookup f5 = some ⟨oc5, od5, .func (PySem.W.fnOf "is_side" "is_side" (defArgs s_p_is_side) (defBody s_p_is_side) (defScope s_p_is_side) .none kV5 dc5 pm5 an5 cd5 ct5), sl5⟩) (c5 : PySem.W.codeIn K cd5 "is_side" = true) (k5 : PySem.W.keepIn K (.ref f5) = true)
    (a6 : PySem.W.nsIn K mainGlobals "look_shape" = some (some (.ref f6))) (l6 : K.lookup f6 = some ⟨oc6, od6, .func (PySem.W.fnOf "look_shape" "look_shape" (defArgs s_p_look_shape) (defBody s_p_look_shape) (defScope s_p_look_shape) .none kV6 dc6 pm6 an6 cd6 ct6), sl6⟩) (c6 : PySem.W.codeIn K cd6 "look_shape" = true) (k6 : PySem.W.keepIn K (.ref f6) = true)
    (a7 : PySem.W.nsIn K mainGlobals "_law_cell" = some (some (.ref f7))) (l7 : K.lookup f7 = some ⟨oc7, od7, .func (PySem.W.fnOf "_law_cell" "_law_cell" (defArgs s_l_cell) (defBody s_l_cell) (defScope s_l_cell) .none kV7 dc7 pm7 an7 cd7 ct7), sl7⟩) (c7 : PySem.W.codeIn K cd7 "_law_cell" = true) (k7 : PySem.W.keepIn K (.ref f7) = true)
    (a8 : PySem.W.nsIn K mainGlobals "_law_mixed" = some (some (.ref f8))) (l8 : K.lookup f8 = some ⟨oc8, od8, .func (PySem.W.fnOf "_law_mixed" "_law_mixed" (defArgs s_l_mixed) (defBody s_l_mixed) (defScope s_l_mixed) .none kV8 dc8 pm8 an8 cd8 ct8), sl8⟩) (c8 : PySem.W.codeIn K cd8 "_law_mixed" = true) (k8 : PySem.W.keepIn K (.ref f8) = true)
    (a9 : PySem.W.nsIn K mainGlobals "_law_deck" = some (some (.ref f9))) (l9 : K.lookup f9 = some ⟨oc9, od9, .func (PySem.W.fnOf "_law_deck" "_law_deck" (defArgs s_l_deck) (defBody s_l_deck) (defScope s_l_deck) .none kV9 dc9 pm9 an9 cd9 ct9), sl9⟩) (c9 : PySem.W.codeIn K cd9 "_law_deck" = true) (k9 : PySem.W.keepIn K (.ref f9) = true)
    (a10 : PySem.W.nsIn K mainGlobals "_law_take" = some (some (.ref f10))) (l10 : K.lookup f10 = some ⟨oc10, od10, .func (PySem.W.fnOf "_law_take" "_law_take" (defArgs s_l_take) (defBody s_l_take) (defScope s_l_take) .none kV10 dc10 pm10 an10 cd10 ct10), sl10⟩) (c10 : PySem.W.codeIn K cd10 "_law_take" = true) (k10 : PySem.W.keepIn K (.ref f10) = true)
    (a11 : PySem.W.nsIn K mainGlobals "_law_left" = some (some (.ref f11))) (l11 : K.lookup f11 = some ⟨oc11, od11, .func (PySem.W.fnOf "_law_left" "_law_left" (defArgs s_l_left) (defBody s_l_left) (defScope s_l_left) .none kV11 dc11 pm11 an11 cd11 ct11), sl11⟩) (c11 : PySem.W.codeIn K cd11 "_law_left" = true) (k11 : PySem.W.keepIn K (.ref f11) = true)
    (a12 : PySem.W.nsIn K mainGlobals "_law_half" = some (some (.ref f12))) (l12 : K.lookup f12 = some ⟨oc12, od12, .func (PySem.W.fnOf "_law_half" "_law_half" (defArgs s_l_half) (defBody s_l_half) (defScope s_l_half) .none kV12 dc12 pm12 an12 cd12 ct12), sl12⟩) (c12 : PySem.W.codeIn K cd12 "_law_half" = true) (k12 : PySem.W.keepIn K (.ref f12) = true)
    (a13 : PySem.W.nsIn K mainGlobals "_law_hull" = some (some (.ref f13))) (l13 : K.lookup f13 = some ⟨oc13, od13, .func (PySem.W.fnOf "_law_hull" "_law_hull" (defArgs s_l_hull) (defBody s_l_hull) (defScope s_l_hull) .none kV13 dc13 pm13 an13 cd13 ct13), sl13⟩) (c13 : PySem.W.codeIn K cd13 "_law_hull" = true) (k13 : PySem.W.keepIn K (.ref f13) = true)
    (a14 : PySem.W.nsIn K mainGlobals "_law_shape" = some (some (.ref f14))) (l14 : K.lookup f14 = some ⟨oc14, od14, .func (PySem.W.fnOf "_law_shape" "_law_shape" (defArgs s_l_shape) (defBody s_l_shape) (defScope s_l_shape) .none kV14 dc14 pm14 an14 cd14 ct14), sl14⟩) (c14 : PySem.W.codeIn K cd14 "_law_shape" = true) (k14 : PySem.W.keepIn K (.ref f14) = true)
    (a15 : PySem.W.nsIn K mainGlobals "_law_form" = some (some (.ref f15))) (l15 : K.lookup f15 = some ⟨oc15, od15, .func (PySem.W.fnOf "_law_form" "_law_form" (defArgs s_l_form) (defBody s_l_form) (defScope s_l_form) .none kV15 dc15 pm15 an15 cd15 ct15), sl15⟩) (c15 : PySem.W.codeIn K cd15 "_law_form" = true) (k15 : PySem.W.keepIn K (.ref f15) = true)
    (a16 : PySem.W.nsIn K mainGlobals "_law_no_corner" = some (some (.ref f16))) (l16 : K.lookup f16 = some ⟨oc16, od16, .func (PySem.W.fnOf "_law_no_corner" "_law_no_corner" (defArgs s_l_no_corner) (defBody s_l_no_corner) (defScope s_l_no_corner) .none kV16 dc16 pm16 an16 cd16 ct16), sl16⟩) (c16 : PySem.W.codeIn K cd16 "_law_no_corner" = true) (k16 : PySem.W.keepIn K (.ref f16) = true)
    (a17 : PySem.W.nsIn K mainGlobals "_law_other" = some (some (.ref f17))) (l17 : K.lookup f17 = some ⟨oc17, od17, .func (PySem.W.fnOf "_law_other" "_law_other" (defArgs s_l_other) (defBody s_l_other) (defScope s_l_other) .none kV17 dc17 pm17 an17 cd17 ct17), sl17⟩) (c17 : PySem.W.codeIn K cd17 "_law_other" = true) (k17 : PySem.W.keepIn K (.ref f17) = true)
    (a18 : PySem.W.nsIn K mainGlobals "_law_bent" = some (some (.ref f18))) (l18 : K.lookup f18 = some ⟨oc18, od18, .func (PySem.W.fnOf "_law_bent" "_law_bent" (defArgs s_l_bent) (defBody s_l_bent) (defScope s_l_bent) .none kV18 dc18 pm18 an18 cd18 ct18), sl18⟩) (c18 : PySem.W.codeIn K cd18 "_law_bent" = true) (k18 : PySem.W.keepIn K (.ref f18) = true)
    (a19 : PySem.W.nsIn K mainGlobals "_law_thing" = some (some (.ref f19))) (l19 : K.lookup f19 = some ⟨oc19, od19, .func (PySem.W.fnOf "_law_thing" "_law_thing" (defArgs s_l_thing) (defBody s_l_thing) (defScope s_l_thing) .none kV19 dc19 pm19 an19 cd19 ct19), sl19⟩) (c19 : PySem.W.codeIn K cd19 "_law_thing" = true) (k19 : PySem.W.keepIn K (.ref f19) = true)
    (a20 : PySem.W.nsIn K mainGlobals "_law_right" = some (some (.ref f20))) (l20 : K.lookup f20 = some ⟨oc20, od20, .func (PySem.W.fnOf "_law_right" "_law_right" (defArgs s_l_right) (defBody s_l_right) (defScope s_l_right) .none kV20 dc20 pm20 an20 cd20 ct20), sl20⟩) (c20 : PySem.W.codeIn K cd20 "_law_right" = true) (k20 : PySem.W.keepIn K (.ref f20) = true)
    (a21 : PySem.W.nsIn K mainGlobals "law" = some (some (.ref f21))) (l21 : K.lookup f21 = some ⟨oc21, od21, .func (PySem.W.fnOf "law" "law" (defArgs s_law) (defBody s_law) (defScope s_law) .none kV21 dc21 pm21 an21 cd21 ct21), sl21⟩) (c21 : PySem.W.codeIn K cd21 "law" = true) (k21 : PySem.W.keepIn K (.ref f21) = true)
    (z_ValueError : PySem.W.nsIn K mainGlobals "ValueError" = some none)
    (z_abs : PySem.W.nsIn K mainGlobals "abs" = some none)
    (z_all : PySem.W.nsIn K mainGlobals "all" = some none)
    (z_bool : PySem.W.nsIn K mainGlobals "bool" = some none)
    (z_dict : PySem.W.nsIn K mainGlobals "dict" = some none)
    (z_enumerate : PySem.W.nsIn K mainGlobals "enumerate" = some none)
    (z_int : PySem.W.nsIn K mainGlobals "int" = some none)
    (z_isinstance : PySem.W.nsIn K mainGlobals "isinstance" = some none)
    (z_len : PySem.W.nsIn K mainGlobals "len" = some none)
    (z_list : PySem.W.nsIn K mainGlobals "list" = some none)
    (z_min : PySem.W.nsIn K mainGlobals "min" = some none)
    (z_range : PySem.W.nsIn K mainGlobals "range" = some none)
    (z_repr : PySem.W.nsIn K mainGlobals "repr" = some none)
    (z_sorted : PySem.W.nsIn K mainGlobals "sorted" = some none)
    (z_tuple : PySem.W.nsIn K mainGlobals "tuple" = some none)
    (z_zip : PySem.W.nsIn K mainGlobals "zip" = some none)
    (ac_BodyError : PySem.W.nsIn K mainGlobals "BodyError" = some (some (.ref c_BodyError)))
    (ac_NoShare : PySem.W.nsIn K mainGlobals "NoShare" = some (some (.ref c_NoShare)))
    (ac_BadShape : PySem.W.nsIn K mainGlobals "BadShape" = some (some (.ref c_BadShape)))
    (ac_BadRow : PySem.W.nsIn K mainGlobals "BadRow" = some (some (.ref c_BadRow)))
    (x_BadShape : PySem.W.excIn K c_BadShape [.type "ValueError", .type "Exception", .type "BaseException", .type "object"] "ValueError.__new__" = true)
    (kc_BadShape : PySem.W.keepIn K (.ref c_BadShape) = true)
    (bc_BadShape : PySem.W.subIn K (.ref c_BadShape) (.type "BaseException") = some true)
    (tc_BadShape : PySem.W.typeIn K (.ref c_BadShape) = some (.type "type"))
    (sc_BadShape : PySem.W.subIn K (.ref c_BadShape) (.ref c_BadShape) = some true)
    (hg_BadShape : PySem.W.findIn K (.ref c_BadShape) "__getattribute__" = some (some (.builtin "BaseException.__getattribute__")))
    (hk_BadShape : PySem.W.findIn K (.ref c_BadShape) "__getattr__" = some none)
    (hd_BadShape : PySem.W.hasDictIn K c_BadShape = true)
    (ha_BadShape : PySem.W.findIn K (.ref c_BadShape) "__class__" = some (some (.builtin "object.__class__")))
    (hn_BadShape : PySem.W.specialIn K (.builtin "object.__class__") "__get__" = some (some (.builtin "getset_descriptor.__get__")))
    (ht_BadShape : PySem.W.takesIn K (.builtin "object.__class__") = some true)
    (hm_BadShape : PySem.W.mroIn K c_BadShape (.type "object") = some true)
    (ic_BodyError : PySem.W.isClsIn K c_BodyError = true)
    (it_BodyError : PySem.W.typeIn K (.ref c_BodyError) = some (.type "type"))
    (is_BadShape_BodyError : PySem.W.subIn K (.ref c_BadShape) (.ref c_BodyError) = some true)
    (is_BadShape_ValueError : PySem.W.subIn K (.ref c_BadShape) (.type "ValueError") = some true)
    (ic_BadRow : PySem.W.isClsIn K c_BadRow = true)
    (it_BadRow : PySem.W.typeIn K (.ref c_BadRow) = some (.type "type"))
    (is_BadShape_BadRow : PySem.W.subIn K (.ref c_BadShape) (.ref c_BadRow) = some false)
    (ic_NoShare : PySem.W.isClsIn K c_NoShare = true)
    (it_NoShare : PySem.W.typeIn K (.ref c_NoShare) = some (.type "type"))
    (is_BadShape_NoShare : PySem.W.subIn K (.ref c_BadShape) (.ref c_NoShare) = some false)
    (an_CORNERS : PySem.W.nsIn K mainGlobals "CORNERS" = some (some (.int 8 k_CORNERS)))
    (an_REACH : PySem.W.nsIn K mainGlobals "REACH" = some (some (.int 1000000 k_REACH)))
    : ∃ fd : FuncData, (∀ (s : Shared) (v : Value), BindsTo s fd ⟨[v], []⟩ [("_law_script", v)]) ∧ ∀ base : Heap, K.In base → base.Ns mainGlobals mg → FnG l.prog w K mg base 7 fa fd ["_law_script"] (sp_law K) := by
  have e := hfa.symm.trans (PySem.W.mg_of X G a21)
  cases e
  let A0 : Ad := { f_p_is_whole := f0, fd_p_is_whole := PySem.W.fnOf "is_whole" "is_whole" (defArgs s_p_is_whole) (defBody s_p_is_whole) (defScope s_p_is_whole) .none kV0 dc0 pm0 an0 cd0 ct0, f_p_in_reach := f1, fd_p_in_reach := PySem.W.fnOf "in_reach" "in_reach" (defArgs s_p_in_reach) (defBody s_p_in_reach) (defScope s_p_in_reach) .none kV1 dc1 pm1 an1 cd1 ct1, f_p_look_corner := f2, fd_p_look_corner := PySem.W.fnOf "look_corner" "look_corner" (defArgs s_p_look_corner) (defBody s_p_look_corner) (defScope s_p_look_corner) .none kV2 dc2 pm2 an2 cd2 ct2, f_p_side_ends := f3, fd_p_side_ends := PySem.W.fnOf "side_ends" "side_ends" (defArgs s_p_side_ends) (defBody s_p_side_ends) (defScope s_p_side_ends) .none kV3 dc3 pm3 an3 cd3 ct3, f_p_is_left := f4, fd_p_is_left := PySem.W.fnOf "is_left" "is_left" (defArgs s_p_is_left) (defBody s_p_is_left) (defScope s_p_is_left) .none kV4 dc4 pm4 an4 cd4 ct4, f_p_is_side := f5, fd_p_is_side := PySem.W.fnOf "is_side" "is_side" (defArgs s_p_is_side) (defBody s_p_is_side) (defScope s_p_is_side) .none kV5 dc5 pm5 an5 cd5 ct5, f_p_look_shape := f6, fd_p_look_shape := PySem.W.fnOf "look_shape" "look_shape" (defArgs s_p_look_shape) (defBody s_p_look_shape) (defScope s_p_look_shape) .none kV6 dc6 pm6 an6 cd6 ct6, f_l_cell := f7, fd_l_cell := PySem.W.fnOf "_law_cell" "_law_cell" (defArgs s_l_cell) (defBody s_l_cell) (defScope s_l_cell) .none kV7 dc7 pm7 an7 cd7 ct7, f_l_mixed := f8, fd_l_mixed := PySem.W.fnOf "_law_mixed" "_law_mixed" (defArgs s_l_mixed) (defBody s_l_mixed) (defScope s_l_mixed) .none kV8 dc8 pm8 an8 cd8 ct8, f_l_deck := f9, fd_l_deck := PySem.W.fnOf "_law_deck" "_law_deck" (defArgs s_l_deck) (defBody s_l_deck) (defScope s_l_deck) .none kV9 dc9 pm9 an9 cd9 ct9, f_l_take := f10, fd_l_take := PySem.W.fnOf "_law_take" "_law_take" (defArgs s_l_take) (defBody s_l_take) (defScope s_l_take) .none kV10 dc10 pm10 an10 cd10 ct10, f_l_left := f11, fd_l_left := PySem.W.fnOf "_law_left" "_law_left" (defArgs s_l_left) (defBody s_l_left) (defScope s_l_left) .none kV11 dc11 pm11 an11 cd11 ct11, f_l_half := f12, fd_l_half := PySem.W.fnOf "_law_half" "_law_half" (defArgs s_l_half) (defBody s_l_half) (defScope s_l_half) .none kV12 dc12 pm12 an12 cd12 ct12, f_l_hull := f13, fd_l_hull := PySem.W.fnOf "_law_hull" "_law_hull" (defArgs s_l_hull) (defBody s_l_hull) (defScope s_l_hull) .none kV13 dc13 pm13 an13 cd13 ct13, f_l_shape := f14, fd_l_shape := PySem.W.fnOf "_law_shape" "_law_shape" (defArgs s_l_shape) (defBody s_l_shape) (defScope s_l_shape) .none kV14 dc14 pm14 an14 cd14 ct14, f_l_form := f15, fd_l_form := PySem.W.fnOf "_law_form" "_law_form" (defArgs s_l_form) (defBody s_l_form) (defScope s_l_form) .none kV15 dc15 pm15 an15 cd15 ct15, f_l_no_corner := f16, fd_l_no_corner := PySem.W.fnOf "_law_no_corner" "_law_no_corner" (defArgs s_l_no_corner) (defBody s_l_no_corner) (defScope s_l_no_corner) .none kV16 dc16 pm16 an16 cd16 ct16, f_l_other := f17, fd_l_other := PySem.W.fnOf "_law_other" "_law_other" (defArgs s_l_other) (defBody s_l_other) (defScope s_l_other) .none kV17 dc17 pm17 an17 cd17 ct17, f_l_bent := f18, fd_l_bent := PySem.W.fnOf "_law_bent" "_law_bent" (defArgs s_l_bent) (defBody s_l_bent) (defScope s_l_bent) .none kV18 dc18 pm18 an18 cd18 ct18, f_l_thing := f19, fd_l_thing := PySem.W.fnOf "_law_thing" "_law_thing" (defArgs s_l_thing) (defBody s_l_thing) (defScope s_l_thing) .none kV19 dc19 pm19 an19 cd19 ct19, f_l_right := f20, fd_l_right := PySem.W.fnOf "_law_right" "_law_right" (defArgs s_l_right) (defBody s_l_right) (defScope s_l_right) .none kV20 dc20 pm20 an20 cd20 ct20, f_law := fa, fd_law := PySem.W.fnOf "law" "law" (defArgs s_law) (defBody s_law) (defScope s_law) .none kV21 dc21 pm21 an21 cd21 ct21, c_BodyError := c_BodyError, c_NoShare := c_NoShare, c_BadShape := c_BadShape, c_BadRow := c_BadRow, k_CORNERS := k_CORNERS, k_REACH := k_REACH }
  have T : Tx K mg A0 := { F_p_is_whole := fun_mk (st := s_p_is_whole) l0 c0 k0, b_p_is_whole := (fun_mk (st := s_p_is_whole) l0 c0 k0).binds (ps := ["thing"]) fun _ _ _ _ _ _ us hl => match us, hl with | [_], _ => rfl, g_p_is_whole := PySem.W.mg_of X G a0, F_p_in_reach := fun_mk (st := s_p_in_reach) l1 c1 k1, b_p_in_reach := (fun_mk (st := s_p_in_reach) l1 c1 k1).binds (ps := ["thing"]) fun _ _ _ _ _ _ us hl => match us, hl with | [_], _ => rfl, g_p_in_reach := PySem.W.mg_of X G a1, F_p_look_corner := fun_mk (st := s_p_look_corner) l2 c2 k2, b_p_look_corner := (fun_mk (st := s_p_look_corner) l2 c2 k2).binds (ps := ["thing"]) fun _ _ _ _ _ _ us hl => match us, hl with | [_], _ => rfl, g_p_look_corner := PySem.W.mg_of X G a2, F_p_side_ends := fun_mk (st := s_p_side_ends) l3 c3 k3, b_p_side_ends := (fun_mk (st := s_p_side_ends) l3 c3 k3).binds (ps := ["corners"]) fun _ _ _ _ _ _ us hl => match us, hl with | [_], _ => rfl, g_p_side_ends := PySem.W.mg_of X G a3, F_p_is_left := fun_mk (st := s_p_is_left) l4 c4 k4, b_p_is_left := (fun_mk (st := s_p_is_left) l4 c4 k4).binds (ps := ["start", "end", "corner"]) fun _ _ _ _ _ _ us hl => match us, hl with | [_, _, _], _ => rfl, g_p_is_left := PySem.W.mg_of X G a4, F_p_is_side := fun_mk (st := s_p_is_side) l5 c5 k5, b_p_is_side := (fun_mk (st := s_p_is_side) l5 c5 k5).binds (ps := ["corners", "start", "end"]) fun _ _ _ _ _ _ us hl => match us, hl with | [_, _, _], _ => rfl, g_p_is_side := PySem.W.mg_of X G a5, F_p_look_shape := fun_mk (st := s_p_look_shape) l6 c6 k6, b_p_look_shape := (fun_mk (st := s_p_look_shape) l6 c6 k6).binds (ps := ["thing"]) fun _ _ _ _ _ _ us hl => match us, hl with | [_], _ => rfl, g_p_look_shape := PySem.W.mg_of X G a6, F_l_cell := fun_mk (st := s_l_cell) l7 c7 k7, b_l_cell := (fun_mk (st := s_l_cell) l7 c7 k7).binds (ps := ["_law_script", "_law_k"]) fun _ _ _ _ _ _ us hl => match us, hl with | [_, _], _ => rfl, g_l_cell := PySem.W.mg_of X G a7, F_l_mixed := fun_mk (st := s_l_mixed) l8 c8 k8, b_l_mixed := (fun_mk (st := s_l_mixed) l8 c8 k8).binds (ps := ["_law_script", "_law_k", "_law_many"]) fun _ _ _ _ _ _ us hl => match us, hl with | [_, _, _], _ => rfl, g_l_mixed := PySem.W.mg_of X G a8, F_l_deck := fun_mk (st := s_l_deck) l9 c9 k9, b_l_deck := (fun_mk (st := s_l_deck) l9 c9 k9).binds (ps := ["_law_script"]) fun _ _ _ _ _ _ us hl => match us, hl with | [_], _ => rfl, g_l_deck := PySem.W.mg_of X G a9, F_l_take := fun_mk (st := s_l_take) l10 c10 k10, b_l_take := (fun_mk (st := s_l_take) l10 c10 k10).binds (ps := ["_law_deck_here", "_law_many"]) fun _ _ _ _ _ _ us hl => match us, hl with | [_, _], _ => rfl, g_l_take := PySem.W.mg_of X G a10, F_l_left := fun_mk (st := s_l_left) l11 c11 k11, b_l_left := (fun_mk (st := s_l_left) l11 c11 k11).binds (ps := ["_law_a", "_law_b", "_law_c"]) fun _ _ _ _ _ _ us hl => match us, hl with | [_, _, _], _ => rfl, g_l_left := PySem.W.mg_of X G a11, F_l_half := fun_mk (st := s_l_half) l12 c12 k12, b_l_half := (fun_mk (st := s_l_half) l12 c12 k12).binds (ps := ["_law_points"]) fun _ _ _ _ _ _ us hl => match us, hl with | [_], _ => rfl, g_l_half := PySem.W.mg_of X G a12, F_l_hull := fun_mk (st := s_l_hull) l13 c13 k13, b_l_hull := (fun_mk (st := s_l_hull) l13 c13 k13).binds (ps := ["_law_points"]) fun _ _ _ _ _ _ us hl => match us, hl with | [_], _ => rfl, g_l_hull := PySem.W.mg_of X G a13, F_l_shape := fun_mk (st := s_l_shape) l14 c14 k14, b_l_shape := (fun_mk (st := s_l_shape) l14 c14 k14).binds (ps := ["_law_deck_here"]) fun _ _ _ _ _ _ us hl => match us, hl with | [_], _ => rfl, g_l_shape := PySem.W.mg_of X G a14, F_l_form := fun_mk (st := s_l_form) l15 c15 k15, b_l_form := (fun_mk (st := s_l_form) l15 c15 k15).binds (ps := ["_law_thing_here"]) fun _ _ _ _ _ _ us hl => match us, hl with | [_], _ => rfl, g_l_form := PySem.W.mg_of X G a15, F_l_no_corner := fun_mk (st := s_l_no_corner) l16 c16 k16, b_l_no_corner := (fun_mk (st := s_l_no_corner) l16 c16 k16).binds (ps := ["_law_deck_here", "_law_x", "_law_y"]) fun _ _ _ _ _ _ us hl => match us, hl with | [_, _, _], _ => rfl, g_l_no_corner := PySem.W.mg_of X G a16, F_l_other := fun_mk (st := s_l_other) l17 c17 k17, b_l_other := (fun_mk (st := s_l_other) l17 c17 k17).binds (ps := ["_law_deck_here", "_law_shape_here"]) fun _ _ _ _ _ _ us hl => match us, hl with | [_, _], _ => rfl, g_l_other := PySem.W.mg_of X G a17, F_l_bent := fun_mk (st := s_l_bent) l18 c18 k18, b_l_bent := (fun_mk (st := s_l_bent) l18 c18 k18).binds (ps := ["_law_deck_here", "_law_kind", "_law_handed"]) fun _ _ _ _ _ _ us hl => match us, hl with | [_, _, _], _ => rfl, g_l_bent := PySem.W.mg_of X G a18, F_l_thing := fun_mk (st := s_l_thing) l19 c19 k19, b_l_thing := (fun_mk (st := s_l_thing) l19 c19 k19).binds (ps := ["_law_deck_here"]) fun _ _ _ _ _ _ us hl => match us, hl with | [_], _ => rfl, g_l_thing := PySem.W.mg_of X G a19, F_l_right := fun_mk (st := s_l_right) l20 c20 k20, b_l_right := (fun_mk (st := s_l_right) l20 c20 k20).binds (ps := ["_law_thing_here"]) fun _ _ _ _ _ _ us hl => match us, hl with | [_], _ => rfl, g_l_right := PySem.W.mg_of X G a20, F_law := fun_mk (st := s_law) l21 c21 k21, b_law := (fun_mk (st := s_law) l21 c21 k21).binds (ps := ["_law_script"]) fun _ _ _ _ _ _ us hl => match us, hl with | [_], _ => rfl, g_law := PySem.W.mg_of X G a21, m_ValueError := PySem.W.mg_none_of X G z_ValueError, m_abs := PySem.W.mg_none_of X G z_abs, m_all := PySem.W.mg_none_of X G z_all, m_bool := PySem.W.mg_none_of X G z_bool, m_dict := PySem.W.mg_none_of X G z_dict, m_enumerate := PySem.W.mg_none_of X G z_enumerate, m_int := PySem.W.mg_none_of X G z_int, m_isinstance := PySem.W.mg_none_of X G z_isinstance, m_len := PySem.W.mg_none_of X G z_len, m_list := PySem.W.mg_none_of X G z_list, m_min := PySem.W.mg_none_of X G z_min, m_range := PySem.W.mg_none_of X G z_range, m_repr := PySem.W.mg_none_of X G z_repr, m_sorted := PySem.W.mg_none_of X G z_sorted, m_tuple := PySem.W.mg_none_of X G z_tuple, m_zip := PySem.W.mg_none_of X G z_zip, g_BodyError := PySem.W.mg_of X G ac_BodyError, g_NoShare := PySem.W.mg_of X G ac_NoShare, g_BadShape := PySem.W.mg_of X G ac_BadShape, g_BadRow := PySem.W.mg_of X G ac_BadRow, x_BadShape := x_BadShape, k_BadShape := kc_BadShape, b_BadShape := bc_BadShape, t_BadShape := tc_BadShape, e_BadShape := PySem.W.exm_ref bc_BadShape hd_BadShape tc_BadShape sc_BadShape, E_BadShape := ⟨hg_BadShape, hk_BadShape, bc_BadShape, hd_BadShape, ha_BadShape, hn_BadShape, ht_BadShape, hm_BadShape⟩, i_BadShape_BodyError := kit_ref ic_BodyError it_BodyError is_BadShape_BodyError sc_BadShape, i_BadShape_ValueError := kit_type (by decide +kernel) is_BadShape_ValueError, i_BadShape_BadRow := kit_ref ic_BadRow it_BadRow is_BadShape_BadRow sc_BadShape, i_BadShape_NoShare := kit_ref ic_NoShare it_NoShare is_BadShape_NoShare sc_BadShape, g_CORNERS := PySem.W.mg_of X G an_CORNERS, g_REACH := PySem.W.mg_of X G an_REACH }
  exact ⟨PySem.W.fnOf "law" "law" (defArgs s_law) (defBody s_law) (defScope s_law) .none kV21 dc21 pm21 an21 cd21 ct21, fun s v => .of_eq rfl, fun base _ _ => ok_law (A := A0) T⟩
end R
open PySem PySem.W PyProof.Rows
set_option maxRecDepth 100000 in
set_option maxHeartbeats 0 in
theorem PySem.Challenge.cw_restbodies_k06_shapes_looked_holds : PySem.Challenge.rw_restbodies_k06_shapes_looked.Holds := by
  w_on; o_law; k_head; (case hw => w_witness2)
  k_fill
  refine R.walkG (l := PySem.Challenge.rw_restbodies_k06_shapes_looked) (n := 63) (k := 7) (x := "_law_script") (sp := fun w => R.sp_law _) rfl (by decide) rfl ⟨rfl, by decide, by decide⟩ (fun w h Y => PySem.W.kIn_of Y) ?F (fun _ _ a ns hl hO hS => ⟨a, ns, rfl, hO, hS, hl, fun _ => rfl⟩)
  case F =>
    intro w mg fa h KX G hmg
    refine' R.all_mk KX G hmg ?a0 ?l0 ?c0 ?k0 ?a1 ?l1 ?c1 ?k1 ?a2 ?l2 ?c2 ?k2 ?a3 ?l3 ?c3 ?k3 ?a4 ?l4 ?c4 ?k4 ?a5 ?l5 ?c5 ?k5 ?a6 ?l6 ?c6 ?k6 ?a7 ?l7 ?c7 ?k7 ?a8 ?l8 ?c8 ?k8 ?a9 ?l9 ?c9 ?k9 ?a10 ?l10 ?c10 ?k10 ?a11 ?l11 ?c11 ?k11 ?a12 ?l12 ?c12 ?k12 ?a13 ?l13 ?c13 ?k13 ?a14 ?l14 ?c14 ?k14 ?a15 ?l15 ?c15 ?k15 ?a16 ?l16 ?c16 ?k16 ?a17 ?l17 ?c17 ?k17 ?a18 ?l18 ?c18 ?k18 ?a19 ?l19 ?c19 ?k19 ?a20 ?l20 ?c20 ?k20 ?a21 ?l21 ?c21 ?k21 ?z_ValueError ?z_abs ?z_all ?z_bool ?z_dict ?z_enumerate ?z_int ?z_isinstance ?z_len ?z_list ?z_min ?z_range ?z_repr ?z_sorted ?z_tuple ?z_zip ?ac_BodyError ?ac_NoShare ?ac_BadShape ?ac_BadRow ?x_BadShape ?kc_BadShape ?bc_BadShape ?tc_BadShape ?sc_BadShape ?hg_BadShape ?hk_BadShape ?hd_BadShape ?ha_BadShape ?hn_BadShape ?ht_BadShape ?hm_BadShape ?ic_BodyError ?it_BodyError ?is_BadShape_BodyError ?is_BadShape_ValueError ?ic_BadRow ?it_BadRow ?is_BadShape_BadRow ?ic_NoShare ?it_NoShare ?is_BadShape_NoShare ?an_CORNERS ?an_REACH
    (case a0 => k_is)
    (case l0 => k_is)
    (case c0 => k_is)
    (case k0 => k_is)
    (case a1 => k_is)
    (case l1 => k_is)
    (case c1 => k_is)
    (case k1 => k_is)
    (case a2 => k_is)
    (case l2 => k_is)
    (case c2 => k_is)
    (case k2 => k_is)
    (case a3 => k_is)
    (case l3 => k_is)
    (case c3 => k_is)
    (case k3 => k_is)
    (case a4 => k_is)
    (case l4 => k_is)
    (case c4 => k_is)
    (case k4 => k_is)
    (case a5 => k_is)
    (case l5 => k_is)
    (case c5 => k_is)
    (case k5 => k_is)
    (case a6 => k_is)
    (case l6 => k_is)
    (case c6 => k_is)
    (case k6 => k_is)
    (case a7 => k_is)
    (case l7 => k_is)
    (case c7 => k_is)
    (case k7 => k_is)
    (case a8 => k_is)
    (case l8 => k_is)
    (case c8 => k_is)
    (case k8 => k_is)
    (case a9 => k_is)
    (case l9 => k_is)
    (case c9 => k_is)
    (case k9 => k_is)
    (case a10 => k_is)
    (case l10 => k_is)
    (case c10 => k_is)
    (case k10 => k_is)
    (case a11 => k_is)
    (case l11 => k_is)
    (case c11 => k_is)
    (case k11 => k_is)
    (case a12 => k_is)
    (case l12 => k_is)
    (case c12 => k_is)
    (case k12 => k_is)
    (case a13 => k_is)
    (case l13 => k_is)
    (case c13 => k_is)
    (case k13 => k_is)
    (case a14 => k_is)
    (case l14 => k_is)
    (case c14 => k_is)
    (case k14 => k_is)
    (case a15 => k_is)
    (case l15 => k_is)
    (case c15 => k_is)
    (case k15 => k_is)
    (case a16 => k_is)
    (case l16 => k_is)
    (case c16 => k_is)
    (case k16 => k_is)
    (case a17 => k_is)
    (case l17 => k_is)
    (case c17 => k_is)
    (case k17 => k_is)
    (case a18 => k_is)
    (case l18 => k_is)
    (case c18 => k_is)
    (case k18 => k_is)
    (case a19 => k_is)
    (case l19 => k_is)
    (case c19 => k_is)
    (case k19 => k_is)
    (case a20 => k_is)
    (case l20 => k_is)
    (case c20 => k_is)
    (case k20 => k_is)
    (case a21 => k_is)
    (case l21 => k_is)
    (case c21 => k_is)
    (case k21 => k_is)
    (case z_ValueError => k_is)
    (case z_abs => k_is)
    (case z_all => k_is)
    (case z_bool => k_is)
    (case z_dict => k_is)
    (case z_enumerate => k_is)
    (case z_int => k_is)
    (case z_isinstance => k_is)
    (case z_len => k_is)
    (case z_list => k_is)
    (case z_min => k_is)
    (case z_range => k_is)
    (case z_repr => k_is)
    (case z_sorted => k_is)
    (case z_tuple => k_is)
    (case z_zip => k_is)
    (case ac_BodyError => k_is)
    (case ac_NoShare => k_is)
    (case ac_BadShape => k_is)
    (case ac_BadRow => k_is)
    (case x_BadShape => k_exc)
    (case kc_BadShape => k_is)
    (case bc_BadShape => k_is)
    (case tc_BadShape => k_is)
    (case sc_BadShape => k_is)
    (case hg_BadShape => k_is)
    (case hk_BadShape => k_is)
    (case hd_BadShape => k_is)
    (case ha_BadShape => k_is)
    (case hn_BadShape => k_is)
    (case ht_BadShape => k_is)
    (case hm_BadShape => k_is)
    (case ic_BodyError => k_is)
    (case it_BodyError => k_is)
    (case is_BadShape_BodyError => k_is)
    (case is_BadShape_ValueError => k_is)
    (case ic_BadRow => k_is)
    (case it_BadRow => k_is)
    (case is_BadShape_BadRow => k_is)
    (case ic_NoShare => k_is)
    (case it_NoShare => k_is)
    (case is_BadShape_NoShare => k_is)
    (case an_CORNERS => k_is)
    (case an_REACH => k_is)
