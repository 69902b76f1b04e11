import PyProof.Rows.All
import Wide.All
import OpenK.AllK
import Wide.FinOn
import HandS.ForMost
import HandS.Wide
import HandS.IsInst
import HandS.Defaults
import HandS.WideBits

import HandS.ForExc
import HandS.ExcIs
import HandS.Style
import HandS.Sort
import HandS.SortRule
import HandS.Zip
import HandS.FStr
import HandS.Text
import HandS.TupAny
import KE.KCallOwn
import KE.IntTextLaws
import KE.IntTextText
import PySem.Challenge.RW_restbodies_k71_states_written
set_option Elab.async false
set_option linter.all false
set_option maxRecDepth 100000
set_option maxHeartbeats 2000000
set_option synthInstance.maxSize 100000
set_option synthInstance.maxHeartbeats 2000000
namespace R
open PySem PySem.Spec PyProof.Rows L2
/-! ### the text -/
def topS (i : Nat) : Stmt := PySem.Challenge.pw_restbodies_k71_states_written.main.body.getD i (.Pass ⟨0, 0, 0, 0⟩)
abbrev s_p_share_text : Stmt := topS 2
theorem sc_p_share_text : FnScope ["one", "top", "bottom"] ["one"] (defScope s_p_share_text) := ⟨rfl, rfl, rfl, by decide +kernel, rfl, by decide +kernel, by decide +kernel⟩
abbrev s_p_spot_words : Stmt := topS 4
theorem sc_p_spot_words : FnScope ["spot", "part"] ["spot"] (defScope s_p_spot_words) := ⟨rfl, rfl, rfl, by decide +kernel, rfl, by decide +kernel, by decide +kernel⟩
abbrev s_p_corner_words : Stmt := topS 5
theorem sc_p_corner_words : FnScope ["shape", "x", "y"] ["shape"] (defScope s_p_corner_words) := ⟨rfl, rfl, rfl, by decide +kernel, rfl, by decide +kernel, by decide +kernel⟩
abbrev s_p_wall_words : Stmt := topS 6
theorem sc_p_wall_words : FnScope ["row", "name", "shape", "mass", "rail", "place", "speed"] ["row"] (defScope s_p_wall_words) := ⟨rfl, rfl, rfl, by decide +kernel, rfl, by decide +kernel, by decide +kernel⟩
abbrev s_p_free_words : Stmt := topS 7
theorem sc_p_free_words : FnScope ["row", "name", "shape", "mass", "rail", "place", "speed"] ["row"] (defScope s_p_free_words) := ⟨rfl, rfl, rfl, by decide +kernel, rfl, by decide +kernel, by decide +kernel⟩
abbrev s_p_rail_words : Stmt := topS 8
theorem sc_p_rail_words : FnScope ["row", "name", "shape", "mass", "rail", "place", "speed", "ahead"] ["row"] (defScope s_p_rail_words) := ⟨rfl, rfl, rfl, by decide +kernel, rfl, by decide +kernel, by decide +kernel⟩
abbrev s_p_body_of : Stmt := topS 13
theorem sc_p_body_of : FnScope ["row", "name", "shape", "mass", "rail", "place", "speed"] ["row"] (defScope s_p_body_of) := ⟨rfl, rfl, rfl, by decide +kernel, rfl, by decide +kernel, by decide +kernel⟩
abbrev s_p_head_line : Stmt := topS 15
theorem sc_p_head_line : FnScope ["pull", "give", "clock", "x", "y"] ["pull", "give", "clock"] (defScope s_p_head_line) := ⟨rfl, rfl, rfl, by decide +kernel, rfl, by decide +kernel, by decide +kernel⟩
abbrev s_p_state_text : Stmt := topS 16
theorem sc_p_state_text : FnScope ["state", "pull", "give", "clock", "rows", "row"] ["state"] (defScope s_p_state_text) := ⟨rfl, rfl, rfl, by decide +kernel, rfl, by decide +kernel, by decide +kernel⟩
abbrev s_l_cell : Stmt := topS 18
theorem sc_l_cell : FnScope ["_law_script", "_law_k"] ["_law_script", "_law_k"] (defScope s_l_cell) := ⟨rfl, rfl, rfl, by decide +kernel, rfl, by decide +kernel, by decide +kernel⟩
abbrev s_l_mixed : Stmt := topS 19
theorem sc_l_mixed : FnScope ["_law_script", "_law_k", "_law_many", "_law_number_here"] ["_law_script", "_law_k", "_law_many"] (defScope s_l_mixed) := ⟨rfl, rfl, rfl, by decide +kernel, rfl, by decide +kernel, by decide +kernel⟩
abbrev s_l_deck : Stmt := topS 20
theorem sc_l_deck : FnScope ["_law_script", "_law_cell_here"] ["_law_script"] (defScope s_l_deck) := ⟨rfl, rfl, rfl, by decide +kernel, rfl, by decide +kernel, by decide +kernel⟩
abbrev s_l_take : Stmt := topS 21
theorem sc_l_take : FnScope ["_law_deck_here", "_law_many", "_law_cell_here"] ["_law_deck_here", "_law_many"] (defScope s_l_take) := ⟨rfl, rfl, rfl, by decide +kernel, rfl, by decide +kernel, by decide +kernel⟩
abbrev s_l_gcd : Stmt := topS 22
theorem sc_l_gcd : FnScope ["_law_one", "_law_other", "_law_rest"] ["_law_one", "_law_other"] (defScope s_l_gcd) := ⟨rfl, rfl, rfl, by decide +kernel, rfl, by decide +kernel, by decide +kernel⟩
abbrev s_l_share : Stmt := topS 23
theorem sc_l_share : FnScope ["_law_top", "_law_bottom", "_law_found"] ["_law_top", "_law_bottom"] (defScope s_l_share) := ⟨rfl, rfl, rfl, by decide +kernel, rfl, by decide +kernel, by decide +kernel⟩
abbrev s_l_number : Stmt := topS 24
theorem sc_l_number : FnScope ["_law_deck_here", "_law_kind", "_law_number_here"] ["_law_deck_here"] (defScope s_l_number) := ⟨rfl, rfl, rfl, by decide +kernel, rfl, by decide +kernel, by decide +kernel⟩
abbrev s_l_part : Stmt := topS 25
theorem sc_l_part : FnScope ["_law_deck_here", "_law_kind", "_law_number_here", "_law_beneath"] ["_law_deck_here"] (defScope s_l_part) := ⟨rfl, rfl, rfl, by decide +kernel, rfl, by decide +kernel, by decide +kernel⟩
abbrev s_l_names : Stmt := topS 26
theorem sc_l_names : FnScope ["_law_deck_here", "_law_many", "_law_letters", "_law_found", "_law_turn", "_law_size", "_law_name", "_law_k"] ["_law_deck_here", "_law_many"] (defScope s_l_names) := ⟨rfl, rfl, rfl, by decide +kernel, rfl, by decide +kernel, by decide +kernel⟩
abbrev s_l_shape : Stmt := topS 27
theorem sc_l_shape : FnScope ["_law_deck_here", "_law_span", "_law_wide", "_law_high", "_law_low", "_law_kind"] ["_law_deck_here"] (defScope s_l_shape) := ⟨rfl, rfl, rfl, by decide +kernel, rfl, by decide +kernel, by decide +kernel⟩
abbrev s_l_row : Stmt := topS 28
theorem sc_l_row : FnScope ["_law_deck_here", "_law_name", "_law_far", "_law_kind", "_law_shape_here", "_law_beneath", "_law_place", "_law_weight", "_law_fast", "_law_p", "_law_q", "_law_part_here", "_law_way"] ["_law_deck_here", "_law_name", "_law_far"] (defScope s_l_row) := ⟨rfl, rfl, rfl, by decide +kernel, rfl, by decide +kernel, by decide +kernel⟩
abbrev s_l_state : Stmt := topS 29
theorem sc_l_state : FnScope ["_law_deck_here", "_law_many", "_law_drift", "_law_beneath", "_law_bounce", "_law_clock", "_law_rows", "_law_far", "_law_name"] ["_law_deck_here", "_law_many"] (defScope s_l_state) := ⟨rfl, rfl, rfl, by decide +kernel, rfl, by decide +kernel, by decide +kernel⟩
abbrev s_l_word : Stmt := topS 30
theorem sc_l_word : FnScope ["_law_part_here"] ["_law_part_here"] (defScope s_l_word) := ⟨rfl, rfl, rfl, by decide +kernel, rfl, by decide +kernel, by decide +kernel⟩
abbrev s_l_words : Stmt := topS 31
theorem sc_l_words : FnScope ["_law_row_here", "_law_name", "_law_shape_here", "_law_weight", "_law_way", "_law_place", "_law_fast", "_law_head", "_law_going", "_law_part_here", "_law_x", "_law_y"] ["_law_row_here"] (defScope s_l_words) := ⟨rfl, rfl, rfl, by decide +kernel, rfl, by decide +kernel, by decide +kernel⟩
abbrev s_l_lines : Stmt := topS 32
theorem sc_l_lines : FnScope ["_law_state_here", "_law_drift", "_law_bounce", "_law_clock", "_law_rows", "_law_head", "_law_part_here", "_law_words_here", "_law_row_here"] ["_law_state_here"] (defScope s_l_lines) := ⟨rfl, rfl, rfl, by decide +kernel, rfl, by decide +kernel, by decide +kernel⟩
abbrev s_law : Stmt := topS 33
theorem sc_law : FnScope ["_law_script", "_law_deck_here", "_law_many", "_law_state_here", "_law_lines_here", "_law_row_here", "_law_line", "_law_found", "_law_fewer"] ["_law_script"] (defScope s_law) := ⟨rfl, rfl, rfl, by decide +kernel, rfl, by decide +kernel, by decide +kernel⟩
abbrev s_m_Body___init__ : Stmt := inClass (topS 9) 0
theorem sc_m_Body___init__ : FnScope ["self", "row"] ["self", "row"] (defScope s_m_Body___init__) := ⟨rfl, rfl, rfl, by decide +kernel, rfl, by decide +kernel, by decide +kernel⟩
abbrev s_m_Wall___str__ : Stmt := inClass (topS 10) 3
theorem sc_m_Wall___str__ : FnScope ["self"] ["self"] (defScope s_m_Wall___str__) := ⟨rfl, rfl, rfl, by decide +kernel, rfl, by decide +kernel, by decide +kernel⟩
abbrev s_m_Free___str__ : Stmt := inClass (topS 11) 3
theorem sc_m_Free___str__ : FnScope ["self"] ["self"] (defScope s_m_Free___str__) := ⟨rfl, rfl, rfl, by decide +kernel, rfl, by decide +kernel, by decide +kernel⟩
abbrev s_m_Railed___str__ : Stmt := inClass (topS 12) 3
theorem sc_m_Railed___str__ : FnScope ["self"] ["self"] (defScope s_m_Railed___str__) := ⟨rfl, rfl, rfl, by decide +kernel, rfl, by decide +kernel, by decide +kernel⟩
/-! ### heaps -/
theorem upd_some {H : Hp} {p x : Addr} {o u : HO} (hp : H p = none) (h : H x = some u) : (upd H p o) x = some u := by
  rw [upd_ne (ne_of_none h hp)]
  exact h
theorem same_upd {H : Hp} {p : Addr} {o : HO} (h : H p = none) : Same H (upd H p o) := fun b x e => upd_some h e
theorem alloc {H G : Hp} {p : Addr} {o : HO} (e : upd H p o = G) (hp : H p = none) : Same H G ∧ G p = some o := by
  subst e
  exact ⟨same_upd hp, upd_same⟩
theorem Same.seqT {K : PySem.W.Frag} {H H' : Hp} {a : Addr} {xs : List V} (e : Same H H') (h : SqT K H a xs) : SqT K H' a xs := by
  rcases h with (h | ⟨o, h⟩) | h
  · exact .inl (.inl (e _ _ h))
  · exact .inl (.inr ⟨o, e _ _ h⟩)
  · exact .inr h
/-- all but what stands at d and b is as it was -/
def Kp (d b : Addr) (H H' : Hp) : Prop := ∀ x o, x ≠ d → x ≠ b → H x = some o → H' x = some o
theorem Kp.refl {d b : Addr} {H : Hp} : Kp d b H H := fun _ _ _ _ h => h
theorem Kp.trans {d b : Addr} {H H1 H2 : Hp} (u : Kp d b H H1) (v : Kp d b H1 H2) : Kp d b H H2 := fun x o h1 h2 h => v x o h1 h2 (u x o h1 h2 h)
theorem Kp.same {d b : Addr} {H H' : Hp} (s : Same H H') : Kp d b H H' := fun x o _ _ h => s x o h
theorem Kp.free {d b : Addr} {H H' : Hp} (u : Kp d b H H') {x : Addr} (hd : H d ≠ none) (hb : H b ≠ none) (h : H' x = none) (h1 : H' d ≠ none) (h2 : H' b ≠ none) : H x = none := by
  cases e : H x with
  | none => rfl
  | some o =>
    by_cases e1 : x = d
    · subst e1; exact absurd h h1
    by_cases e2 : x = b
    · subst e2; exact absurd h h2
    rw [u x o e1 e2 e] at h
    cases h
/-- the law's script -/
def Sc (K : PySem.W.Frag) (H : Hp) (s : Addr) (ns : List Int) : Prop := (∃ o, H s = some (.frz o (.lst (ns.map V.int)))) ∨ ∀ H', SqL K H' s (ns.map V.int)
theorem Sc.seq {K : PySem.W.Frag} {H : Hp} {s : Addr} {ns : List Int} (h : Sc K H s ns) : SqL K H s (ns.map V.int) := by
  rcases h with ⟨o, h⟩ | h
  · exact .inl (.inr ⟨o, h⟩)
  · exact h H
theorem Sc.mk {K : PySem.W.Frag} {H : Hp} {s : Addr} {ns : List Int} (hO : Only H) (h : SqL K H s (ns.map V.int)) : Sc K H s ns := by
  rcases h with (h | ⟨o, h⟩) | h
  · rcases hO s with e | ⟨o, xs, e⟩
    · rw [e] at h; cases h
    · rw [e] at h; cases h
  · exact .inl ⟨o, h⟩
  · exact .inr fun H' => .inr h
theorem Sc.upd {K : PySem.W.Frag} {H : Hp} {s b : Addr} {ns : List Int} {u : HO} (h : Sc K H s ns) (hb : H b = none ∨ ∃ xs, H b = some (.lst xs)) : Sc K (upd H b u) s ns := by
  rcases h with ⟨o, h⟩ | h
  · refine .inl ⟨o, ?_⟩
    have n : s ≠ b := fun e => by
      subst e
      rcases hb with e | ⟨xs, e⟩ <;> rw [e] at h <;> cases h
    rw [upd_ne n]
    exact h
  · exact .inr h
theorem Sc.keep {K : PySem.W.Frag} {H H' : Hp} {s : Addr} {ns : List Int} (h : Sc K H s ns) (k : Same H H') : Sc K H' s ns := by
  rcases h with ⟨o, h⟩ | h
  · exact .inl ⟨o, k _ _ h⟩
  · exact .inr h
/-- the deck at d, its cells at b, drawn at most c times -/
structure Deck (K : PySem.W.Frag) (H : Hp) (d b : Addr) (c : Int) : Prop where
  ex : ∃ (s : Addr) (ns cs : List Int) (i k : Int), H d = some (.lst [.ref s, .ref b, .int i, .int k]) ∧ H b = some (.lst (cs.map V.int)) ∧ Sc K H s ns ∧ 0 ≤ i ∧ 0 ≤ k ∧ k ≤ c
  ne : b ≠ d
theorem Deck.keep {K : PySem.W.Frag} {H H' : Hp} {d b : Addr} {c : Int} (D : Deck K H d b c) (k : Same H H') : Deck K H' d b c := by
  obtain ⟨⟨s, ns, cs, i, j, h1, h2, h3, h4⟩, n⟩ := D
  exact ⟨⟨s, ns, cs, i, j, k _ _ h1, k _ _ h2, h3.keep k, h4⟩, n⟩
theorem Deck.le {K : PySem.W.Frag} {H : Hp} {d b : Addr} {c c' : Int} (D : Deck K H d b c) (h : c ≤ c') : Deck K H d b c' := by
  obtain ⟨⟨s, ns, cs, i, j, h1, h2, h3, h4, h5, h6⟩, n⟩ := D
  exact ⟨⟨s, ns, cs, i, j, h1, h2, h3, h4, h5, by omega⟩, n⟩
/-- an object beside the deck stands -/
theorem Deck.tup {K : PySem.W.Frag} {H H' : Hp} {d b x : Addr} {c : Int} {xs : List V} (D : Deck K H d b c) (k : Kp d b H H') (h : H x = some (.tup xs)) : H' x = some (.tup xs) := by
  obtain ⟨⟨s, ns, cs, i, j, h1, h2, _⟩, n⟩ := D
  exact k x _ (fun e => by rw [e, h1] at h; cases h) (fun e => by rw [e, h2] at h; cases h) h
theorem Deck.seqT {K : PySem.W.Frag} {H H' : Hp} {d b x : Addr} {c : Int} {xs : List V} (D : Deck K H d b c) (k : Kp d b H H') (h : SqT K H x xs) : SqT K H' x xs := by
  obtain ⟨⟨s, ns, cs, i, j, h1, h2, _⟩, n⟩ := D
  rcases h with (h | ⟨o, h⟩) | h
  · exact .inl (.inl (k x _ (fun e => by rw [e, h1] at h; cases h) (fun e => by rw [e, h2] at h; cases h) h))
  · exact .inl (.inr ⟨o, k x _ (fun e => by rw [e, h1] at h; cases h) (fun e => by rw [e, h2] at h; cases h) h⟩)
  · exact .inr h
theorem Deck.hd {K : PySem.W.Frag} {H : Hp} {d b : Addr} {c : Int} (D : Deck K H d b c) : H d ≠ none := by
  obtain ⟨⟨s, ns, cs, i, j, h1, _⟩, n⟩ := D
  rw [h1]; exact fun e => nomatch e
theorem Deck.hb {K : PySem.W.Frag} {H : Hp} {d b : Addr} {c : Int} (D : Deck K H d b c) : H b ≠ none := by
  obtain ⟨⟨s, ns, cs, i, j, _, h1, _⟩, n⟩ := D
  rw [h1]; exact fun e => nomatch e
theorem Deck.free {K : PySem.W.Frag} {H H' : Hp} {d b x : Addr} {c c' : Int} (D : Deck K H d b c) (D' : Deck K H' d b c') (k : Kp d b H H') (h : H' x = none) : H x = none := k.free D.hd D.hb h D'.hd D'.hb
theorem Deck.ne_d {K : PySem.W.Frag} {H : Hp} {d b x : Addr} {c : Int} (D : Deck K H d b c) (h : H x = none) : x ≠ d := fun e => D.hd (e ▸ h)
theorem Deck.ne_b {K : PySem.W.Frag} {H : Hp} {d b x : Addr} {c : Int} (D : Deck K H d b c) (h : H x = none) : x ≠ b := fun e => D.hb (e ▸ h)
/-! ### numbers -/
theorem log2_lt {n k : Nat} (h : n < 2 ^ k) (h0 : 0 < k) : n.log2 < k := PySem.Flt.log2_lt_of h0 h
theorem size63 {n : Nat} (h : n ≤ 1000) : n ≤ sizeLine := Nat.le_of_lt (small1000 h)
theorem abs_nn (i : Int) : 0 ≤ (if i < 0 then -i else i) := by
  split <;> omega
theorem abs_nat (i : Int) : (if i < 0 then -i else i) = (i.natAbs : Int) := by
  split <;> omega
/-! ### the facts of the text -/
structure Ad where
  f_p_share_text : Addr
  fd_p_share_text : FuncData
  f_p_spot_words : Addr
  fd_p_spot_words : FuncData
  f_p_corner_words : Addr
  fd_p_corner_words : FuncData
  f_p_wall_words : Addr
  fd_p_wall_words : FuncData
  f_p_free_words : Addr
  fd_p_free_words : FuncData
  f_p_rail_words : Addr
  fd_p_rail_words : FuncData
  f_p_body_of : Addr
  fd_p_body_of : FuncData
  f_p_head_line : Addr
  fd_p_head_line : FuncData
  f_p_state_text : Addr
  fd_p_state_text : FuncData
  f_l_cell : Addr
  fd_l_cell : FuncData
  f_l_mixed : Addr
  fd_l_mixed : FuncData
  f_l_deck : Addr
  fd_l_deck : FuncData
  f_l_take : Addr
  fd_l_take : FuncData
  f_l_gcd : Addr
  fd_l_gcd : FuncData
  f_l_share : Addr
  fd_l_share : FuncData
  f_l_number : Addr
  fd_l_number : FuncData
  f_l_part : Addr
  fd_l_part : FuncData
  f_l_names : Addr
  fd_l_names : FuncData
  f_l_shape : Addr
  fd_l_shape : FuncData
  f_l_row : Addr
  fd_l_row : FuncData
  f_l_state : Addr
  fd_l_state : FuncData
  f_l_word : Addr
  fd_l_word : FuncData
  f_l_words : Addr
  fd_l_words : FuncData
  f_l_lines : Addr
  fd_l_lines : FuncData
  f_law : Addr
  fd_law : FuncData
  c_Body : Addr
  c_Wall : Addr
  c_Free : Addr
  c_Railed : Addr
  f_m_Body___init__ : Addr
  fd_m_Body___init__ : FuncData
  f_m_Wall___str__ : Addr
  fd_m_Wall___str__ : FuncData
  f_m_Free___str__ : Addr
  fd_m_Free___str__ : FuncData
  f_m_Railed___str__ : Addr
  fd_m_Railed___str__ : FuncData
structure Tx (K : PySem.W.Frag) (mg : Str → Option Value) (A : Ad) : Prop where
  F_p_share_text : Fun K "share_text" "share_text" s_p_share_text A.f_p_share_text A.fd_p_share_text
  b_p_share_text : Binds K A.fd_p_share_text ["one"] []
  g_p_share_text : mg "share_text" = some (.ref A.f_p_share_text)
  F_p_spot_words : Fun K "spot_words" "spot_words" s_p_spot_words A.f_p_spot_words A.fd_p_spot_words
  b_p_spot_words : Binds K A.fd_p_spot_words ["spot"] []
  g_p_spot_words : mg "spot_words" = some (.ref A.f_p_spot_words)
  F_p_corner_words : Fun K "corner_words" "corner_words" s_p_corner_words A.f_p_corner_words A.fd_p_corner_words
  b_p_corner_words : Binds K A.fd_p_corner_words ["shape"] []
  g_p_corner_words : mg "corner_words" = some (.ref A.f_p_corner_words)
  F_p_wall_words : Fun K "wall_words" "wall_words" s_p_wall_words A.f_p_wall_words A.fd_p_wall_words
  b_p_wall_words : Binds K A.fd_p_wall_words ["row"] []
  g_p_wall_words : mg "wall_words" = some (.ref A.f_p_wall_words)
  F_p_free_words : Fun K "free_words" "free_words" s_p_free_words A.f_p_free_words A.fd_p_free_words
  b_p_free_words : Binds K A.fd_p_free_words ["row"] []
  g_p_free_words : mg "free_words" = some (.ref A.f_p_free_words)
  F_p_rail_words : Fun K "rail_words" "rail_words" s_p_rail_words A.f_p_rail_words A.fd_p_rail_words
  b_p_rail_words : Binds K A.fd_p_rail_words ["row"] []
  g_p_rail_words : mg "rail_words" = some (.ref A.f_p_rail_words)
  F_p_body_of : Fun K "body_of" "body_of" s_p_body_of A.f_p_body_of A.fd_p_body_of
  b_p_body_of : Binds K A.fd_p_body_of ["row"] []
  g_p_body_of : mg "body_of" = some (.ref A.f_p_body_of)
  F_p_head_line : Fun K "head_line" "head_line" s_p_head_line A.f_p_head_line A.fd_p_head_line
  b_p_head_line : Binds K A.fd_p_head_line ["pull", "give", "clock"] []
  g_p_head_line : mg "head_line" = some (.ref A.f_p_head_line)
  F_p_state_text : Fun K "state_text" "state_text" s_p_state_text A.f_p_state_text A.fd_p_state_text
  b_p_state_text : Binds K A.fd_p_state_text ["state"] []
  g_p_state_text : mg "state_text" = some (.ref A.f_p_state_text)
  F_l_cell : Fun K "_law_cell" "_law_cell" s_l_cell A.f_l_cell A.fd_l_cell
  b_l_cell : Binds K A.fd_l_cell ["_law_script", "_law_k"] []
  g_l_cell : mg "_law_cell" = some (.ref A.f_l_cell)
  F_l_mixed : Fun K "_law_mixed" "_law_mixed" s_l_mixed A.f_l_mixed A.fd_l_mixed
  b_l_mixed : Binds K A.fd_l_mixed ["_law_script", "_law_k", "_law_many"] []
  g_l_mixed : mg "_law_mixed" = some (.ref A.f_l_mixed)
  F_l_deck : Fun K "_law_deck" "_law_deck" s_l_deck A.f_l_deck A.fd_l_deck
  b_l_deck : Binds K A.fd_l_deck ["_law_script"] []
  g_l_deck : mg "_law_deck" = some (.ref A.f_l_deck)
  F_l_take : Fun K "_law_take" "_law_take" s_l_take A.f_l_take A.fd_l_take
  b_l_take : Binds K A.fd_l_take ["_law_deck_here", "_law_many"] []
  g_l_take : mg "_law_take" = some (.ref A.f_l_take)
  F_l_gcd : Fun K "_law_gcd" "_law_gcd" s_l_gcd A.f_l_gcd A.fd_l_gcd
  b_l_gcd : Binds K A.fd_l_gcd ["_law_one", "_law_other"] []
  g_l_gcd : mg "_law_gcd" = some (.ref A.f_l_gcd)
  F_l_share : Fun K "_law_share" "_law_share" s_l_share A.f_l_share A.fd_l_share
  b_l_share : Binds K A.fd_l_share ["_law_top", "_law_bottom"] []
  g_l_share : mg "_law_share" = some (.ref A.f_l_share)
  F_l_number : Fun K "_law_number" "_law_number" s_l_number A.f_l_number A.fd_l_number
  b_l_number : Binds K A.fd_l_number ["_law_deck_here"] []
  g_l_number : mg "_law_number" = some (.ref A.f_l_number)
  F_l_part : Fun K "_law_part" "_law_part" s_l_part A.f_l_part A.fd_l_part
  b_l_part : Binds K A.fd_l_part ["_law_deck_here"] []
  g_l_part : mg "_law_part" = some (.ref A.f_l_part)
  F_l_names : Fun K "_law_names" "_law_names" s_l_names A.f_l_names A.fd_l_names
  b_l_names : Binds K A.fd_l_names ["_law_deck_here", "_law_many"] []
  g_l_names : mg "_law_names" = some (.ref A.f_l_names)
  F_l_shape : Fun K "_law_shape" "_law_shape" s_l_shape A.f_l_shape A.fd_l_shape
  b_l_shape : Binds K A.fd_l_shape ["_law_deck_here"] []
  g_l_shape : mg "_law_shape" = some (.ref A.f_l_shape)
  F_l_row : Fun K "_law_row" "_law_row" s_l_row A.f_l_row A.fd_l_row
  b_l_row : Binds K A.fd_l_row ["_law_deck_here", "_law_name", "_law_far"] []
  g_l_row : mg "_law_row" = some (.ref A.f_l_row)
  F_l_state : Fun K "_law_state" "_law_state" s_l_state A.f_l_state A.fd_l_state
  b_l_state : Binds K A.fd_l_state ["_law_deck_here", "_law_many"] []
  g_l_state : mg "_law_state" = some (.ref A.f_l_state)
  F_l_word : Fun K "_law_word" "_law_word" s_l_word A.f_l_word A.fd_l_word
  b_l_word : Binds K A.fd_l_word ["_law_part_here"] []
  g_l_word : mg "_law_word" = some (.ref A.f_l_word)
  F_l_words : Fun K "_law_words" "_law_words" s_l_words A.f_l_words A.fd_l_words
  b_l_words : Binds K A.fd_l_words ["_law_row_here"] []
  g_l_words : mg "_law_words" = some (.ref A.f_l_words)
  F_l_lines : Fun K "_law_lines" "_law_lines" s_l_lines A.f_l_lines A.fd_l_lines
  b_l_lines : Binds K A.fd_l_lines ["_law_state_here"] []
  g_l_lines : mg "_law_lines" = some (.ref A.f_l_lines)
  F_law : Fun K "law" "law" s_law A.f_law A.fd_law
  b_law : Binds K A.fd_law ["_law_script"] []
  g_law : mg "law" = some (.ref A.f_law)
  m_abs : mg "abs" = none
  m_enumerate : mg "enumerate" = none
  m_int : mg "int" = none
  m_isinstance : mg "isinstance" = none
  m_len : mg "len" = none
  m_range : mg "range" = none
  m_sorted : mg "sorted" = none
  m_str : mg "str" = none
  m_tuple : mg "tuple" = none
  m_zip : mg "zip" = none
  g_Body : mg "Body" = some (.ref A.c_Body)
  g_Wall : mg "Wall" = some (.ref A.c_Wall)
  g_Free : mg "Free" = some (.ref A.c_Free)
  g_Railed : mg "Railed" = some (.ref A.c_Railed)
  F_m_Body___init__ : Fun K "__init__" "Body.__init__" s_m_Body___init__ A.f_m_Body___init__ A.fd_m_Body___init__
  b_m_Body___init__ : Binds K A.fd_m_Body___init__ ["self", "row"] []
  F_m_Wall___str__ : Fun K "__str__" "Wall.__str__" s_m_Wall___str__ A.f_m_Wall___str__ A.fd_m_Wall___str__
  b_m_Wall___str__ : Binds K A.fd_m_Wall___str__ ["self"] []
  mt_m_Wall___str__ : Meth K A.c_Wall "__str__" A.f_m_Wall___str__
  F_m_Free___str__ : Fun K "__str__" "Free.__str__" s_m_Free___str__ A.f_m_Free___str__ A.fd_m_Free___str__
  b_m_Free___str__ : Binds K A.fd_m_Free___str__ ["self"] []
  mt_m_Free___str__ : Meth K A.c_Free "__str__" A.f_m_Free___str__
  F_m_Railed___str__ : Fun K "__str__" "Railed.__str__" s_m_Railed___str__ A.f_m_Railed___str__ A.fd_m_Railed___str__
  b_m_Railed___str__ : Binds K A.fd_m_Railed___str__ ["self"] []
  mt_m_Railed___str__ : Meth K A.c_Railed "__str__" A.f_m_Railed___str__
  cl_Wall : Cls K A.c_Wall
  mk_Wall : Mk K A.c_Wall A.f_m_Body___init__
  na_Wall_row : NoAttr K A.c_Wall "row"
  na_Wall_name : NoAttr K A.c_Wall "name"
  na_Wall_mass : NoAttr K A.c_Wall "mass"
  cl_Free : Cls K A.c_Free
  mk_Free : Mk K A.c_Free A.f_m_Body___init__
  na_Free_row : NoAttr K A.c_Free "row"
  na_Free_name : NoAttr K A.c_Free "name"
  na_Free_mass : NoAttr K A.c_Free "mass"
  cl_Railed : Cls K A.c_Railed
  mk_Railed : Mk K A.c_Railed A.f_m_Body___init__
  na_Railed_row : NoAttr K A.c_Railed "row"
  na_Railed_name : NoAttr K A.c_Railed "name"
  na_Railed_mass : NoAttr K A.c_Railed "mass"
section
variable {P : Program} {w : World} {K : PySem.W.Frag} {mg : Str → Option Value} {base : Heap} {A : Ad}
theorem ixN_nat {n j : Nat} (h : j < n) : ixN n (j : Int) = some j := by
  unfold ixN
  rw [if_pos (by omega), if_pos (by omega)]
  rfl
theorem ty_tup {H : Hp} {a : Addr} {xs : List V} (h : SqT K H a xs) : TyX K H (.ref a) (.type "tuple") := by
  rcases h with (h | ⟨o, h⟩) | ⟨o, its, n, h, hc, _⟩
  · exact .base (.tup h)
  · exact .fTuple h
  · exact .kTuple h hc

/-! ### a cell of the script -/
def sp_l_cell (K : PySem.W.Frag) : Sp := fun vs H Q _ => ∃ (s : Addr) (ns : List Int) (k : Int), vs = [.ref s, .int k] ∧ SqL K H s (ns.map V.int) ∧ 0 ≤ k ∧ k ≤ 1000000 ∧ ∀ r, 0 ≤ r → Q (.int r) H
theorem ok_l_cell (T : Tx K mg A) : FnOk P w K mg base CX0 1 A.f_l_cell A.fd_l_cell ["_law_script", "_law_k"] (sp_l_cell K) := by
  refine T.F_l_cell.ok sc_l_cell (fun vs H Q E h => ?_) (fun cdv Ar outer s H vs Q E hr h => ?_)
  · obtain ⟨s, ns, k, rfl, _⟩ := h
    rfl
  · obtain ⟨s, ns, k, rfl, hS, h0, h1, q⟩ := h
    refine ⟨_, (pss_cons (ps_if (pt_cmpR op_eq (pe_callB call_len_seq (by rfl) T.m_len (by decide +kernel) (pa_cons (pv 0) pa_nil)) pe_int (nomark _))
      (pss_one (ps_ret (pe_op op_add (pe_op op_mul pe_int (pv 1)) pe_int)))
      pss_nil)
    (pss_one (ps_ret (pe_callB call_abs (by rfl) T.m_abs (by decide +kernel) (pa_cons (pe_ix ix_list (pv 0) (pe_op op_mod (pv 1) (pe_callB call_len_seq (by rfl) T.m_len (by decide +kernel) (pa_cons (pv 0) pa_nil))) (fun _ _ => rfl)) pa_nil))))), ?_⟩
    refine ⟨.ref s, rfl, s, ns.map V.int, rfl, .inl hS, rfl, _, rfl, ite2 (fun e => ?_) (fun e => ?_)⟩
    · exact ⟨_, rfl, 7, k, rfl, rfl, .inl (by decide), _, _, rfl, rfl, q _ (by omega)⟩
    · have hl : ns.length ≠ 0 := fun z => e (decide_eq_true (by rw [List.length_map, z]; rfl))
      have hp : (0 : Int) < ((ns.map V.int).length : Int) := by
        rw [List.length_map]
        omega
      have hm0 : 0 ≤ k % ((ns.map V.int).length : Int) := Int.emod_nonneg _ (by omega)
      have hm1 : k % ((ns.map V.int).length : Int) < ((ns.map V.int).length : Int) := Int.emod_lt_of_pos _ hp
      obtain ⟨j, hj⟩ : ∃ j : Nat, (j : Int) = k % ((ns.map V.int).length : Int) := ⟨_, Int.toNat_of_nonneg hm0⟩
      have hj2 : j < ns.length := by
        rw [List.length_map] at hj hm1
        omega
      have ha : atI (ns.map V.int) (k % ((ns.map V.int).length : Int)) = some (.int ns[j]) := by
        rw [← hj]
        exact atI_nat (by rw [List.getElem?_map, List.getElem?_eq_getElem hj2]; rfl)
      exact ⟨_, rfl, _, rfl, _, rfl, s, _, rfl, .inl hS, k, _, rfl, rfl, hp, s, _, _, _, rfl, rfl, hS, ha, _, rfl, q _ (abs_nn _)⟩
/-! ### a mixed number -/
def sp_l_mixed (K : PySem.W.Frag) : Sp := fun vs H Q _ => ∃ (s : Addr) (ns : List Int) (k m : Int), vs = [.ref s, .int k, .int m] ∧ SqL K H s (ns.map V.int) ∧ 0 ≤ k ∧ k ≤ 1000000 ∧ 0 < m ∧ ∀ r, 0 ≤ r → r < m → Q (.int r) H
theorem mixed_bound {r k : Int} (h0 : 0 ≤ r) (h1 : r < 1000003) (k0 : 0 ≤ k) (k1 : k ≤ 1000000) : ((r + 5) * (k + 2) + 7919 * k).natAbs < 2 ^ 64 := by
  have e1 : (r + 5) * (k + 2) ≤ 1000008 * 1000002 := Int.mul_le_mul (by omega) (by omega) (by omega) (by omega)
  have e0 : 0 ≤ (r + 5) * (k + 2) := Int.mul_nonneg (by omega) (by omega)
  omega
theorem ok_l_mixed (T : Tx K mg A) : FnOk P w K mg base CX0 2 A.f_l_mixed A.fd_l_mixed ["_law_script", "_law_k", "_law_many"] (sp_l_mixed K) := by
  refine T.F_l_mixed.ok sc_l_mixed (fun vs H Q E h => ?_) (fun cdv Ar outer s H vs Q E hr h => ?_)
  · obtain ⟨s, ns, k, m, rfl, _⟩ := h
    rfl
  · obtain ⟨s, ns, k, m, rfl, hS, h0, h1, hm, q⟩ := h
    refine ⟨_, (pss_cons (ps_set (i := 3) sc_l_mixed.nd rfl (.inl rfl) (pe_op op_mod (pe_op op_pow (pe_op op_add (pe_op op_mul (pe_op op_add (pe_op op_mod (pe_call (ok_l_cell T) (hr.mono (by decide)) (by rfl) T.g_l_cell T.F_l_cell.kp T.b_l_cell .nil pass0 (pa_cons (pv 0) (pa_cons (pv 1) pa_nil))) pe_int) pe_int) (pe_op op_add (pv 1) pe_int)) (pe_op op_mul pe_int (pv 1))) pe_int) pe_int))
    (pss_one (ps_ret (pe_op op_mod (pe_op op_fdivW (pv 3) pe_int) (pv 2))))), ?_⟩
    refine ⟨_, rfl, _, rfl, s, ns, k, rfl, hS, h0, h1, fun r hr0 => ?_⟩
    have c0 : 0 ≤ r % 1000003 := Int.emod_nonneg _ (by decide)
    have c1 : r % 1000003 < 1000003 := Int.emod_lt_of_pos _ (by decide)
    refine ⟨r, 1000003, rfl, rfl, (show (0 : Int) < 1000003 by decide), _, _, rfl, rfl, _, rfl, _, _, rfl, rfl, _, _, rfl, rfl, ?_, _, rfl, _, _, rfl, rfl, .inl (by decide), _, _, rfl, rfl, _, _, rfl, rfl, ⟨by decide, by decide, ?_⟩, _, _, rfl, rfl, (show (0 : Int) < 2147483647 by decide), ?_⟩
    · exact .inl ⟨by omega, by omega⟩
    · exact mixed_bound c0 c1 h0 h1
    · refine ⟨_, rfl, _, _, rfl, rfl, ⟨by decide, by decide⟩, _, rfl, _, _, rfl, rfl, hm, ?_⟩
      exact q _ (Int.emod_nonneg _ (by omega)) (Int.emod_lt_of_pos _ hm)
/-! ### the deck is made -/
def sp_l_deck (K : PySem.W.Frag) : Sp := fun vs H Q _ => ∃ (s : Addr) (ns : List Int), vs = [.ref s] ∧ Sc K H s ns ∧ ns.length ≤ 63 ∧ ∀ H' d b, H d = none → H b = none → Deck K H' d b 0 → Same H H' → Q (.ref d) H'
theorem ok_l_deck (T : Tx K mg A) : FnOk P w K mg base CX0 1 A.f_l_deck A.fd_l_deck ["_law_script"] (sp_l_deck K) := by
  refine T.F_l_deck.ok sc_l_deck (fun vs H Q E h => ?_) (fun cdv Ar outer s H vs Q E hr h => ?_)
  · obtain ⟨s, ns, rfl, _⟩ := h
    rfl
  · obtain ⟨s, ns, rfl, hS, hlen, q⟩ := h
    refine ⟨_, (pss_one (ps_ret (pe_lst (pa_cons (pv 0) (pa_cons (pe_lc (own := [("_law_cell_here", 1)]) rfl sc_l_deck.nd (pi_list (pv 0)) (blkOk_by (own := [("_law_cell_here", 1)]) (N := ["_law_script", "_law_cell_here"]) (sc := defScope s_l_deck) (by decide +kernel)) (fun _ _ _ _ _ => (pg_name (i := 1) sc_l_deck.nd rfl (Or.inl rfl))) (fun _ _ _ _ _ => (pts_one (pt_cmpR op_ge (pe_callB call_abs (by rfl) T.m_abs (by decide +kernel) (pa_cons (pv 1) pa_nil)) (pe_op op_pow pe_int pe_int) (nomark _)))) (fun _ _ _ _ _ => (pe_callB call_abs (by rfl) T.m_abs (by decide +kernel) (pa_cons (pv 1) pa_nil)))) (pa_cons pe_int (pa_cons pe_int pa_nil))))))), ?_⟩
    refine ⟨_, rfl, _, rfl, s, rfl, ⟨_, hS.seq⟩, fun D hD => lc_list (K := K) (a := s) (xs := ns.map V.int) (fun i H' => ∃ cs : List Int, Same H H' ∧ Sc K H' s ns ∧ H' D = some (.lst (cs.map V.int)) ∧ cs.length ≤ i) ?_ ?_ ?_ ?_⟩
    · exact ⟨[], same_upd hD, hS.upd (.inl hD), upd_same, Nat.le_refl _⟩
    · rintro i H' _ ⟨cs, _, h, _⟩
      exact h.seq
    · rintro i x H' hx ⟨cs, sm, hs, hd, hc⟩
      obtain ⟨n, rfl⟩ : ∃ n : Int, x = .int n := by
        rw [List.getElem?_map] at hx
        cases e : ns[i]? with
        | none => rw [e] at hx; cases hx
        | some n => rw [e] at hx; exact ⟨n, (Option.some.inj hx).symm⟩
      have hi : i < ns.length := by
        have := (List.getElem?_eq_some_iff.mp hx).1
        rw [List.length_map] at this
        exact this
      refine ⟨rfl, _, rfl, n, rfl, 10, 18, rfl, rfl, ⟨by decide, by decide, by decide⟩, _, _, rfl, rfl, _, rfl, ite2 (fun e => ?_) (fun e => ?_)⟩
      · refine ⟨_, rfl, n, rfl, cs.map V.int, hd, small1000 (by rw [List.length_map]; omega), cs ++ [(if n < 0 then -n else n)], ?_, ?_, ?_, ?_⟩
        · exact fun x o h => by
            rw [upd_ne (ne_of_none h hD)]
            exact sm _ _ h
        · exact hs.upd (.inr ⟨_, hd⟩)
        · rw [upd_same, List.map_append]
          rfl
        · rw [List.length_append]
          exact Nat.succ_le_succ hc
      · exact ⟨cs, sm, hs, hd, Nat.le_succ_of_le hc⟩
    · rintro H' ⟨cs, sm, hs, hd, hc⟩
      refine ⟨size63 (show 4 ≤ 1000 by decide), fun d hn => ?_⟩
      have ne : D ≠ d := ne_of_none hd hn
      refine q _ d D (sm.free hn) hD ⟨⟨s, ns, cs, 0, 0, upd_same, ?_, hs.upd (.inl hn), by omega, by omega, by omega⟩, ne⟩ (sm.trans (same_upd hn))
      rw [upd_ne ne]
      exact hd
/-! ### a number is taken -/
def sp_l_take (K : PySem.W.Frag) : Sp := fun vs H Q _ => ∃ (d b : Addr) (c m : Int), vs = [.ref d, .int m] ∧ Deck K H d b c ∧ c < 1000000 ∧ 0 < m ∧ m.natAbs.log2 < 9000 ∧ ∀ H' r, Deck K H' d b (c + 1) → Kp d b H H' → 0 ≤ r → r < m → Q (.int r) H'
theorem ok0_l_take (T : Tx K mg A) : FnOk P w K mg base CX0 3 A.f_l_take A.fd_l_take ["_law_deck_here", "_law_many"] (sp_l_take K) := by
  refine T.F_l_take.ok sc_l_take (fun vs H Q E h => ?_) (fun cdv Ar outer s H vs Q E hr h => ?_)
  · obtain ⟨d, b, c, m, rfl, _⟩ := h
    rfl
  · obtain ⟨d, b, c, m, rfl, ⟨⟨s, ns, cs, i0, k, hd, hb, hS, hi0, hk0, hk1⟩, ne⟩, hc, hm, hm2, q⟩ := h
    refine ⟨_, (pss_cons (ps_while PassesOwn.never (pt_cmpR op_lt (pe_ix ix_list (pv 0) pe_int (fun _ _ => rfl)) (pe_callB call_len_seq (by rfl) T.m_len (by decide +kernel) (pa_cons (pe_ix ix_list (pv 0) pe_int (fun _ _ => rfl)) pa_nil)) (nomark _))
      (pss_cons (ps_set (i := 2) sc_l_take.nd rfl (.inl rfl) (pe_ix ix_list (pe_ix ix_list (pv 0) pe_int (fun _ _ => rfl)) (pe_ix ix_list (pv 0) pe_int (fun _ _ => rfl)) (fun _ _ => rfl)))
    (pss_cons (ps_if (pt_cmpR op_gt (pv 2) pe_int (nomark _))
      (pss_cons (ps_asg (pe_op op_fdivW (pv 2) (pv 1)) (pg_sub (pe_ix ix_list (pv 0) pe_int (fun _ _ => rfl)) (pe_ix ix_list (pv 0) pe_int (fun _ _ => rfl)) set_list))
    (pss_one (ps_ret (pe_op op_mod (pv 2) (pv 1)))))
      pss_nil)
    (pss_one (ps_asg (pe_op op_add (pe_ix ix_list (pv 0) pe_int (fun _ _ => rfl)) pe_int) (pg_sub (pv 0) pe_int set_list))))))
    (pss_cons (ps_asg (pe_op op_add (pe_ix ix_list (pv 0) pe_int (fun _ _ => rfl)) pe_int) (pg_sub (pv 0) pe_int set_list))
    (pss_one (ps_ret (pe_call (ok_l_mixed T) (hr.mono (by decide)) (by rfl) T.g_l_mixed T.F_l_mixed.kp T.b_l_mixed .nil pass0 (pa_cons (pe_ix ix_list (pv 0) pe_int (fun _ _ => rfl)) (pa_cons (pe_ix ix_list (pv 0) pe_int (fun _ _ => rfl)) (pa_cons (pv 1) pa_nil)))))))), ?_⟩
    refine ⟨fun n σ H' => ∃ (y : Option V) (i : Int), σ = [some (.ref d), some (.int m), y] ∧ 0 ≤ i ∧ n = cs.length - i.toNat ∧ H' d = some (.lst [.ref s, .ref b, .int i, .int k]) ∧ H' b = some (.lst (cs.map V.int)) ∧ Sc K H' s ns ∧ Kp d b H H', ⟨_, none, i0, rfl, hi0, rfl, hd, hb, hS, Kp.refl⟩, fun n σ H' hW => ?_⟩
    obtain ⟨y, i, rfl, hi, hn, hd', hb', hS', kp⟩ := hW
    refine ⟨_, rfl, d, _, 2, .int i, rfl, rfl, SqL.of hd', rfl, _, rfl, d, _, 1, .ref b, rfl, rfl, SqL.of hd', rfl, b, _, rfl, .inl (SqL.of hb'), i, _, rfl, rfl, _, rfl, ite2 (fun e => ?_) (fun e => ?_)⟩
    · -- a turn
      have hlt : i < ((cs.map V.int).length : Int) := of_decide_eq_true e
      rw [List.length_map] at hlt
      obtain ⟨j, rfl⟩ : ∃ j : Nat, i = (j : Int) := ⟨_, (Int.toNat_of_nonneg hi).symm⟩
      have hj : j < cs.length := by omega
      have ha : atI (cs.map V.int) (j : Int) = some (.int cs[j]) := atI_nat (by rw [List.getElem?_map, List.getElem?_eq_getElem hj]; rfl)
      refine ⟨fun σ' H'' => ∃ (y : Option V), σ' = [some (.ref d), some (.int m), y] ∧ H'' d = some (.lst [.ref s, .ref b, .int ((j : Int) + 1), .int k]) ∧ H'' b = some (.lst (cs.map V.int)) ∧ Sc K H'' s ns ∧ Kp d b H H'', ?_, ?_⟩
      · rintro σ' H'' ⟨y, e1, e2, e3, e4, e5⟩
        exact ⟨cs.length - ((j : Int) + 1).toNat, by omega, y, _, e1, by omega, rfl, e2, e3, e4, e5⟩
      · refine ⟨_, rfl, d, _, 1, .ref b, rfl, rfl, SqL.of hd', rfl, _, rfl, d, _, 2, .int (j : Int), rfl, rfl, SqL.of hd', rfl, b, _, (j : Int), .int cs[j], rfl, rfl, SqL.of hb', ha, ?_⟩
        refine ⟨_, rfl, cs[j], 0, rfl, rfl, _, rfl, ite2 (fun e2 => ?_) (fun e2 => ?_)⟩
        · -- the cell is drawn from
          refine ⟨_, rfl, _, rfl, cs[j], m, rfl, rfl, ⟨hm, hm2⟩, _, rfl, d, _, 1, .ref b, rfl, rfl, SqL.of hd', rfl, _, rfl, d, _, 2, .int (j : Int), rfl, rfl, SqL.of hd', rfl, b, _, (j : Int), j, rfl, rfl, hb', ?_, ?_⟩
          · exact ixN_nat (by rw [List.length_map]; exact hj)
          · refine ⟨_, rfl, _, rfl, cs[j], m, rfl, rfl, hm, ?_⟩
            refine q _ _ ⟨⟨s, ns, cs.set j (cs[j] / m), (j : Int), k, ?_, ?_, hS'.upd (.inr ⟨_, hb'⟩), by omega, hk0, by omega⟩, ne⟩ ?_ (Int.emod_nonneg _ (by omega)) (Int.emod_lt_of_pos _ hm)
            · rw [upd_ne (Ne.symm ne)]
              exact hd'
            · rw [upd_same, List.map_set]
            · intro x o h1 h2 h
              rw [upd_ne h2]
              exact kp x o h1 h2 h
        · -- the next cell
          refine ⟨_, rfl, d, _, 2, .int (j : Int), rfl, rfl, SqL.of hd', rfl, _, _, rfl, rfl, _, rfl, d, _, 2, 2, rfl, rfl, hd', rfl, ?_⟩
          refine ⟨_, rfl, ?_, ?_, hS'.upd (.inr ⟨_, hd'⟩), ?_⟩
          · rw [upd_same]; rfl
          · rw [upd_ne ne]; exact hb'
          · intro x o h1 h2 h
            rw [upd_ne h1]
            exact kp x o h1 h2 h
    · -- no cell is left
      refine ⟨_, rfl, d, _, 3, .int k, rfl, rfl, SqL.of hd', rfl, _, _, rfl, rfl, _, rfl, d, _, 3, 3, rfl, rfl, hd', rfl, ?_⟩
      have hd2 : (upd H' d (.lst ([V.ref s, V.ref b, V.int i, V.int k].set 3 (V.int (k + 1))))) d = some (.lst [.ref s, .ref b, .int i, .int (k + 1)]) := upd_same
      have hS2 : Sc K (upd H' d (.lst ([V.ref s, V.ref b, V.int i, V.int k].set 3 (V.int (k + 1))))) s ns := hS'.upd (.inr ⟨_, hd'⟩)
      refine ⟨_, rfl, d, _, 0, .ref s, rfl, rfl, SqL.of hd2, rfl, _, rfl, d, _, 3, .int (k + 1), rfl, rfl, SqL.of hd2, rfl, _, rfl, s, ns, k + 1, m, rfl, hS2.seq, by omega, by omega, hm, fun r h0 h1 => ?_⟩
      refine q _ r ⟨⟨s, ns, cs, i, k + 1, hd2, ?_, hS2, hi, by omega, by omega⟩, ne⟩ ?_ h0 h1
      · rw [upd_ne ne]; exact hb'
      · intro x o h1 h2 h
        rw [upd_ne h1]
        exact kp x o h1 h2 h

/-! ### divisors -/
def gcdI (a b : Int) : Int := ((Nat.gcd a.natAbs b.natAbs : Nat) : Int)
/-- a share's two numbers -/
def IsSh (t u : Int) : Prop := 1 ≤ u ∧ gcdI t u = 1
instance (t u : Int) : Decidable (IsSh t u) := inferInstanceAs (Decidable (_ ∧ _))
theorem gcdI_nn (a b : Int) : 0 ≤ gcdI a b := Int.natCast_nonneg _
theorem gcdI_pos {a b : Int} (h : b ≠ 0) : 0 < gcdI a b := by
  have : 0 < Nat.gcd a.natAbs b.natAbs := Nat.gcd_pos_of_pos_right _ (by omega)
  unfold gcdI
  omega
theorem gcdI_neg_l (a b : Int) : gcdI (-a) b = gcdI a b := by
  unfold gcdI
  rw [Int.natAbs_neg]
theorem gcdI_neg_r (a b : Int) : gcdI a (-b) = gcdI a b := by
  unfold gcdI
  rw [Int.natAbs_neg]
theorem gcdI_dvd_l (a b : Int) : gcdI a b ∣ a := by
  unfold gcdI
  exact Int.ofNat_dvd_left.mpr (Nat.gcd_dvd_left _ _)
theorem gcdI_dvd_r (a b : Int) : gcdI a b ∣ b := by
  unfold gcdI
  exact Int.ofNat_dvd_left.mpr (Nat.gcd_dvd_right _ _)
/-- a share is told by what it is worth -/
theorem share_uniq {t u t' u' : Int} (h : IsSh t u) (h' : IsSh t' u') (e : t * u' = t' * u) : t = t' ∧ u = u' := by
  obtain ⟨u1, g1⟩ := h
  obtain ⟨u2, g2⟩ := h'
  have c1 : Nat.gcd t.natAbs u.natAbs = 1 := by unfold gcdI at g1; omega
  have c2 : Nat.gcd t'.natAbs u'.natAbs = 1 := by unfold gcdI at g2; omega
  have en : t.natAbs * u'.natAbs = t'.natAbs * u.natAbs := by
    rw [← Int.natAbs_mul, ← Int.natAbs_mul, e]
  have d1 : u.natAbs ∣ u'.natAbs := (Nat.Coprime.symm c1).dvd_of_dvd_mul_left (by rw [en]; exact Nat.dvd_mul_left _ _)
  have d2 : u'.natAbs ∣ u.natAbs := (Nat.Coprime.symm c2).dvd_of_dvd_mul_left (by rw [← en]; exact Nat.dvd_mul_left _ _)
  have eu : u = u' := by
    have := Nat.dvd_antisymm d1 d2
    omega
  subst eu
  exact ⟨Int.eq_of_mul_eq_mul_right (by omega) e, rfl⟩
theorem dvd_le_natAbs {g a : Int} (h : g ∣ a) (ha : a ≠ 0) : g.natAbs ≤ a.natAbs := Nat.le_of_dvd (by omega) (Int.natAbs_dvd_natAbs.mpr h)
theorem div_natAbs_le {a g : Int} (hg : 0 < g) (h : g ∣ a) : (a / g).natAbs ≤ a.natAbs := by
  obtain ⟨q, rfl⟩ := h
  rw [Int.mul_ediv_cancel_left _ (by omega), Int.natAbs_mul]
  exact Nat.le_mul_of_pos_left _ (by omega)
/-- a over b (b above nought) in lowest terms -/
theorem low_is {a b : Int} (hb : 0 < b) : IsSh (a / gcdI a b) (b / gcdI a b) ∧ (a / gcdI a b) * b = (b / gcdI a b) * a ∧ (a / gcdI a b).natAbs ≤ a.natAbs ∧ (b / gcdI a b).natAbs ≤ b.natAbs := by
  have hg : 0 < gcdI a b := gcdI_pos (by omega)
  have d1 := gcdI_dvd_l a b
  have d2 := gcdI_dvd_r a b
  refine ⟨⟨?_, ?_⟩, ?_, div_natAbs_le hg d1, div_natAbs_le hg d2⟩
  · have : 0 < b / gcdI a b := Int.ediv_pos_of_pos_of_dvd hb (by omega) d2
    omega
  · unfold gcdI at hg d1 d2 ⊢
    have e1 : (a / ((Nat.gcd a.natAbs b.natAbs : Nat) : Int)).natAbs = a.natAbs / Nat.gcd a.natAbs b.natAbs := by
      rw [Int.natAbs_ediv_of_dvd d1]
      rfl
    have e2 : (b / ((Nat.gcd a.natAbs b.natAbs : Nat) : Int)).natAbs = b.natAbs / Nat.gcd a.natAbs b.natAbs := by
      rw [Int.natAbs_ediv_of_dvd d2]
      rfl
    rw [e1, e2, Nat.gcd_div_gcd_div_gcd_of_pos_right (by omega)]
    rfl
  · obtain ⟨x, hx⟩ := d1
    obtain ⟨y, hy⟩ := d2
    have q1 : a / gcdI a b = x := (Int.eq_ediv_of_mul_eq_right (by omega) hx.symm).symm
    have q2 : b / gcdI a b = y := (Int.eq_ediv_of_mul_eq_right (by omega) hy.symm).symm
    rw [q1, q2]
    conv => lhs; rw [hy]
    conv => rhs; rw [hx]
    rw [Int.mul_left_comm, Int.mul_left_comm y, Int.mul_comm x y]
theorem log_le {m n k : Nat} (h : m ≤ n) (hn : n < 2 ^ k) (h0 : 0 < k) : m.log2 < k := log2_lt (Nat.lt_of_le_of_lt h hn) h0
/-! ### the law's gcd -/

/-! ### the law's own share -/
def Bd (n : Nat) (x : Int) : Prop := x.natAbs < 2 ^ n
theorem Bd.le {n m : Nat} {x : Int} (h : Bd n x) (l : n ≤ m) : Bd m x := Nat.lt_of_lt_of_le h (Nat.pow_le_pow_right (by decide) l)
theorem Bd.mul {n m : Nat} {x y : Int} (h : Bd n x) (g : Bd m y) : Bd (n + m) (x * y) := wide_lt h g
theorem Bd.of_le {n : Nat} {x y : Int} (h : Bd n x) (l : y.natAbs ≤ x.natAbs) : Bd n y := Nat.lt_of_le_of_lt l h
theorem Bd.neg {n : Nat} {x : Int} (h : Bd n x) : Bd n (-x) := by
  unfold Bd
  rw [Int.natAbs_neg]
  exact h
theorem Bd.add {n : Nat} {x y : Int} (h : Bd n x) (g : Bd n y) : Bd (n + 1) (x + y) := by
  unfold Bd at *
  rw [Nat.pow_succ]
  omega
theorem Bd.mulW {n m : Nat} {x y : Int} (h : Bd n x) (g : Bd m y) (hn : n ≤ 400000) (hm : m ≤ 400000) : CMulW x y := wide_mul (a := n + 1) (b := m + 1) (h.le (Nat.le_succ _)) (g.le (Nat.le_succ _)) (by omega) (by omega) (by omega)
theorem Bd.divW {n : Nat} {x y : Int} (h : Bd n y) (h0 : 0 < y) (hn : n < 9000) : CDivW x y := wide_div (b := n + 1) h0 (h.le (Nat.le_succ _)) (by omega) (by omega)
theorem gcdI_bd {n : Nat} {a b : Int} (h : Bd n b) (hb : b ≠ 0) : Bd n (gcdI a b) := h.of_le (by
  unfold gcdI
  exact Nat.le_of_dvd (by omega) (Nat.gcd_dvd_right _ _))

/-! ### fractions -/
theorem isSh_q (q : Rat) : IsSh q.num q.den := by
  refine ⟨by have := q.den_pos; omega, ?_⟩
  unfold gcdI
  rw [Int.natAbs_natCast]
  exact congrArg Int.ofNat q.reduced
theorem divInt_cross {a b : Int} (hb : b ≠ 0) : a * ((Rat.divInt a b).den : Int) = (Rat.divInt a b).num * b := by
  have h : Rat.divInt a b = Rat.divInt (Rat.divInt a b).num ((Rat.divInt a b).den : Int) := (Rat.num_divInt_den _).symm
  exact (Rat.divInt_eq_divInt_iff hb (by have := (Rat.divInt a b).den_pos; omega)).mp h
theorem rep_of {t u : Int} {q : Rat} (h : IsSh t u) (e : t * (q.den : Int) = q.num * u) : t = q.num ∧ u = (q.den : Int) := share_uniq h (isSh_q q) e
theorem rep_divInt {t u a b : Int} (h : IsSh t u) (hb : b ≠ 0) (e : t * b = u * a) : t = (Rat.divInt a b).num ∧ u = ((Rat.divInt a b).den : Int) := by
  have hu : u ≠ 0 := by have := h.1; omega
  have eq : Rat.divInt t u = Rat.divInt a b := (Rat.divInt_eq_divInt_iff hu hb).mpr (by rw [e, Int.mul_comm])
  rw [← eq]
  exact rep_of h (divInt_cross hu)
theorem low_bd {t u a b : Int} (h : IsSh t u) (hb : 0 < b) (e : t * b = u * a) : t.natAbs ≤ a.natAbs ∧ u.natAbs ≤ b.natAbs := by
  obtain ⟨h1, h2, h3, h4⟩ := low_is (a := a) (b := b) hb
  have hu : u ≠ 0 := by have := h.1; omega
  have e1 := rep_divInt h (by omega) e
  have e2 := rep_divInt h1 (by omega) h2
  rw [e1.1, e1.2, ← e2.1, ← e2.2]
  exact ⟨h3, h4⟩
def BdQ (n : Nat) (q : Rat) : Prop := Bd n q.num ∧ Bd n (q.den : Int)
theorem BdQ.le {n m : Nat} {q : Rat} (h : BdQ n q) (l : n ≤ m) : BdQ m q := ⟨h.1.le l, h.2.le l⟩
theorem divInt_bd {a b : Int} {n : Nat} (hb : 0 < b) (ha : Bd n a) (hn : Bd n b) : BdQ n (Rat.divInt a b) := by
  have h := low_bd (isSh_q (Rat.divInt a b)) hb (by rw [← divInt_cross (by omega), Int.mul_comm])
  exact ⟨ha.of_le h.1, hn.of_le h.2⟩
theorem den_pos (q : Rat) : (0 : Int) < (q.den : Int) := by have := q.den_pos; omega
theorem add_divInt (p q : Rat) : p + q = Rat.divInt (p.num * q.den + q.num * p.den) (p.den * q.den) := by
  have h := Rat.divInt_add_divInt p.num q.num (d₁ := p.den) (d₂ := q.den) (by have := den_pos p; omega) (by have := den_pos q; omega)
  rw [Rat.num_divInt_den, Rat.num_divInt_den] at h
  exact h
theorem mul_divInt (p q : Rat) : p * q = Rat.divInt (p.num * q.num) (p.den * q.den) := by
  have h := Rat.divInt_mul_divInt p.num q.num (d₁ := p.den) (d₂ := q.den)
  rw [Rat.num_divInt_den, Rat.num_divInt_den] at h
  exact h
theorem BdQ.add {n m : Nat} {p q : Rat} (h : BdQ n p) (g : BdQ m q) : BdQ (n + m + 1) (p + q) := by
  rw [add_divInt]
  refine divInt_bd (Int.mul_pos (den_pos p) (den_pos q)) ?_ ((h.2.mul g.2).le (Nat.le_succ _))
  exact (h.1.mul g.2).add ((g.1.mul h.2).le (by omega))
theorem BdQ.mul {n m : Nat} {p q : Rat} (h : BdQ n p) (g : BdQ m q) : BdQ (n + m) (p * q) := by
  rw [mul_divInt]
  exact divInt_bd (Int.mul_pos (den_pos p) (den_pos q)) (h.1.mul g.1) (h.2.mul g.2)
theorem BdQ.neg {n : Nat} {q : Rat} (h : BdQ n q) : BdQ n (-q) := by
  refine ⟨?_, h.2⟩
  rw [Rat.neg_num]
  exact h.1.neg
theorem BdQ.sub {n m : Nat} {p q : Rat} (h : BdQ n p) (g : BdQ m q) : BdQ (n + m + 1) (p - q) := by
  rw [Rat.sub_eq_add_neg]
  exact h.add g.neg
theorem neg_num (q : Rat) : (-q).num = -q.num := Rat.neg_num q
theorem neg_den (q : Rat) : (-q).den = q.den := rfl
/-- one over a fraction -/
theorem inv_rep {q : Rat} (h : 0 < q.num) : (q⁻¹).num = q.den ∧ ((q⁻¹).den : Int) = q.num := by
  have hs := isSh_q q
  have e := rep_divInt (t := (q.den : Int)) (u := q.num) (a := (q.den : Int)) (b := q.num) ⟨by omega, by
    have := hs.2
    unfold gcdI at this ⊢
    rw [Nat.gcd_comm]
    exact this⟩ (by omega) (Int.mul_comm _ _)
  rw [Rat.inv_def]
  exact ⟨e.1.symm, e.2.symm⟩
theorem inv_rep_neg {q : Rat} (h : q.num < 0) : (q⁻¹).num = -(q.den : Int) ∧ ((q⁻¹).den : Int) = -q.num := by
  have hs := isSh_q q
  have e := rep_divInt (t := -(q.den : Int)) (u := -q.num) (a := (q.den : Int)) (b := q.num) ⟨by omega, by
    rw [gcdI_neg_l, gcdI_neg_r]
    have := hs.2
    unfold gcdI at this ⊢
    rw [Nat.gcd_comm]
    exact this⟩ (by omega) (by rw [Int.neg_mul, Int.neg_mul, Int.mul_comm])
  rw [Rat.inv_def]
  exact ⟨e.1.symm, e.2.symm⟩
/-! ### divisors, further -/
theorem cop_iff {a b : Int} : gcdI a b = 1 ↔ ∀ k : Nat, (k : Int) ∣ a → (k : Int) ∣ b → k = 1 := by
  constructor
  · intro h k h1 h2
    have h3 : k ∣ Nat.gcd a.natAbs b.natAbs := Nat.dvd_gcd (Int.ofNat_dvd_left.mp h1) (Int.ofNat_dvd_left.mp h2)
    have h4 : Nat.gcd a.natAbs b.natAbs = 1 := by unfold gcdI at h; omega
    rw [h4] at h3
    exact Nat.dvd_one.mp h3
  · intro h
    have := h (Nat.gcd a.natAbs b.natAbs) (gcdI_dvd_l a b) (gcdI_dvd_r a b)
    unfold gcdI
    rw [this]
    rfl
theorem cop_comm {a b : Int} (h : gcdI a b = 1) : gcdI b a = 1 := cop_iff.mpr fun k h1 h2 => cop_iff.mp h k h2 h1
theorem cop_dvd_l {a a' b : Int} (h : gcdI a b = 1) (d : a' ∣ a) : gcdI a' b = 1 := cop_iff.mpr fun k h1 h2 => cop_iff.mp h k (Int.dvd_trans h1 d) h2
theorem cop_dvd_r {a b b' : Int} (h : gcdI a b = 1) (d : b' ∣ b) : gcdI a b' = 1 := cop_iff.mpr fun k h1 h2 => cop_iff.mp h k h1 (Int.dvd_trans h2 d)
theorem cop_mul_r {a b c : Int} (h : gcdI a b = 1) (g : gcdI a c = 1) : gcdI a (b * c) = 1 := by
  unfold gcdI at *
  rw [Int.natAbs_mul]
  have h1 : Nat.Coprime a.natAbs b.natAbs := by unfold Nat.Coprime; omega
  have h2 : Nat.Coprime a.natAbs c.natAbs := by unfold Nat.Coprime; omega
  have h3 : Nat.Coprime a.natAbs (b.natAbs * c.natAbs) := Nat.Coprime.mul_right h1 h2
  unfold Nat.Coprime at h3
  omega
theorem cop_mul_l {a b c : Int} (h : gcdI a c = 1) (g : gcdI b c = 1) : gcdI (a * b) c = 1 := cop_comm (cop_mul_r (cop_comm h) (cop_comm g))
theorem cop_add {x y a : Int} (h : gcdI x a = 1) (d : a ∣ y) : gcdI (x + y) a = 1 := cop_iff.mpr fun k h1 h2 => cop_iff.mp h k ((Int.dvd_add_left (Int.dvd_trans h2 d)).mp h1) h2
theorem cop_div {a b : Int} (h : b ≠ 0) : gcdI (a / gcdI a b) (b / gcdI a b) = 1 := by
  rcases Int.lt_or_gt_of_ne h with h | h
  · have := (low_is (a := a) (b := -b) (by omega)).1.2
    rw [gcdI_neg_r, Int.neg_ediv_of_dvd (gcdI_dvd_r a b), gcdI_neg_r] at this
    exact this
  · exact (low_is h).1.2
theorem div_mul {g a : Int} (h : g ∣ a) : g * (a / g) = a := Int.mul_ediv_cancel' h
theorem div_dvd {g a : Int} (h : g ∣ a) : a / g ∣ a := ⟨g, by rw [Int.mul_comm]; exact (div_mul h).symm⟩
/-! ### sums and products of shares, as the program reckons them -/
theorem plus_one {t u t' u' : Int} (h : IsSh t u) (h' : IsSh t' u') (e : gcdI u u' = 1) : IsSh (t * u' + t' * u) (u * u') := by
  have hu : 0 < u * u' := Int.mul_pos (by have := h.1; omega) (by have := h'.1; omega)
  refine ⟨by omega, cop_mul_r ?_ ?_⟩
  · exact cop_add (cop_mul_l h.2 (cop_comm e)) (Int.dvd_mul_left ..)
  · rw [Int.add_comm]
    exact cop_add (cop_mul_l h'.2 e) (Int.dvd_mul_left ..)
theorem plus_two {t u t' u' d tot g : Int} (h : IsSh t u) (h' : IsSh t' u') (ed : gcdI u u' = d) (et : t * (u' / d) + t' * (u / d) = tot) (eg : gcdI tot d = g) :
    IsSh (tot / g) (u / d * (u' / g)) ∧ (tot / g) * (u * u') = (u / d * (u' / g)) * (t * u' + t' * u) := by
  have hu1 := h.1
  have hu2 := h'.1
  have d0 : 0 < d := by rw [← ed]; exact gcdI_pos (by omega)
  have g0 : 0 < g := by rw [← eg]; exact gcdI_pos (by omega)
  have da : d ∣ u := by rw [← ed]; exact gcdI_dvd_l _ _
  have db : d ∣ u' := by rw [← ed]; exact gcdI_dvd_r _ _
  have gt : g ∣ tot := by rw [← eg]; exact gcdI_dvd_l _ _
  have gd : g ∣ d := by rw [← eg]; exact gcdI_dvd_r _ _
  have hab : gcdI (u / d) (u' / d) = 1 := by rw [← ed]; exact cop_div (by omega)
  have hgd : gcdI (tot / g) (d / g) = 1 := by rw [← eg]; exact cop_div (by omega)
  obtain ⟨a, rfl⟩ := da
  obtain ⟨b, rfl⟩ := db
  obtain ⟨e, rfl⟩ := gd
  obtain ⟨f, rfl⟩ := gt
  have g1 : g ≠ 0 := by omega
  have d1 : g * e ≠ 0 := by omega
  rw [Int.mul_ediv_cancel_left _ d1] at et hab ⊢
  rw [Int.mul_ediv_cancel_left _ d1] at et hab
  rw [Int.mul_ediv_cancel_left _ g1] at hgd ⊢
  rw [Int.mul_ediv_cancel_left _ g1] at hgd
  have eb : g * e * b / g = e * b := by rw [Int.mul_assoc, Int.mul_ediv_cancel_left _ g1]
  rw [eb]
  have e0 : 0 < e := by
    rcases Int.lt_trichotomy e 0 with z | z | z
    · have := Int.mul_neg_of_pos_of_neg g0 z
      omega
    · rw [z] at d0; simp at d0
    · exact z
  have a0 : 0 < a := Int.pos_of_mul_pos_right (a := g * e) (by omega) d0
  have b0 : 0 < b := Int.pos_of_mul_pos_right (a := g * e) (by omega) d0
  have c1 : gcdI f a = 1 := by
    refine cop_dvd_l (a := g * f) ?_ (Int.dvd_mul_left ..)
    rw [← et]
    exact cop_add (cop_mul_l (cop_dvd_r h.2 (Int.dvd_mul_left ..)) (cop_comm hab)) (Int.dvd_mul_left ..)
  have c2 : gcdI f b = 1 := by
    refine cop_dvd_l (a := g * f) ?_ (Int.dvd_mul_left ..)
    rw [← et, Int.add_comm]
    exact cop_add (cop_mul_l (cop_dvd_r h'.2 (Int.dvd_mul_left ..)) hab) (Int.dvd_mul_left ..)
  refine ⟨⟨?_, cop_mul_r c1 (cop_mul_r hgd c2)⟩, ?_⟩
  · have := Int.mul_pos a0 (Int.mul_pos e0 b0)
    omega
  · have : a * (e * b) * (t * (g * e * b) + t' * (g * e * a)) = a * (e * b) * (g * e) * (t * b + t' * a) := by grind
    rw [this, et]
    grind
theorem times_one {t u t' u' d e : Int} (h : IsSh t u) (h' : IsSh t' u') (ed : gcdI t u' = d) (ee : gcdI t' u = e) :
    IsSh ((t / d) * (t' / e)) ((u / e) * (u' / d)) ∧ ((t / d) * (t' / e)) * (u * u') = ((u / e) * (u' / d)) * (t * t') := by
  have hu1 := h.1
  have hu2 := h'.1
  have d0 : 0 < d := by rw [← ed]; exact gcdI_pos (by omega)
  have e0 : 0 < e := by rw [← ee]; exact gcdI_pos (by omega)
  have d1 : d ∣ t := by rw [← ed]; exact gcdI_dvd_l _ _
  have d2 : d ∣ u' := by rw [← ed]; exact gcdI_dvd_r _ _
  have d3 : e ∣ t' := by rw [← ee]; exact gcdI_dvd_l _ _
  have d4 : e ∣ u := by rw [← ee]; exact gcdI_dvd_r _ _
  have c1 : gcdI (t / d) (u' / d) = 1 := by rw [← ed]; exact cop_div (by omega)
  have c2 : gcdI (t' / e) (u / e) = 1 := by rw [← ee]; exact cop_div (by omega)
  have c3 : gcdI (t / d) (u / e) = 1 := cop_dvd_l (cop_dvd_r h.2 (div_dvd d4)) (div_dvd d1)
  have c4 : gcdI (t' / e) (u' / d) = 1 := cop_dvd_l (cop_dvd_r h'.2 (div_dvd d2)) (div_dvd d3)
  refine ⟨⟨?_, cop_mul_l (cop_mul_r c3 c1) (cop_mul_r c2 c4)⟩, ?_⟩
  · have := Int.mul_pos (Int.ediv_pos_of_pos_of_dvd (show 0 < u by omega) (by omega) d4) (Int.ediv_pos_of_pos_of_dvd (show 0 < u' by omega) (by omega) d2)
    omega
  · have m1 := div_mul d1
    have m2 := div_mul d2
    have m3 := div_mul d3
    have m4 := div_mul d4
    generalize t / d = x at *
    generalize u' / d = y at *
    generalize t' / e = v at *
    generalize u / e = z at *
    subst m1 m2 m3 m4
    grind
theorem gcdI_bd2 {n : Nat} {p q : Int} (h : Bd n p) (g : Bd n q) (h0 : ¬ (p = 0 ∧ q = 0)) : Bd n (gcdI p q) := by
  by_cases hq : q = 0
  · have hp : p ≠ 0 := fun z => h0 ⟨z, hq⟩
    refine h.of_le ?_
    unfold gcdI
    exact Nat.le_of_dvd (by omega) (Nat.gcd_dvd_left _ _)
  · exact gcdI_bd g hq
theorem gcdI_comm (p q : Int) : gcdI p q = gcdI q p := by
  unfold gcdI
  rw [Nat.gcd_comm]
theorem gcdI_pos2 {p q : Int} (h0 : ¬ (p = 0 ∧ q = 0)) : 0 < gcdI p q := by
  by_cases hq : q = 0
  · rw [gcdI_comm]
    exact gcdI_pos fun z => h0 ⟨z, hq⟩
  · exact gcdI_pos hq
theorem cop_div2 {p q : Int} (h0 : ¬ (p = 0 ∧ q = 0)) : gcdI (p / gcdI p q) (q / gcdI p q) = 1 := by
  by_cases hq : q = 0
  · have hp : p ≠ 0 := fun z => h0 ⟨z, hq⟩
    rw [gcdI_comm p q]
    exact cop_comm (cop_div hp)
  · exact cop_div hq
/-- a fraction by what it is worth -/
theorem eq_divInt {q : Rat} {a b : Int} (hb : b ≠ 0) (h : q * (b : Rat) = (a : Rat)) : q = Rat.divInt a b := by
  rw [Rat.divInt_eq_div, ← h]
  have : (b : Rat) ≠ 0 := fun z => hb (by exact_mod_cast z)
  grind
theorem num_eq (x : Rat) : (x.num : Rat) = x * ((x.den : Int) : Rat) := by
  have h : (((x.den : Int)) : Rat) ≠ 0 := fun z => by
    have hp := den_pos x
    have : ((x.den : Int)) = 0 := by exact_mod_cast z
    omega
  have e := Rat.num_divInt_den x
  rw [Rat.divInt_eq_div] at e
  have e2 := Rat.div_mul_cancel (a := (x.num : Rat)) h
  rw [e] at e2
  exact e2.symm

end
/-! ### the mirror: things without a heap -/
inductive Ty where
  | non | bl | int | str | tup | lst | dic
def Ty.nm : Ty → String
  | .non => "NoneType" | .bl => "bool" | .int => "int" | .str => "str" | .tup => "tuple" | .lst => "list" | .dic => "dict"
inductive D where
  | non | bl (b : Bool) | int (i : Int) | str (x : Str) | ty (t : Ty) | cls (a : Addr) | tup (ds : List D) | lst (ds : List D) | dic (ks : List Key) (ds : List D) | ins (C : Addr) (ns : List Str) (ds : List D) | deck
/-- the world: the law's deck and its cells, lists that are being built -/
structure Wd where
  dk : Option (Addr × Addr)
  own : List (Addr × HO)
def Wd.rs (W : Wd) (a : Addr) : Prop := (∃ d b, W.dk = some (d, b) ∧ (a = d ∨ a = b)) ∨ a ∈ W.own.map (·.1)
def Mt : HO → Prop
  | .lst _ => True
  | .dK _ => True
  | _ => False
structure Wd.ok (K : PySem.W.Frag) (W : Wd) (n : Nat) (H : Hp) : Prop where
  deck : ∀ d b, W.dk = some (d, b) → ∃ c : Int, Deck K H d b c ∧ c + n ≤ 900000
  owns : ∀ p ∈ W.own, H p.1 = some p.2 ∧ Mt p.2
  dis : ∀ d b, W.dk = some (d, b) → ∀ p ∈ W.own, p.1 ≠ d ∧ p.1 ≠ b
def Wd.le (W : Wd) (H H' : Hp) : Prop := ∀ a o, ¬ W.rs a → H a = some o → H' a = some o
theorem Wd.le_refl {W : Wd} {H : Hp} : W.le H H := fun _ _ _ h => h
theorem Wd.le.trans {W : Wd} {H H1 H2 : Hp} (u : W.le H H1) (v : W.le H1 H2) : W.le H H2 := fun a o n h => v a o n (u a o n h)
theorem Wd.le_same {W : Wd} {H H' : Hp} (s : Same H H') : W.le H H' := fun a o _ h => s a o h
theorem Wd.ok.same {K : PySem.W.Frag} {W : Wd} {n : Nat} {H H' : Hp} (o : W.ok K n H) (s : Same H H') : W.ok K n H' :=
  ⟨fun d b e => let ⟨c, h, l⟩ := o.deck d b e; ⟨c, h.keep s, l⟩, fun p hp => ⟨s _ _ (o.owns p hp).1, (o.owns p hp).2⟩, o.dis⟩
theorem Wd.ok.le {K : PySem.W.Frag} {W : Wd} {n m : Nat} {H : Hp} (o : W.ok K n H) (l : m ≤ n) : W.ok K m H :=
  ⟨fun d b e => let ⟨c, h, l'⟩ := o.deck d b e; ⟨c, h, by omega⟩, o.owns, o.dis⟩
theorem Wd.ok.lst {K : PySem.W.Frag} {W : Wd} {n : Nat} {H : Hp} (o : W.ok K n H) {a : Addr} (r : W.rs a) : ∃ ob, H a = some ob ∧ Mt ob := by
  rcases r with ⟨d, b, e, h⟩ | h
  · obtain ⟨c, ⟨⟨s, ns, cs, i, k, h1, h2, _⟩, _⟩, _⟩ := o.deck d b e
    rcases h with rfl | rfl
    · exact ⟨_, h1, trivial⟩
    · exact ⟨_, h2, trivial⟩
  · obtain ⟨p, hp, rfl⟩ := List.mem_map.mp h
    exact ⟨_, o.owns p hp⟩
theorem Wd.ok.fresh {K : PySem.W.Frag} {W : Wd} {n : Nat} {H : Hp} (o : W.ok K n H) {a : Addr} (h : H a = none) : ¬ W.rs a := fun r => by
  obtain ⟨xs, e, _⟩ := o.lst r
  rw [e] at h
  cases h
mutual
inductive At (K : PySem.W.Frag) (W : Wd) (H : Hp) : V → D → Prop
  | non : At K W H .non .non
  | bl (b : Bool) : At K W H (.bl b) (.bl b)
  | int (i : Int) : At K W H (.int i) (.int i)
  | str (x : Str) : At K W H (.str x) (.str x)
  | ty (t : Ty) : At K W H (.ty t.nm) (.ty t)
  | cls (a : Addr) : At K W H (.ref a) (.cls a)
  | tup {a : Addr} {xs : List V} {ds : List D} : SqT K H a xs → AtAll K W H xs ds → At K W H (.ref a) (.tup ds)
  | lst {a : Addr} {xs : List V} {ds : List D} : ¬ W.rs a → H a = some (.lst xs) → AtAll K W H xs ds → At K W H (.ref a) (.lst ds)
  | dic {a : Addr} {ks : List Key} {xs : List V} {ds : List D} : ¬ W.rs a → H a = some (.dK (ks.zip xs)) → ks.length = xs.length → AtAll K W H xs ds → At K W H (.ref a) (.dic ks ds)
  | ins {a C dx : Addr} {ns : List Str} {xs : List V} {ds : List D} : H a = some (.ins C dx (ns.zip xs)) → ns.length = xs.length → AtAll K W H xs ds → At K W H (.ref a) (.ins C ns ds)
  | deck {d b : Addr} : W.dk = some (d, b) → At K W H (.ref d) .deck
inductive AtAll (K : PySem.W.Frag) (W : Wd) (H : Hp) : List V → List D → Prop
  | nil : AtAll K W H [] []
  | cons {v : V} {vs : List V} {d : D} {ds : List D} : At K W H v d → AtAll K W H vs ds → AtAll K W H (v :: vs) (d :: ds)
end
section
variable {K : PySem.W.Frag} {W : Wd} {H H' : Hp}
def Wd.lk (W : Wd) (H : Hp) : Prop := ∀ a, W.rs a → ∀ o, H a = some o → Mt o
theorem Wd.ok.lk {n : Nat} (o : W.ok K n H) : W.lk H := fun a r ob e => by
  obtain ⟨xs, e', m⟩ := o.lst r
  rw [e'] at e
  cases e
  exact m
theorem sqt_lk {a : Addr} {xs : List V} (o : W.lk H) (l : W.le H H') (h : SqT K H a xs) : SqT K H' a xs := by
  rcases h with (h | ⟨ob, h⟩) | h
  · exact .inl (.inl (l _ _ (fun r => o _ r _ h) h))
  · exact .inl (.inr ⟨ob, l _ _ (fun r => o _ r _ h) h⟩)
  · exact .inr h
mutual
theorem At.lk (o : W.lk H) (l : W.le H H') : ∀ (d : D) {v : V}, At K W H v d → At K W H' v d
  | .non, _, h => by cases h; exact .non
  | .bl b, _, h => by cases h; exact .bl b
  | .int i, _, h => by cases h; exact .int i
  | .str x, _, h => by cases h; exact .str x
  | .ty t, _, h => by cases h; exact .ty t
  | .cls a, _, h => by cases h; exact .cls a
  | .tup ds, _, h => by
    cases h with
    | tup s a => exact .tup (sqt_lk o l s) (AtAll.lk o l ds a)
  | .lst ds, _, h => by
    cases h with
    | lst r s a => exact .lst r (l _ _ r s) (AtAll.lk o l ds a)
  | .dic ks ds, _, h => by
    cases h with
    | dic r s e a => exact .dic r (l _ _ r s) e (AtAll.lk o l ds a)
  | .ins C ns ds, _, h => by
    cases h with
    | ins s e a => exact .ins (l _ _ (fun r => o _ r _ s) s) e (AtAll.lk o l ds a)
  | .deck, _, h => by
    cases h with
    | deck e => exact .deck e
theorem AtAll.lk (o : W.lk H) (l : W.le H H') : ∀ (ds : List D) {vs : List V}, AtAll K W H vs ds → AtAll K W H' vs ds
  | [], _, h => by cases h; exact .nil
  | d :: ds, _, h => by
    cases h with
    | cons a r => exact .cons (At.lk o l d a) (AtAll.lk o l ds r)
end
theorem At.le {n : Nat} (o : W.ok K n H) (l : W.le H H') (d : D) {v : V} (h : At K W H v d) : At K W H' v d := At.lk o.lk l d h
theorem AtAll.le {n : Nat} (o : W.ok K n H) (l : W.le H H') (ds : List D) {vs : List V} (h : AtAll K W H vs ds) : AtAll K W H' vs ds := AtAll.lk o.lk l ds h
/-- one more list is being built -/
def Wd.add (W : Wd) (p : Addr × HO) : Wd := { W with own := p :: W.own }
mutual
/-- a world with more that is reserved, none of it there -/
theorem At.ext {W' : Wd} (hr : ∀ a, W'.rs a → ¬ W.rs a → H a = none) (hd : W'.dk = W.dk) : ∀ (d : D) {v : V}, At K W H v d → At K W' H v d
  | .non, _, h => by cases h; exact .non
  | .bl b, _, h => by cases h; exact .bl b
  | .int i, _, h => by cases h; exact .int i
  | .str x, _, h => by cases h; exact .str x
  | .ty t, _, h => by cases h; exact .ty t
  | .cls a, _, h => by cases h; exact .cls a
  | .tup ds, _, h => by
    cases h with
    | tup s a => exact .tup s (AtAll.ext hr hd ds a)
  | .lst ds, _, h => by
    cases h with
    | lst r s a => exact .lst (fun z => by rw [hr _ z r] at s; cases s) s (AtAll.ext hr hd ds a)
  | .dic ks ds, _, h => by
    cases h with
    | dic r s e a => exact .dic (fun z => by rw [hr _ z r] at s; cases s) s e (AtAll.ext hr hd ds a)
  | .ins C ns ds, _, h => by
    cases h with
    | ins s e a => exact .ins s e (AtAll.ext hr hd ds a)
  | .deck, _, h => by
    cases h with
    | deck e => exact .deck (hd.trans e)
theorem AtAll.ext {W' : Wd} (hr : ∀ a, W'.rs a → ¬ W.rs a → H a = none) (hd : W'.dk = W.dk) : ∀ (ds : List D) {vs : List V}, AtAll K W H vs ds → AtAll K W' H vs ds
  | [], _, h => by cases h; exact .nil
  | d :: ds, _, h => by
    cases h with
    | cons a r => exact .cons (At.ext hr hd d a) (AtAll.ext hr hd ds r)
end
mutual
/-- the worlds' reserved places alone count; fewer are less asked -/
theorem At.weak {W' : Wd} (hr : ∀ a, W'.rs a → W.rs a) (hd : W'.dk = W.dk) : ∀ (d : D) {v : V}, At K W H v d → At K W' H v d
  | .non, _, h => by cases h; exact .non
  | .bl b, _, h => by cases h; exact .bl b
  | .int i, _, h => by cases h; exact .int i
  | .str x, _, h => by cases h; exact .str x
  | .ty t, _, h => by cases h; exact .ty t
  | .cls a, _, h => by cases h; exact .cls a
  | .tup ds, _, h => by
    cases h with
    | tup s a => exact .tup s (AtAll.weak hr hd ds a)
  | .lst ds, _, h => by
    cases h with
    | lst r s a => exact .lst (fun z => r (hr _ z)) s (AtAll.weak hr hd ds a)
  | .dic ks ds, _, h => by
    cases h with
    | dic r s e a => exact .dic (fun z => r (hr _ z)) s e (AtAll.weak hr hd ds a)
  | .ins C ns ds, _, h => by
    cases h with
    | ins s e a => exact .ins s e (AtAll.weak hr hd ds a)
  | .deck, _, h => by
    cases h with
    | deck e => exact .deck (hd.trans e)
theorem AtAll.weak {W' : Wd} (hr : ∀ a, W'.rs a → W.rs a) (hd : W'.dk = W.dk) : ∀ (ds : List D) {vs : List V}, AtAll K W H vs ds → AtAll K W' H vs ds
  | [], _, h => by cases h; exact .nil
  | d :: ds, _, h => by
    cases h with
    | cons a r => exact .cons (At.weak hr hd d a) (AtAll.weak hr hd ds r)
end
theorem Wd.rs_add {q : Addr × HO} {a : Addr} (h : W.rs a) : (W.add q).rs a := by
  rcases h with h | h
  · exact .inl h
  · exact .inr (List.mem_cons_of_mem _ h)
theorem AtAll.length : ∀ {vs : List V} {ds : List D}, AtAll K W H vs ds → vs.length = ds.length
  | _, [], h => by cases h; rfl
  | _, d :: ds, h => by
    cases h with
    | cons a r => rw [List.length_cons, List.length_cons, AtAll.length r]
theorem AtAll.append : ∀ {vs us : List V} {ds es : List D}, AtAll K W H vs ds → AtAll K W H us es → AtAll K W H (vs ++ us) (ds ++ es)
  | _, _, [], _, h, g => by cases h; exact g
  | _, _, d :: ds, _, h, g => by
    cases h with
    | cons a r => exact .cons a (AtAll.append r g)
theorem AtAll.get : ∀ {vs : List V} {ds : List D} {i : Nat} {d : D}, AtAll K W H vs ds → ds[i]? = some d → ∃ v, vs[i]? = some v ∧ At K W H v d
  | _, [], _, _, h, e => by cases e
  | _, _ :: _, 0, _, h, e => by
    cases h with
    | cons a r => cases e; exact ⟨_, rfl, a⟩
  | _, _ :: ds, i + 1, _, h, e => by
    cases h with
    | cons a r => exact AtAll.get (i := i) r e
theorem AtAll.get' : ∀ {vs : List V} {ds : List D} {i : Nat} {v : V}, AtAll K W H vs ds → vs[i]? = some v → ∃ d, ds[i]? = some d ∧ At K W H v d
  | _, [], _, _, h, e => by cases h; cases e
  | _, _ :: _, 0, _, h, e => by
    cases h with
    | cons a r => cases e; exact ⟨_, rfl, a⟩
  | _, _ :: ds, i + 1, _, h, e => by
    cases h with
    | cons a r => exact AtAll.get' (i := i) r e
end
/-! ### environments and the judgement of expressions -/
abbrev Env' := List (Option D)
def eGet : Env' → Nat → Option D
  | [], _ => none
  | d :: _, 0 => d
  | _ :: r, i + 1 => eGet r i
def eSet : Env' → Nat → Option D → Env'
  | [], _, _ => []
  | _ :: r, 0, d => d :: r
  | x :: r, i + 1, d => x :: eSet r i d
theorem eSet_length : ∀ (ρ : Env') (i : Nat) (d : Option D), (eSet ρ i d).length = ρ.length
  | [], _, _ => rfl
  | _ :: _, 0, _ => rfl
  | x :: r, i + 1, d => by rw [eSet, List.length_cons, List.length_cons, eSet_length]
theorem eGet_set : ∀ {ρ : Env'} {i : Nat} {d : Option D} {e : D}, eGet (eSet ρ i d) i = some e → i < ρ.length ∧ d = some e
  | [], _, _, _, h => by cases h
  | _ :: _, 0, _, _, h => ⟨Nat.succ_pos _, h⟩
  | _ :: r, i + 1, _, _, h => let ⟨h1, h2⟩ := eGet_set (ρ := r) (i := i) h; ⟨Nat.succ_lt_succ h1, h2⟩
theorem eGet_ne : ∀ {ρ : Env'} {i j : Nat} {d : Option D}, i ≠ j → eGet (eSet ρ i d) j = eGet ρ j
  | [], _, _, _, _ => rfl
  | _ :: _, 0, 0, _, h => absurd rfl h
  | _ :: _, 0, _ + 1, _, _ => rfl
  | _ :: _, _ + 1, 0, _, _ => rfl
  | _ :: r, i + 1, j + 1, _, h => eGet_ne (ρ := r) (i := i) (j := j) fun z => h (by rw [z])
def EnvAt (K : PySem.W.Frag) (W : Wd) (H : Hp) (σ : L2.St) (ρ : Env') : Prop := σ.length = ρ.length ∧ ∀ (i : Nat) (d : D), eGet ρ i = some d → ∃ v, σ[i]? = some (some v) ∧ At K W H v d
theorem EnvAt.le {K : PySem.W.Frag} {W : Wd} {H H' : Hp} {n : Nat} {σ : L2.St} {ρ : Env'} (h : EnvAt K W H σ ρ) (o : W.ok K n H) (l : W.le H H') : EnvAt K W H' σ ρ :=
  ⟨h.1, fun i d e => let ⟨v, e', a⟩ := h.2 i d e; ⟨v, e', At.le o l d a⟩⟩
theorem EnvAt.set {K : PySem.W.Frag} {W : Wd} {H : Hp} {σ : L2.St} {ρ : Env'} {i : Nat} {v : V} {d : D} (h : EnvAt K W H σ ρ) (a : At K W H v d) : EnvAt K W H (σ.set i (some v)) (eSet ρ i (some d)) := by
  refine ⟨by rw [List.length_set, eSet_length]; exact h.1, fun j e he => ?_⟩
  by_cases hj : i = j
  · subst hj
    obtain ⟨hl, he⟩ := eGet_set he
    cases he
    exact ⟨v, by rw [List.getElem?_set_self (by rw [h.1]; exact hl)], a⟩
  · rw [eGet_ne hj] at he
    rw [List.getElem?_set_ne hj]
    exact h.2 j e he
/-- what is wanted of a value: any heap that has grown -/
def Wants (K : PySem.W.Frag) (W : Wd) (H : Hp) (Qa : D → Nat → Prop) (Q : VK) : Prop := ∀ d n', Qa d n' → ∀ H' v, W.le H H' → W.ok K n' H' → At K W H' v d → Q v H'
abbrev AE := Env' → Nat → (D → Nat → Prop) → Prop
class DE (K : PySem.W.Frag) (te : TE) (f : outParam AE) : Prop where
  run : ∀ (W : Wd) (σ : L2.St) (ρ : Env') (n : Nat) (H : Hp) (Q : VK) (Qa : D → Nat → Prop), Wants K W H Qa Q → EnvAt K W H σ ρ → W.ok K n H → f ρ n Qa → te σ H Q
abbrev AT := Env' → Nat → (Bool → Nat → Prop) → Prop
class DT (K : PySem.W.Frag) (te : TT) (f : outParam AT) : Prop where
  run : ∀ (W : Wd) (σ : L2.St) (ρ : Env') (n : Nat) (H : Hp) (Q : Bool → Hp → Prop) (Qa : Bool → Nat → Prop), (∀ b n', Qa b n' → ∀ H', W.le H H' → W.ok K n' H' → Q b H') → EnvAt K W H σ ρ → W.ok K n H → f ρ n Qa → te σ H Q
abbrev AA := Env' → Nat → (List D → Nat → Prop) → Prop
class DA (K : PySem.W.Frag) (te : TA) (f : outParam AA) : Prop where
  run : ∀ (W : Wd) (σ : L2.St) (ρ : Env') (n : Nat) (H : Hp) (Q : List V → Hp → Prop) (Qa : List D → Nat → Prop), (∀ ds n', Qa ds n' → ∀ H' vs, W.le H H' → W.ok K n' H' → AtAll K W H' vs ds → Q vs H') → EnvAt K W H σ ρ → W.ok K n H → f ρ n Qa → te σ H Q
/-- a choice whose side is not yet known -/
def aIte (b : Bool) (p q : Prop) : Prop := (b = true → p) ∧ (b = false → q)
theorem aT {p q : Prop} (h : p) : aIte true p q := ⟨fun _ => h, fun z => Bool.noConfusion z⟩
theorem aF {p q : Prop} (h : q) : aIte false p q := ⟨fun z => Bool.noConfusion z, fun _ => h⟩
section
variable {K : PySem.W.Frag}
/-- by values, one -/
class D1 (K : PySem.W.Frag) (r : V → Hp → VK → Prop) (f : outParam (D → Nat → (D → Nat → Prop) → Prop)) : Prop where
  run : ∀ (W : Wd) (n : Nat) (H : Hp) (x : V) (d : D) (Q : VK) (Qa : D → Nat → Prop), Wants K W H Qa Q → W.ok K n H → At K W H x d → f d n Qa → r x H Q
class D2 (K : PySem.W.Frag) (r : R2) (f : outParam (D → D → Nat → (D → Nat → Prop) → Prop)) : Prop where
  run : ∀ (W : Wd) (n : Nat) (H : Hp) (x y : V) (d e : D) (Q : VK) (Qa : D → Nat → Prop), Wants K W H Qa Q → W.ok K n H → At K W H x d → At K W H y e → f d e n Qa → r x y H Q
class DL (K : PySem.W.Frag) (r : List V → Hp → VK → Prop) (f : outParam (List D → Nat → (D → Nat → Prop) → Prop)) : Prop where
  run : ∀ (W : Wd) (n : Nat) (H : Hp) (xs : List V) (ds : List D) (Q : VK) (Qa : D → Nat → Prop), Wants K W H Qa Q → W.ok K n H → AtAll K W H xs ds → f ds n Qa → r xs H Q
theorem Wants.le {W : Wd} {H H1 : Hp} {Qa : D → Nat → Prop} {Q : VK} (h : Wants K W H Qa Q) (l : W.le H H1) : Wants K W H1 Qa Q := fun d n' q H' v l' o a => h d n' q H' v (l.trans l') o a
theorem Wants.now {W : Wd} {H : Hp} {Qa : D → Nat → Prop} {Q : VK} {n : Nat} {d : D} {v : V} (h : Wants K W H Qa Q) (o : W.ok K n H) (q : Qa d n) (a : At K W H v d) : Q v H := h d n q H v Wd.le_refl o a
/-- a new object -/
theorem Wants.new {W : Wd} {H : Hp} {Qa : D → Nat → Prop} {Q : VK} {n : Nat} {d : D} {p : Addr} {ob : HO} (h : Wants K W H Qa Q) (o : W.ok K n H) (q : Qa d n) (hp : H p = none) (a : At K W (upd H p ob) (.ref p) d) : Q (.ref p) (upd H p ob) :=
  h d n q _ _ (Wd.le_same (same_upd hp)) (o.same (same_upd hp)) a
/-! expressions -/
def aVar (i : Nat) : AE := fun ρ n Q => match eGet ρ i with
  | some d => Q d n
  | none => False
instance {i : Nat} : DE K (tVar i) (aVar i) := ⟨fun W σ ρ n H Q Qa hQ hE o h => by
  unfold aVar at h
  split at h
  · rename_i d e
    obtain ⟨v, e', a⟩ := hE.2 i d e
    exact ⟨v, e', hQ.now o h a⟩
  · exact h.elim⟩
def vD : V → Option D
  | .non => some .non | .bl b => some (.bl b) | .int i => some (.int i) | .str x => some (.str x)
  | _ => none
theorem vD_at {W : Wd} {H : Hp} {v : V} {d : D} (h : vD v = some d) : At K W H v d := by
  cases v <;> cases h
  · exact .non
  · exact .bl _
  · exact .int _
  · exact .str _
def aC (v : V) : AE := fun _ n Q => match vD v with
  | some d => Q d n
  | none => False
instance (priority := 100) {v : V} : DE K (tC v) (aC v) := ⟨fun W σ ρ n H Q Qa hQ hE o h => by
  unfold aC at h
  split at h
  · rename_i d e
    exact hQ.now o h (vD_at e)
  · exact h.elim⟩
def a1 (f : D → Nat → (D → Nat → Prop) → Prop) (fa : AE) : AE := fun ρ n Q => fa ρ n fun d n1 => f d n1 Q
def a2 (f : D → D → Nat → (D → Nat → Prop) → Prop) (fa fb : AE) : AE := fun ρ n Q => fa ρ n fun d n1 => fb ρ n1 fun e n2 => f d e n2 Q
instance {r : R2} {f : D → D → Nat → (D → Nat → Prop) → Prop} {ta tb : TE} {fa fb : AE} [D2 K r f] [DE K ta fa] [DE K tb fb] : DE K (tOp r ta tb) (a2 f fa fb) := ⟨fun W σ ρ n H Q Qa hQ hE o h =>
  DE.run (te := ta) (f := fa) W σ ρ n H _ _ (fun d n1 h1 H1 x l1 o1 ax => DE.run (te := tb) (f := fb) W σ ρ n1 H1 _ _ (fun e n2 h2 H2 y l2 o2 ay => D2.run (f := f) W n2 H2 x y d e Q Qa (hQ.le (l1.trans l2)) o2 (At.le o1 l2 d ax) ay h2) (hE.le o l1) o1 h1) hE o h⟩
instance {r : V → Hp → VK → Prop} {f : D → Nat → (D → Nat → Prop) → Prop} {ta : TE} {fa : AE} [D1 K r f] [DE K ta fa] : DE K (tUn r ta) (a1 f fa) := ⟨fun W σ ρ n H Q Qa hQ hE o h =>
  DE.run (te := ta) (f := fa) W σ ρ n H _ _ (fun d n1 h1 H1 x l1 o1 ax => D1.run (f := f) W n1 H1 x d Q Qa (hQ.le l1) o1 ax h1) hE o h⟩
def aInt2 (C : Int → Int → Prop) (g : Int → Int → V) : D → D → Nat → (D → Nat → Prop) → Prop
  | .int i, .int j, n, Q => C i j ∧ (match vD (g i j) with
    | some d => Q d n
    | none => False)
  | _, _, _, _ => False
def aInt0 (g : Int → Int → V) : D → D → Nat → (D → Nat → Prop) → Prop
  | .int i, .int j, n, Q => (match vD (g i j) with
    | some d => Q d n
    | none => False)
  | _, _, _, _ => False
instance {C : Int → Int → Prop} {g : Int → Int → V} : D2 K (rI C g) (aInt2 C g) := ⟨fun W n H x y d e Q Qa hQ o ax ay h => by
  unfold aInt2 at h
  split at h
  · obtain ⟨hc, h⟩ := h
    cases ax
    cases ay
    refine ⟨_, _, rfl, rfl, hc, ?_⟩
    split at h
    · rename_i d e
      exact hQ.now o h (vD_at e)
    · exact h.elim
  · exact h.elim⟩
instance {g : Int → Int → V} : D2 K (rI0 g) (aInt0 g) := ⟨fun W n H x y d e Q Qa hQ o ax ay h => by
  unfold aInt0 at h
  split at h
  · cases ax
    cases ay
    refine ⟨_, _, rfl, rfl, ?_⟩
    split at h
    · rename_i d e
      exact hQ.now o h (vD_at e)
    · exact h.elim
  · exact h.elim⟩
def aIntU (g : Int → V) : D → Nat → (D → Nat → Prop) → Prop
  | .int i, n, Q => (match vD (g i) with
    | some d => Q d n
    | none => False)
  | _, _, _ => False
instance {g : Int → V} : D1 K (rU g) (aIntU g) := ⟨fun W n H x d Q Qa hQ o ax h => by
  unfold aIntU at h
  split at h
  · cases ax
    refine ⟨_, rfl, ?_⟩
    split at h
    · rename_i d e
      exact hQ.now o h (vD_at e)
    · exact h.elim
  · exact h.elim⟩
/-! == of scalars -/
def eqS : D → D → Option Bool
  | .int i, .int j => some (decide (i = j)) | .bl i, .bl j => some (decide (i = j)) | .str i, .str j => some (decide (i = j)) | .non, .non => some true
  | .non, .int _ => some false | .int _, .non => some false | .non, .bl _ => some false | .bl _, .non => some false | .non, .str _ => some false | .str _, .non => some false
  | .int _, .str _ => some false | .str _, .int _ => some false | .bl _, .str _ => some false | .str _, .bl _ => some false
  | _, _ => none
def aEqS (f : Bool → Bool) : D → D → Nat → (D → Nat → Prop) → Prop := fun d e n Q => match eqS d e with
  | some b => Q (.bl (f b)) n
  | none => False
theorem eqS_is {W : Wd} {H : Hp} {x y : V} {d e : D} {b : Bool} (ax : At K W H x d) (ay : At K W H y e) (h : eqS d e = some b) : scal x y = true ∧ decide (x = y) = b := by
  cases ax <;> cases ay <;> first
    | cases h; done
    | (cases h; refine ⟨rfl, ?_⟩; first
        | rfl
        | (refine decide_eq_decide.mpr ⟨fun z => ?_, fun z => by rw [z]⟩; injection z))
instance : D2 K rEq (aEqS id) := ⟨fun W n H x y d e Q Qa hQ o ax ay h => by
  unfold aEqS at h
  split at h
  · rename_i b e
    obtain ⟨h1, h2⟩ := eqS_is ax ay e
    refine ⟨h1, ?_⟩
    rw [h2]
    exact hQ.now o h (.bl _)
  · exact h.elim⟩
instance : D2 K rNe (aEqS not) := ⟨fun W n H x y d e Q Qa hQ o ax ay h => by
  unfold aEqS at h
  split at h
  · rename_i b e
    obtain ⟨h1, h2⟩ := eqS_is ax ay e
    refine ⟨h1, ?_⟩
    rw [h2]
    exact hQ.now o h (.bl _)
  · exact h.elim⟩
/-! tests -/
def aTest (f : AE) : AT := fun ρ n Q => f ρ n fun d n1 => match d with
  | .bl b => Q b n1
  | _ => False
theorem aTest_run {te : TE} {f : AE} [DE K te f] (W : Wd) (σ : L2.St) (ρ : Env') (n : Nat) (H : Hp) (Q : Bool → Hp → Prop) (Qa : Bool → Nat → Prop) (hQ : ∀ b n', Qa b n' → ∀ H', W.le H H' → W.ok K n' H' → Q b H') (hE : EnvAt K W H σ ρ) (o : W.ok K n H) (h : aTest f ρ n Qa) :
    te σ H fun x H' => ∃ k, x = .bl k ∧ Q k H' :=
  DE.run (te := te) (f := f) W σ ρ n H _ _ (fun d n1 h1 H1 x l1 o1 ax => by
    split at h1
    · cases ax
      exact ⟨_, rfl, hQ _ _ h1 H1 l1 o1⟩
    · exact h1.elim) hE o h
instance {te : TE} {f : AE} [DE K te f] : DT K (tTest te) (aTest f) := ⟨aTest_run⟩
instance {te : TE} {f : AE} [DE K te f] : DT K (tB te) (aTest f) := ⟨aTest_run⟩
def aNotT (f : AT) : AT := fun ρ n Q => f ρ n fun b n1 => Q (!b) n1
instance {t : TT} {f : AT} [DT K t f] : DT K (tNot t) (aNotT f) := ⟨fun W σ ρ n H Q Qa hQ hE o h => DT.run (te := t) (f := f) W σ ρ n H _ _ (fun b n1 h1 H1 l1 o1 => hQ _ _ h1 H1 l1 o1) hE o h⟩
def aAndT (f g : AT) : AT := fun ρ n Q => f ρ n fun b n1 => aIte b (g ρ n1 Q) (Q false n1)
def aOrT (f g : AT) : AT := fun ρ n Q => f ρ n fun b n1 => aIte b (Q true n1) (g ρ n1 Q)
instance {t u : TT} {f g : AT} [DT K t f] [DT K u g] : DT K (tAnd t u) (aAndT f g) := ⟨fun W σ ρ n H Q Qa hQ hE o h =>
  DT.run (te := t) (f := f) W σ ρ n H _ _ (fun b n1 h1 H1 l1 o1 => by
    cases b with
    | true => rw [if_pos rfl]; exact DT.run (te := u) (f := g) W σ ρ n1 H1 Q Qa (fun b n2 h2 H2 l2 o2 => hQ _ _ h2 H2 (l1.trans l2) o2) (hE.le o l1) o1 (h1.1 rfl)
    | false => rw [if_neg Bool.false_ne_true]; exact hQ _ _ (h1.2 rfl) H1 l1 o1) hE o h⟩
instance {t u : TT} {f g : AT} [DT K t f] [DT K u g] : DT K (tOr t u) (aOrT f g) := ⟨fun W σ ρ n H Q Qa hQ hE o h =>
  DT.run (te := t) (f := f) W σ ρ n H _ _ (fun b n1 h1 H1 l1 o1 => by
    cases b with
    | false => rw [if_neg Bool.false_ne_true]; exact DT.run (te := u) (f := g) W σ ρ n1 H1 Q Qa (fun b n2 h2 H2 l2 o2 => hQ _ _ h2 H2 (l1.trans l2) o2) (hE.le o l1) o1 (h1.2 rfl)
    | true => rw [if_pos rfl]; exact hQ _ _ (h1.1 rfl) H1 l1 o1) hE o h⟩
def aYes : AT := fun _ n Q => Q true n
instance : DT K tYes aYes := ⟨fun W σ ρ n H Q Qa hQ hE o h => hQ _ _ h H Wd.le_refl o⟩
def aNotV (f : AE) : AE := fun ρ n Q => f ρ n fun d n1 => match d with
  | .bl b => Q (.bl (!b)) n1
  | _ => False
def aBits (f : AE) : AE := fun ρ n Q => f ρ n fun d n1 => match d with
  | .int i => Q (.int (Builtin.Int.intBits i : Nat)) n1
  | _ => False
def aAndV (f g : AE) : AE := fun ρ n Q => f ρ n fun d n1 => match d with
  | .bl b => aIte b (g ρ n1 Q) (Q (.bl false) n1)
  | _ => False
def aOrV (f g : AE) : AE := fun ρ n Q => f ρ n fun d n1 => match d with
  | .bl b => aIte b (Q (.bl true) n1) (g ρ n1 Q)
  | _ => False
instance {te : TE} {f : AE} [DE K te f] : DE K (tNotV te) (aNotV f) := ⟨fun W σ ρ n H Q Qa hQ hE o h =>
  DE.run (te := te) (f := f) W σ ρ n H _ _ (fun d n1 h1 H1 x l1 o1 ax => by
    split at h1
    · cases ax
      exact ⟨_, rfl, (hQ.le l1).now o1 h1 (.bl _)⟩
    · exact h1.elim) hE o h⟩
instance {te : TE} {f : AE} [DE K te f] : DE K (tBits te) (aBits f) := ⟨fun W σ ρ n H Q Qa hQ hE o h =>
  DE.run (te := te) (f := f) W σ ρ n H _ _ (fun d n1 h1 H1 x l1 o1 ax => by
    split at h1
    · cases ax
      exact ⟨_, rfl, (hQ.le l1).now o1 h1 (.int _)⟩
    · exact h1.elim) hE o h⟩
instance {te tu : TE} {f g : AE} [DE K te f] [DE K tu g] : DE K (tAndV te tu) (aAndV f g) := ⟨fun W σ ρ n H Q Qa hQ hE o h =>
  DE.run (te := te) (f := f) W σ ρ n H _ _ (fun d n1 h1 H1 x l1 o1 ax => by
    split at h1
    · rename_i b
      cases ax
      refine ⟨_, rfl, ?_⟩
      cases b with
      | true => rw [if_pos rfl]; exact DE.run (te := tu) (f := g) W σ ρ n1 H1 Q Qa (hQ.le l1) (hE.le o l1) o1 (h1.1 rfl)
      | false => rw [if_neg Bool.false_ne_true]; exact (hQ.le l1).now o1 (h1.2 rfl) (.bl _)
    · exact h1.elim) hE o h⟩
instance {te tu : TE} {f g : AE} [DE K te f] [DE K tu g] : DE K (tOrV te tu) (aOrV f g) := ⟨fun W σ ρ n H Q Qa hQ hE o h =>
  DE.run (te := te) (f := f) W σ ρ n H _ _ (fun d n1 h1 H1 x l1 o1 ax => by
    split at h1
    · rename_i b
      cases ax
      refine ⟨_, rfl, ?_⟩
      cases b with
      | false => rw [if_neg Bool.false_ne_true]; exact DE.run (te := tu) (f := g) W σ ρ n1 H1 Q Qa (hQ.le l1) (hE.le o l1) o1 (h1.2 rfl)
      | true => rw [if_pos rfl]; exact (hQ.le l1).now o1 (h1.1 rfl) (.bl _)
    · exact h1.elim) hE o h⟩
def aIfE (c : AT) (f g : AE) : AE := fun ρ n Q => c ρ n fun b n1 => aIte b (f ρ n1 Q) (g ρ n1 Q)
instance {tc : TT} {te tu : TE} {c : AT} {f g : AE} [DT K tc c] [DE K te f] [DE K tu g] : DE K (tIf tc te tu) (aIfE c f g) := ⟨fun W σ ρ n H Q Qa hQ hE o h =>
  DT.run (te := tc) (f := c) W σ ρ n H _ _ (fun b n1 h1 H1 l1 o1 => by
    cases b with
    | true => rw [if_pos rfl]; exact DE.run (te := te) (f := f) W σ ρ n1 H1 Q Qa (hQ.le l1) (hE.le o l1) o1 (h1.1 rfl)
    | false => rw [if_neg Bool.false_ne_true]; exact DE.run (te := tu) (f := g) W σ ρ n1 H1 Q Qa (hQ.le l1) (hE.le o l1) o1 (h1.2 rfl)) hE o h⟩
def aChain (f g : D → D → Nat → (D → Nat → Prop) → Prop) (fa fb fc : AE) : AE := fun ρ n Q => fa ρ n fun x n1 => fb ρ n1 fun y n2 => f x y n2 fun z n3 => match z with
  | .bl b => aIte b (fc ρ n3 fun w n4 => g y w n4 Q) (Q (.bl false) n3)
  | _ => False
instance {r r' : R2} {f g : D → D → Nat → (D → Nat → Prop) → Prop} {ta tb tc : TE} {fa fb fc : AE} [D2 K r f] [D2 K r' g] [DE K ta fa] [DE K tb fb] [DE K tc fc] : DE K (tChain r r' ta tb tc) (aChain f g fa fb fc) := ⟨fun W σ ρ n H Q Qa hQ hE o h =>
  DE.run (te := ta) (f := fa) W σ ρ n H _ _ (fun d n1 h1 H1 x l1 o1 ax => DE.run (te := tb) (f := fb) W σ ρ n1 H1 _ _ (fun e n2 h2 H2 y l2 o2 ay => D2.run (f := f) W n2 H2 x y d e _ _ (fun z n3 h3 H3 v l3 o3 az => by
    split at h3
    · rename_i b
      cases az
      refine ⟨_, rfl, ?_⟩
      have l13 := l1.trans (l2.trans l3)
      cases b with
      | true =>
        rw [if_pos rfl]
        exact DE.run (te := tc) (f := fc) W σ ρ n3 H3 _ _ (fun w n4 h4 H4 u l4 o4 au => D2.run (f := g) W n4 H4 y u e w Q Qa (hQ.le (l13.trans l4)) o4 (At.le o2 (l3.trans l4) e ay) au h4) (hE.le o l13) o3 (h3.1 rfl)
      | false => rw [if_neg Bool.false_ne_true]; exact (hQ.le l13).now o3 (h3.2 rfl) (.bl _)
    · exact h3.elim) o2 (At.le o1 l2 d ax) ay h2) (hE.le o l1) o1 h1) hE o h⟩
/-! argument lists, displays, calls -/
def aNil : AA := fun _ n Q => Q [] n
def aCons (f : AE) (g : AA) : AA := fun ρ n Q => f ρ n fun d n1 => g ρ n1 fun ds n2 => Q (d :: ds) n2
instance : DA K tNil aNil := ⟨fun W σ ρ n H Q Qa hQ hE o h => hQ _ _ h H _ Wd.le_refl o .nil⟩
instance {te : TE} {ta : TA} {f : AE} {g : AA} [DE K te f] [DA K ta g] : DA K (tCons te ta) (aCons f g) := ⟨fun W σ ρ n H Q Qa hQ hE o h =>
  DE.run (te := te) (f := f) W σ ρ n H _ _ (fun d n1 h1 H1 x l1 o1 ax => DA.run (te := ta) (f := g) W σ ρ n1 H1 _ _ (fun ds n2 h2 H2 xs l2 o2 axs => hQ _ _ h2 H2 _ (l1.trans l2) o2 (.cons (At.le o1 l2 d ax) axs)) (hE.le o l1) o1 h1) hE o h⟩
def aTup (g : AA) : AE := fun ρ n Q => g ρ n fun ds n1 => match Nat.ble ds.length 1000 with
  | true => Q (.tup ds) n1
  | false => False
def aLst (g : AA) : AE := fun ρ n Q => g ρ n fun ds n1 => match Nat.ble ds.length 1000 with
  | true => Q (.lst ds) n1
  | false => False
instance {ta : TA} {g : AA} [DA K ta g] : DE K (tTup ta) (aTup g) := ⟨fun W σ ρ n H Q Qa hQ hE o h =>
  DA.run (te := ta) (f := g) W σ ρ n H _ _ (fun ds n1 h1 H1 xs l1 o1 ax => by
    split at h1
    · rename_i e
      refine ⟨size63 (by rw [ax.length]; exact Nat.le_of_ble_eq_true e), fun p hp => (hQ.le l1).new o1 h1 hp ?_⟩
      exact .tup (.inl (.inl upd_same)) (AtAll.le o1 (Wd.le_same (same_upd hp)) ds ax)
    · exact h1.elim) hE o h⟩
instance {ta : TA} {g : AA} [DA K ta g] : DE K (tLst ta) (aLst g) := ⟨fun W σ ρ n H Q Qa hQ hE o h =>
  DA.run (te := ta) (f := g) W σ ρ n H _ _ (fun ds n1 h1 H1 xs l1 o1 ax => by
    split at h1
    · rename_i e
      refine ⟨size63 (by rw [ax.length]; exact Nat.le_of_ble_eq_true e), fun p hp => (hQ.le l1).new o1 h1 hp ?_⟩
      exact .lst (o1.fresh hp) upd_same (AtAll.le o1 (Wd.le_same (same_upd hp)) ds ax)
    · exact h1.elim) hE o h⟩
abbrev ASp := List D → Nat → (D → Nat → Prop) → Prop
/-- the promise of a def that only makes new things (and draws) -/
def spOf (K : PySem.W.Frag) (k : Nat) (A : ASp) : Sp := fun vs H Q _ => ∃ (W : Wd) (n : Nat) (ds : List D) (Qa : D → Nat → Prop), AtAll K W H vs ds ∧ ds.length = k ∧ W.ok K n H ∧ Wants K W H Qa Q ∧ A ds n Qa
def aCall (k : Nat) (A : ASp) (g : AA) : AE := fun ρ n Q => g ρ n fun ds n1 => match Nat.beq ds.length k with
  | true => A ds n1 Q
  | false => False
instance {k : Nat} {A : ASp} {E : XK} {ta : TA} {g : AA} [DA K ta g] : DE K (tCall (spOf K k A) [] E ta) (aCall k A g) := ⟨fun W σ ρ n H Q Qa hQ hE o h =>
  DA.run (te := ta) (f := g) W σ ρ n H _ _ (fun ds n1 h1 H1 xs l1 o1 ax => by
    rw [List.append_nil]
    split at h1
    · rename_i e
      exact ⟨W, n1, ds, Qa, ax, Nat.eq_of_beq_eq_true e, o1, hQ.le l1, h1⟩
    · exact h1.elim) hE o h⟩
def aCB (f : List D → Nat → (D → Nat → Prop) → Prop) (g : AA) : AE := fun ρ n Q => g ρ n fun ds n1 => f ds n1 Q
instance {r : List V → Hp → VK → Prop} {f : List D → Nat → (D → Nat → Prop) → Prop} {ta : TA} {g : AA} [DL K r f] [DA K ta g] : DE K (tCB r ta) (aCB f g) := ⟨fun W σ ρ n H Q Qa hQ hE o h =>
  DA.run (te := ta) (f := g) W σ ρ n H _ _ (fun ds n1 h1 H1 xs l1 o1 ax => DL.run (f := f) W n1 H1 xs ds Q Qa (hQ.le l1) o1 ax h1) hE o h⟩
end

/-! ### the mirror, second part: rules over the kinds -/
section
variable {K : PySem.W.Frag}
theorem take_at {W : Wd} {H : Hp} : ∀ (k : Nat) {vs : List V} {ds : List D}, AtAll K W H vs ds → AtAll K W H (vs.take k) (ds.take k)
  | 0, _, _, _ => .nil
  | k + 1, _, [], h => by cases h; exact .nil
  | k + 1, _, d :: ds, h => by
    cases h with
    | cons a r => exact .cons a (take_at k r)
theorem drop_at {W : Wd} {H : Hp} : ∀ (k : Nat) {vs : List V} {ds : List D}, AtAll K W H vs ds → AtAll K W H (vs.drop k) (ds.drop k)
  | 0, _, _, h => h
  | k + 1, _, [], h => by cases h; exact .nil
  | k + 1, _, d :: ds, h => by
    cases h with
    | cons a r => exact drop_at k r
theorem rev_at {W : Wd} {H : Hp} : ∀ {vs : List V} {ds : List D}, AtAll K W H vs ds → AtAll K W H vs.reverse ds.reverse
  | _, [], h => by cases h; exact .nil
  | _, d :: ds, h => by
    cases h with
    | cons a r =>
      rw [List.reverse_cons, List.reverse_cons]
      exact (rev_at r).append (.cons a .nil)
theorem atI_at {W : Wd} {H : Hp} {vs : List V} {ds : List D} {i : Int} {d : D} (h : AtAll K W H vs ds) (e : atI ds i = some d) : ∃ v, atI vs i = some v ∧ At K W H v d := by
  unfold atI at e ⊢
  rw [h.length]
  cases e1 : ixN ds.length i with
  | none => rw [e1] at e; cases e
  | some j =>
    rw [e1] at e
    obtain ⟨v, h1, h2⟩ := h.get (i := j) e
    exact ⟨v, h1, h2⟩
theorem lim : (1000000 : Nat) ≤ sizeLine := by rw [sizeLine_eq]; decide
/-! a place in a list, a tuple, a text -/
def aIx : D → D → Nat → (D → Nat → Prop) → Prop
  | .tup ds, .int i, n, Q => (match atI ds i with
    | some d => Q d n
    | none => False)
  | .lst ds, .int i, n, Q => (match atI ds i with
    | some d => Q d n
    | none => False)
  | .str z, .int i, n, Q => z.length ≤ 1000000 ∧ (match atI z.cps.toList i with
    | some c => Q (.str ⟨#[c]⟩) n
    | none => False)
  | _, _, _, _ => False
instance : D2 K (rIx K) aIx := ⟨fun W n H x y d e Q Qa hQ o ax ay h => by
  unfold aIx at h
  split at h
  · cases ay
    cases ax with
    | tup s a =>
      split at h
      · rename_i d' e'
        obtain ⟨v, h1, h2⟩ := atI_at a e'
        exact .inr (.inl ⟨_, _, _, v, rfl, rfl, s, h1, hQ.now o h h2⟩)
      · exact h.elim
  · cases ay
    cases ax with
    | lst r s a =>
      split at h
      · rename_i d' e'
        obtain ⟨v, h1, h2⟩ := atI_at a e'
        exact .inl ⟨_, _, _, v, rfl, rfl, SqL.of s, h1, hQ.now o h h2⟩
      · exact h.elim
  · cases ay
    cases ax
    obtain ⟨hl, h⟩ := h
    split at h
    · rename_i c e'
      exact .inr (.inr ⟨_, _, c, rfl, rfl, Nat.le_trans hl lim, e', hQ.now o h (.str _)⟩)
    · exact h.elim
  · exact h.elim⟩
theorem k_ix {X : Cx} (hK : X.K = K) : IxR X (rIx K) := hK ▸ ix_seq
/-- the same, where the place is not written -/
def rIxY (K : PySem.W.Frag) : R2 := rIx K
@[irreducible] def aIxS : D → D → Nat → (D → Nat → Prop) → Prop := aIx
instance : D2 K (rIxY K) aIxS := ⟨fun W n H x y d e Q Qa hQ o ax ay h => by
  unfold aIxS at h
  exact D2.run (K := K) (r := rIx K) (f := aIx) W n H x y d e Q Qa hQ o ax ay h⟩
theorem k_ixS {X : Cx} (hK : X.K = K) : IxR X (rIxY K) := hK ▸ ix_seq
theorem aIx_lst {ds : List D} {i : Int} {d : D} {n : Nat} {Q : D → Nat → Prop} (e : atI ds i = some d) (q : Q d n) : aIxS (.lst ds) (.int i) n Q := by
  unfold aIxS
  show (match atI ds i with
    | some d => Q d n
    | none => False)
  rw [e]
  exact q
theorem aIx_tup {ds : List D} {i : Int} {d : D} {n : Nat} {Q : D → Nat → Prop} (e : atI ds i = some d) (q : Q d n) : aIxS (.tup ds) (.int i) n Q := by
  unfold aIxS
  show (match atI ds i with
    | some d => Q d n
    | none => False)
  rw [e]
  exact q
/-! + -/
def rAddA (K : PySem.W.Frag) : R2 := fun x y H Q => (rI0 (fun i j => .int (i + j)) x y H Q ∨ rCat x y H Q) ∨ (rCatT K x y H Q ∨ ∃ i j, x = .str i ∧ y = .str j ∧ i.length + j.length ≤ sizeLine ∧ Q (.str (i ++ j)) H)
theorem OpR.or' {X : Cx} {op : Value → Value → Sem Value} {r r' : R2} (h : OpR X op r) (h' : OpR X op r') : OpR X op (fun x y H Q => r x y H Q ∨ r' x y H Q) := by
  intro pins s σ H x y v u Q I rx ry q
  rcases q with q | q
  · exact h pins s σ H x y v u Q I rx ry q
  · exact h' pins s σ H x y v u Q I rx ry q
theorem k_add {X : Cx} (hK : X.K = K) : OpR X (binaryOp .Add) (rAddA K) := hK ▸ OpR.or' (OpR.or' op_add op_cat) (OpR.or' op_catT op_add_str)
def aAdd : D → D → Nat → (D → Nat → Prop) → Prop
  | .int i, .int j, n, Q => Q (.int (i + j)) n
  | .lst ds, .lst es, n, Q => ds.length + es.length ≤ 1000000 ∧ Q (.lst (ds ++ es)) n
  | .tup ds, .tup es, n, Q => ds ≠ [] ∧ ds.length + es.length ≤ 1000000 ∧ Q (.tup (ds ++ es)) n
  | .str a, .str b, n, Q => a.length + b.length ≤ 1000000 ∧ Q (.str (a ++ b)) n
  | _, _, _, _ => False
instance : D2 K (rAddA K) aAdd := ⟨fun W n H x y d e Q Qa hQ o ax ay h => by
  unfold aAdd at h
  split at h
  · cases ax
    cases ay
    exact .inl (.inl ⟨_, _, rfl, rfl, hQ.now o h (.int _)⟩)
  · cases ax with
    | lst r s a =>
      cases ay with
      | lst r' s' a' =>
        refine .inl (.inr ⟨_, _, _, _, rfl, rfl, s, s', ?_, fun p hp => hQ.new o h.2 hp ?_⟩)
        · rw [a.length, a'.length]
          exact Nat.le_trans h.1 lim
        · exact .lst (o.fresh hp) upd_same ((AtAll.le o (Wd.le_same (same_upd hp)) _ a).append (AtAll.le o (Wd.le_same (same_upd hp)) _ a'))
  · cases ax with
    | tup s a =>
      cases ay with
      | tup s' a' =>
        obtain ⟨h0, h1, h2⟩ := h
        refine .inr (.inl ⟨_, _, _, _, rfl, rfl, s, s', ?_, ?_, fun z => ?_, fun z p hp => hQ.new o h2 hp ?_⟩)
        · rintro rfl
          cases a
          exact h0 rfl
        · rw [a.length, a'.length]
          exact Nat.le_trans h1 lim
        · subst z
          cases a'
          rw [List.append_nil] at h2
          exact hQ.now o h2 (.tup s a)
        · exact .tup (.inl (.inl upd_same)) ((AtAll.le o (Wd.le_same (same_upd hp)) _ a).append (AtAll.le o (Wd.le_same (same_upd hp)) _ a'))
  · cases ax
    cases ay
    exact .inr (.inr ⟨_, _, rfl, rfl, Nat.le_trans h.1 lim, hQ.now o h.2 (.str _)⟩)
  · exact h.elim⟩
/-! * and // of numbers of any size -/
def CMulA (i j : Int) : Prop := CMul i j ∨ CMulW i j
def CDivA (i j : Int) : Prop := CDiv i j ∨ CDivW i j
theorem k_mul {X : Cx} : OpR X (binaryOp .Mult) (rI CMulA fun i j => .int (i * j)) := by
  intro pins s σ H x y v u Q I rx ry q
  obtain ⟨i, j, h1, h2, h | h, q⟩ := q
  · exact op_mul pins s σ H x y v u Q I rx ry ⟨i, j, h1, h2, h, q⟩
  · exact op_mulW pins s σ H x y v u Q I rx ry ⟨i, j, h1, h2, h, q⟩
theorem k_fdiv {X : Cx} : OpR X (binaryOp .FloorDiv) (rI CDivA fun i j => .int (i / j)) := by
  intro pins s σ H x y v u Q I rx ry q
  obtain ⟨i, j, h1, h2, h | h, q⟩ := q
  · exact op_fdiv pins s σ H x y v u Q I rx ry ⟨i, j, h1, h2, h, q⟩
  · exact op_fdivW pins s σ H x y v u Q I rx ry ⟨i, j, h1, h2, h, q⟩
/-! == at any depth -/
mutual
def D.pd : D → PyData
  | .bl b => .bool b | .int i => .int i | .str x => .str x | .tup ds => .tuple (pdAll ds) | .lst ds => .list (pdAll ds)
  | _ => .none
def pdAll : List D → List PyData
  | [] => []
  | d :: ds => d.pd :: pdAll ds
end
mutual
def D.isD : D → Bool
  | .non => true | .bl _ => true | .int _ => true | .str _ => true | .tup ds => isDAll ds | .lst ds => isDAll ds
  | _ => false
def isDAll : List D → Bool
  | [] => true
  | d :: ds => d.isD && isDAll ds
end
mutual
theorem At.dp {W : Wd} {H : Hp} : ∀ (d : D) {v : V}, d.isD = true → At K W H v d → Dp K H v d.pd
  | .non, _, _, h => by cases h; exact .non
  | .bl b, _, _, h => by cases h; exact .bl b
  | .int i, _, _, h => by cases h; exact .int i
  | .str x, _, _, h => by cases h; exact .str x
  | .ty t, _, e, _ => Bool.noConfusion e
  | .cls a, _, e, _ => Bool.noConfusion e
  | .tup ds, _, e, h => by
    cases h with
    | tup s a => exact .tup s (AtAll.dp ds e a)
  | .lst ds, _, e, h => by
    cases h with
    | lst r s a => exact .lst (SqL.of s) (AtAll.dp ds e a)
  | .dic ks ds, _, e, _ => Bool.noConfusion e
  | .ins C ns ds, _, e, _ => Bool.noConfusion e
  | .deck, _, e, _ => Bool.noConfusion e
theorem AtAll.dp {W : Wd} {H : Hp} : ∀ (ds : List D) {vs : List V}, isDAll ds = true → AtAll K W H vs ds → DpAll K H vs (pdAll ds)
  | [], _, _, h => by cases h; exact .nil
  | d :: ds, _, e, h => by
    have e' : (d.isD && isDAll ds) = true := e
    rw [Bool.and_eq_true] at e'
    cases h with
    | cons a r => exact .cons (At.dp d e'.1 a) (AtAll.dp ds e'.2 r)
end
def rEqA (K : PySem.W.Frag) : R2 := fun x y H Q => rEq x y H Q ∨ rEqD K x y H Q
def rNeA (K : PySem.W.Frag) : R2 := fun x y H Q => rNe x y H Q ∨ rNeD K x y H Q
theorem k_eq {X : Cx} (hK : X.K = K) (hu : X.A.units + 64 < cLine) : OpR X (compareOp .Eq) (rEqA K) := hK ▸ OpR.or' op_eq (op_eqD hu)
theorem k_ne {X : Cx} (hK : X.K = K) (hu : X.A.units + 64 < cLine) : OpR X (compareOp .NotEq) (rNeA K) := hK ▸ OpR.or' op_ne (op_neD hu)
def aEq (f : Bool → Bool) : D → D → Nat → (D → Nat → Prop) → Prop := fun d e n Q => match eqS d e with
  | some b => Q (.bl (f b)) n
  | none => (d.isD = true ∧ e.isD = true ∧ SeqAt.shaped d.pd = true ∧ SeqAt.shaped e.pd = true) ∧ Q (.bl (f (PyData.eqv d.pd e.pd))) n
instance : D2 K (rEqA K) (aEq id) := ⟨fun W n H x y d e Q Qa hQ o ax ay h => by
  unfold aEq at h
  split at h
  · rename_i b e
    obtain ⟨h1, h2⟩ := eqS_is ax ay e
    refine .inl ⟨h1, ?_⟩
    rw [h2]
    exact hQ.now o h (.bl _)
  · obtain ⟨⟨h1, h2, h3, h4⟩, h⟩ := h
    exact .inr ⟨_, _, At.dp d h1 ax, At.dp e h2 ay, h3, h4, hQ.now o h (.bl _)⟩⟩
instance : D2 K (rNeA K) (aEq not) := ⟨fun W n H x y d e Q Qa hQ o ax ay h => by
  unfold aEq at h
  split at h
  · rename_i b e
    obtain ⟨h1, h2⟩ := eqS_is ax ay e
    refine .inl ⟨h1, ?_⟩
    rw [h2]
    exact hQ.now o h (.bl _)
  · obtain ⟨⟨h1, h2, h3, h4⟩, h⟩ := h
    exact .inr ⟨_, _, At.dp d h1 ax, At.dp e h2 ay, h3, h4, hQ.now o h (.bl _)⟩⟩
/-! is None -/
def rIsN : R2 := fun x y H Q => y = .non ∧ Q (.bl (decide (x = .non))) H
def rNotN : R2 := fun x y H Q => y = .non ∧ Q (.bl (!decide (x = .non))) H
theorem k_isN {X : Cx} : OpR X (compareOp .Is) rIsN := op_isN
theorem k_notN {X : Cx} : OpR X (compareOp .IsNot) rNotN := op_notN
def D.isN : D → Bool
  | .non => true
  | _ => false
def aIsN (f : Bool → Bool) : D → D → Nat → (D → Nat → Prop) → Prop
  | d, .non, n, Q => Q (.bl (f d.isN)) n
  | _, _, _, _ => False
theorem isN_is {W : Wd} {H : Hp} {x : V} {d : D} (ax : At K W H x d) : decide (x = .non) = d.isN := by
  cases ax <;> rfl
instance : D2 K rIsN (aIsN id) := ⟨fun W n H x y d e Q Qa hQ o ax ay h => by
  unfold aIsN at h
  split at h
  · cases ay
    refine ⟨rfl, ?_⟩
    rw [isN_is ax]
    exact hQ.now o h (.bl _)
  · exact h.elim⟩
instance : D2 K rNotN (aIsN not) := ⟨fun W n H x y d e Q Qa hQ o ax ay h => by
  unfold aIsN at h
  split at h
  · cases ay
    refine ⟨rfl, ?_⟩
    rw [isN_is ax]
    exact hQ.now o h (.bl _)
  · exact h.elim⟩
/-! built-in functions -/
def rLen (K : PySem.W.Frag) : List V → Hp → VK → Prop := fun xs H Q => ∃ x n, xs = [x] ∧ LenV K x H n ∧ Q (.int n) H
theorem k_len {X : Cx} (hK : X.K = K) : CallR X (.builtin "len") (rLen K) := hK ▸ call_len
def aLen : List D → Nat → (D → Nat → Prop) → Prop
  | [.tup ds], n, Q => Q (.int ds.length) n
  | [.lst ds], n, Q => Q (.int ds.length) n
  | [.str z], n, Q => z.length ≤ 1000000 ∧ Q (.int z.length) n
  | _, _, _ => False
instance : DL K (rLen K) aLen := ⟨fun W n H xs ds Q Qa hQ o a h => by
  unfold aLen at h
  split at h
  · cases a with
    | cons a r =>
      cases r
      cases a with
      | tup s a => exact ⟨_, _, rfl, .inr ⟨_, s, rfl⟩, by rw [a.length]; exact hQ.now o h (.int _)⟩
  · cases a with
    | cons a r =>
      cases r
      cases a with
      | lst _ s a => exact ⟨_, _, rfl, .inl ⟨_, SqL.of s, rfl⟩, by rw [a.length]; exact hQ.now o h (.int _)⟩
  · cases a with
    | cons a r =>
      cases r
      cases a
      exact ⟨_, _, rfl, ⟨Nat.le_trans h.1 lim, rfl⟩, hQ.now o h.2 (.int _)⟩
  · exact h.elim⟩
def rAbs : List V → Hp → VK → Prop := fun xs H Q => ∃ i, xs = [.int i] ∧ Q (.int (if i < 0 then -i else i)) H
theorem k_abs {X : Cx} : CallR X (.builtin "abs") rAbs := call_abs
def aAbs : List D → Nat → (D → Nat → Prop) → Prop
  | [.int i], n, Q => Q (.int (if i < 0 then -i else i)) n
  | _, _, _ => False
instance : DL K rAbs aAbs := ⟨fun W n H xs ds Q Qa hQ o a h => by
  unfold aAbs at h
  split at h
  · cases a with
    | cons a r =>
      cases r
      cases a
      exact ⟨_, rfl, hQ.now o h (.int _)⟩
  · exact h.elim⟩
def rMax2 : List V → Hp → VK → Prop := fun xs H Q => ∃ i j, xs = [.int i, .int j] ∧ Q (.int (if j > i then j else i)) H
def rMin2 : List V → Hp → VK → Prop := fun xs H Q => ∃ i j, xs = [.int i, .int j] ∧ Q (.int (if j < i then j else i)) H
theorem k_max2 {X : Cx} (hc : X.calm = true) : CallR X (.builtin "max") rMax2 := call_max2 hc
theorem k_min2 {X : Cx} (hc : X.calm = true) : CallR X (.builtin "min") rMin2 := call_min2 hc
def aMM (g : Int → Int → Int) : List D → Nat → (D → Nat → Prop) → Prop
  | [.int i, .int j], n, Q => Q (.int (g i j)) n
  | _, _, _ => False
instance : DL K rMax2 (aMM fun i j => if j > i then j else i) := ⟨fun W n H xs ds Q Qa hQ o a h => by
  unfold aMM at h
  split at h
  · cases a with
    | cons a r =>
      cases r with
      | cons b r =>
        cases r
        cases a
        cases b
        exact ⟨_, _, rfl, hQ.now o h (.int _)⟩
  · exact h.elim⟩
instance : DL K rMin2 (aMM fun i j => if j < i then j else i) := ⟨fun W n H xs ds Q Qa hQ o a h => by
  unfold aMM at h
  split at h
  · cases a with
    | cons a r =>
      cases r with
      | cons b r =>
        cases r
        cases a
        cases b
        exact ⟨_, _, rfl, hQ.now o h (.int _)⟩
  · exact h.elim⟩
def rListOf (K : PySem.W.Frag) : List V → Hp → VK → Prop := fun xs H Q => ∃ p ys, xs = [.ref p] ∧ (SqL K H p ys ∨ SqT K H p ys) ∧ ∀ l, H l = none → Q (.ref l) (upd H l (.lst ys))
def rTupOf (K : PySem.W.Frag) : List V → Hp → VK → Prop := fun xs H Q => ∃ p ys, xs = [.ref p] ∧ ((SqL K H p ys ∧ ∀ l, H l = none → Q (.ref l) (upd H l (.tup ys))) ∨ (SqT K H p ys ∧ Q (.ref p) H))
theorem k_list {X : Cx} (hK : X.K = K) : CallR X (.type "list") (rListOf K) := hK ▸ call_list_of
theorem k_tuple {X : Cx} (hK : X.K = K) : CallR X (.type "tuple") (rTupOf K) := hK ▸ call_tuple_of
def aListOf : List D → Nat → (D → Nat → Prop) → Prop
  | [.tup ds], n, Q => Q (.lst ds) n
  | [.lst ds], n, Q => Q (.lst ds) n
  | _, _, _ => False
def aTupOf : List D → Nat → (D → Nat → Prop) → Prop
  | [.tup ds], n, Q => Q (.tup ds) n
  | [.lst ds], n, Q => Q (.tup ds) n
  | _, _, _ => False
instance : DL K (rListOf K) aListOf := ⟨fun W n H xs ds Q Qa hQ o a h => by
  unfold aListOf at h
  split at h
  · cases a with
    | cons a r =>
      cases r
      cases a with
      | tup s a => exact ⟨_, _, rfl, .inr s, fun p hp => hQ.new o h hp (.lst (o.fresh hp) upd_same (AtAll.le o (Wd.le_same (same_upd hp)) _ a))⟩
  · cases a with
    | cons a r =>
      cases r
      cases a with
      | lst _ s a => exact ⟨_, _, rfl, .inl (SqL.of s), fun p hp => hQ.new o h hp (.lst (o.fresh hp) upd_same (AtAll.le o (Wd.le_same (same_upd hp)) _ a))⟩
  · exact h.elim⟩
instance : DL K (rTupOf K) aTupOf := ⟨fun W n H xs ds Q Qa hQ o a h => by
  unfold aTupOf at h
  split at h
  · cases a with
    | cons a r =>
      cases r
      cases a with
      | tup s a => exact ⟨_, _, rfl, .inr ⟨s, hQ.now o h (.tup s a)⟩⟩
  · cases a with
    | cons a r =>
      cases r
      cases a with
      | lst _ s a => exact ⟨_, _, rfl, .inl ⟨SqL.of s, fun p hp => hQ.new o h hp (.tup (.inl (.inl upd_same)) (AtAll.le o (Wd.le_same (same_upd hp)) _ a))⟩⟩
  · exact h.elim⟩
/-! isinstance -/
def D.tv : D → Option Ty
  | .non => some .non | .bl _ => some .bl | .int _ => some .int | .str _ => some .str | .tup _ => some .tup | .lst _ => some .lst | .dic _ _ => some .dic
  | _ => none
def isiB : Ty → Ty → Bool
  | .non, .non => true | .bl, .bl => true | .bl, .int => true | .int, .int => true | .str, .str => true | .tup, .tup => true | .lst, .lst => true | .dic, .dic => true
  | _, _ => false
theorem kitB_is (a b : Ty) (h : b ≠ .non) : kitB a.nm b.nm = some (isiB a b) := by
  cases a <;> cases b <;> first
    | exact absurd rfl h
    | decide +kernel
theorem tv_is {W : Wd} {H : Hp} {x : V} {d : D} {t : Ty} (ax : At K W H x d) (e : d.tv = some t) : TyX K H x (.type t.nm) := by
  cases ax <;> cases e
  · exact .base .non
  · exact .base (.bl _)
  · exact .base (.int _)
  · exact .base (.str _)
  · rename_i a xs ds s _
    rcases s with (h | ⟨o, h⟩) | ⟨o, its, n, h, hc, _⟩
    · exact .base (.tup h)
    · exact .fTuple h
    · exact .kTuple h hc
  · rename_i r s _
    exact .base (.lst s)
  · rename_i r s _ _
    exact .base (.dK s)
theorem k_isi {X : Cx} (hK : X.K = K) : CallR X (.builtin "isinstance") (rIsi K) := hK ▸ call_isi
/-- what isinstance asks of an own class -/
structure InsC (K : PySem.W.Frag) (C : Addr) : Prop where
  cl : Cls K C
  ha : PySem.W.findIn K (.ref C) "__class__" = some (some (.builtin "object.__class__"))
  hn : PySem.W.specialIn K (.builtin "object.__class__") "__get__" = some (some (.builtin "getset_descriptor.__get__"))
  ht : PySem.W.takesIn K (.builtin "object.__class__") = some true
  hm : PySem.W.mroIn K C (.type "object") = some true
def aIsi (K : PySem.W.Frag) : List D → Nat → (D → Nat → Prop) → Prop
  | [.ins C _ _, .ty t], n, Q => InsC K C ∧ ∃ b, PySem.W.kitOne K (.ref C) (.type t.nm) = some b ∧ Q (.bl b) n
  | [.ins C _ _, .cls c], n, Q => InsC K C ∧ ∃ b, PySem.W.kitOne K (.ref C) (.ref c) = some b ∧ Q (.bl b) n
  | [d, .cls c], n, Q => (match d.tv with
    | some t => ∃ b, PySem.W.kitOne K (.type t.nm) (.ref c) = some b ∧ Q (.bl b) n
    | none => False)
  | [d, .ty t], n, Q => (match d.tv, t with
    | some _, .non => False
    | some t', t => Q (.bl (isiB t' t)) n
    | none, _ => False)
  | _, _, _ => False
instance : DL K (rIsi K) (aIsi K) := ⟨fun W n H xs ds Q Qa hQ o a h => by
  unfold aIsi at h
  split at h
  · cases a with
    | cons a r =>
      cases r with
      | cons b r =>
        cases r
        cases b
        cases a with
        | ins s e a =>
          obtain ⟨ic, b, hk, h⟩ := h
          exact ⟨_, _, _, _, b, rfl, .ty _, .base (.ins s ic.cl ic.ha ic.hn ic.ht ic.hm), hk, hQ.now o h (.bl _)⟩
  · cases a with
    | cons a r =>
      cases r with
      | cons b r =>
        cases r
        cases b
        cases a with
        | ins s e a =>
          obtain ⟨ic, b, hk, h⟩ := h
          exact ⟨_, _, _, _, b, rfl, .own _, .base (.ins s ic.cl ic.ha ic.hn ic.ht ic.hm), hk, hQ.now o h (.bl _)⟩
  · cases a with
    | cons a r =>
      cases r with
      | cons b r =>
        cases r
        cases b
        split at h
        · rename_i t e
          obtain ⟨b, hk, h⟩ := h
          exact ⟨_, _, _, _, b, rfl, .own _, tv_is a e, hk, hQ.now o h (.bl _)⟩
        · exact h.elim
  · cases a with
    | cons a r =>
      cases r with
      | cons b r =>
        cases r
        cases b
        split at h
        · exact h.elim
        · rename_i t' e hne
          exact ⟨_, _, _, _, _, rfl, .ty _, tv_is a e, kit_ty (kitB_is _ _ (fun z => hne z)), hQ.now o h (.bl _)⟩
        · exact h.elim
  · exact h.elim⟩
/-! constants of the program's top, classes and types as values -/
def tKon (a : Addr) : TE := tC (.ref a)
def tCls (a : Addr) : TE := tC (.ref a)
def tTy (t : Ty) : TE := tC (.ty t.nm)
class Kon (K : PySem.W.Frag) (a : Addr) (d : outParam D) : Prop where
  at_ : ∀ W H, At K W H (.ref a) d
def aD (d : D) : AE := fun _ n Q => Q d n
instance {a : Addr} {d : D} [k : Kon K a d] : DE K (tKon a) (aD d) := ⟨fun W σ ρ n H Q Qa hQ hE o h => hQ.now o h (k.at_ W H)⟩
instance {a : Addr} : DE K (tCls a) (aD (.cls a)) := ⟨fun W σ ρ n H Q Qa hQ hE o h => hQ.now o h (.cls a)⟩
instance {t : Ty} : DE K (tTy t) (aD (.ty t)) := ⟨fun W σ ρ n H Q Qa hQ hE o h => hQ.now o h (.ty t)⟩
theorem k_kon {X : Cx} {x : Str} {a : Addr} {pos : Pos} (hg : Gl X x) (hm : X.mg x = some (.ref a)) (hd : (x == ("__debug__" : Str)) = false := by decide) : PE X (.Name x pos) (tKon a) := pe_glob (v := .ref a) hg hm rfl hd
theorem k_cls {X : Cx} {x : Str} {a : Addr} {pos : Pos} (hg : Gl X x) (hm : X.mg x = some (.ref a)) (hd : (x == ("__debug__" : Str)) = false := by decide) : PE X (.Name x pos) (tCls a) := pe_glob (v := .ref a) hg hm rfl hd
theorem k_ty {X : Cx} {x : Str} {t : Ty} {pos : Pos} (hg : Gl X x) (hm : X.mg x = none) (hv : bootBuiltins x = some (.type t.nm)) (hn : x ≠ "__name__" := by decide) (hd : (x == ("__debug__" : Str)) = false := by decide) : PE X (.Name x pos) (tTy t) := pe_bltn (v := .ty t.nm) hg hm hv rfl hn hd
/-! fields -/
def tFldK (K : PySem.W.Frag) (ta : TE) (f : Str) : TE := tFld K ta f
theorem k_fld {X : Cx} {e : Expr} {ta : TE} {f : Str} {pos : Pos} (hK : X.K = K) (he : PE X e ta) (hb : attributeBase e f X.env (eval e X.env) = eval e X.env) : PE X (.Attribute e f pos) (tFldK K ta f) := hK ▸ pe_fld he hb
def aFld (K : PySem.W.Frag) (f : Str) (fa : AE) : AE := fun ρ n Q => fa ρ n fun d n1 => match d with
  | .ins C ns ds => (Cls K C ∧ NoAttr K C f) ∧ ∃ d, (ns.zip ds).lookup f = some d ∧ Q d n1
  | _ => False
theorem lookup_at {W : Wd} {H : Hp} {f : Str} : ∀ {ns : List Str} {vs : List V} {ds : List D} {d : D}, AtAll K W H vs ds → (ns.zip ds).lookup f = some d → ∃ v, (ns.zip vs).lookup f = some v ∧ At K W H v d
  | [], _, _, _, _, e => by cases e
  | _ :: _, _, [], _, h, e => by cases h; cases e
  | x :: ns, _, d :: ds, d', h, e => by
    cases h with
    | cons a r =>
      rw [List.zip_cons_cons, List.lookup_cons] at e ⊢
      cases hb : f == x with
      | true =>
        rw [hb] at e
        cases e
        exact ⟨_, rfl, a⟩
      | false =>
        rw [hb] at e
        exact lookup_at r e
instance {f : Str} {ta : TE} {fa : AE} [DE K ta fa] : DE K (tFldK K ta f) (aFld K f fa) := ⟨fun W σ ρ n H Q Qa hQ hE o h =>
  DE.run (te := ta) (f := fa) W σ ρ n H _ _ (fun d n1 h1 H1 x l1 o1 ax => by
    split at h1
    · obtain ⟨⟨hc, hn⟩, d, e, q⟩ := h1
      cases ax with
      | ins s e' a =>
        obtain ⟨v, h1, h2⟩ := lookup_at a e
        exact ⟨_, _, _, _, v, rfl, s, hc, hn, h1, (hQ.le l1).now o1 q h2⟩
    · exact h1.elim) hE o h⟩
/-! slices of lists -/
def cutL (xs : List D) (lo hi : Option Int) : List D := (xs.drop (HT.sIx xs.length 0 lo)).take (HT.sIx xs.length xs.length hi - HT.sIx xs.length 0 lo)
class DO (K : PySem.W.Frag) (te : TO) (f : outParam (Env' → Nat → (Option Int → Nat → Prop) → Prop)) : Prop where
  run : ∀ (W : Wd) (σ : L2.St) (ρ : Env') (n : Nat) (H : Hp) (Q : Option Int → Hp → Prop) (Qa : Option Int → Nat → Prop), (∀ b n', Qa b n' → ∀ H', W.le H H' → W.ok K n' H' → Q b H') → EnvAt K W H σ ρ → W.ok K n H → f ρ n Qa → te σ H Q
def aNoPart : Env' → Nat → (Option Int → Nat → Prop) → Prop := fun _ n Q => Q none n
def aPart (f : AE) : Env' → Nat → (Option Int → Nat → Prop) → Prop := fun ρ n Q => f ρ n fun d n1 => match d with
  | .int i => Q (some i) n1
  | _ => False
instance : DO K tNoPart aNoPart := ⟨fun W σ ρ n H Q Qa hQ hE o h => hQ _ _ h H Wd.le_refl o⟩
instance {te : TE} {f : AE} [DE K te f] : DO K (tPart te) (aPart f) := ⟨fun W σ ρ n H Q Qa hQ hE o h =>
  DE.run (te := te) (f := f) W σ ρ n H _ _ (fun d n1 h1 H1 x l1 o1 ax => by
    split at h1
    · cases ax
      exact ⟨_, rfl, hQ _ _ h1 H1 l1 o1⟩
    · exact h1.elim) hE o h⟩
def rSlA (K : PySem.W.Frag) : V → Option Int → Option Int → Hp → VK → Prop := fun x lo hi H Q => rSlL K x lo hi H Q ∨ (fun x lo hi H Q => rSlT K x lo hi H Q ∨ rSlS x lo hi H Q) x lo hi H Q
def aCut (d : D) (l u : Option Int) (n : Nat) (Q : D → Nat → Prop) : Prop := match d with
  | .lst ds => Q (.lst (cutL ds l u)) n
  | .tup ds => ¬ (HT.sIx ds.length 0 l = 0 ∧ HT.sIx ds.length ds.length u = ds.length) ∧ Q (.tup (cutL ds l u)) n
  | .str z => z.length ≤ 1000000 ∧ Q (.str (cutS z l u)) n
  | _ => False
def aSl (fa : AE) (fl fu : Env' → Nat → (Option Int → Nat → Prop) → Prop) : AE := fun ρ n Q => fa ρ n fun d n1 => fl ρ n1 fun l n2 => fu ρ n2 fun u n3 => aCut d l u n3 Q
instance {te : TE} {tl tu : TO} {fa : AE} {fl fu : Env' → Nat → (Option Int → Nat → Prop) → Prop} [DE K te fa] [DO K tl fl] [DO K tu fu] : DE K (tSl (rSlA K) te tl tu) (aSl fa fl fu) := ⟨fun W σ ρ n H Q Qa hQ hE o h =>
  DE.run (te := te) (f := fa) W σ ρ n H _ _ (fun d n1 h1 H1 x l1 o1 ax => DO.run (te := tl) (f := fl) W σ ρ n1 H1 _ _ (fun l n2 h2 H2 l2 o2 => DO.run (te := tu) (f := fu) W σ ρ n2 H2 _ _ (fun u n3 h3 H3 l3 o3 => by
    have hQ3 := hQ.le (l1.trans (l2.trans l3))
    unfold aCut at h3
    split at h3
    · cases At.le o1 (l2.trans l3) _ ax with
      | lst r s a =>
        refine .inl ⟨_, _, rfl, SqL.of s, fun p hp => hQ3.new o3 h3 hp ?_⟩
        refine .lst (o3.fresh hp) upd_same ?_
        unfold cutV cutL
        rw [a.length]
        exact take_at _ (drop_at _ (AtAll.le o3 (Wd.le_same (same_upd hp)) _ a))
    · cases At.le o1 (l2.trans l3) _ ax with
      | tup s a =>
        refine .inr (.inl ⟨_, _, rfl, s, by rw [a.length]; exact h3.1, fun p hp => hQ3.new o3 h3.2 hp ?_⟩)
        refine .tup (.inl (.inl upd_same)) ?_
        unfold cutV cutL
        rw [a.length]
        exact take_at _ (drop_at _ (AtAll.le o3 (Wd.le_same (same_upd hp)) _ a))
    · cases ax
      exact .inr (.inr ⟨_, rfl, Nat.le_trans h3.1 lim, hQ3.now o3 h3.2 (.str _)⟩)
    · exact h3.elim) (hE.le o (l1.trans l2)) o2 h2) (hE.le o l1) o1 h1) hE o h⟩
theorem k_sl {X : Cx} (hK : X.K = K) : SlR X (rSlA K) := hK ▸ SlR.or sl_list (SlR.or sl_tup sl_str)
/-! texts and truths -/
def rJoin (K : PySem.W.Frag) : V → List V → Hp → VK → Prop := fun x xs H Q => ∃ a p, ∃ ys : List Str, x = .str a ∧ xs = [.ref p] ∧ (SqL K H p (ys.map V.str) ∨ SqT K H p (ys.map V.str)) ∧ (ys.map (·.length)).sum + ys.length * a.length ≤ 16777216 ∧ Q (.str (Txt.join a ys)) H
def tJoinK (K : PySem.W.Frag) (to te : TE) : TE := tM1 (rJoin K) to te
theorem k_join {X : Cx} {o e : Expr} {to te : TE} {apos pos : Pos} (hK : X.K = K) (ho : PE X o to) (he : PE X e te) (hs : starEach [e] X.env = [(false, eval e X.env)] := by rfl) (hbase : attributeBase o "join" X.env (eval o X.env) = eval o X.env := by rfl) (hline : (apos.endLine == pos.line) = true := by rfl) :
    PE X (.Call (.Attribute o "join" apos) [e] [] pos) (tJoinK K to te) := hK ▸ pe_join ho he hs hbase hline
def aJoin (fa fb : AE) : AE := fun ρ n Q => fa ρ n fun x n1 => match x with
  | .str a => fb ρ n1 fun y n2 => (match y with
    | .lst ds => ∃ ys : List Str, ds = ys.map D.str ∧ (ys.map (·.length)).sum + ys.length * a.length ≤ 16777216 ∧ Q (.str (Txt.join a ys)) n2
    | .tup ds => ∃ ys : List Str, ds = ys.map D.str ∧ (ys.map (·.length)).sum + ys.length * a.length ≤ 16777216 ∧ Q (.str (Txt.join a ys)) n2
    | _ => False)
  | _ => False
theorem strs_at {W : Wd} {H : Hp} : ∀ {ys : List Str} {vs : List V}, AtAll K W H vs (ys.map D.str) → vs = ys.map V.str
  | [], _, h => by cases h; rfl
  | y :: ys, _, h => by
    cases h with
    | cons a r => cases a; rw [List.map_cons, strs_at r]
theorem bls_at {W : Wd} {H : Hp} : ∀ {ys : List Bool} {vs : List V}, AtAll K W H vs (ys.map D.bl) → vs = ys.map V.bl
  | [], _, h => by cases h; rfl
  | y :: ys, _, h => by
    cases h with
    | cons a r => cases a; rw [List.map_cons, bls_at r]
theorem ints_at {W : Wd} {H : Hp} : ∀ {ys : List Int} {vs : List V}, AtAll K W H vs (ys.map D.int) → vs = ys.map V.int
  | [], _, h => by cases h; rfl
  | y :: ys, _, h => by
    cases h with
    | cons a r => cases a; rw [List.map_cons, ints_at r]
theorem at_ints {W : Wd} {H : Hp} : ∀ ys : List Int, AtAll K W H (ys.map V.int) (ys.map D.int)
  | [] => .nil
  | y :: ys => .cons (.int y) (at_ints ys)
theorem at_strs {W : Wd} {H : Hp} : ∀ ys : List Str, AtAll K W H (ys.map V.str) (ys.map D.str)
  | [] => .nil
  | y :: ys => .cons (.str y) (at_strs ys)
instance {to te : TE} {fa fb : AE} [DE K to fa] [DE K te fb] : DE K (tJoinK K to te) (aJoin fa fb) := ⟨fun W σ ρ n H Q Qa hQ hE o h =>
  DE.run (te := to) (f := fa) W σ ρ n H _ _ (fun d n1 h1 H1 x l1 o1 ax => by
    cases ax with
    | str a =>
      refine ⟨⟨_, rfl⟩, DE.run (te := te) (f := fb) W σ ρ n1 H1 _ _ (fun e n2 h2 H2 y l2 o2 ay => ?_) (hE.le o l1) o1 h1⟩
      cases ay with
      | lst r s b =>
        obtain ⟨ys, rfl, hl, q⟩ := h2
        rw [strs_at b] at s
        exact ⟨_, _, ys, rfl, rfl, .inl (SqL.of s), hl, (hQ.le (l1.trans l2)).now o2 q (.str _)⟩
      | tup s b =>
        obtain ⟨ys, rfl, hl, q⟩ := h2
        rw [strs_at b] at s
        exact ⟨_, _, ys, rfl, rfl, .inr s, hl, (hQ.le (l1.trans l2)).now o2 q (.str _)⟩
      | _ => exact h2.elim
    | _ => exact h1.elim) hE o h⟩
/-! int(..), str(..) of a number -/
def rInt : List V → Hp → VK → Prop := fun xs H Q => (∃ i, xs = [.int i] ∧ Q (.int i) H) ∨ ∃ k, xs = [.bl k] ∧ Q (.int (if k then 1 else 0)) H
theorem k_int {X : Cx} : CallR X (.type "int") rInt := call_int1
def aInt : List D → Nat → (D → Nat → Prop) → Prop
  | [.int i], n, Q => Q (.int i) n
  | [.bl b], n, Q => Q (.int (if b then 1 else 0)) n
  | _, _, _ => False
instance : DL K rInt aInt := ⟨fun W n H xs ds Q Qa hQ o a h => by
  unfold aInt at h
  split at h
  · cases a with
    | cons a r =>
      cases r
      cases a
      exact .inl ⟨_, rfl, hQ.now o h (.int _)⟩
  · cases a with
    | cons a r =>
      cases r
      cases a
      exact .inr ⟨_, rfl, hQ.now o h (.int _)⟩
  · exact h.elim⟩
def rStr : List V → Hp → VK → Prop := fun xs H Q => ∃ i, xs = [.int i] ∧ i.natAbs.log2 < 1920 ∧ Q (.str (toString i)) H
theorem k_str {X : Cx} : CallR X (.type "str") rStr := call_str_int
def aStr : List D → Nat → (D → Nat → Prop) → Prop
  | [.int i], n, Q => i.natAbs.log2 < 1920 ∧ Q (.str (toString i)) n
  | _, _, _ => False
instance : DL K rStr aStr := ⟨fun W n H xs ds Q Qa hQ o a h => by
  unfold aStr at h
  split at h
  · cases a with
    | cons a r =>
      cases r
      cases a
      exact ⟨_, rfl, h.1, hQ.now o h.2 (.str _)⟩
  · exact h.elim⟩
/-! all, any, sum, max, min of a list -/
theorem k_all {X : Cx} (hK : X.K = K) (hc : X.calm = true) : CallR X (.builtin "all") (rAll K) := hK ▸ cr_all hc
theorem k_any {X : Cx} (hK : X.K = K) (hc : X.calm = true) : CallR X (.builtin "any") (rAny K) := hK ▸ cr_any hc
theorem k_sum {X : Cx} (hK : X.K = K) (hc : X.calm = true) : CallR X (.builtin "sum") (rSum K) := hK ▸ cr_sum hc
theorem k_max1 {X : Cx} (hK : X.K = K) (hc : X.calm = true) : CallR X (.builtin "max") (rMax K) := hK ▸ cr_max hc
theorem k_min1 {X : Cx} (hK : X.K = K) (hc : X.calm = true) : CallR X (.builtin "min") (rMin K) := hK ▸ cr_min hc
def aBools (g : List Bool → Bool) : List D → Nat → (D → Nat → Prop) → Prop := fun ds n Q => ∃ bs : List Bool, ds = [.lst (bs.map D.bl)] ∧ Q (.bl (g bs)) n
instance : DL K (rAll K) (aBools fun bs => bs.all id) := ⟨fun W n H xs ds Q Qa hQ o a h => by
  obtain ⟨bs, rfl, q⟩ := h
  cases a with
  | cons a r =>
    cases r
    cases a with
    | lst _ s b => rw [bls_at b] at s; exact ⟨_, bs, rfl, SqL.of s, hQ.now o q (.bl _)⟩⟩
instance : DL K (rAny K) (aBools fun bs => bs.any id) := ⟨fun W n H xs ds Q Qa hQ o a h => by
  obtain ⟨bs, rfl, q⟩ := h
  cases a with
  | cons a r =>
    cases r
    cases a with
    | lst _ s b => rw [bls_at b] at s; exact ⟨_, bs, rfl, SqL.of s, hQ.now o q (.bl _)⟩⟩
def aSum : List D → Nat → (D → Nat → Prop) → Prop := fun ds n Q => ∃ ns : List Int, ds = [.lst (ns.map D.int)] ∧ Q (.int ns.sum) n
instance : DL K (rSum K) aSum := ⟨fun W n H xs ds Q Qa hQ o a h => by
  obtain ⟨ns, rfl, q⟩ := h
  cases a with
  | cons a r =>
    cases r
    cases a with
    | lst _ s b => rw [ints_at b] at s; exact ⟨_, ns, rfl, SqL.of s, hQ.now o q (.int _)⟩⟩
def aMax1 : List D → Nat → (D → Nat → Prop) → Prop := fun ds n Q => ∃ ns : List Int, ds = [.lst (ns.map D.int)] ∧ 0 < ns.length ∧ ∀ m, m ∈ ns → (∀ y, y ∈ ns → y ≤ m) → Q (.int m) n
def aMin1 : List D → Nat → (D → Nat → Prop) → Prop := fun ds n Q => ∃ ns : List Int, ds = [.lst (ns.map D.int)] ∧ 0 < ns.length ∧ ∀ m, m ∈ ns → (∀ y, y ∈ ns → m ≤ y) → Q (.int m) n
instance : DL K (rMax K) aMax1 := ⟨fun W n H xs ds Q Qa hQ o a h => by
  obtain ⟨ns, rfl, hl, q⟩ := h
  cases a with
  | cons a r =>
    cases r
    cases a with
    | lst _ s b => rw [ints_at b] at s; exact ⟨_, ns, rfl, SqL.of s, hl, fun m h1 h2 => hQ.now o (q m h1 h2) (.int _)⟩⟩
instance : DL K (rMin K) aMin1 := ⟨fun W n H xs ds Q Qa hQ o a h => by
  obtain ⟨ns, rfl, hl, q⟩ := h
  cases a with
  | cons a r =>
    cases r
    cases a with
    | lst _ s b => rw [ints_at b] at s; exact ⟨_, ns, rfl, SqL.of s, hl, fun m h1 h2 => hQ.now o (q m h1 h2) (.int _)⟩⟩
/-! x in xs -/
def flatD : D → Bool
  | .non => true | .bl _ => true | .int _ => true | .str _ => true
  | _ => false
def eqF : D → D → Bool
  | .non, .non => true | .bl a, .bl b => a == b | .bl a, .int b => (if a then 1 else 0) == b | .int a, .bl b => a == (if b then 1 else 0) | .int a, .int b => a == b | .str a, .str b => a == b
  | _, _ => false
theorem flat_at {W : Wd} {H : Hp} {v : V} {d : D} (a : At K W H v d) (h : flatD d = true) : flatV v = true := by
  cases a <;> first | rfl | cases h
theorem eqF_at {W : Wd} {H : Hp} {v u : V} {d e : D} (a : At K W H v d) (b : At K W H u e) (h : flatD d = true) (g : flatD e = true) : eqV v u = eqF d e := by
  cases a <;> first
    | cases h; done
    | (cases b <;> first | rfl | cases g; done)
theorem flats_at {W : Wd} {H : Hp} : ∀ {ds : List D} {vs : List V}, AtAll K W H vs ds → ds.all flatD = true → vs.all flatV = true
  | [], _, h, _ => by cases h; rfl
  | d :: ds, _, h, g => by
    cases h with
    | cons a r =>
      rw [List.all_cons, Bool.and_eq_true] at g ⊢
      exact ⟨flat_at a g.1, flats_at r g.2⟩
theorem in_at {W : Wd} {H : Hp} {u : V} {e : D} (b : At K W H u e) (g : flatD e = true) : ∀ {ds : List D} {vs : List V}, AtAll K W H vs ds → ds.all flatD = true → inV u vs = ds.any fun d => eqF d e
  | [], _, h, _ => by cases h; rfl
  | d :: ds, _, h, g' => by
    cases h with
    | cons a r =>
      rw [List.all_cons, Bool.and_eq_true] at g'
      have ih := in_at b g r g'.2
      unfold inV at ih ⊢
      rw [List.any_cons, List.any_cons, ih, eqF_at a b g'.1 g]
def rInA (K : PySem.W.Frag) (neg : Bool) : R2 := rIn K neg
theorem k_in {X : Cx} (hK : X.K = K) (_ : X.A.units + 64 < cLine) : OpR X (compareOp .In) (rInA K false) := hK ▸ op_in_seq
theorem k_notin {X : Cx} (hK : X.K = K) (_ : X.A.units + 64 < cLine) : OpR X (compareOp .NotIn) (rInA K true) := hK ▸ op_notIn_seq
def aIn (neg : Bool) : D → D → Nat → (D → Nat → Prop) → Prop
  | d, .lst ds, n, Q => flatD d = true ∧ ds.all flatD = true ∧ Q (.bl (if neg then !(ds.any fun x => eqF x d) else ds.any fun x => eqF x d)) n
  | d, .tup ds, n, Q => flatD d = true ∧ ds.all flatD = true ∧ Q (.bl (if neg then !(ds.any fun x => eqF x d) else ds.any fun x => eqF x d)) n
  | _, _, _, _ => False
instance {neg : Bool} : D2 K (rInA K neg) (aIn neg) := ⟨fun W n H x y d e Q Qa hQ o ax ay h => by
  unfold aIn at h
  split at h
  · obtain ⟨h1, h2, q⟩ := h
    cases ay with
    | lst r s a => exact ⟨_, _, rfl, .inl (SqL.of s), flat_at ax h1, flats_at a h2, by rw [in_at ax h1 a h2]; exact hQ.now o q (.bl _)⟩
  · obtain ⟨h1, h2, q⟩ := h
    cases ay with
    | tup s a => exact ⟨_, _, rfl, .inr s, flat_at ax h1, flats_at a h2, by rw [in_at ax h1 a h2]; exact hQ.now o q (.bl _)⟩
  · exact h.elim⟩
end

/-! ### the mirror, third part: targets, what is walked, statements -/
section
variable {K : PySem.W.Frag}
/-! targets -/
abbrev Upd (K : PySem.W.Frag) (W : Wd) (H : Hp) : List (Nat × V) → List (Nat × D) → Prop := Paired fun z u => z.1 = u.1 ∧ At K W H z.2 u.2
def setAll : L2.St → List (Nat × V) → L2.St
  | σ, [] => σ
  | σ, z :: r => setAll (σ.set z.1 (some z.2)) r
def eSetAll : Env' → List (Nat × D) → Env'
  | ρ, [] => ρ
  | ρ, u :: r => eSetAll (eSet ρ u.1 (some u.2)) r
theorem setAll_append : ∀ (σ : L2.St) (a b : List (Nat × V)), setAll σ (a ++ b) = setAll (setAll σ a) b
  | σ, [], b => rfl
  | σ, z :: r, b => setAll_append (σ.set z.1 (some z.2)) r b
theorem paired_append {α β : Type} {F : α → β → Prop} : ∀ {l l' : List α} {m m' : List β}, Paired F l m → Paired F l' m' → Paired F (l ++ l') (m ++ m')
  | _, _, _, _, .nil, h => h
  | _, _, _, _, .cons a r, h => .cons a (paired_append r h)
class DG (K : PySem.W.Frag) (g : TG) (f : outParam (D → Option (List (Nat × D)))) : Prop where
  run : ∀ (W : Wd) (σ : L2.St) (H : Hp) (v : V) (d : D) (us : List (Nat × D)) (Q : L2.St → Hp → Prop), At K W H v d → f d = some us → (∀ zs, Upd K W H zs us → Q (setAll σ zs) H) → g v σ H Q
class DGs (K : PySem.W.Frag) (g : TGs) (f : outParam (List D → Option (List (Nat × D)))) : Prop where
  run : ∀ (W : Wd) (σ : L2.St) (H : Hp) (vs : List V) (ds : List D) (us : List (Nat × D)) (Q : L2.St → Hp → Prop), AtAll K W H vs ds → f ds = some us → (∀ zs, Upd K W H zs us → Q (setAll σ zs) H) → g vs σ H Q
def aName (i : Nat) : D → Option (List (Nat × D)) := fun d => some [(i, d)]
instance {i : Nat} : DG K (gName i) (aName i) := ⟨fun W σ H v d us Q a e h => by
  cases e
  exact h [(i, v)] (.cons ⟨rfl, a⟩ .nil)⟩
def aGNil : List D → Option (List (Nat × D))
  | [] => some []
  | _ => none
def aGCons (f : D → Option (List (Nat × D))) (g : List D → Option (List (Nat × D))) : List D → Option (List (Nat × D))
  | d :: r => (match f d, g r with
    | some a, some b => some (a ++ b)
    | _, _ => none)
  | [] => none
instance : DGs K gNil aGNil := ⟨fun W σ H vs ds us Q a e h => by
  cases a with
  | nil => cases e; exact ⟨rfl, h [] .nil⟩
  | cons _ _ => cases e⟩
instance {t : TG} {u : TGs} {f : D → Option (List (Nat × D))} {g : List D → Option (List (Nat × D))} [DG K t f] [DGs K u g] : DGs K (gCons t u) (aGCons f g) := ⟨fun W σ H vs ds us Q a e h => by
  cases a with
  | nil => cases e
  | @cons v vs d ds a r =>
    unfold aGCons at e
    cases e1 : f d with
    | none => simp only [e1] at e; cases e
    | some x =>
      cases e2 : g ds with
      | none => simp only [e1, e2] at e; cases e
      | some y =>
        simp only [e1, e2] at e
        cases e
        refine ⟨_, _, rfl, DG.run (g := t) (f := f) W σ H _ _ x _ a e1 fun zs hz => ?_⟩
        refine DGs.run (g := u) (f := g) W (setAll σ zs) H _ _ y _ r e2 fun ws hw => ?_
        rw [← setAll_append]
        exact h _ (paired_append hz hw)⟩
def gTupK (K : PySem.W.Frag) (k : Nat) (t : TGs) : TG := gTup K k t
theorem k_gtup {X : Cx} {es : List Expr} {k : Nat} {t : TGs} {pos : Pos} {m : Nat} (hK : X.K = K) (hc : X.calm = true) (h : PGs X es t)
    (hn : (assignEach es X.env).length = m := by rfl) (hst : (assignEach es X.env).findIdx? (·.1) = none := by rfl) : PG X (.Tuple es k pos) (gTupK K m t) := hK ▸ pg_tup hc h hn hst
def aGTup (k : Nat) (g : List D → Option (List (Nat × D))) : D → Option (List (Nat × D))
  | .tup ds => (match Nat.beq ds.length k with
    | true => g ds
    | false => none)
  | _ => none
instance {k : Nat} {t : TGs} {g : List D → Option (List (Nat × D))} [DGs K t g] : DG K (gTupK K k t) (aGTup k g) := ⟨fun W σ H v d us Q a e h => by
  unfold aGTup at e
  split at e
  · split at e
    · rename_i hb
      cases a with
      | tup s a => exact ⟨_, _, rfl, s, by rw [a.length]; exact Nat.eq_of_beq_eq_true hb, DGs.run (g := t) (f := g) W σ H _ _ us Q a e h⟩
    · cases e
  · cases e⟩
theorem wipe_set {σ : L2.St} {i : Nat} {v : Option V} : ∀ {vs : List Nat}, i ∈ vs → wipe (σ.set i v) vs = wipe σ vs
  | [], h => by cases h
  | w :: vs, h => by
    show (wipe (σ.set i v) vs).set w none = (wipe σ vs).set w none
    by_cases hi : i ∈ vs
    · rw [wipe_set hi]
    · have e : i = w := by
        rcases List.mem_cons.mp h with z | z
        · exact z
        · exact absurd z hi
      subst e
      have : ∀ us : List Nat, i ∉ us → wipe (σ.set i v) us = (wipe σ us).set i v := fun us => by
        induction us with
        | nil => intro _; rfl
        | cons u us ih =>
          intro hn
          show (wipe (σ.set i v) us).set u none = ((wipe σ us).set u none).set i v
          rw [ih (fun z => hn (List.mem_cons_of_mem _ z)), List.set_comm _ _ (fun z => hn (by rw [z]; exact List.mem_cons_self))]
      rw [this vs hi, List.set_set]
theorem wipe_setAll {vs : List Nat} : ∀ {zs : List (Nat × V)} {σ : L2.St}, (∀ z ∈ zs, z.1 ∈ vs) → wipe (setAll σ zs) vs = wipe σ vs
  | [], _, _ => rfl
  | z :: r, σ, h => by
    show wipe (setAll (σ.set z.1 (some z.2)) r) vs = _
    rw [wipe_setAll fun y hy => h y (List.mem_cons_of_mem _ hy), wipe_set (h z List.mem_cons_self)]
theorem upd_slots {W : Wd} {H : Hp} {p : Nat → Prop} : ∀ {zs : List (Nat × V)} {us : List (Nat × D)}, Upd K W H zs us → (∀ u ∈ us, p u.1) → ∀ z ∈ zs, p z.1
  | _, _, .nil, _, z, h => by cases h
  | _, _, .cons ⟨e, _⟩ r, hu, z, h => by
    rcases List.mem_cons.mp h with rfl | h
    · rw [e]
      exact hu _ List.mem_cons_self
    · exact upd_slots r (fun u hu' => hu u (List.mem_cons_of_mem _ hu')) z h
theorem EnvAt.setAll {W : Wd} {H : Hp} : ∀ {zs : List (Nat × V)} {us : List (Nat × D)} {σ : L2.St} {ρ : Env'}, EnvAt K W H σ ρ → Upd K W H zs us → EnvAt K W H (setAll σ zs) (eSetAll ρ us)
  | _, _, _, _, h, .nil => h
  | _, _, _, _, h, .cons (a := (i, v)) (b := (j, d)) ⟨e, a⟩ r => by
    cases (show i = j from e)
    have := EnvAt.setAll (h.set (i := i) a) r
    exact this
/-! what is walked -/
def Walks (K : PySem.W.Frag) (W : Wd) (J : It) (H : Hp) (ds : List D) : Prop := ∀ (W' : Wd), (∀ a, W'.rs a → ¬ W.rs a → H a = none) → W'.dk = W.dk → ∀ (H2 : Hp) (n2 : Nat), W'.le H H2 → W'.ok K n2 H2 → ∀ i : Nat,
  (∀ d, ds[i]? = some d → J.go i H2 ∧ ∀ x H3, J.yld i H2 x H3 → Same H2 H3 ∧ At K W' H3 x d) ∧ (ds.length ≤ i → J.stop i H2)
abbrev AI := Env' → Nat → (List D → Nat → Prop) → Prop
class DI (K : PySem.W.Frag) (wi : TI) (f : outParam AI) : Prop where
  run : ∀ (W : Wd) (σ : L2.St) (ρ : Env') (n : Nat) (H : Hp) (R : It → Hp → Prop) (Qa : List D → Nat → Prop), (∀ ds n', Qa ds n' → ∀ J H', W.le H H' → W.ok K n' H' → Walks K W J H' ds → R J H') → EnvAt K W H σ ρ → W.ok K n H → f ρ n Qa → wi σ H R
theorem Wd.ok.lk' {W W' : Wd} {H : Hp} {n : Nat} (o : W.ok K n H) (hr : ∀ a, W'.rs a → ¬ W.rs a → H a = none) : W'.lk H := fun a r ob e => by
  by_cases hw : W.rs a
  · exact o.lk a hw ob e
  · rw [hr a r hw] at e
    cases e
def iAny (K : PySem.W.Frag) (tl : TE) : TI := fun σ H R => tl σ H fun x H1 => ∃ a, x = .ref a ∧ (((∃ xs, SqL K H1 a xs) ∧ R (Itl K a) H1) ∨ ((∃ xs, SqT K H1 a xs) ∧ R (Itt K a) H1))
theorem k_iter {X : Cx} {tg l : Expr} {tl : TE} (hK : X.K = K) (hl : PE X l tl) : PI X tg l (iAny K tl) := by
  subst hK
  refine ⟨fun pins s σ H R I h => ?_⟩
  refine thn (hl.run pins s σ H _ I h) fun v s1 ⟨x, H1, I1, r1, q1⟩ => ?_
  obtain ⟨a, e, q1⟩ := q1
  subst e
  cases r1
  rcases q1 with ⟨⟨xs, hq⟩, q⟩ | ⟨⟨xs, hq⟩, q⟩
  · obtain ⟨its, rv, p, hz⟩ := I1.list hq
    refine wpAny_pyIter_list p.isList ?_
    refine ⟨s1.heap.objs.size, [s1.heap.objs.size], _, _, H1, rfl, I1.kept (t' := s1.toks) fun b o e => Heap.get?_push_of_some _ e, turn_list a _, ⟨_, Heap.get?_push_size _ rfl, rfl, rfl⟩, fun b hb => ?_, q⟩
    have e : b = s1.heap.objs.size := by simpa using hb
    subst e
    exact I1.fpOk (Nat.le_refl _) (I1.hok.fresh (Nat.le_refl _))
  · obtain ⟨its, rv, p, hz⟩ := I1.tuple hq
    refine wpAny_pyIter_tuple (show s1.heap.IsTuple a its.toArray from p) ?_
    refine ⟨s1.heap.objs.size, [s1.heap.objs.size], _, _, H1, rfl, I1.kept (t' := s1.toks) fun b o e => Heap.get?_push_of_some _ e, turn_tuple a _, ⟨_, Heap.get?_push_size _ rfl, rfl, rfl⟩, fun b hb => ?_, q⟩
    have e : b = s1.heap.objs.size := by simpa using hb
    subst e
    exact I1.fpOk (Nat.le_refl _) (I1.hok.fresh (Nat.le_refl _))
def aIter (f : AE) : AI := fun ρ n Q => f ρ n fun d n1 => match d with
  | .tup ds => Q ds n1
  | .lst ds => Q ds n1
  | _ => False
instance {tl : TE} {f : AE} [DE K tl f] : DI K (iAny K tl) (aIter f) := ⟨fun W σ ρ n H R Qa hQ hE o h =>
  DE.run (te := tl) (f := f) W σ ρ n H _ _ (fun d n1 h1 H1 x l1 o1 ax => by
    split at h1
    · cases ax with
      | tup s a =>
        refine ⟨_, rfl, .inr ⟨⟨_, s⟩, hQ _ _ h1 _ H1 l1 o1 fun W' hr hd H2 n2 l2 o2 i => ?_⟩⟩
        have s2 := sqt_lk (o1.lk' hr) l2 s
        refine ⟨fun d hd' => ?_, fun hi => ⟨_, s2, by rw [a.length]; exact hi⟩⟩
        obtain ⟨v, e1, e2⟩ := a.get hd'
        refine ⟨⟨_, v, s2, e1⟩, fun x H3 ⟨e3, e4⟩ => ?_⟩
        subst e3
        have := e4 _ s2
        rw [e1] at this
        cases this
        exact ⟨Same.refl _, At.lk (o1.lk' hr) l2 _ (At.ext hr hd _ e2)⟩
    · cases ax with
      | lst r s a =>
        refine ⟨_, rfl, .inl ⟨⟨_, SqL.of s⟩, hQ _ _ h1 _ H1 l1 o1 fun W' hr hd H2 n2 l2 o2 i => ?_⟩⟩
        have s2 : SqL K H2 _ _ := SqL.of (l2 _ _ (fun z => by rw [hr _ z r] at s; cases s) s)
        refine ⟨fun d hd' => ?_, fun hi => ⟨_, s2, by rw [a.length]; exact hi⟩⟩
        obtain ⟨v, e1, e2⟩ := a.get hd'
        refine ⟨⟨_, v, s2, e1⟩, fun x H3 ⟨e3, e4⟩ => ?_⟩
        subst e3
        have := e4 _ s2
        rw [e1] at this
        cases this
        exact ⟨Same.refl _, At.lk (o1.lk' hr) l2 _ (At.ext hr hd _ e2)⟩
    · exact h1.elim) hE o h⟩
def rangeD (lo : Int) : Nat → List D
  | 0 => []
  | k + 1 => .int lo :: rangeD (lo + 1) k
theorem rangeD_length (lo : Int) : ∀ k, (rangeD lo k).length = k
  | 0 => rfl
  | k + 1 => by rw [rangeD, List.length_cons, rangeD_length]
theorem rangeD_get : ∀ {lo : Int} {k i : Nat} {d : D}, (rangeD lo k)[i]? = some d → i < k ∧ d = .int (lo + i)
  | lo, 0, i, d, h => by cases h
  | lo, k + 1, 0, d, h => by
    cases h
    exact ⟨Nat.succ_pos _, by rw [Int.natCast_zero, Int.add_zero]⟩
  | lo, k + 1, i + 1, d, h => by
    obtain ⟨h1, h2⟩ := rangeD_get (lo := lo + 1) (k := k) (i := i) h
    refine ⟨Nat.succ_lt_succ h1, ?_⟩
    rw [h2]
    congr 1
    omega
def aRange1 (g : AA) : AI := fun ρ n Q => g ρ n fun ds n1 => match ds with
  | [.int j] => (-(2 ^ 62) ≤ j ∧ j < 2 ^ 62) ∧ Q (rangeD 0 j.toNat) n1
  | _ => False
def aRange2 (g : AA) : AI := fun ρ n Q => g ρ n fun ds n1 => match ds with
  | [.int i, .int j] => (-(2 ^ 62) ≤ i ∧ i < 2 ^ 62 ∧ -(2 ^ 62) ≤ j ∧ j < 2 ^ 62) ∧ Q (rangeD i (j - i).toNat) n1
  | _ => False
theorem range_walks {W : Wd} {lo : Int} {k : Nat} {H : Hp} : Walks K W (Itr lo k) H (rangeD lo k) := fun W' hr hd H2 n2 l2 o2 i => by
  refine ⟨fun d e => ?_, fun hi => by rw [rangeD_length] at hi; exact hi⟩
  obtain ⟨h1, rfl⟩ := rangeD_get e
  refine ⟨h1, fun x H3 ⟨e3, e4⟩ => ?_⟩
  subst e3 e4
  exact ⟨Same.refl _, .int _⟩
instance {ta : TA} {g : AA} [DA K ta g] : DI K (iRng1 ta) (aRange1 g) := ⟨fun W σ ρ n H R Qa hQ hE o h =>
  DA.run (te := ta) (f := g) W σ ρ n H _ _ (fun ds n1 h1 H1 vs l1 o1 ax => by
    split at h1
    · cases ax with
      | cons a r =>
        cases r
        cases a
        exact ⟨_, rfl, h1.1.1, h1.1.2, hQ _ _ h1.2 _ H1 l1 o1 range_walks⟩
    · exact h1.elim) hE o h⟩
instance {ta : TA} {g : AA} [DA K ta g] : DI K (iRng2 ta) (aRange2 g) := ⟨fun W σ ρ n H R Qa hQ hE o h =>
  DA.run (te := ta) (f := g) W σ ρ n H _ _ (fun ds n1 h1 H1 vs l1 o1 ax => by
    split at h1
    · cases ax with
      | cons a r =>
        cases r with
        | cons b r =>
          cases r
          cases a
          cases b
          exact ⟨_, _, rfl, h1.1, hQ _ _ h1.2 _ H1 l1 o1 range_walks⟩
    · exact h1.elim) hE o h⟩
/-! zip, enumerate -/
def zipD : List D → List D → List D
  | a :: as, b :: bs => .tup [a, b] :: zipD as bs
  | _, _ => []
theorem zipD_get : ∀ {as bs : List D} {i : Nat} {d : D}, (zipD as bs)[i]? = some d → ∃ a b, as[i]? = some a ∧ bs[i]? = some b ∧ d = .tup [a, b]
  | [], _, _, _, h => by cases h
  | _ :: _, [], _, _, h => by cases h
  | a :: as, b :: bs, 0, d, h => by cases h; exact ⟨a, b, rfl, rfl, rfl⟩
  | a :: as, b :: bs, i + 1, d, h => zipD_get (as := as) (bs := bs) (i := i) h
theorem zipD_length : ∀ {as bs : List D}, (zipD as bs).length = min as.length bs.length
  | [], bs => by simp [zipD]
  | _ :: _, [] => by simp [zipD]
  | a :: as, b :: bs => by rw [zipD, List.length_cons, List.length_cons, List.length_cons, zipD_length, Nat.succ_min_succ]
def enumD (k : Nat) : List D → List D
  | [] => []
  | a :: as => .tup [.int k, a] :: enumD (k + 1) as
theorem enumD_get : ∀ {as : List D} {k i : Nat} {d : D}, (enumD k as)[i]? = some d → ∃ a, as[i]? = some a ∧ d = .tup [.int ((k + i : Nat) : Int), a]
  | [], _, _, _, h => by cases h
  | a :: as, k, 0, d, h => by cases h; exact ⟨a, rfl, rfl⟩
  | a :: as, k, i + 1, d, h => by
    obtain ⟨b, h1, h2⟩ := enumD_get (as := as) (k := k + 1) (i := i) h
    exact ⟨b, h1, by rw [h2]; congr 3; omega⟩
theorem enumD_length : ∀ {as : List D} {k : Nat}, (enumD k as).length = as.length
  | [], _ => rfl
  | a :: as, k => by rw [enumD, List.length_cons, List.length_cons, enumD_length]
end

/-! ### the mirror, fourth part: zip, enumerate, for, comprehensions, defs -/
section
variable {K : PySem.W.Frag}
theorem sql_lk {W : Wd} {H H' : Hp} {a : Addr} {xs : List V} (l : W.le H H') (r : ¬ W.rs a) (s : H a = some (.lst xs)) : SqL K H' a xs := SqL.of (l _ _ r s)
def iZipK (K : PySem.W.Frag) (ta : TA) : TI := RZ.iZipA K ta
theorem k_zip {X : Cx} {e e2 : Expr} {ta : TA} {p pos tpos : Pos} {elts : List Expr} {kk : Nat} (hK : X.K = K) (hg : Gl X "zip") (hm : X.mg "zip" = none) (ha : PA X [e, e2] ta)
    (hs : starEach [e, e2] X.env = (false, eval e X.env) :: starEach [e2] X.env := by rfl) (hpl : (backTo pos (starEach [e2] X.env)).any (·.1) = false := by rfl) :
    PI X (.Tuple elts kk tpos) (.Call (.Name "zip" p) [e, e2] [] pos) (iZipK K ta) := hK ▸ RZ.pi_zipA hg hm ha hs hpl
def aZip (g : AA) : AI := fun ρ n Q => g ρ n fun ds n1 => match ds with
  | [.lst as, .lst bs] => Q (zipD as bs) n1
  | [.tup as, .tup bs] => Q (zipD as bs) n1
  | _ => False
instance {ta : TA} {g : AA} [DA K ta g] : DI K (iZipK K ta) (aZip g) := ⟨fun W σ ρ n H R Qa hQ hE o h =>
  DA.run (te := ta) (f := g) W σ ρ n H _ _ (fun ds n1 h1 H1 vs l1 o1 ax => by
    split at h1
    · cases ax with
      | cons a r =>
        cases r with
        | cons b r =>
          cases r
          cases a with
          | lst ra sa a =>
            cases b with
            | lst rb sb b =>
              refine ⟨_, _, _, _, rfl, .inl ⟨SqL.of sa, SqL.of sb, hQ _ _ h1 _ H1 l1 o1 fun W' hr hd H2 n2 l2 o2 i => ?_⟩⟩
              have s2 := sql_lk (K := K) l2 (fun z => by rw [hr _ z ra] at sa; cases sa) sa
              have s3 := sql_lk (K := K) l2 (fun z => by rw [hr _ z rb] at sb; cases sb) sb
              refine ⟨fun d e => ?_, fun hi => ⟨_, _, s2, s3, ?_⟩⟩
              · obtain ⟨x, y, e1, e2, rfl⟩ := zipD_get e
                obtain ⟨v, e1', a1⟩ := a.get e1
                obtain ⟨u, e2', a2⟩ := b.get e2
                refine ⟨⟨_, _, v, u, s2, s3, e1', e2'⟩, fun z H3 ⟨T, x', y', ez, hT, eH, e3, e4⟩ => ?_⟩
                have q1 := e3 _ s2
                have q2 := e4 _ s3
                rw [e1'] at q1
                rw [e2'] at q2
                cases q1
                cases q2
                subst ez eH
                have st : Same H2 (upd H2 T (.tup [v, u])) := same_upd hT
                refine ⟨st, .tup (.inl (.inl upd_same)) (.cons ?_ (.cons ?_ .nil))⟩
                · exact At.le o2 (Wd.le_same st) _ (At.lk (o1.lk' hr) l2 _ (At.ext hr hd _ a1))
                · exact At.le o2 (Wd.le_same st) _ (At.lk (o1.lk' hr) l2 _ (At.ext hr hd _ a2))
              · rw [zipD_length] at hi
                rw [a.length, b.length]
                omega
    · cases ax with
      | cons a r =>
        cases r with
        | cons b r =>
          cases r
          cases a with
          | tup sa a =>
            cases b with
            | tup sb b =>
              refine ⟨_, _, _, _, rfl, .inr ⟨sa, sb, hQ _ _ h1 _ H1 l1 o1 fun W' hr hd H2 n2 l2 o2 i => ?_⟩⟩
              have s2 := sqt_lk (o1.lk' hr) l2 sa
              have s3 := sqt_lk (o1.lk' hr) l2 sb
              refine ⟨fun d e => ?_, fun hi => ⟨_, _, s2, s3, ?_⟩⟩
              · obtain ⟨x, y, e1, e2, rfl⟩ := zipD_get e
                obtain ⟨v, e1', a1⟩ := a.get e1
                obtain ⟨u, e2', a2⟩ := b.get e2
                refine ⟨⟨_, _, v, u, s2, s3, e1', e2'⟩, fun z H3 ⟨T, x', y', ez, hT, eH, e3, e4⟩ => ?_⟩
                have q1 := e3 _ s2
                have q2 := e4 _ s3
                rw [e1'] at q1
                rw [e2'] at q2
                cases q1
                cases q2
                subst ez eH
                have st : Same H2 (upd H2 T (.tup [v, u])) := same_upd hT
                refine ⟨st, .tup (.inl (.inl upd_same)) (.cons ?_ (.cons ?_ .nil))⟩
                · exact At.le o2 (Wd.le_same st) _ (At.lk (o1.lk' hr) l2 _ (At.ext hr hd _ a1))
                · exact At.le o2 (Wd.le_same st) _ (At.lk (o1.lk' hr) l2 _ (At.ext hr hd _ a2))
              · rw [zipD_length] at hi
                rw [a.length, b.length]
                omega
    · exact h1.elim) hE o h⟩
def iEnumK (K : PySem.W.Frag) (ta : TA) : TI := iEnum K ta
theorem k_enum {X : Cx} {e : Expr} {ta : TA} {p pos tpos : Pos} {elts : List Expr} {kk : Nat} (hK : X.K = K) (hg : Gl X "enumerate") (hm : X.mg "enumerate" = none) (ha : PA X [e] ta) (hs : starEach [e] X.env = [(false, eval e X.env)] := by rfl) :
    PI X (.Tuple elts kk tpos) (.Call (.Name "enumerate" p) [e] [] pos) (iEnumK K ta) := hK ▸ pi_enum hg hm ha hs
def aEnum (g : AA) : AI := fun ρ n Q => g ρ n fun ds n1 => match ds with
  | [.lst as] => Q (enumD 0 as) n1
  | _ => False
instance {ta : TA} {g : AA} [DA K ta g] : DI K (iEnumK K ta) (aEnum g) := ⟨fun W σ ρ n H R Qa hQ hE o h =>
  DA.run (te := ta) (f := g) W σ ρ n H _ _ (fun ds n1 h1 H1 vs l1 o1 ax => by
    split at h1
    · cases ax with
      | cons a r =>
        cases r
        cases a with
        | lst ra sa a =>
          refine ⟨_, _, rfl, SqL.of sa, hQ _ _ h1 _ H1 l1 o1 fun W' hr hd H2 n2 l2 o2 i => ?_⟩
          have s2 := sql_lk (K := K) l2 (fun z => by rw [hr _ z ra] at sa; cases sa) sa
          refine ⟨fun d e => ?_, fun hi => ⟨_, s2, by rw [a.length]; rw [enumD_length] at hi; exact hi⟩⟩
          obtain ⟨x, e1, rfl⟩ := enumD_get e
          obtain ⟨v, e1', a1⟩ := a.get e1
          refine ⟨⟨_, v, s2, e1'⟩, fun z H3 ⟨T, x', ez, hT, eH, e3⟩ => ?_⟩
          have q1 := e3 _ s2
          rw [e1'] at q1
          cases q1
          subst ez eH
          have st : Same H2 (upd H2 T (.tup [.int i, v])) := same_upd hT
          refine ⟨st, .tup (.inl (.inl upd_same)) (.cons ?_ (.cons ?_ .nil))⟩
          · rw [Nat.zero_add]
            exact .int _
          · exact At.le o2 (Wd.le_same st) _ (At.lk (o1.lk' hr) l2 _ (At.ext hr hd _ a1))
    · exact h1.elim) hE o h⟩
/-! comprehensions -/
def wipeA (ρ : Env') : List Nat → Env'
  | [] => ρ
  | v :: vs => eSet (wipeA ρ vs) v none
theorem EnvAt.wipe {W : Wd} {H : Hp} {σ : L2.St} {ρ : Env'} (h : EnvAt K W H σ ρ) : ∀ vs : List Nat, EnvAt K W H (L2.wipe σ vs) (wipeA ρ vs)
  | [] => h
  | v :: vs => by
    have ih := EnvAt.wipe h vs
    refine ⟨by show ((L2.wipe σ vs).set v none).length = (eSet (wipeA ρ vs) v none).length; rw [List.length_set, eSet_length]; exact ih.1, fun i d e => ?_⟩
    have e' : eGet (eSet (wipeA ρ vs) v none) i = some d := e
    by_cases hv : v = i
    · subst hv
      cases (eGet_set e').2
    · rw [eGet_ne hv] at e'
      obtain ⟨x, h1, h2⟩ := ih.2 i d e'
      exact ⟨x, by show ((L2.wipe σ vs).set v none)[i]? = _; rw [List.getElem?_set_ne hv]; exact h1, h2⟩
theorem wipe_wipe (σ : L2.St) (vs : List Nat) : wipe (wipe σ vs) vs = wipe σ vs := by
  have : ∀ us : List Nat, (∀ i ∈ us, i ∈ vs) → wipe (wipe σ us) vs = wipe σ vs := fun us => by
    induction us with
    | nil => intro _; rfl
    | cons u us ih =>
      intro h
      show wipe ((wipe σ us).set u none) vs = _
      rw [wipe_set (h u List.mem_cons_self), ih fun i hi => h i (List.mem_cons_of_mem _ hi)]
  exact this vs fun i hi => hi
def aPutC (vs : List Nat) (g : D → Option (List (Nat × D))) (d : D) (ρ : Env') (Q : Env' → Prop) : Prop := match g d with
  | some us => (match us.all fun u => vs.contains u.1 with
    | true => Q (eSetAll ρ us)
    | false => False)
  | none => False
def aLcGo (vs : List Nat) (G : D → Option (List (Nat × D))) (c : AT) (e : AE) (ρ : Env') (Q : D → Nat → Prop) : List D → List D → Nat → Prop
  | acc, [], n => Q (.lst acc) n
  | acc, d :: r, n => aPutC vs G d ρ fun ρ1 => c ρ1 n fun b n2 => aIte b (e ρ1 n2 fun y n3 => aLcGo vs G c e ρ Q (acc ++ [y]) r n3) (aLcGo vs G c e ρ Q acc r n2)
def aLc (I : AI) (G : D → Option (List (Nat × D))) (c : AT) (e : AE) (vs : List Nat) : AE := fun ρ n Q => I ρ n fun ds n1 => ds.length ≤ 1000000 ∧ aLcGo vs G c e (wipeA ρ vs) Q [] ds n1
theorem Wd.le_add {W : Wd} {p : Addr} {xs : HO} {H H1 H2 : Hp} (hp : H p = none) (l : W.le H H1) (l2 : (W.add (p, xs)).le H1 H2) : W.le H H2 := fun a o r e => by
  have ne : a ≠ p := ne_of_none e hp
  refine l2 a o ?_ (l a o r e)
  rintro (z | z)
  · exact r (.inl z)
  · rcases List.mem_cons.mp z with z | z
    · exact ne z
    · exact r (.inr z)
theorem Wd.ok_put {W : Wd} {p : Addr} {ys : HO} {n : Nat} {H : Hp} (hm : Mt ys) (hp : ¬ W.rs p) (hl : H p = none ∨ ∃ xs, H p = some (.lst xs)) (o : W.ok K n H) : (W.add (p, ys)).ok K n (upd H p ys) := by
  refine ⟨fun d b e => ?_, fun q hq => ?_, fun d b e q hq => ?_⟩
  · obtain ⟨c, D, l⟩ := o.deck d b e
    have n1 : p ≠ d := fun z => hp (.inl ⟨d, b, e, .inl z⟩)
    have n2 : p ≠ b := fun z => hp (.inl ⟨d, b, e, .inr z⟩)
    refine ⟨c, ?_, l⟩
    obtain ⟨⟨s, ns, cs, i, k, h1, h2, h3, h4⟩, ne⟩ := D
    refine ⟨⟨s, ns, cs, i, k, ?_, ?_, h3.upd hl, h4⟩, ne⟩
    · rw [upd_ne (Ne.symm n1)]; exact h1
    · rw [upd_ne (Ne.symm n2)]; exact h2
  · rcases List.mem_cons.mp hq with rfl | hq
    · exact ⟨upd_same, hm⟩
    · rw [upd_ne fun z => hp (.inr (List.mem_map.mpr ⟨q, hq, z⟩))]
      exact o.owns q hq
  · rcases List.mem_cons.mp hq with rfl | hq
    · exact ⟨fun z => hp (.inl ⟨d, b, e, .inl z⟩), fun z => hp (.inl ⟨d, b, e, .inr z⟩)⟩
    · exact o.dis d b e q hq
theorem Wd.ok.drop {W : Wd} {q : Addr × HO} {n : Nat} {H : Hp} (o : (W.add q).ok K n H) : W.ok K n H := ⟨o.deck, fun p hp => o.owns p (List.mem_cons_of_mem _ hp), fun d b e p hp => o.dis d b e p (List.mem_cons_of_mem _ hp)⟩
theorem Wd.le_more {W : Wd} {q : Addr × HO} {H H' : Hp} (l : W.le H H') : (W.add q).le H H' := fun a o r e => l a o (fun z => r (by
  rcases z with z | z
  · exact .inl z
  · exact .inr (List.mem_cons_of_mem _ z))) e
theorem Wd.le_own {W : Wd} {p : Addr} {xs : HO} {ob : HO} {H : Hp} : (W.add (p, xs)).le H (upd H p ob) := fun a o r e => by
  rw [upd_ne fun z => r (.inr (by rw [z]; exact List.mem_cons_self))]
  exact e
theorem EnvAt.ext {W W' : Wd} {H : Hp} {σ : L2.St} {ρ : Env'} (hr : ∀ a, W'.rs a → ¬ W.rs a → H a = none) (hd : W'.dk = W.dk) (h : EnvAt K W H σ ρ) : EnvAt K W' H σ ρ := ⟨h.1, fun i d e => let ⟨v, e', a⟩ := h.2 i d e; ⟨v, e', At.ext hr hd d a⟩⟩
theorem EnvAt.lk {W : Wd} {H H' : Hp} {σ : L2.St} {ρ : Env'} (h : EnvAt K W H σ ρ) (o : W.lk H) (l : W.le H H') : EnvAt K W H' σ ρ := ⟨h.1, fun i d e => let ⟨v, e', a⟩ := h.2 i d e; ⟨v, e', At.lk o l d a⟩⟩
theorem Wd.rs_new {W : Wd} {p : Addr} {xs : HO} {H : Hp} (hp : H p = none) : ∀ a, (W.add (p, xs)).rs a → ¬ W.rs a → H a = none := fun a z r => by
  rcases z with z | z
  · exact absurd (.inl z) r
  · rcases List.mem_cons.mp z with z | z
    · have z' : a = p := z
      rw [z']
      exact hp
    · exact absurd (.inr z) r
instance {wi : TI} {g : TG} {tt : TT} {te : TE} {vs : List Nat} {I : AI} {G : D → Option (List (Nat × D))} {c : AT} {e : AE} [DI K wi I] [DG K g G] [DT K tt c] [DE K te e] : DE K (tLc wi g tt te vs) (aLc I G c e vs) := ⟨fun W σ ρ n H Q Qa hQ hE o h => by
  refine DI.run (wi := wi) (f := I) W σ ρ n H _ _ (fun ds n1 h1 J H1 l1 o1 hw Dl hDl => ?_) hE o h
  obtain ⟨hlen, h1⟩ := h1
  have nrs : ¬ W.rs Dl := o1.fresh hDl
  refine ⟨fun i m H' => m = ds.length - i ∧ i ≤ ds.length ∧ ∃ n' us acc, aLcGo vs G c e (wipeA ρ vs) Qa acc (ds.drop i) n' ∧ (W.add (Dl, .lst us)).ok K n' H' ∧ AtAll K (W.add (Dl, .lst us)) H' us acc ∧ W.le H1 H' ∧ us.length ≤ i, ⟨_, rfl, Nat.zero_le _, n1, [], [], h1, Wd.ok_put trivial nrs (.inl hDl) o1, .nil, Wd.le_same (same_upd hDl), Nat.le_refl _⟩, ?_⟩
  rintro i m H2 ⟨rfl, hi, n2, us, acc, h2, o2, a2, l2, hul⟩
  have rn := Wd.rs_new (W := W) (xs := .lst us) hDl
  obtain ⟨w1, w2⟩ := hw (W.add (Dl, .lst us)) rn rfl H2 n2 (Wd.le_more l2) o2 i
  by_cases hlt : i < ds.length
  · rw [List.drop_eq_getElem_cons hlt] at h2
    obtain ⟨hgo, hy⟩ := w1 ds[i] (List.getElem?_eq_getElem hlt)
    refine .inr ⟨hgo, fun H' => ∃ m', m' < ds.length - i ∧ m' = ds.length - (i + 1) ∧ i + 1 ≤ ds.length ∧ ∃ n' us acc, aLcGo vs G c e (wipeA ρ vs) Qa acc (ds.drop (i + 1)) n' ∧ (W.add (Dl, .lst us)).ok K n' H' ∧ AtAll K (W.add (Dl, .lst us)) H' us acc ∧ W.le H1 H' ∧ us.length ≤ i + 1, fun H' q => q, fun x H3 hx => ?_⟩
    obtain ⟨s3, a3⟩ := hy x H3 hx
    have l3 : (W.add (Dl, .lst us)).le H2 H3 := Wd.le_same s3
    have o3 := o2.same s3
    have hE3 : EnvAt K (W.add (Dl, .lst us)) H3 (wipe σ vs) (wipeA ρ vs) := (((hE.le o l1).ext rn rfl).lk (o1.lk' rn) ((Wd.le_more l2).trans l3)).wipe vs
    unfold aLcGo aPutC at h2
    split at h2
    · rename_i xs ex
      split at h2
      · rename_i hc
        refine DG.run (g := g) (f := G) _ (wipe σ vs) H3 x _ xs _ a3 ex fun zs hz => ?_
        have hE4 := hE3.setAll hz
        have hv : ∀ z ∈ zs, z.1 ∈ vs := upd_slots hz fun u hu => List.contains_iff_mem.mp (List.all_eq_true.mp hc u hu)
        refine ⟨by rw [wipe_setAll hv, wipe_wipe], DT.run (te := tt) (f := c) _ _ _ n2 H3 _ _ (fun b n5 h5 H5 l5 o5 => ?_) hE4 o3 h2⟩
        have l25 := l3.trans l5
        cases b with
        | true =>
          rw [if_pos rfl]
          refine DE.run (te := te) (f := e) _ _ _ n5 H5 _ _ (fun y n6 h6 H6 v l6 o6 a6 => ?_) (hE4.le o3 l5) o5 (h5.1 rfl)
          have hD6 : H6 Dl = some (.lst us) := (o6.owns (Dl, .lst us) List.mem_cons_self).1
          have l26 := l25.trans l6
          refine ⟨us, hD6, Nat.lt_of_lt_of_le (show us.length < 1000000 by omega) lim, _, by omega, rfl, hlt, n6, us ++ [v], acc ++ [y], h6, Wd.ok_put trivial nrs (.inr ⟨_, hD6⟩) o6.drop, ?_, Wd.le_add hDl l2 (l26.trans (Wd.le_own (ob := .lst (us ++ [v])))), by rw [List.length_append, List.length_singleton]; omega⟩
          have key : AtAll K (W.add (Dl, .lst us)) H6 (us ++ [v]) (acc ++ [y]) := (AtAll.le o2 l26 _ a2).append (.cons a6 .nil)
          exact AtAll.weak (W := W.add (Dl, .lst us)) (W' := W.add (Dl, .lst (us ++ [v]))) (fun a z => z) rfl _ (AtAll.le o6 (Wd.le_own (ob := .lst (us ++ [v]))) _ key)
        | false =>
          rw [if_neg Bool.false_ne_true]
          exact ⟨_, by omega, rfl, hlt, n5, us, acc, h5.2 rfl, o5, AtAll.le o2 l25 _ a2, Wd.le_add hDl l2 l25, by omega⟩
      · exact h2.elim
    · exact h2.elim
  · have ei : i = ds.length := by omega
    subst ei
    rw [List.drop_length] at h2
    have hD2 : H2 Dl = some (.lst us) := (o2.owns (Dl, .lst us) List.mem_cons_self).1
    exact .inl ⟨w2 (Nat.le_refl _), hQ _ _ h2 H2 _ (l1.trans l2) o2.drop (.lst nrs hD2 (AtAll.weak (fun a z => Wd.rs_add z) rfl _ a2))⟩⟩
/-! reversed copies -/
def tRevK (K : PySem.W.Frag) (te : TE) : TE := tRevL K te
theorem k_rev {X : Cx} {e : Expr} {te : TE} {k : Nat} {p1 p2 p3 pos : Pos} (hK : X.K = K) (he : PE X e te) : PE X (.Subscript e (.Slice none none (some (.UnaryOp .USub (.Constant (.int 1) k p1) p2)) p3) pos) (tRevK K te) := hK ▸ pe_revL he
def aRev (f : AE) : AE := fun ρ n Q => f ρ n fun d n1 => match d with
  | .lst ds => Q (.lst ds.reverse) n1
  | _ => False
instance {te : TE} {f : AE} [DE K te f] : DE K (tRevK K te) (aRev f) := ⟨fun W σ ρ n H Q Qa hQ hE o h =>
  DE.run (te := te) (f := f) W σ ρ n H _ _ (fun d n1 h1 H1 x l1 o1 ax => by
    split at h1
    · cases ax with
      | lst r s a => exact ⟨_, _, rfl, SqL.of s, fun p hp => (hQ.le l1).new o1 h1 hp (.lst (o1.fresh hp) upd_same (AtAll.le o1 (Wd.le_same (same_upd hp)) _ (rev_at a)))⟩
    · exact h1.elim) hE o h⟩
end

/-! ### the mirror, fifth part: statements, defs -/
section
variable {K : PySem.W.Frag}
/-! ### statements: lists (and dicts) that a def builds, at the slots ow -/
def Wd.plus (W : Wd) (U : List (Addr × HO)) : Wd := { W with own := U ++ W.own }
inductive OwAt (K : PySem.W.Frag) (W : Wd) (H : Hp) : HO → D → Prop
  | lst {us : List V} {ds : List D} : AtAll K W H us ds → OwAt K W H (.lst us) (.lst ds)
  | dic {ks : List Key} {us : List V} {ds : List D} : ks.length = us.length → AtAll K W H us ds → OwAt K W H (.dK (ks.zip us)) (.dic ks ds)
structure SOk (K : PySem.W.Frag) (W : Wd) (ow : List Nat) (n : Nat) (H : Hp) (σ : L2.St) (ρ : Env') (U : List (Addr × HO)) : Prop where
  nd : (U.map (·.1)).Nodup
  nr : ∀ u ∈ U, ¬ W.rs u.1
  ok : (W.plus U).ok K n H
  len : σ.length = ρ.length
  env : ∀ i d, i ∉ ow → eGet ρ i = some d → ∃ v, σ[i]? = some (some v) ∧ At K (W.plus U) H v d
  own : ∀ i d, i ∈ ow → eGet ρ i = some d → ∃ u ∈ U, σ[i]? = some (some (.ref u.1)) ∧ OwAt K (W.plus U) H u.2 d
  dst : ∀ i j p, i ∈ ow → j ∈ ow → i ≠ j → σ[i]? = some (some (.ref p)) → σ[j]? = some (some (.ref p)) → eGet ρ i = none ∨ eGet ρ j = none
structure Stp (W : Wd) (U : List (Addr × HO)) (H : Hp) (U' : List (Addr × HO)) (H' : Hp) : Prop where
  le : (W.plus U).le H H'
  new : ∀ a, (W.plus U').rs a → ¬ (W.plus U).rs a → H a = none
  old : ∀ a, (W.plus U).rs a → (W.plus U').rs a
theorem Stp.refl {W : Wd} {U : List (Addr × HO)} {H : Hp} : Stp W U H U H := ⟨Wd.le_refl, fun a h g => absurd h g, fun a h => h⟩
theorem Stp.trans {W : Wd} {U U1 U2 : List (Addr × HO)} {H H1 H2 : Hp} (s : Stp W U H U1 H1) (t : Stp W U1 H1 U2 H2) : Stp W U H U2 H2 := by
  have key : ∀ a o, ¬ (W.plus U).rs a → H a = some o → ¬ (W.plus U1).rs a := fun a o r e z => by
    rw [s.new a z r] at e
    cases e
  refine ⟨fun a o r e => t.le a o (key a o r e) (s.le a o r e), fun a z r => ?_, fun a h => t.old a (s.old a h)⟩
  by_cases h1 : (W.plus U1).rs a
  · exact s.new a h1 r
  · have h2 := t.new a z h1
    cases e : H a with
    | none => rfl
    | some o =>
      rw [s.le a o r e] at h2
      cases h2
theorem Wd.rs_plus {W : Wd} {U : List (Addr × HO)} {a : Addr} : (W.plus U).rs a ↔ a ∈ U.map (·.1) ∨ W.rs a := by
  constructor
  · rintro (h | h)
    · exact .inr (.inl h)
    · have h' : a ∈ (U ++ W.own).map (·.1) := h
      rw [List.map_append] at h'
      rcases List.mem_append.mp h' with h | h
      · exact .inl h
      · exact .inr (.inr h)
  · rintro (h | h | h)
    · refine .inr (show a ∈ (U ++ W.own).map (·.1) from ?_)
      rw [List.map_append]
      exact List.mem_append_left _ h
    · exact .inl h
    · refine .inr (show a ∈ (U ++ W.own).map (·.1) from ?_)
      rw [List.map_append]
      exact List.mem_append_right _ h
section
variable {W : Wd} {ow : List Nat} {n : Nat} {H H1 : Hp} {σ : L2.St} {ρ : Env'} {U : List (Addr × HO)}
theorem wipeA_get : ∀ {ow : List Nat} {i : Nat} {d : D}, eGet (wipeA ρ ow) i = some d → i ∉ ow ∧ eGet ρ i = some d
  | [], i, d, h => ⟨fun z => (by cases z), h⟩
  | w :: ow, i, d, h => by
    have h' : eGet (eSet (wipeA ρ ow) w none) i = some d := h
    by_cases e : w = i
    · subst e
      cases (eGet_set h').2
    · rw [eGet_ne e] at h'
      obtain ⟨h1, h2⟩ := wipeA_get h'
      exact ⟨fun z => (List.mem_cons.mp z).elim (fun q => e q.symm) h1, h2⟩
theorem wipeA_length : ∀ ow : List Nat, (wipeA ρ ow).length = ρ.length
  | [] => rfl
  | w :: ow => by
    show (eSet (wipeA ρ ow) w none).length = _
    rw [eSet_length, wipeA_length ow]
/-- the lists that are built hidden -/
theorem SOk.hid (s : SOk K W ow n H σ ρ U) : EnvAt K (W.plus U) H σ (wipeA ρ ow) := ⟨by rw [wipeA_length]; exact s.len, fun i d e => let ⟨h1, h2⟩ := wipeA_get e; s.env i d h1 h2⟩
theorem SOk.base (s : SOk K W ow n H σ ρ U) : W.ok K n H := ⟨s.ok.deck, fun p hp => s.ok.owns p (List.mem_append_right _ hp), fun d b e p hp => s.ok.dis d b e p (List.mem_append_right _ hp)⟩
/-- .. as plain lists -/
theorem SOk.opn (s : SOk K W ow n H σ ρ U) : EnvAt K W H σ ρ := by
  have hw : ∀ a, W.rs a → (W.plus U).rs a := fun a h => Wd.rs_plus.mpr (.inr h)
  refine ⟨s.len, fun i d e => ?_⟩
  by_cases hi : i ∈ ow
  · obtain ⟨⟨q, ob⟩, hu, e1, a⟩ := s.own i d hi e
    refine ⟨_, e1, ?_⟩
    have h1 := (s.ok.owns _ (List.mem_append_left _ hu)).1
    cases a with
    | lst a => exact .lst (s.nr _ hu) h1 (AtAll.weak hw rfl _ a)
    | dic l a => exact .dic (s.nr _ hu) h1 l (AtAll.weak hw rfl _ a)
  · obtain ⟨v, e1, a⟩ := s.env i d hi e
    exact ⟨v, e1, At.weak hw rfl _ a⟩
theorem OwAt.le {ob : HO} {d : D} (o : W.ok K n H) (l : W.le H H1) (h : OwAt K W H ob d) : OwAt K W H1 ob d := by
  cases h with
  | lst a => exact .lst (AtAll.le o l _ a)
  | dic e a => exact .dic e (AtAll.le o l _ a)
/-- behind what was done with the built ones hidden -/
theorem SOk.le {n1 : Nat} (s : SOk K W ow n H σ ρ U) (l : (W.plus U).le H H1) (o : (W.plus U).ok K n1 H1) : SOk K W ow n1 H1 σ ρ U :=
  ⟨s.nd, s.nr, o, s.len, fun i d h e => let ⟨v, e1, a⟩ := s.env i d h e; ⟨v, e1, At.le s.ok l _ a⟩, fun i d h e => let ⟨u, hu, e1, a⟩ := s.own i d h e; ⟨u, hu, e1, a.le s.ok l⟩, s.dst⟩
/-- behind what was done with them as plain lists -/
theorem SOk.lo {n1 : Nat} (s : SOk K W ow n H σ ρ U) (l : W.le H H1) (o : W.ok K n1 H1) : SOk K W ow n1 H1 σ ρ U := by
  have l' : (W.plus U).le H H1 := fun a ob r e => l a ob (fun z => r (Wd.rs_plus.mpr (.inr z))) e
  refine s.le l' ⟨o.deck, fun p hp => ?_, s.ok.dis⟩
  rcases List.mem_append.mp hp with hp' | hp'
  · obtain ⟨h1, h2⟩ := s.ok.owns p hp
    exact ⟨l _ _ (s.nr p hp') h1, h2⟩
  · exact o.owns p hp'
theorem lo_le (l : W.le H H1) : (W.plus U).le H H1 := fun a ob r e => l a ob (fun z => r (Wd.rs_plus.mpr (.inr z))) e
theorem SOk.set {i : Nat} {v : V} {d : D} (s : SOk K W ow n H σ ρ U) (hi : i ∉ ow) (a : At K (W.plus U) H v d) : SOk K W ow n H (σ.set i (some v)) (eSet ρ i (some d)) U := by
  refine ⟨s.nd, s.nr, s.ok, by rw [List.length_set, eSet_length]; exact s.len, fun j e hj he => ?_, fun j e hj he => ?_, fun j k p hj hk ne h1 h2 => ?_⟩
  · by_cases hij : i = j
    · subst hij
      obtain ⟨hl, he⟩ := eGet_set he
      cases he
      exact ⟨v, by rw [List.getElem?_set_self (by rw [s.len]; exact hl)], a⟩
    · rw [eGet_ne hij] at he
      rw [List.getElem?_set_ne hij]
      exact s.env j e hj he
  · have hij : i ≠ j := fun z => hi (z ▸ hj)
    rw [eGet_ne hij] at he
    rw [List.getElem?_set_ne hij]
    exact s.own j e hj he
  · have hij : i ≠ j := fun z => hi (z ▸ hj)
    have hik : i ≠ k := fun z => hi (z ▸ hk)
    rw [List.getElem?_set_ne hij] at h1
    rw [List.getElem?_set_ne hik] at h2
    rw [eGet_ne hij, eGet_ne hik]
    exact s.dst j k p hj hk ne h1 h2
theorem SOk.setAll : ∀ {zs : List (Nat × V)} {us : List (Nat × D)} {σ : L2.St} {ρ : Env'}, SOk K W ow n H σ ρ U → Upd K (W.plus U) H zs us → (∀ u ∈ us, u.1 ∉ ow) → SOk K W ow n H (R.setAll σ zs) (eSetAll ρ us) U
  | _, _, _, _, s, .nil, _ => s
  | _, _, _, _, s, .cons (a := (i, v)) (b := (j, d)) ⟨e, a⟩ r, h => by
    cases (show i = j from e)
    have := SOk.setAll (s.set (h _ List.mem_cons_self) a) r fun u hu => h u (List.mem_cons_of_mem _ hu)
    exact this
end
structure AEn where
  nx : Env' → Nat → Prop
  rt : D → Nat → Prop
  bk : Env' → Nat → Prop := fun _ _ => False
  ct : Env' → Nat → Prop := fun _ _ => False
def WantsE (K : PySem.W.Frag) (W : Wd) (ow : List Nat) (U : List (Addr × HO)) (H : Hp) (Qa : Env' → Nat → Prop) (Q : L2.St → Hp → Prop) : Prop :=
  ∀ ρ' n', Qa ρ' n' → ∀ U' σ' H', Stp W U H U' H' → SOk K W ow n' H' σ' ρ' U' → Q σ' H'
theorem WantsE.le {W : Wd} {ow : List Nat} {U U1 : List (Addr × HO)} {H H1 : Hp} {Qa : Env' → Nat → Prop} {Q : L2.St → Hp → Prop} (h : WantsE K W ow U H Qa Q) (s : Stp W U H U1 H1) : WantsE K W ow U1 H1 Qa Q := fun ρ' n' q U' σ' H' l' a => h ρ' n' q U' σ' H' (s.trans l') a
/-- what is wanted of what is told: the built ones are plain lists then -/
def WantsR (K : PySem.W.Frag) (W : Wd) (U : List (Addr × HO)) (H : Hp) (Qa : D → Nat → Prop) (Q : VK) : Prop := ∀ d n', Qa d n' → ∀ U1 H1 H' v, Stp W U H U1 H1 → W.le H1 H' → W.ok K n' H' → At K W H' v d → Q v H'
theorem WantsR.le {W : Wd} {U U1 : List (Addr × HO)} {H H1 : Hp} {Qa : D → Nat → Prop} {Q : VK} (h : WantsR K W U H Qa Q) (s : Stp W U H U1 H1) : WantsR K W U1 H1 Qa Q := fun d n' q U' H' H2 v l' l2 o a => h d n' q U' H' H2 v (s.trans l') l2 o a
structure EndsOk (K : PySem.W.Frag) (W : Wd) (ow : List Nat) (U : List (Addr × HO)) (H : Hp) (Ea : AEn) (E : Ends) : Prop where
  nx : WantsE K W ow U H Ea.nx E.nx
  rt : WantsR K W U H Ea.rt E.rt
  bk : WantsE K W ow U H Ea.bk E.bk
  ct : WantsE K W ow U H Ea.ct E.ct
theorem EndsOk.le {W : Wd} {ow : List Nat} {U U1 : List (Addr × HO)} {H H1 : Hp} {Ea : AEn} {E : Ends} (h : EndsOk K W ow U H Ea E) (l : Stp W U H U1 H1) : EndsOk K W ow U1 H1 Ea E := ⟨h.nx.le l, h.rt.le l, h.bk.le l, h.ct.le l⟩
abbrev AS := AEn → Env' → Nat → Prop
class DS (K : PySem.W.Frag) (ow : List Nat) (t : TS) (f : outParam AS) : Prop where
  run : ∀ (W : Wd) (U : List (Addr × HO)) (σ : L2.St) (ρ : Env') (n : Nat) (H : Hp) (E : Ends) (Ea : AEn), EndsOk K W ow U H Ea E → SOk K W ow n H σ ρ U → f Ea ρ n → t E σ H
variable {ow : List Nat}
def aNext : AS := fun E ρ n => E.nx ρ n
def aSeq (f g : AS) : AS := fun E ρ n => f { E with nx := fun ρ' n' => g E ρ' n' } ρ n
instance : DS K ow tNext aNext := ⟨fun W U σ ρ n H E Ea hD s h => hD.nx _ _ h U σ H Stp.refl s⟩
instance {t u : TS} {f g : AS} [DS K ow t f] [DS K ow u g] : DS K ow (tSeq t u) (aSeq f g) := ⟨fun W U σ ρ n H E Ea hD s h =>
  DS.run (ow := ow) (t := t) (f := f) W U σ ρ n H _ { Ea with nx := fun ρ' n' => g Ea ρ' n' } ⟨fun ρ1 n1 h1 U1 σ1 H1 l1 s1 => DS.run (ow := ow) (t := u) (f := g) W U1 σ1 ρ1 n1 H1 E Ea (hD.le l1) s1 h1, hD.rt, hD.bk, hD.ct⟩ s h⟩
instance : DS K ow tNever (fun _ _ _ => False) := ⟨fun W U σ ρ n H E Ea hD s h => h⟩
def aBrk : AS := fun E ρ n => E.bk ρ n
def aCnt : AS := fun E ρ n => E.ct ρ n
instance : DS K ow tBreak aBrk := ⟨fun W U σ ρ n H E Ea hD s h => hD.bk _ _ h U σ H Stp.refl s⟩
instance : DS K ow tCont aCnt := ⟨fun W U σ ρ n H E Ea hD s h => hD.ct _ _ h U σ H Stp.refl s⟩
theorem Stp.hid {W : Wd} {U : List (Addr × HO)} {H H1 : Hp} (l : (W.plus U).le H H1) : Stp W U H U H1 := ⟨l, fun a h g => absurd h g, fun a h => h⟩
def aDrop (ow : List Nat) (f : AE) : AS := fun E ρ n => f (wipeA ρ ow) n fun _ n1 => E.nx ρ n1
instance {te : TE} {f : AE} [DE K te f] : DS K ow (tDrop te) (aDrop ow f) := ⟨fun W U σ ρ n H E Ea hD s h =>
  DE.run (te := te) (f := f) (W.plus U) σ _ n H _ _ (fun d n1 h1 H1 x l1 o1 ax => hD.nx _ _ h1 U σ H1 (.hid l1) (s.le l1 o1)) s.hid s.ok h⟩
def aRet (f : AE) : AS := fun E ρ n => f ρ n E.rt
instance {te : TE} {f : AE} [DE K te f] : DS K ow (tRet te) (aRet f) := ⟨fun W U σ ρ n H E Ea hD s h => DE.run (te := te) (f := f) W σ ρ n H _ _ (fun d n1 h1 H1 x l1 o1 ax => hD.rt d n1 h1 U H H1 x Stp.refl l1 o1 ax) s.opn s.base h⟩
def aRetN : AS := fun E _ n => E.rt .non n
instance : DS K ow tRetN aRetN := ⟨fun W U σ ρ n H E Ea hD s h => hD.rt _ _ h U H H _ Stp.refl Wd.le_refl s.base .non⟩
def aIfS (c : AT) (f g : AS) : AS := fun E ρ n => c ρ n fun b n1 => aIte b (f E ρ n1) (g E ρ n1)
instance {tc : TT} {t u : TS} {c : AT} {f g : AS} [DT K tc c] [DS K ow t f] [DS K ow u g] : DS K ow (tIfS tc t u) (aIfS c f g) := ⟨fun W U σ ρ n H E Ea hD s h =>
  DT.run (te := tc) (f := c) W σ ρ n H _ _ (fun b n1 h1 H1 l1 o1 => by
    have st : Stp W U H U H1 := .hid (lo_le l1)
    cases b with
    | true => rw [if_pos rfl]; exact DS.run (ow := ow) (t := t) (f := f) W U σ ρ n1 H1 E Ea (hD.le st) (s.lo l1 o1) (h1.1 rfl)
    | false => rw [if_neg Bool.false_ne_true]; exact DS.run (ow := ow) (t := u) (f := g) W U σ ρ n1 H1 E Ea (hD.le st) (s.lo l1 o1) (h1.2 rfl)) s.opn s.base h⟩
/-- what a target stores -/
def aPut (ow : List Nat) (g : D → Option (List (Nat × D))) (d : D) (ρ : Env') (Q : Env' → Prop) : Prop := match g d with
  | some us => (match us.all fun u => !ow.contains u.1 with
    | true => Q (eSetAll ρ us)
    | false => False)
  | none => False
def aAsg (ow : List Nat) (f : AE) (g : D → Option (List (Nat × D))) : AS := fun E ρ n => f (wipeA ρ ow) n fun d n1 => aPut ow g d ρ fun ρ' => E.nx ρ' n1
theorem put_run {W : Wd} {U : List (Addr × HO)} {g : TG} {a : D → Option (List (Nat × D))} [DG K g a] {σ : L2.St} {ρ : Env'} {n : Nat} {H : Hp} {v : V} {d : D} {Qa : Env' → Prop} {Q : L2.St → Hp → Prop} (s : SOk K W ow n H σ ρ U) (ax : At K (W.plus U) H v d) (h : aPut ow a d ρ Qa)
    (hQ : ∀ ρ' σ', Qa ρ' → SOk K W ow n H σ' ρ' U → Q σ' H) : g v σ H Q := by
  unfold aPut at h
  split at h
  · rename_i us e
    split at h
    · rename_i hc
      refine DG.run (g := g) (f := a) (W.plus U) σ H v d us Q ax e fun zs hz => hQ _ _ h (s.setAll hz fun u hu hin => ?_)
      have := List.all_eq_true.mp hc u hu
      rw [List.contains_iff_mem.mpr hin] at this
      cases this
    · exact h.elim
  · exact h.elim
instance {te : TE} {g : TG} {f : AE} {a : D → Option (List (Nat × D))} [DE K te f] [DG K g a] : DS K ow (tAsg te g) (aAsg ow f a) := ⟨fun W U σ ρ n H E Ea hD s h =>
  DE.run (te := te) (f := f) (W.plus U) σ _ n H _ _ (fun d n1 h1 H1 x l1 o1 ax => put_run (g := g) (a := a) (s.le l1 o1) ax h1 fun ρ' σ' q s' => hD.nx _ _ q U σ' H1 (.hid l1) s') s.hid s.ok h⟩
/-- a scalar that is reckoned of the built lists too -/
def tOpen (te : TE) : TE := te
def D.sc : D → Bool
  | .non => true | .bl _ => true | .int _ => true | .str _ => true
  | _ => false
theorem sc_at {W W' : Wd} {H : Hp} {v : V} {d : D} (h : d.sc = true) (a : At K W H v d) : At K W' H v d := by
  cases a <;> first
    | cases h; done
    | exact .non
    | exact .bl _
    | exact .int _
    | exact .str _
def aAsgO (ow : List Nat) (f : AE) (g : D → Option (List (Nat × D))) : AS := fun E ρ n => f ρ n fun d n1 => match d.sc with
  | true => aPut ow g d ρ fun ρ' => E.nx ρ' n1
  | false => False
instance (priority := 1100) {te : TE} {g : TG} {f : AE} {a : D → Option (List (Nat × D))} [DE K te f] [DG K g a] : DS K ow (tAsg (tOpen te) g) (aAsgO ow f a) := ⟨fun W U σ ρ n H E Ea hD s h =>
  DE.run (te := te) (f := f) W σ ρ n H _ _ (fun d n1 h1 H1 x l1 o1 ax => by
    split at h1
    · rename_i hs
      exact put_run (g := g) (a := a) (s.lo l1 o1) (sc_at hs ax) h1 fun ρ' σ' q s' => hD.nx _ _ q U σ' H1 (.hid (lo_le l1)) s'
    · exact h1.elim) s.opn s.base h⟩
theorem k_open {X : Cx} {e : Expr} {te : TE} (h : PE X e te) : PE X e (tOpen te) := h
def aPar (ow : List Nat) (i j : Nat) (g : AA) : AS := fun E ρ n => g (wipeA ρ ow) n fun ds n1 => match ds, ow.contains i || ow.contains j with
  | [d, e], false => E.nx (eSet (eSet ρ i (some d)) j (some e)) n1
  | _, _ => False
instance {i j : Nat} {ta : TA} {g : AA} [DA K ta g] : DS K ow (tPar i j ta) (aPar ow i j g) := ⟨fun W U σ ρ n H E Ea hD s h =>
  DA.run (te := ta) (f := g) (W.plus U) σ _ n H _ _ (fun ds n1 h1 H1 vs l1 o1 ax => by
    split at h1
    · rename_i hc
      rw [Bool.or_eq_false_iff] at hc
      cases ax with
      | cons a r =>
        cases r with
        | cons b r =>
          cases r
          refine ⟨_, _, rfl, hD.nx _ _ h1 U _ H1 (.hid l1) (((s.le l1 o1).set (fun z => ?_) a).set (fun z => ?_) b)⟩
          · rw [List.contains_iff_mem.mpr z] at hc
            cases hc.1
          · rw [List.contains_iff_mem.mpr z] at hc
            cases hc.2
    · exact h1.elim) s.hid s.ok h⟩
def aAug (ow : List Nat) (i : Nat) (f : AE) (r : D → D → Nat → (D → Nat → Prop) → Prop) : AS := fun E ρ n => match eGet ρ i, ow.contains i with
  | some d, false => f (wipeA ρ ow) n fun e n1 => r d e n1 fun x n2 => E.nx (eSet ρ i (some x)) n2
  | _, _ => False
instance {i : Nat} {te : TE} {ti : TIp} {f : AE} {r : D → D → Nat → (D → Nat → Prop) → Prop} [DE K te f] [D2 K ti r] : DS K ow (tAug i te ti) (aAug ow i f r) := ⟨fun W U σ ρ n H E Ea hD s h => by
  unfold aAug at h
  split at h
  · rename_i d e hc
    have hi : i ∉ ow := fun z => by rw [List.contains_iff_mem.mpr z] at hc; cases hc
    obtain ⟨v, e', a⟩ := s.env i d hi e
    refine ⟨v, e', DE.run (te := te) (f := f) (W.plus U) σ _ n H _ _ (fun d1 n1 h1 H1 x l1 o1 ax => ?_) s.hid s.ok h⟩
    exact D2.run (r := ti) (f := r) (W.plus U) n1 H1 v x d d1 _ _ (fun d2 n2 h2 H2 y l2 o2 ay => hD.nx _ _ h2 U _ H2 (.hid (l1.trans l2)) ((s.le (l1.trans l2) o2).set hi ay)) o1 (At.le s.ok l1 _ a) ax h1
  · exact h.elim⟩
/-! while -/
def aWhile (c : AT) (f : AS) : AS := fun E ρ n => ∃ Wv : Nat → Env' → Nat → Prop, (∃ m, Wv m ρ n) ∧ ∀ m ρ n, Wv m ρ n →
  c ρ n fun b n1 => aIte b (f { E with nx := fun ρ' n' => ∃ m', m' < m ∧ Wv m' ρ' n', ct := fun ρ' n' => ∃ m', m' < m ∧ Wv m' ρ' n', bk := E.nx } ρ n1) (E.nx ρ n1)
instance {tc : TT} {tb : TS} {c : AT} {f : AS} [DT K tc c] [DS K ow tb f] : DS K ow (tWhile tc tb) (aWhile c f) := ⟨fun W U σ ρ n H E Ea hD s h => by
  obtain ⟨Wv, ⟨m, w0⟩, turn⟩ := h
  refine ⟨fun m σ' H' => ∃ ρ' n' U', Wv m ρ' n' ∧ SOk K W ow n' H' σ' ρ' U' ∧ Stp W U H U' H', ⟨m, ρ, n, U, w0, s, Stp.refl⟩, ?_⟩
  rintro m σ1 H1 ⟨ρ1, n1, U1, w1, s1, l1⟩
  refine DT.run (te := tc) (f := c) W σ1 ρ1 n1 H1 _ _ (fun b n2 h2 H2 l2 o2 => ?_) s1.opn s1.base (turn m ρ1 n1 w1)
  have st := l1.trans (.hid (lo_le l2))
  cases b with
  | true =>
    rw [if_pos rfl]
    refine ⟨fun σ' H' => ∃ m', m' < m ∧ ∃ ρ' n' U', Wv m' ρ' n' ∧ SOk K W ow n' H' σ' ρ' U' ∧ Stp W U H U' H', fun σ' H' q => q, ?_⟩
    have again : WantsE K W ow U1 H2 (fun ρ' n' => ∃ m', m' < m ∧ Wv m' ρ' n') fun σ' H' => ∃ m', m' < m ∧ ∃ ρ' n' U', Wv m' ρ' n' ∧ SOk K W ow n' H' σ' ρ' U' ∧ Stp W U H U' H' := fun ρ' n' ⟨m', lt, wv⟩ U' σ' H' l' s' => ⟨m', lt, ρ', n', U', wv, s', st.trans l'⟩
    exact DS.run (ow := ow) (t := tb) (f := f) W U1 σ1 ρ1 n2 H2 _ { Ea with nx := fun ρ' n' => ∃ m', m' < m ∧ Wv m' ρ' n', ct := fun ρ' n' => ∃ m', m' < m ∧ Wv m' ρ' n', bk := Ea.nx } ⟨again, hD.rt.le st, hD.nx.le st, again⟩ (s1.lo l2 o2) (h2.1 rfl)
  | false =>
    rw [if_neg Bool.false_ne_true]
    exact hD.nx _ _ (h2.2 rfl) U1 σ1 H2 st (s1.lo l2 o2)⟩
/-! for -/
def aForGo (ow : List Nat) (G : D → Option (List (Nat × D))) (f : AS) (E : AEn) : List D → Env' → Nat → Prop
  | [], ρ, n => E.nx ρ n
  | d :: r, ρ, n => aPut ow G d ρ fun ρ1 => f { E with nx := aForGo ow G f E r, ct := aForGo ow G f E r, bk := E.nx } ρ1 n
def aFor (ow : List Nat) (I : AI) (G : D → Option (List (Nat × D))) (f : AS) : AS := fun E ρ n => I (wipeA ρ ow) n fun ds n1 => aForGo ow G f E ds ρ n1
instance {wi : TI} {g : TG} {tb : TS} {I : AI} {G : D → Option (List (Nat × D))} {f : AS} [DI K wi I] [DG K g G] [DS K ow tb f] : DS K ow (tFor wi g tb) (aFor ow I G f) := ⟨fun W U σ ρ n H E Ea hD s h =>
  DI.run (wi := wi) (f := I) (W.plus U) σ _ n H _ _ (fun ds n1 h1 J H1 l1 o1 hw => by
    refine ⟨fun i m σ' H' => m = ds.length - i ∧ i ≤ ds.length ∧ ∃ ρ' n' U', aForGo ow G f Ea (ds.drop i) ρ' n' ∧ SOk K W ow n' H' σ' ρ' U' ∧ Stp W U H1 U' H', ⟨_, rfl, Nat.zero_le _, ρ, n1, U, h1, s.le l1 o1, Stp.refl⟩, ?_⟩
    rintro i m σ2 H2 ⟨rfl, hi, ρ2, n2, U2, h2, s2, l2⟩
    obtain ⟨w1, w2⟩ := hw (W.plus U2) l2.new rfl H2 n2 (fun a o r e => l2.le a o (fun z => r (l2.old a z)) e) s2.ok i
    by_cases hlt : i < ds.length
    · rw [List.drop_eq_getElem_cons hlt] at h2
      obtain ⟨hgo, hy⟩ := w1 ds[i] (List.getElem?_eq_getElem hlt)
      refine .inr ⟨hgo, fun σ' H' => ∃ m', m' < ds.length - i ∧ m' = ds.length - (i + 1) ∧ i + 1 ≤ ds.length ∧ ∃ ρ' n' U', aForGo ow G f Ea (ds.drop (i + 1)) ρ' n' ∧ SOk K W ow n' H' σ' ρ' U' ∧ Stp W U H1 U' H', fun σ' H' q => q, fun x H3 hx => ?_⟩
      obtain ⟨s3, a3⟩ := hy x H3 hx
      have l3 : (W.plus U2).le H2 H3 := Wd.le_same s3
      refine put_run (g := g) (a := G) (s2.le l3 (s2.ok.same s3)) a3 h2 fun ρ4 σ4 h4 s4 => ?_
      have l14 := l2.trans (.hid l3)
      have again : WantsE K W ow U2 H3 (aForGo ow G f Ea (ds.drop (i + 1))) fun σ' H' => ∃ m', m' < ds.length - i ∧ m' = ds.length - (i + 1) ∧ i + 1 ≤ ds.length ∧ ∃ ρ' n' U', aForGo ow G f Ea (ds.drop (i + 1)) ρ' n' ∧ SOk K W ow n' H' σ' ρ' U' ∧ Stp W U H1 U' H' :=
        fun ρ' n' q U' σ' H' l' s' => ⟨_, by omega, rfl, hlt, ρ', n', U', q, s', l14.trans l'⟩
      have lt := (Stp.hid l1).trans l14
      exact DS.run (ow := ow) (t := tb) (f := f) W U2 σ4 ρ4 n2 H3 _ { Ea with nx := aForGo ow G f Ea (ds.drop (i + 1)), ct := aForGo ow G f Ea (ds.drop (i + 1)), bk := Ea.nx } ⟨again, hD.rt.le lt, hD.nx.le lt, again⟩ s4 h4
    · have e : i = ds.length := by omega
      subst e
      rw [List.drop_length] at h2
      exact .inl ⟨w2 (Nat.le_refl _), hD.nx _ _ h2 U2 σ2 H2 ((Stp.hid l1).trans l2) s2⟩) s.hid s.ok h⟩
/-! a list is begun, a thing is put at its end -/
def tOwnL (i : Nat) (ta : TA) : TS := tAsg (tLst ta) (gName i)
theorem k_own {X : Cx} {st : Stmt} {i : Nat} {ta : TA} (h : PS X st (tAsg (tLst ta) (gName i))) : PS X st (tOwnL i ta) := h
def aOwnL (ow : List Nat) (i : Nat) (g : AA) : AS := fun E ρ n => g (wipeA ρ ow) n fun ds n1 => match Nat.ble ds.length 1000, ow.contains i with
  | true, true => E.nx (eSet ρ i (some (.lst ds))) n1
  | _, _ => False
theorem SOk.new {W : Wd} {n : Nat} {H : Hp} {σ : L2.St} {ρ : Env'} {U : List (Addr × HO)} {i : Nat} {p : Addr} {us : List V} {ds : List D} (s : SOk K W ow n H σ ρ U) (hi : i ∈ ow) (hp : H p = none) (a : AtAll K (W.plus U) H us ds) :
    Stp W U H ((p, .lst us) :: U) (upd H p (.lst us)) ∧ SOk K W ow n (upd H p (.lst us)) (σ.set i (some (.ref p))) (eSet ρ i (some (.lst ds))) ((p, .lst us) :: U) := by
  have nrs : ¬ (W.plus U).rs p := s.ok.fresh hp
  have rn := Wd.rs_new (W := W.plus U) (xs := .lst us) hp
  have sm : Same H (upd H p (.lst us)) := same_upd hp
  have ho : (W.plus ((p, .lst us) :: U)).ok K n (upd H p (.lst us)) := Wd.ok_put (W := W.plus U) trivial nrs (.inl hp) s.ok
  have lk : (W.plus ((p, .lst us) :: U)).lk H := s.ok.lk' rn
  have le2 : (W.plus ((p, .lst us) :: U)).le H (upd H p (.lst us)) := Wd.le_same sm
  refine ⟨⟨Wd.le_same sm, rn, fun b z => Wd.rs_add z⟩, ⟨?_, ?_, ho, by rw [List.length_set, eSet_length]; exact s.len, ?_, ?_, ?_⟩⟩
  · refine List.nodup_cons.mpr ⟨fun z => nrs (Wd.rs_plus.mpr (.inl z)), s.nd⟩
  · intro u hu
    rcases List.mem_cons.mp hu with rfl | hu
    · exact fun z => nrs (Wd.rs_plus.mpr (.inr z))
    · exact s.nr u hu
  · intro j d hj he
    have hij : i ≠ j := fun z => hj (z ▸ hi)
    rw [eGet_ne hij] at he
    rw [List.getElem?_set_ne hij]
    obtain ⟨v, e1, a1⟩ := s.env j d hj he
    exact ⟨v, e1, At.lk lk le2 _ (At.ext rn rfl _ a1)⟩
  · intro j d hj he
    by_cases hij : i = j
    · subst hij
      obtain ⟨hl, he⟩ := eGet_set he
      cases he
      exact ⟨(p, .lst us), List.mem_cons_self, by rw [List.getElem?_set_self (by rw [s.len]; exact hl)], .lst (AtAll.lk lk le2 _ (AtAll.ext rn rfl _ a))⟩
    · rw [eGet_ne hij] at he
      rw [List.getElem?_set_ne hij]
      obtain ⟨⟨q, ob⟩, hu, e1, a1⟩ := s.own j d hj he
      refine ⟨_, List.mem_cons_of_mem _ hu, e1, ?_⟩
      cases a1 with
      | lst a1 => exact .lst (AtAll.lk lk le2 _ (AtAll.ext rn rfl _ a1))
      | dic l a1 => exact .dic l (AtAll.lk lk le2 _ (AtAll.ext rn rfl _ a1))
  · intro j k q hj hk ne h1 h2
    have fr : ∀ m, m ∈ ow → i ≠ m → σ[m]? = some (some (.ref p)) → eGet ρ m = none := fun m hm _ hσ => by
      cases e : eGet ρ m with
      | none => rfl
      | some d =>
        obtain ⟨u, hu, e1, _⟩ := s.own m d hm e
        rw [hσ] at e1
        have : p = u.1 := V.ref.inj (Option.some.inj (Option.some.inj e1))
        exact absurd (Wd.rs_plus.mpr (.inl (List.mem_map.mpr ⟨u, hu, this.symm⟩))) nrs
    by_cases hij : i = j
    · subst hij
      rw [List.getElem?_set_ne ne] at h2
      by_cases hl : i < σ.length
      · rw [List.getElem?_set_self hl] at h1
        cases h1
        rw [eGet_ne ne]
        exact .inr (fr k hk ne h2)
      · rw [List.getElem?_eq_none (by rw [List.length_set]; omega)] at h1
        cases h1
    · rw [List.getElem?_set_ne hij] at h1
      rw [eGet_ne hij]
      by_cases hik : i = k
      · subst hik
        by_cases hl : i < σ.length
        · rw [List.getElem?_set_self hl] at h2
          cases h2
          exact .inl (fr j hj hij h1)
        · rw [List.getElem?_eq_none (by rw [List.length_set]; omega)] at h2
          cases h2
      · rw [List.getElem?_set_ne hik] at h2
        rw [eGet_ne hik]
        exact s.dst j k q hj hk ne h1 h2
instance {i : Nat} {ta : TA} {g : AA} [DA K ta g] : DS K ow (tOwnL i ta) (aOwnL ow i g) := ⟨fun W U σ ρ n H E Ea hD s h =>
  DA.run (te := ta) (f := g) (W.plus U) σ _ n H _ _ (fun ds n1 h1 H1 vs l1 o1 ax => by
    split at h1
    · rename_i hb hc
      refine ⟨size63 (by rw [ax.length]; exact Nat.le_of_ble_eq_true hb), fun p hp => ?_⟩
      obtain ⟨st, s2⟩ := (s.le l1 o1).new (List.contains_iff_mem.mp hc) hp ax
      exact hD.nx _ _ h1 _ _ _ ((Stp.hid l1).trans st) s2
    · exact h1.elim) s.hid s.ok h⟩
/-- the contents of one built thing change -/
def putO (U : List (Addr × HO)) (p : Addr) (ob : HO) : List (Addr × HO) := U.map fun u => if u.1 = p then (p, ob) else u
theorem putO_fst (U : List (Addr × HO)) (p : Addr) (ob : HO) : (putO U p ob).map (·.1) = U.map (·.1) := by
  unfold putO
  rw [List.map_map]
  refine List.map_congr_left fun u _ => ?_
  show (if u.1 = p then (p, ob) else u).1 = u.1
  split
  · rename_i e; exact e.symm
  · rfl
theorem SOk.put {W : Wd} {n : Nat} {H : Hp} {σ : L2.St} {ρ : Env'} {U : List (Addr × HO)} {i : Nat} {p : Addr} {ob ob' : HO} {d' : D} (s : SOk K W ow n H σ ρ U) (hi : i ∈ ow) (hl : eGet ρ i ≠ none) (hσ : σ[i]? = some (some (.ref p))) (hU : (p, ob) ∈ U) (hob : ∃ xs, ob = .lst xs) (hm : Mt ob') (a : OwAt K (W.plus U) H ob' d') :
    Stp W U H (putO U p ob') (upd H p ob') ∧ SOk K W ow n (upd H p ob') σ (eSet ρ i (some d')) (putO U p ob') := by
  have hfst := putO_fst U p ob'
  have hrs : ∀ b, (W.plus (putO U p ob')).rs b ↔ (W.plus U).rs b := fun b => by rw [Wd.rs_plus, Wd.rs_plus, hfst]
  have hpr : (W.plus U).rs p := Wd.rs_plus.mpr (.inl (List.mem_map.mpr ⟨_, hU, rfl⟩))
  have le1 : (W.plus U).le H (upd H p ob') := fun b o r e => by
    rw [upd_ne fun z => r (by rw [z]; exact hpr)]
    exact e
  obtain ⟨hp1, _⟩ := s.ok.owns (p, ob) (List.mem_append_left _ hU)
  have npw : ¬ W.rs p := s.nr _ hU
  have hdk : ∀ d b, W.dk = some (d, b) → p ≠ d ∧ p ≠ b := fun d b e => s.ok.dis d b e _ (List.mem_append_left _ hU)
  have ok' : (W.plus (putO U p ob')).ok K n (upd H p ob') := by
    refine ⟨fun d b e => ?_, fun q hq => ?_, fun d b e q hq => ?_⟩
    · obtain ⟨c, D, l⟩ := s.ok.deck d b e
      refine ⟨c, ?_, l⟩
      obtain ⟨⟨s', ns, cs, i', k, h1, h2, h3, h4⟩, ne⟩ := D
      obtain ⟨n1, n2⟩ := hdk d b e
      obtain ⟨xs, rfl⟩ := hob
      refine ⟨⟨s', ns, cs, i', k, ?_, ?_, h3.upd (.inr ⟨_, hp1⟩), h4⟩, ne⟩
      · rw [upd_ne (Ne.symm n1)]; exact h1
      · rw [upd_ne (Ne.symm n2)]; exact h2
    · rcases List.mem_append.mp hq with hq | hq
      · obtain ⟨u, hu, e⟩ := List.mem_map.mp hq
        split at e
        · subst e
          exact ⟨upd_same, hm⟩
        · rename_i hne
          subst e
          rw [upd_ne hne]
          exact s.ok.owns u (List.mem_append_left _ hu)
      · have hq1 : q.1 ≠ p := fun z => npw (.inr (List.mem_map.mpr ⟨q, hq, z⟩))
        rw [upd_ne hq1]
        exact s.ok.owns q (List.mem_append_right _ hq)
    · rcases List.mem_append.mp hq with hq | hq
      · have : q.1 ∈ U.map (·.1) := by rw [← hfst]; exact List.mem_map.mpr ⟨q, hq, rfl⟩
        obtain ⟨u, hu, e'⟩ := List.mem_map.mp this
        rw [← e']
        exact s.ok.dis d b e u (List.mem_append_left _ hu)
      · exact s.ok.dis d b e q (List.mem_append_right _ hq)
  have wk : ∀ {v : V} {d : D}, At K (W.plus U) H v d → At K (W.plus (putO U p ob')) (upd H p ob') v d := fun h => At.weak (fun b z => (hrs b).mp z) rfl _ (At.le s.ok le1 _ h)
  have wka : ∀ {vs : List V} {ds : List D}, AtAll K (W.plus U) H vs ds → AtAll K (W.plus (putO U p ob')) (upd H p ob') vs ds := fun h => AtAll.weak (fun b z => (hrs b).mp z) rfl _ (AtAll.le s.ok le1 _ h)
  have wko : ∀ {o : HO} {d : D}, OwAt K (W.plus U) H o d → OwAt K (W.plus (putO U p ob')) (upd H p ob') o d := fun h => by
    cases h with
    | lst h => exact .lst (wka h)
    | dic l h => exact .dic l (wka h)
  refine ⟨⟨le1, fun b z r => absurd ((hrs b).mp z) r, fun b z => (hrs b).mpr z⟩, ⟨by rw [hfst]; exact s.nd, ?_, ok', by rw [eSet_length]; exact s.len, ?_, ?_, ?_⟩⟩
  · intro u hu
    have : u.1 ∈ U.map (·.1) := by rw [← hfst]; exact List.mem_map.mpr ⟨u, hu, rfl⟩
    obtain ⟨w, hw, e⟩ := List.mem_map.mp this
    rw [← e]
    exact s.nr w hw
  · intro j d hj he
    have hij : i ≠ j := fun z => hj (z ▸ hi)
    rw [eGet_ne hij] at he
    obtain ⟨v, e1, a1⟩ := s.env j d hj he
    exact ⟨v, e1, wk a1⟩
  · intro j d hj he
    by_cases hij : i = j
    · subst hij
      cases (eGet_set he).2
      exact ⟨(p, ob'), List.mem_map.mpr ⟨_, hU, by rw [if_pos rfl]⟩, hσ, wko a⟩
    · rw [eGet_ne hij] at he
      obtain ⟨u, hu, e1, a1⟩ := s.own j d hj he
      have hup : u.1 ≠ p := fun z => by
        rw [z] at e1
        rcases s.dst i j p hi hj hij hσ e1 with h | h
        · exact hl h
        · rw [h] at he; cases he
      exact ⟨u, List.mem_map.mpr ⟨u, hu, by rw [if_neg hup]⟩, e1, wko a1⟩
  · intro j k q hj hk ne h1 h2
    rcases s.dst j k q hj hk ne h1 h2 with h | h
    · by_cases hij : i = j
      · subst hij
        exact absurd h hl
      · exact .inl (by rw [eGet_ne hij]; exact h)
    · by_cases hik : i = k
      · subst hik
        exact absurd h hl
      · exact .inr (by rw [eGet_ne hik]; exact h)
def tApp (K : PySem.W.Frag) (i : Nat) (te : TE) : TS := tDrop (tBM K "list" rAppend (tVar i) (tCons te tNil))
theorem k_app {X : Cx} {st : Stmt} {i : Nat} {te : TE} (hK : X.K = K) (h : PS X st (tDrop (tBM X.K "list" rAppend (tVar i) (tCons te tNil)))) : PS X st (tApp K i te) := hK ▸ h
def aApp (ow : List Nat) (i : Nat) (f : AE) : AS := fun E ρ n => match eGet ρ i, ow.contains i with
  | some (.lst ds), true => f (wipeA ρ ow) n fun d n1 => ds.length < 1000000 ∧ E.nx (eSet ρ i (some (.lst (ds ++ [d])))) n1
  | _, _ => False
theorem app_run {W : Wd} {U : List (Addr × HO)} {σ : L2.St} {ρ : Env'} {n : Nat} {H : Hp} {i : Nat} {p : Addr} {v : V} {ds : List D} {d : D} {Q : Hp → Prop} (s : SOk K W ow n H σ ρ U) (hi : i ∈ ow) (he : eGet ρ i = some (.lst ds)) (hl : ds.length < 1000000) (hσ : σ[i]? = some (some (.ref p))) (ax : At K (W.plus U) H v d)
    (hQ : ∀ U' H', Stp W U H U' H' → SOk K W ow n H' σ (eSet ρ i (some (.lst (ds ++ [d])))) U' → Q H') : ∃ l xs y, V.ref p = .ref l ∧ [v] = [y] ∧ H l = some (.lst xs) ∧ xs.length < sizeLine ∧ Q (upd H l (.lst (xs ++ [y]))) := by
  obtain ⟨u, hu, e1, a⟩ := s.own i _ hi he
  rw [hσ] at e1
  have ep : p = u.1 := V.ref.inj (Option.some.inj (Option.some.inj e1))
  subst ep
  obtain ⟨p, ob⟩ := u
  cases a with
  | lst a =>
    rename_i us
    have hp1 := (s.ok.owns _ (List.mem_append_left _ hu)).1
    obtain ⟨st, s2⟩ := s.put hi (by rw [he]; exact fun z => nomatch z) hσ hu ⟨_, rfl⟩ (ob' := .lst (us ++ [v])) trivial (.lst (a.append (.cons ax .nil)))
    exact ⟨_, us, v, rfl, rfl, hp1, Nat.lt_of_lt_of_le (by rw [a.length]; exact hl) lim, hQ _ _ st s2⟩
instance {i : Nat} {te : TE} {f : AE} [DE K te f] : DS K ow (tApp K i te) (aApp ow i f) := ⟨fun W U σ ρ n H E Ea hD s h => by
  unfold aApp at h
  split at h
  · rename_i ds he hc
    have hi := List.contains_iff_mem.mp hc
    obtain ⟨u, hu, e1, a⟩ := s.own i _ hi he
    have hp1 := (s.ok.owns _ (List.mem_append_left _ hu)).1
    refine ⟨_, e1, ?_, DE.run (te := te) (f := f) (W.plus U) σ _ n H _ _ (fun d n1 h1 H1 x l1 o1 ax => ?_) s.hid s.ok h⟩
    · obtain ⟨p, ob⟩ := u
      cases a with
      | lst a => exact .inl ⟨rfl, _, SqL.of hp1⟩
    · exact app_run (s.le l1 o1) hi he h1.1 e1 ax fun U' H' st s' => hD.nx _ _ h1.2 U' σ H' ((Stp.hid l1).trans st) s'
  · exact h.elim⟩
/-! a def -/
def startA : Nat → List D → Env'
  | 0, _ => []
  | k + 1, [] => none :: startA k []
  | k + 1, d :: ds => some d :: startA k ds
theorem startA_none : ∀ {k i : Nat} {d : D}, eGet (startA k []) i = some d → False
  | 0, _, _, h => by cases h
  | k + 1, 0, _, h => by cases h
  | k + 1, i + 1, _, h => startA_none (k := k) (i := i) h
theorem startA_at {W : Wd} {H : Hp} : ∀ {k : Nat} {vs : List V} {ds : List D}, AtAll K W H vs ds → ∀ (i : Nat) (d : D), eGet (startA k ds) i = some d → ∃ v, vs[i]? = some v ∧ At K W H v d
  | 0, _, _, _, _, _, e => by cases e
  | k + 1, _, [], h, i, d, e => (startA_none e).elim
  | k + 1, _, _ :: _, h, 0, d, e => by
    cases h with
    | cons a r => cases e; exact ⟨_, rfl, a⟩
  | k + 1, _, _ :: ds, h, i + 1, d, e => by
    cases h with
    | cons a r => exact startA_at (k := k) r i d e
theorem startA_length : ∀ (k : Nat) (ds : List D), (startA k ds).length = k
  | 0, _ => rfl
  | k + 1, [] => by rw [startA, List.length_cons, startA_length]
  | k + 1, _ :: ds => by rw [startA, List.length_cons, startA_length]
theorem start_at {W : Wd} {H : Hp} {N : List Str} {k : Nat} {vs : List V} {ds : List D} (hk : N.length = k) (hl : ds.length ≤ k) (h : AtAll K W H vs ds) : EnvAt K W H (L2.start N vs) (startA k ds) := by
  unfold L2.start
  have hv := h.length
  refine ⟨by rw [startA_length]; simp; omega, fun i d e => ?_⟩
  obtain ⟨v, e1, a⟩ := startA_at h i d e
  refine ⟨v, ?_, a⟩
  have hi : i < vs.length := (List.getElem?_eq_some_iff.mp e1).1
  rw [List.getElem?_append_left (by rw [List.length_map]; exact hi), List.getElem?_map, e1]
  rfl
def aTop (Q : D → Nat → Prop) : AEn := { nx := fun _ n => Q .non n, rt := Q }
theorem le_start {W : Wd} {U : List (Addr × HO)} {H H' : Hp} (s : Stp W [] H U H') : W.le H H' := s.le
theorem startA_big : ∀ {k i : Nat} {ds : List D}, ds.length ≤ i → eGet (startA k ds) i = none
  | 0, _, _, _ => rfl
  | k + 1, 0, [], _ => rfl
  | k + 1, i + 1, [], h => startA_big (k := k) (i := i) (ds := []) (Nat.zero_le _)
  | k + 1, 0, _ :: _, h => absurd h (Nat.not_succ_le_zero _)
  | k + 1, i + 1, _ :: ds, h => startA_big (k := k) (i := i) (ds := ds) (Nat.le_of_succ_le_succ h)
theorem start_ok {W : Wd} {n : Nat} {H : Hp} {N : List Str} {k : Nat} {vs : List V} {ds : List D} (hk : N.length = k) (hl : ds.length ≤ k) (ho : ∀ i ∈ ow, ds.length ≤ i) (h : AtAll K W H vs ds) (o : W.ok K n H) : SOk K W ow n H (L2.start N vs) (startA k ds) [] := by
  have e := start_at hk hl h
  refine ⟨List.nodup_nil, fun u hu => (by cases hu), o, e.1, fun i d _ he => e.2 i d he, fun i d hi he => ?_, fun i j p hi _ _ _ _ => .inl (startA_big (ho i hi))⟩
  rw [startA_big (ho i hi)] at he
  cases he
theorem fn_mir {P : Program} {w : World} {mg : Str → Option Value} {base : Heap} {x qual : Str} {st : Stmt} {f : Addr} {fd : FuncData} {N ps : List Str} {k : Nat} {A : ASp} (ow : List Nat) (kk : Nat) (hk : N.length = kk) (hp : ps.length ≤ kk) (ho : ∀ i ∈ ow, ps.length ≤ i) (F : Fun K x qual st f fd) (S : FnScope N ps (defScope st))
    (hbody : ∀ (cdv : Value) (Ar : Around) (outer : List Env) (s : Shared) (H : Hp) (E : XK), Room k (Ar.deeper (envOfC qual (defScope st) s.heap.objs.size f cdv)) →
      ∃ (t : TS) (fa : AS), PSs (cxOf CX0 P w K mg base N qual (defScope st) f cdv Ar outer s H E).nox (defBody st) t ∧ DS K ow t fa ∧ ∀ ds n Q, ds.length = ps.length → A ds n Q → fa (aTop Q) (startA kk ds) n) : FnOk P w K mg base CX0 (k + 1) f fd ps (spOf K ps.length A) := by
  refine F.ok S (fun vs H Q E h => ?_) (fun cdv Ar outer s H vs Q E hr h => ?_)
  · obtain ⟨W, n, ds, Qa, a, hl, _⟩ := h
    rw [a.length, hl]
  · obtain ⟨W, n, ds, Qa, a, hl, o, hQ, hA⟩ := h
    obtain ⟨t, fa, h1, h2, h3⟩ := hbody cdv Ar outer s H E hr
    refine ⟨t, h1, DS.run (ow := ow) (t := t) (f := fa) W [] (L2.start N vs) (startA kk ds) n H _ (aTop Qa) ⟨fun ρ' n' q U' σ' H' l' s' => hQ _ _ q H' _ (le_start l') s'.base .non, fun d n' q U1 H1 H' v l' l2 o' a' => hQ _ _ q H' v ((le_start l').trans l2) o' a', fun _ _ q => q.elim, fun _ _ q => q.elim⟩ (start_ok hk (by omega) (fun i hi => by rw [hl]; exact ho i hi) a o) (h3 ds n Qa hl hA)⟩
end

/-! ### sorted -/
abbrev Pt := Int × Int
def lexLe (p q : Pt) : Prop := p.1 < q.1 ∨ (p.1 = q.1 ∧ p.2 ≤ q.2)
def pt (p : Pt) : D := .tup [.int p.1, .int p.2]
section
variable {K : PySem.W.Frag}
open Classical in
noncomputable def kz (zs : List (V × Pt)) (x : V) : Pt := if h : ∃ p, (x, p) ∈ zs then Classical.choose h else (0, 0)
theorem kz_is {zs : List (V × Pt)} {x : V} {p : Pt} (hu : ∀ q, (x, q) ∈ zs → q = p) (hm : (x, p) ∈ zs) : kz zs x = p := by
  unfold kz
  have h : ∃ p, (x, p) ∈ zs := ⟨p, hm⟩
  rw [dif_pos h]
  exact hu _ (Classical.choose_spec h)
def rSrtP (K : PySem.W.Frag) : List V → Hp → VK → Prop := fun vs H Q => ∃ (a : Addr) (zs : List (V × Pt)), vs = [V.ref a] ∧ SqL K H a (zs.map Prod.fst) ∧ (∀ z ∈ zs, ∃ t, z.1 = V.ref t ∧ SqT K H t [.int z.2.1, .int z.2.2]) ∧
  ∀ (ws : List (V × Pt)) (p : Addr), ws.Perm zs → (ws.map Prod.snd).Pairwise lexLe → H p = none → Q (.ref p) (upd H p (.lst (ws.map Prod.fst)))
theorem k_sortP {X : Cx} (hK : X.K = K) : CallR X (.builtin "sorted") (rSrtP K) := by
  subst hK
  intro pins s σ H vs us Q I r h
  obtain ⟨a, zs, rfl, hs, hx, q⟩ := h
  obtain ⟨its, rv, hl, hz⟩ := I.list hs
  obtain ⟨u, rfl, ru⟩ := vals1 r
  obtain rfl : u = Value.ref a := ru
  have hk : ∀ z ∈ zs, kz zs z.1 = z.2 := fun z hm => kz_is (fun p' hq => by
    obtain ⟨t, e, ht⟩ := hx z hm
    obtain ⟨t', e', ht'⟩ := hx _ hq
    rw [e] at e'
    cases e'
    have := I.tuple_inj ht ht'
    simp only [List.cons.injEq, V.int.injEq, and_true] at this
    exact Prod.ext this.1.symm this.2.symm) hm
  have hxs : ∀ x ∈ zs.map Prod.fst, ∃ t, x = V.ref t ∧ SqT X.K H t [.int (kz zs x).1, .int (kz zs x).2] := fun x hm => by
    obtain ⟨z, hz', rfl⟩ := List.mem_map.mp hm
    obtain ⟨t, e, ht⟩ := hx z hz'
    exact ⟨t, e, by rw [hk z hz']; exact ht⟩
  obtain ⟨e1, e2⟩ := refs_back rv fun x m => by
    obtain ⟨t, e, _⟩ := hxs x m
    exact ⟨t, e⟩
  refine SrtO.sorted_pairsO (k := fun u => kz zs (backV u)) hl.isList (by rw [← rv.length]; exact hz) (fun v hv => ?_) fun h' d out h1 h2 kp hd hn => ?_
  · obtain ⟨t, rfl⟩ := e2 v hv
    have hm : V.ref t ∈ zs.map Prod.fst := by rw [e1]; exact List.mem_map.mpr ⟨_, hv, rfl⟩
    obtain ⟨t', e, ht⟩ := hxs _ hm
    cases e
    obtain ⟨its2, r2, ⟨o, ho, hc, n, hd⟩, _⟩ := I.tuple ht
    obtain ⟨u1, u2, rfl, ri, rj⟩ := vals2 r2
    obtain ⟨t1, rfl⟩ := ri
    obtain ⟨t2, rfl⟩ := rj
    exact ⟨t, o, t1, t2, n, rfl, ho, hc, hd⟩
  · have h3 : ∀ u ∈ out, ∃ a, u = Value.ref a := fun u hu => e2 u (h2.perm.mem_iff.mp hu)
    obtain ⟨n, hn⟩ := hn
    have hb : SrtO.Stb (ltP (kz zs)) (out.map backV) (zs.map Prod.fst) := by
      rw [e1]
      exact SrtO.Stb.map (ltP_swo (kz zs)) backV h2
    have hw : ((out.map backV).map fun y => (y, kz zs y)).Perm zs := by
      have e3 : (zs.map Prod.fst).map (fun y => (y, kz zs y)) = zs := by
        rw [List.map_map]
        conv => rhs; rw [← List.map_id zs]
        exact List.map_congr_left fun z hz' => by
          show (z.1, kz zs z.1) = z
          rw [hk z hz']
      have := hb.perm.map fun y => (y, kz zs y)
      rw [e3] at this
      exact this
    have hf : ((out.map backV).map fun y => (y, kz zs y)).map Prod.fst = out.map backV := by
      rw [List.map_map]
      exact List.map_id _
    refine ⟨.ref d, upd H d (.lst (out.map backV)), I.laid (t' := s.toks) kp hd ⟨?_, out, n, vals_back h3, hn⟩, rfl, ?_⟩
    · rw [hb.len]
      exact hz
    · have := q _ d hw ?_ (I.hok.fresh hd)
      · rw [hf] at this
        exact this
      · have hs2 := SrtO.srtd_map (lt := ltP (kz zs)) (f := backV) h1
        rw [List.map_map, List.pairwise_map]
        refine List.Pairwise.imp (fun {a b} h => ?_) hs2
        have := SrtO.lexB_no.mp h
        show lexLe (kz zs a) (kz zs b)
        unfold lexLe
        omega
def aSrtP : List D → Nat → (D → Nat → Prop) → Prop := fun ds n Q => ∃ ps : List Pt, ds = [.lst (ps.map pt)] ∧ ∀ rs : List Pt, rs.Perm ps → rs.Pairwise lexLe → Q (.lst (rs.map pt)) n
theorem pts_zip {W : Wd} {H : Hp} : ∀ {ps : List Pt} {us : List V}, AtAll K W H us (ps.map pt) → ∃ zs : List (V × Pt), zs.map Prod.fst = us ∧ zs.map Prod.snd = ps ∧ ∀ z ∈ zs, (∃ t, z.1 = V.ref t ∧ SqT K H t [.int z.2.1, .int z.2.2]) ∧ At K W H z.1 (pt z.2)
  | [], _, h => by cases h; exact ⟨[], rfl, rfl, fun z hz => by cases hz⟩
  | p :: ps, _, h => by
    cases h with
    | @cons v vs _ _ a r =>
      obtain ⟨zs, h1, h2, h3⟩ := pts_zip r
      refine ⟨(v, p) :: zs, by rw [List.map_cons, h1], by rw [List.map_cons, h2], fun z hz => ?_⟩
      rcases List.mem_cons.mp hz with rfl | hz
      · refine ⟨?_, a⟩
        cases a with
        | tup s a =>
          cases a with
          | cons a b =>
            cases b with
            | cons b c =>
              cases a
              cases b
              cases c
              exact ⟨_, rfl, s⟩
      · exact h3 z hz
theorem zip_at {W : Wd} {H : Hp} : ∀ {ws : List (V × Pt)}, (∀ z ∈ ws, At K W H z.1 (pt z.2)) → AtAll K W H (ws.map Prod.fst) ((ws.map Prod.snd).map pt)
  | [], _ => .nil
  | w :: ws, h => .cons (h w List.mem_cons_self) (zip_at fun z hz => h z (List.mem_cons_of_mem _ hz))
instance : DL K (rSrtP K) aSrtP := ⟨fun W n H xs ds Q Qa hQ o a h => by
  obtain ⟨ps, rfl, h⟩ := h
  cases a with
  | cons a r =>
    cases r
    cases a with
    | @lst l us _ nr s a =>
      obtain ⟨zs, h1, h2, h3⟩ := pts_zip a
      subst h1 h2
      refine ⟨l, zs, rfl, SqL.of s, fun z hz => (h3 z hz).1, fun ws p hp hpw hn => hQ.new o (h (ws.map Prod.snd) (hp.map _) hpw) hn ?_⟩
      exact .lst (o.fresh hn) upd_same (AtAll.le o (Wd.le_same (same_upd hn)) _ (zip_at fun z hz => (h3 z (hp.mem_iff.mp hz)).2))⟩
/-! texts -/
def rSrtS (K : PySem.W.Frag) : List V → Hp → VK → Prop := rSortedS K
theorem k_sortS {X : Cx} (hK : X.K = K) : CallR X (.builtin "sorted") (rSrtS K) := hK ▸ cr_sortedS
end

/-! ### sorted rows: tuples whose first items are texts, no two alike -/
section
open PySem PyProof.Rows Srt SrtO
def ltS (a b : Str) : Bool := decide (a.cps.toList < b.cps.toList)
theorem ltS_swo {α : Type} (k : α → Str) : Swo fun x y => ltS (k x) (k y) := by
  refine ⟨fun x y h => ?_, fun x y z h1 h2 => ?_⟩
  · exact decide_eq_false (List.lt_asymm (of_decide_eq_true h))
  · have a : (k x).cps.toList ≤ (k y).cps.toList := of_decide_eq_false h1
    have b : (k y).cps.toList ≤ (k z).cps.toList := of_decide_eq_false h2
    exact decide_eq_false (List.le_trans a b)
def IsRow (h : Heap) (v : Value) (nm : Str) : Prop := ∃ (a : Addr) (o : Obj) (t : Tok) (r : List Value) (n : Nat), v = .ref a ∧ h.get? a = some o ∧ o.cls = .type "tuple" ∧ o.data = .seq (Value.str nm t :: r).toArray n
theorem IsRow.keeps {h h' : Heap} {v : Value} {nm : Str} (H : IsRow h v nm) (k : ∀ b o, h.get? b = some o → o.cls = .type "tuple" → h'.get? b = some o) : IsRow h' v nm := by
  obtain ⟨a, o, t, r, n, e, ho, hc, hd⟩ := H
  exact ⟨a, o, t, r, n, e, k _ _ ho hc, hc, hd⟩
variable {prog : Program} {w : World} {A : Around} {E : Value → Shared → Prop} {s : Shared}
theorem kat_same {b : Bool} {Q : Bool → Shared → Prop} (h : Q false s) : ∀ (l : List Value) (i : Nat), PySem.W.KatLex prog w A b false Q (l.zip l) i s
  | [], i => PySem.W.kat_nil h
  | v :: l, i => PySem.W.kat_cons (SeqAt.EqAt.same v prog w _ _ (PySem.W.kat_yes (kat_same h l (i + 1))))
theorem row_cmp {vs : List Value} {k : Value → Str} (hp : ∀ v ∈ vs, IsRow s.heap v (k v)) (hd : ∀ v ∈ vs, ∀ u ∈ vs, k v = k u → v = u) : Cmp prog w A s (tuples' true) (fun p => p.1 ∈ vs) (lt2 fun v u => ltS (k v) (k u)) := by
  intro p q hm hm'
  have h1 := hp _ hm
  have h2 := hp _ hm'
  show wpAny (model prog w) A (keyLt' (tuples' true) p.1 q.1) (fun r s' => s' = s ∧ r = ltS (k p.1) (k q.1)) (fun _ _ => False) s
  by_cases e : k p.1 = k q.1
  · have e2 := hd _ hm _ hm' e
    rw [← e2]
    obtain ⟨a, o, t, r, n, e1, ho, hc, hd1⟩ := h1
    generalize k p.1 = nm at *
    rw [e1]
    refine PySem.W.kat_lt ho hd1 ho hd1 ?_
    have e5 : decide ((Value.str nm t :: r).toArray.size < (Value.str nm t :: r).toArray.size) = false := decide_eq_false (Nat.lt_irrefl _)
    rw [e5]
    exact kat_same ⟨rfl, ((ltS_swo id).refl nm).symm⟩ _ 0
  · obtain ⟨a, o, t, r, n, e1, ho, hc, hd1⟩ := h1
    obtain ⟨a', o', t', r', n', e1', ho', hc', hd1'⟩ := h2
    generalize k p.1 = nm at *
    generalize k q.1 = nm' at *
    rw [e1, e1']
    refine PySem.W.kat_lt ho hd1 ho' hd1' ?_
    refine PySem.W.kat_cons (SeqAt.EqAt.str_str nm t nm' t' prog w _ _ ?_)
    have e4 : (nm == nm') = false := by simpa using e
    rw [e4]
    exact PySem.W.kat_no (oneLt_str ⟨rfl, rfl⟩)
theorem row_firsts {h : Heap} : ∀ {vs : List Value}, (∀ v ∈ vs, ∃ nm, IsRow h v nm) → ∃ fs, PySem.W.KatTups h vs fs ∧ fs.length = vs.length ∧ ∀ f ∈ fs, ∃ nm t, f = Value.str nm t
  | [], _ => ⟨[], .nil, rfl, fun f hf => by cases hf⟩
  | v :: vs, H => by
    obtain ⟨fs, h1, h2, h3⟩ := row_firsts (vs := vs) fun u hu => H u (List.mem_cons_of_mem _ hu)
    obtain ⟨nm, a, o, t, r, n, rfl, ho, hc, hd⟩ := H v List.mem_cons_self
    refine ⟨.str nm t :: fs, .cons ho hc hd rfl h1, by rw [List.length_cons, List.length_cons, h2], fun f hf => ?_⟩
    rcases List.mem_cons.mp hf with rfl | hf
    · exact ⟨nm, t, rfl⟩
    · exact h3 f hf
theorem rows_sortable {a : Addr} {vs : List Value} {k : Value → Str} (h0 : 0 < vs.length) (hp : ∀ v ∈ vs, IsRow s.heap v (k v)) (hd : ∀ v ∈ vs, ∀ u ∈ vs, k v = k u → v = u) (ha : ∀ o, s.heap.get? a = some o → o.cls ≠ .type "tuple") : SortableO prog w A s a vs fun v u => ltS (k v) (k u) := by
  intro h' keep
  have hp' : ∀ v ∈ vs, IsRow h' v (k v) := fun v hm => (hp v hm).keeps fun b o e c => keep b o (fun z => by subst z; exact ha o e c) e
  obtain ⟨fs, h1, h2, h3⟩ := row_firsts fun v hm => ⟨_, hp' v hm⟩
  refine ⟨tuples' true, fun Q E hq => ?_, row_cmp hp' hd⟩
  refine PySem.W.kat_kind (T := .type "str") h1 (by omega) (fun f hm => ?_) (by rfl) ?_
  · obtain ⟨x, t, rfl⟩ := h3 f hm
    exact PySem.W.Looks.now
  · have e : (Value.type "str" != Value.type "tuple") = true := by first | decide +kernel | rfl | decide
    rw [e]
    exact hq
theorem sorted_rows {l : Addr} {vs : List Value} {k : Value → Str} {Q : Value → Shared → Prop} (hl : s.heap.IsList l vs.toArray) (hz : vs.length ≤ sizeLine) (hp : ∀ v ∈ vs, IsRow s.heap v (k v)) (hd : ∀ v ∈ vs, ∀ u ∈ vs, k v = k u → v = u)
    (h : ∀ (h' : Heap) (d : Addr) (out : List Value), Srtd (fun v u => ltS (k v) (k u)) out → Stb (fun v u => ltS (k v) (k u)) out vs → (∀ b o, s.heap.get? b = some o → h'.get? b = some o) → s.heap.objs.size ≤ d → (∃ n, h'.get? d = some (seqObj "list" out.toArray n)) → Q (.ref d) { s with heap := h' }) :
    wpAny (model prog w) A (call (.builtin "sorted") [.ref l]) Q E s := by
  refine sorted_ord (ltS_swo k) hl hz (fun h2 h₁ a ha kk => ?_) fun out hs hb => ?_
  · refine rows_sortable (s := { s with heap := h₁ }) (by omega) (fun v hm => (hp v hm).keeps fun b o e _ => (kk b o e).2) hd fun o e => ?_
    have e' : some o = some (seqObj "list" vs.toArray 0) := e.symm.trans ha
    cases e'
    intro c
    exact absurd (Value.type.inj c) (by decide)
  · exact h _ _ out hs hb (fun b o e => sortedAll_old e) (Nat.le_succ _) (sortedAll_at s.heap vs out.toArray)
end
section
variable {K : PySem.W.Frag}
abbrev Rw := Str × List D
def rowT (r : Rw) : D := .tup (.str r.1 :: r.2)
open Classical in
noncomputable def kr (zs : List (V × Rw)) (x : V) : Rw := if h : ∃ p, (x, p) ∈ zs then Classical.choose h else (Str.ofString "", [])
theorem nodup_inj {α β : Type} {f : α → β} : ∀ {l : List α}, (l.map f).Nodup → ∀ x ∈ l, ∀ y ∈ l, f x = f y → x = y
  | [], _, x, hx, _, _, _ => by cases hx
  | a :: l, h, x, hx, y, hy, e => by
    rw [List.map_cons, List.nodup_cons] at h
    rcases List.mem_cons.mp hx with e1 | h1
    · rcases List.mem_cons.mp hy with e2 | h2
      · rw [e1, e2]
      · exact absurd (List.mem_map.mpr ⟨y, h2, by rw [← e, e1]⟩) h.1
    · rcases List.mem_cons.mp hy with e2 | h2
      · exact absurd (List.mem_map.mpr ⟨x, h1, by rw [e, e2]⟩) h.1
      · exact nodup_inj h.2 x h1 y h2 e
def rSrtR (K : PySem.W.Frag) : List V → Hp → VK → Prop := fun vs H Q => ∃ (a : Addr) (zs : List (V × Rw)), vs = [V.ref a] ∧ SqL K H a (zs.map Prod.fst) ∧ (∀ z ∈ zs, ∃ t r, z.1 = V.ref t ∧ SqT K H t (.str z.2.1 :: r)) ∧ (zs.map fun z => z.2.1).Nodup ∧
  ∀ (ws : List (V × Rw)) (p : Addr), ws.Perm zs → ws.Pairwise (fun x y => ltS y.2.1 x.2.1 = false) → H p = none → Q (.ref p) (upd H p (.lst (ws.map Prod.fst)))
theorem k_sortR {X : Cx} (hK : X.K = K) : CallR X (.builtin "sorted") (rSrtR K) := by
  subst hK
  intro pins s σ H vs us Q I r h
  obtain ⟨a, zs, rfl, hs, hx, hnd, q⟩ := h
  obtain ⟨its, rv, hl, hz⟩ := I.list hs
  obtain ⟨u, rfl, ru⟩ := vals1 r
  obtain rfl : u = Value.ref a := ru
  have hk : ∀ z ∈ zs, kr zs z.1 = z.2 := fun z hm => by
    have h : ∃ p, (z.1, p) ∈ zs := ⟨z.2, hm⟩
    unfold kr
    rw [dif_pos h]
    have hq := Classical.choose_spec h
    obtain ⟨t, r, e, ht⟩ := hx z hm
    obtain ⟨t', r', e', ht'⟩ := hx _ hq
    rw [e] at e'
    cases e'
    have := I.tuple_inj ht ht'
    have e2 : z.2.1 = (Classical.choose h).1 := by
      have := (List.cons.inj this).1
      exact V.str.inj this
    have e3 := nodup_inj hnd _ hq z hm e2.symm
    exact congrArg Prod.snd e3
  have hxs : ∀ x ∈ zs.map Prod.fst, ∃ t r, x = V.ref t ∧ SqT X.K H t (.str (kr zs x).1 :: r) := fun x hm => by
    obtain ⟨z, hz', rfl⟩ := List.mem_map.mp hm
    obtain ⟨t, r, e, ht⟩ := hx z hz'
    exact ⟨t, r, e, by rw [hk z hz']; exact ht⟩
  obtain ⟨e1, e2⟩ := refs_back rv fun x m => by
    obtain ⟨t, r, e, _⟩ := hxs x m
    exact ⟨t, e⟩
  refine sorted_rows (k := fun u => (kr zs (backV u)).1) hl.isList (by rw [← rv.length]; exact hz) (fun v hv => ?_) (fun v hv u hu e => ?_) fun h' d out h1 h2 kp hd hn => ?_
  · obtain ⟨t, rfl⟩ := e2 v hv
    have hm : V.ref t ∈ zs.map Prod.fst := by rw [e1]; exact List.mem_map.mpr ⟨_, hv, rfl⟩
    obtain ⟨t', r, e, ht⟩ := hxs _ hm
    cases e
    obtain ⟨its2, r2, ⟨o, ho, hc, n, hd⟩, _⟩ := I.tuple ht
    cases r2 with
    | cons ri rr =>
      obtain ⟨t1, rfl⟩ := ri
      exact ⟨t, o, t1, _, n, rfl, ho, hc, hd⟩
  · obtain ⟨t, rfl⟩ := e2 v hv
    obtain ⟨t', rfl⟩ := e2 u hu
    have hm : V.ref t ∈ zs.map Prod.fst := by rw [e1]; exact List.mem_map.mpr ⟨_, hv, rfl⟩
    have hm' : V.ref t' ∈ zs.map Prod.fst := by rw [e1]; exact List.mem_map.mpr ⟨_, hu, rfl⟩
    obtain ⟨z, hz1, ez⟩ := List.mem_map.mp hm
    obtain ⟨z', hz1', ez'⟩ := List.mem_map.mp hm'
    have e' : (kr zs (V.ref t)).1 = (kr zs (V.ref t')).1 := e
    rw [← ez, ← ez', hk z hz1, hk z' hz1'] at e'
    have e3 := nodup_inj hnd z hz1 z' hz1' e'
    rw [e3, ez'] at ez
    cases ez
    rfl
  · have h3 : ∀ u ∈ out, ∃ a, u = Value.ref a := fun u hu => e2 u (h2.perm.mem_iff.mp hu)
    obtain ⟨n, hn⟩ := hn
    have hb : SrtO.Stb (fun x y => ltS (kr zs x).1 (kr zs y).1) (out.map backV) (zs.map Prod.fst) := by
      rw [e1]
      exact SrtO.Stb.map (ltS_swo fun x => (kr zs x).1) backV h2
    have hw : ((out.map backV).map fun y => (y, kr zs y)).Perm zs := by
      have e3 : (zs.map Prod.fst).map (fun y => (y, kr zs y)) = zs := by
        rw [List.map_map]
        conv => rhs; rw [← List.map_id zs]
        exact List.map_congr_left fun z hz' => by
          show (z.1, kr zs z.1) = z
          rw [hk z hz']
      have := hb.perm.map fun y => (y, kr zs y)
      rw [e3] at this
      exact this
    have hf : ((out.map backV).map fun y => (y, kr zs y)).map Prod.fst = out.map backV := by
      rw [List.map_map]
      exact List.map_id _
    refine ⟨.ref d, upd H d (.lst (out.map backV)), I.laid (t' := s.toks) kp hd ⟨?_, out, n, vals_back h3, hn⟩, rfl, ?_⟩
    · rw [hb.len]
      exact hz
    · have := q _ d hw ?_ (I.hok.fresh hd)
      · rw [hf] at this
        exact this
      · have hs2 := SrtO.srtd_map (lt := fun x y => ltS (kr zs x).1 (kr zs y).1) (f := backV) h1
        rw [List.pairwise_map]
        exact List.Pairwise.imp (fun {a b} h => h) hs2
def aSrtR : List D → Nat → (D → Nat → Prop) → Prop := fun ds n Q => ∃ ps : List Rw, ds = [.lst (ps.map rowT)] ∧ (ps.map Prod.fst).Nodup ∧ ∀ rs : List Rw, rs.Perm ps → rs.Pairwise (fun x y => ltS y.1 x.1 = false) → Q (.lst (rs.map rowT)) n
theorem rws_zip {W : Wd} {H : Hp} : ∀ {ps : List Rw} {us : List V}, AtAll K W H us (ps.map rowT) → ∃ zs : List (V × Rw), zs.map Prod.fst = us ∧ zs.map Prod.snd = ps ∧ ∀ z ∈ zs, (∃ t r, z.1 = V.ref t ∧ SqT K H t (.str z.2.1 :: r)) ∧ At K W H z.1 (rowT z.2)
  | [], _, h => by cases h; exact ⟨[], rfl, rfl, fun z hz => by cases hz⟩
  | p :: ps, _, h => by
    cases h with
    | @cons v vs _ _ a r =>
      obtain ⟨zs, h1, h2, h3⟩ := rws_zip r
      refine ⟨(v, p) :: zs, by rw [List.map_cons, h1], by rw [List.map_cons, h2], fun z hz => ?_⟩
      rcases List.mem_cons.mp hz with rfl | hz
      · refine ⟨?_, a⟩
        cases a with
        | tup s a =>
          cases a with
          | cons a b =>
            cases a
            exact ⟨_, _, rfl, s⟩
      · exact h3 z hz
theorem rzip_at {W : Wd} {H : Hp} : ∀ {ws : List (V × Rw)}, (∀ z ∈ ws, At K W H z.1 (rowT z.2)) → AtAll K W H (ws.map Prod.fst) ((ws.map Prod.snd).map rowT)
  | [], _ => .nil
  | w :: ws, h => .cons (h w List.mem_cons_self) (rzip_at fun z hz => h z (List.mem_cons_of_mem _ hz))
instance : DL K (rSrtR K) aSrtR := ⟨fun W n H xs ds Q Qa hQ o a h => by
  obtain ⟨ps, rfl, hnd, h⟩ := h
  cases a with
  | cons a r =>
    cases r
    cases a with
    | @lst l us _ nr s a =>
      obtain ⟨zs, h1, h2, h3⟩ := rws_zip a
      subst h1 h2
      refine ⟨l, zs, rfl, SqL.of s, fun z hz => (h3 z hz).1, by rw [List.map_map] at hnd; exact hnd, fun ws p hp hpw hn => hQ.new o (h (ws.map Prod.snd) (hp.map _) (List.pairwise_map.mpr hpw)) hn ?_⟩
      exact .lst (o.fresh hn) upd_same (AtAll.le o (Wd.le_same (same_upd hn)) _ (rzip_at fun z hz => (h3 z (hp.mem_iff.mp hz)).2))⟩
end

/-! ### loops in the mirror -/
section
theorem aFor_ind {ow : List Nat} {G : D → Option (List (Nat × D))} {f : AS} {E : AEn} (I : List D → Env' → Nat → Prop)
    (hs : ∀ d r ρ n, I (d :: r) ρ n → (∀ ρ' n', I r ρ' n' → aForGo ow G f E r ρ' n') → aPut ow G d ρ fun ρ1 => f { E with nx := aForGo ow G f E r, ct := aForGo ow G f E r, bk := E.nx } ρ1 n)
    (hd : ∀ ρ n, I [] ρ n → E.nx ρ n) : ∀ {ds : List D} {ρ : Env'} {n : Nat}, I ds ρ n → aForGo ow G f E ds ρ n
  | [], ρ, n, h => hd ρ n h
  | d :: r, ρ, n, h => hs d r ρ n h fun ρ' n' h' => aFor_ind I hs hd h'
theorem aLc_ind {vs : List Nat} {G : D → Option (List (Nat × D))} {c : AT} {e : AE} {ρ : Env'} {Q : D → Nat → Prop} (I : List D → List D → Nat → Prop)
    (hs : ∀ acc d r n, I acc (d :: r) n → (∀ acc' n', I acc' r n' → aLcGo vs G c e ρ Q acc' r n') → aPutC vs G d ρ fun ρ1 => c ρ1 n fun b n2 => aIte b (e ρ1 n2 fun y n3 => aLcGo vs G c e ρ Q (acc ++ [y]) r n3) (aLcGo vs G c e ρ Q acc r n2))
    (hd : ∀ acc n, I acc [] n → Q (.lst acc) n) : ∀ {acc ds : List D} {n : Nat}, I acc ds n → aLcGo vs G c e ρ Q acc ds n
  | acc, [], n, h => hd acc n h
  | acc, d :: r, n, h => hs acc d r n h fun acc' n' h' => aLc_ind I hs hd h'
theorem rangeD_map (lo : Int) : ∀ k, rangeD lo k = (List.range' 0 k).map fun i => D.int (lo + (i : Nat)) := by
  have : ∀ k s, rangeD (lo + (s : Nat)) k = (List.range' s k).map fun i => D.int (lo + (i : Nat)) := fun k => by
    induction k with
    | zero => intro s; rfl
    | succ k ih =>
      intro s
      rw [List.range'_succ, List.map_cons, rangeD, ← ih (s + 1)]
      congr 2
      omega
  intro k
  have := this k 0
  rw [Int.natCast_zero, Int.add_zero] at this
  exact this
theorem pick_at {α : Type} {xs : List α} {r : Int} (h0 : 0 ≤ r) (h1 : r < xs.length) : ∃ x, x ∈ xs ∧ atI xs r = some x := by
  obtain ⟨k, rfl⟩ := Int.eq_ofNat_of_zero_le h0
  have hk : k < xs.length := by omega
  exact ⟨xs[k], List.getElem_mem hk, atI_nat (List.getElem?_eq_getElem hk)⟩
end

/-! ### objects in the mirror -/
section
variable {K : PySem.W.Frag}
def aMeth (C : Addr) (m : Str) (k : Nat) (A : ASp) (fa : AE) (g : AA) : AE := fun ρ n Q => fa ρ n fun x n1 => match x with
  | .ins C' ns ds => (C' = C ∧ m ∉ ns) ∧ g ρ n1 fun args n2 => (match Nat.beq (args.length + 1) k with
    | true => A (.ins C' ns ds :: args) n2 Q
    | false => False)
  | _ => False
theorem zip_no {m : Str} : ∀ {ns : List Str} {xs : List V}, m ∉ ns → (ns.zip xs).lookup m = none
  | [], _, _ => rfl
  | _ :: _, [], _ => rfl
  | n :: ns, x :: xs, h => by
    rw [List.zip_cons_cons, List.lookup_cons]
    have : (m == n) = false := beq_eq_false_iff_ne.mpr fun z => h (by rw [z]; exact List.mem_cons_self)
    rw [this]
    exact zip_no fun z => h (List.mem_cons_of_mem _ z)
instance {C : Addr} {m : Str} {k : Nat} {A : ASp} {ta : TE} {t : TA} {fa : AE} {g : AA} [DE K ta fa] [DA K t g] : DE K (tMeth C m (spOf K k A) [] E0 ta t) (aMeth C m k A fa g) := ⟨fun W σ ρ n H Q Qa hQ hE o h =>
  DE.run (te := ta) (f := fa) W σ ρ n H _ _ (fun d n1 h1 H1 x l1 o1 ax => by
    split at h1
    · obtain ⟨⟨rfl, hm⟩, h1⟩ := h1
      cases ax with
      | @ins a _ dx ns xs ds s e b =>
        refine ⟨_, _, _, rfl, s, zip_no hm, DA.run (te := t) (f := g) W σ ρ n1 H1 _ _ (fun args n2 h2 H2 vs l2 o2 av => ?_) (hE.le o l1) o1 h1⟩
        rw [List.append_nil]
        split at h2
        · rename_i hb
          exact ⟨W, n2, _, Qa, .cons (At.le o1 l2 _ (.ins s e b)) av, Nat.eq_of_beq_eq_true hb, o2, hQ.le (l1.trans l2), h2⟩
        · exact h2.elim
    · exact h1.elim) hE o h⟩
/-- a method of an object whose class is one of several -/
inductive Kd where
  | w | f | r
def tDyn (K : PySem.W.Frag) (cls : Kd → Addr) (m : Str) (k : Nat) (A : Kd → ASp) (ta : TE) (t : TA) : TE := fun σ H Q => ∃ kd, tMeth (cls kd) m (spOf K k (A kd)) [] E0 ta t σ H Q
theorem k_dyn {X : Cx} {e : Expr} {cls : Kd → Addr} {m : Str} {k : Nat} {A : Kd → ASp} {ta : TE} {t : TA} (hw : PE X e (tMeth (cls .w) m (spOf K k (A .w)) [] E0 ta t)) (hf : PE X e (tMeth (cls .f) m (spOf K k (A .f)) [] E0 ta t)) (hr : PE X e (tMeth (cls .r) m (spOf K k (A .r)) [] E0 ta t)) : PE X e (tDyn K cls m k A ta t) :=
  ⟨fun pins s σ H Q I ⟨kd, h⟩ => match kd, h with
    | .w, h => hw.run pins s σ H Q I h
    | .f, h => hf.run pins s σ H Q I h
    | .r, h => hr.run pins s σ H Q I h⟩
def aDyn (cls : Kd → Addr) (m : Str) (k : Nat) (A : Kd → ASp) (fa : AE) (g : AA) : AE := fun ρ n Q => ∃ kd, aMeth (cls kd) m k (A kd) fa g ρ n Q
instance {cls : Kd → Addr} {m : Str} {k : Nat} {A : Kd → ASp} {ta : TE} {t : TA} {fa : AE} {g : AA} [DE K ta fa] [DA K t g] : DE K (tDyn K cls m k A ta t) (aDyn cls m k A fa g) := ⟨fun W σ ρ n H Q Qa hQ hE o h => by
  obtain ⟨kd, h⟩ := h
  exact ⟨kd, DE.run (K := K) (te := tMeth (cls kd) m (spOf K k (A kd)) [] E0 ta t) (f := aMeth (cls kd) m k (A kd) fa g) W σ ρ n H Q Qa hQ hE o h⟩⟩
end

/-! ### str(..) of an object with its own text -/
section
variable {K : PySem.W.Frag}
def rStrOwn (C : Addr) (sp : Sp) (E : XK) : List V → Hp → VK → Prop := fun xs H Q => ∃ (a dx : Addr) (fs : List (Str × V)), xs = [.ref a] ∧ H a = some (.ins C dx fs) ∧ sp [.ref a] H (fun v H' => (∃ y, v = .str y) ∧ Q v H') E
theorem call_strOwn {X : Cx} {CX : CXT} {C f : Addr} {fd : FuncData} {ps : List Str} {sp : Sp} {E : XK} {k : Nat} (m : Meth X.K C "__str__" f) (F : FnOk X.prog X.w X.K X.mg X.base CX k f fd ps sp) (hr : Room (k + 2) X.A) (hb : Binds X.K fd ps []) (hx : Passes CX X E) : CallR X (.type "str") (rStrOwn C sp E) := by
  intro pins s σ H xs us Q I r h
  obtain ⟨a, dx, fs, rfl, ha, hsp⟩ := h
  cases r with
  | cons r1 r2 =>
  cases r2
  cases r1
  obtain ⟨mA, J, _⟩ := ins_get I.hok ha
  obtain ⟨od, J, _⟩ := J.look
  have room : Room k X.A.in1.in1 := hr.in1.in1
  refine PySem.W.kso_call room.units0 I.kIn J m.at_ m.fn ?_
  have e0 : Env0 X.prog X.w X.K X.mg X.base X.A.in1.in1 X.stack s H := by
    have e := I.env0
    exact ⟨e.frames, e.mod, e.bs, e.bsz, e.funs, e.frf, e.hok, e.bare⟩
  have hl := F.len _ _ _ _ hsp
  have rr : Vals [V.ref a] [Value.ref a] := .cons rfl .nil
  refine wpAny_call (codeAny_mono (F.run X.A.in1.in1 X.stack s H ⟨[.ref a], []⟩ [.ref a] [.ref a] _ E room e0 (by
    have := hb s [.ref a] I.kIn (by simpa using hl)
    simpa using this) rr hsp) fun r s' hq => ?_)
  cases r with
  | error e => exact hx pins σ H s e s' I hq
  | ok fl =>
    cases fl with
    | ret w =>
      obtain ⟨z, H', I', rz, ⟨y, ez⟩, q⟩ := I.after hq
      subst ez
      obtain ⟨t, rfl⟩ := rz
      exact ⟨.str y, H', I', ⟨t, rfl⟩, q⟩
    | next => exact False.elim hq
    | brk => exact False.elim hq
    | cont => exact False.elim hq
def rStrD (K : PySem.W.Frag) (cls : Kd → Addr) (B : Kd → ASp) : List V → Hp → VK → Prop := fun xs H Q => ∃ kd : Kd, rStrOwn (cls kd) (spOf K 1 (B kd)) E0 xs H Q
theorem k_strD {X : Cx} {cls : Kd → Addr} {B : Kd → ASp} (hw : CallR X (.type "str") (rStrOwn (cls .w) (spOf K 1 (B .w)) E0)) (hf : CallR X (.type "str") (rStrOwn (cls .f) (spOf K 1 (B .f)) E0)) (hr : CallR X (.type "str") (rStrOwn (cls .r) (spOf K 1 (B .r)) E0)) : CallR X (.type "str") (rStrD K cls B) := fun pins s σ H xs us Q I r ⟨kd, h⟩ => match kd, h with
  | .w, h => hw pins s σ H xs us Q I r h
  | .f, h => hf pins s σ H xs us Q I r h
  | .r, h => hr pins s σ H xs us Q I r h
def aStrD (cls : Kd → Addr) (B : Kd → ASp) : List D → Nat → (D → Nat → Prop) → Prop := fun ds n Q => ∃ (kd : Kd) (ns : List Str) (es : List D), ds = [.ins (cls kd) ns es] ∧ B kd ds n fun d n' => (∃ y, d = .str y) ∧ Q d n'
instance {cls : Kd → Addr} {B : Kd → ASp} : DL K (rStrD K cls B) (aStrD cls B) := ⟨fun W n H xs ds Q Qa hQ o a h => by
  obtain ⟨kd, ns, es, rfl, h⟩ := h
  cases a with
  | cons a r =>
    cases r
    cases a with
    | @ins b _ dx _ ys _ s e c =>
      refine ⟨kd, b, dx, _, rfl, s, W, n, _, _, .cons (.ins s e c) .nil, rfl, o, ?_, h⟩
      rintro d n' ⟨⟨y, rfl⟩, q⟩ H' v l o' av
      cases av
      exact ⟨⟨y, rfl⟩, hQ _ _ q H' _ l o' (.str y)⟩⟩
end
/-! ### f-strings -/
section
variable {K : PySem.W.Frag}
def tJoined (ts : List TE) : TE := fun σ H Q => tJs ts Str.empty σ H fun out H1 => Q (.str out) H1
theorem k_fstr {X : Cx} {v1 v2 : Expr} {rest : List Expr} {ts : List TE} {pos : Pos} (h : PJ X (v1 :: v2 :: rest) ts) : PE X (.JoinedStr (v1 :: v2 :: rest) pos) (tJoined ts) := pe_joined h
def aFmt (f : AE) : AE := fun ρ n Q => f ρ n fun d n1 => match d with
  | .str y => y.length ≤ 1000000 ∧ Q (.str y) n1
  | .int i => i.natAbs.log2 < 1920 ∧ Q (.str (toString i)) n1
  | _ => False
instance {te : TE} {f : AE} [DE K te f] : DE K (tFmt te) (aFmt f) := ⟨fun W σ ρ n H Q Qa hQ hE o h =>
  DE.run (te := te) (f := f) W σ ρ n H _ _ (fun d n1 h1 H1 x l1 o1 ax => by
    split at h1
    · cases ax
      exact .inl ⟨_, rfl, Nat.le_trans h1.1 lim, (hQ.le l1).now o1 h1.2 (.str _)⟩
    · cases ax
      exact .inr ⟨_, rfl, h1.1, (hQ.le l1).now o1 h1.2 (.str _)⟩
    · exact h1.elim) hE o h⟩
def aJs : List AE → Str → Env' → Nat → (D → Nat → Prop) → Prop
  | [], acc, _, n, Q => Q (.str acc) n
  | f :: fs, acc, ρ, n, Q => f ρ n fun d n1 => match d with
    | .str y => (acc ++ y).length ≤ 1000000 ∧ aJs fs (acc ++ y) ρ n1 Q
    | _ => False
class DJ (K : PySem.W.Frag) (ts : List TE) (fs : outParam (List AE)) : Prop where
  run : ∀ (W : Wd) (σ : L2.St) (ρ : Env') (acc : Str) (n : Nat) (H : Hp) (Q : Str → Hp → Prop) (Qa : D → Nat → Prop), (∀ y n', Qa (.str y) n' → ∀ H', W.le H H' → W.ok K n' H' → Q y H') → EnvAt K W H σ ρ → W.ok K n H → aJs fs acc ρ n Qa → tJs ts acc σ H Q
instance : DJ K [] [] := ⟨fun W σ ρ acc n H Q Qa hQ hE o h => hQ _ _ h H Wd.le_refl o⟩
instance {t : TE} {ts : List TE} {f : AE} {fs : List AE} [DE K t f] [DJ K ts fs] : DJ K (t :: ts) (f :: fs) := ⟨fun W σ ρ acc n H Q Qa hQ hE o h =>
  DE.run (te := t) (f := f) W σ ρ n H _ _ (fun d n1 h1 H1 x l1 o1 ax => by
    split at h1
    · cases ax
      exact ⟨_, rfl, Nat.le_trans h1.1 lim, DJ.run (ts := ts) (fs := fs) W σ ρ _ n1 H1 Q Qa (fun y n' q H' l' o' => hQ y n' q H' (l1.trans l') o') (hE.le o l1) o1 h1.2⟩
    · exact h1.elim) hE o h⟩
def aJoined (fs : List AE) : AE := fun ρ n Q => aJs fs Str.empty ρ n Q
instance {ts : List TE} {fs : List AE} [DJ K ts fs] : DE K (tJoined ts) (aJoined fs) := ⟨fun W σ ρ n H Q Qa hQ hE o h => DJ.run (ts := ts) (fs := fs) W σ ρ _ n H _ Qa (fun y n' q H' l' o' => hQ _ _ q H' _ l' o' (.str y)) hE o h⟩
end
/-! ### text times number, int(text) -/
section
variable {K : PySem.W.Frag}
theorem rep_list (z : Str) : ∀ (n : Nat) (acc : Array Nat), ((List.replicate n z.cps).foldl (· ++ ·) acc).toList = acc.toList ++ (List.replicate n z.cps.toList).flatten
  | 0, acc => by simp
  | n + 1, acc => by
    rw [List.replicate_succ, List.foldl_cons, rep_list z n (acc ++ z.cps), List.replicate_succ, List.flatten_cons, Array.toList_append, List.append_assoc]
def rTMul : R2 := fun x y H Q => ∃ (z : Str) (n : Nat), x = .str z ∧ y = .int (n : Int) ∧ z.length = 1 ∧ 1 ≤ n ∧ n ≤ 4000 ∧ ∀ t : Str, t.cps.toList = (List.replicate n z.cps.toList).flatten → Q (.str t) H
theorem k_tmul {X : Cx} : OpR X (binaryOp .Mult) rTMul := by
  intro pins s σ H x y v u Q I rx ry h
  obtain ⟨z, n, rfl, rfl, hz, h2, h4, q⟩ := h
  obtain ⟨t, rfl⟩ := rx
  obtain ⟨t', rfl⟩ := ry
  have hn1 : ¬ ((n : Int) < 1) := by omega
  refine P.mul_str ?_ ?_ ?_ ?_
  · rw [decide_eq_false (by omega), decide_eq_false (by omega)]
    rfl
  · intro _ _
    rw [hz]
    have : (1 : Int) ≤ (2 ^ 63 - 1) / (n : Int) := by
      refine (Int.le_ediv_iff_mul_le (by omega)).mpr ?_
      omega
    omega
  · intro _ _
    rw [hz]
    refine decide_eq_false ?_
    rw [sizeLine_eq]
    have e : (n : Int).toNat = n := rfl
    omega
  · rw [if_neg hn1]
    by_cases h1 : n = 1
    · subst h1
      rw [if_pos (by rfl)]
      refine ⟨.str z, H, I, ⟨_, rfl⟩, q z ?_⟩
      simp
    · have hb : (((n : Int) == 1) || z.length == 0) = false := by
        rw [hz]
        have : ((n : Int) == 1) = false := beq_eq_false_iff_ne.mpr (by omega)
        rw [this]
        rfl
      rw [if_neg (by rw [hb]; exact Bool.false_ne_true)]
      have e := rep_list z n #[]
      refine ⟨?_, ⟨.str _, H, I.tok _, ⟨_, rfl⟩, q _ e⟩⟩
      have hz' : z.cps.toList.length = 1 := by
        have : z.cps.size = 1 := hz
        simpa using this
      have e2 : ((List.replicate n z.cps).foldl (· ++ ·) #[]).size = n := by
        rw [← Array.length_toList, e]
        simp [hz']
      show ((List.replicate n z.cps).foldl (· ++ ·) #[]).size ≤ sizeLine
      rw [e2, sizeLine_eq]
      omega
def aTMul : D → D → Nat → (D → Nat → Prop) → Prop := fun d e n Q => ∃ (z : Str) (k : Nat), d = .str z ∧ e = .int (k : Int) ∧ z.length = 1 ∧ 1 ≤ k ∧ k ≤ 4000 ∧ ∀ t : Str, t.cps.toList = (List.replicate k z.cps.toList).flatten → Q (.str t) n
instance : D2 K rTMul aTMul := ⟨fun W n H x y d e Q Qa hQ o ax ay h => by
  obtain ⟨z, k, rfl, rfl, h1, h2, h3, h⟩ := h
  cases ax
  cases ay
  exact ⟨z, k, rfl, rfl, h1, h2, h3, fun t ht => hQ.now o (h t ht) (.str t)⟩⟩
def rIntT : List V → Hp → VK → Prop := fun xs H Q => ∃ a n, xs = [.str a] ∧ PySem.intText? a = some n ∧ a.length ≤ 640 ∧ Q (.int n) H
theorem k_intT {X : Cx} : CallR X (.type "int") rIntT := call_int_str
def aIntT : List D → Nat → (D → Nat → Prop) → Prop := fun ds n Q => ∃ (a : Str) (i : Int), ds = [.str a] ∧ PySem.intText? a = some i ∧ a.length ≤ 640 ∧ Q (.int i) n
instance : DL K rIntT aIntT := ⟨fun W n H xs ds Q Qa hQ o a h => by
  obtain ⟨z, i, rfl, h1, h2, h⟩ := h
  cases a with
  | cons a r =>
    cases r
    cases a
    exact ⟨z, i, rfl, h1, h2, hQ.now o h (.int i)⟩⟩
end

section
variable {P : Program} {w : World} {K : PySem.W.Frag} {mg : Str → Option Value} {base : Heap} {A : Ad}
/-! ### the deck in the mirror -/
def a_l_take : ASp := fun ds n Q => ∃ m : Int, ds = [.deck, .int m] ∧ 0 < m ∧ m.natAbs.log2 < 9000 ∧ 1 ≤ n ∧ ∀ r, 0 ≤ r → r < m → Q (.int r) (n - 1)
theorem ok_l_take (T : Tx K mg A) : FnOk P w K mg base CX0 3 A.f_l_take A.fd_l_take ["_law_deck_here", "_law_many"] (spOf K 2 a_l_take) := (ok0_l_take T).imp fun vs H Q E h => by
  obtain ⟨W, n, ds, Qa, a, hl, o, hQ, m, rfl, hm, hlog, hn, q⟩ := h
  cases a with
  | cons a r =>
    cases r with
    | cons b r =>
      cases r
      cases b
      cases a with
      | @deck d b e =>
        obtain ⟨c, D, lc⟩ := o.deck d b e
        refine ⟨d, b, c, m, rfl, D, by omega, hm, hlog, fun H' r D' kp h0 h1 => hQ _ _ (q r h0 h1) H' _ (fun x ob nr hx => kp x ob (fun z => nr (.inl ⟨d, b, e, .inl z⟩)) (fun z => nr (.inl ⟨d, b, e, .inr z⟩)) hx) ⟨fun d' b' e' => ?_, fun p hp => ?_, o.dis⟩ (.int r)⟩
        · rw [e] at e'
          cases e'
          exact ⟨c + 1, D', by omega⟩
        · obtain ⟨h1, h2⟩ := o.owns p hp
          obtain ⟨n1, n2⟩ := o.dis d b e p hp
          exact ⟨kp _ _ n1 n2 h1, h2⟩
/-! ### the law's own def -/
def sp_law (K : PySem.W.Frag) : Sp := fun vs H Q _ => ∃ (a : Addr) (ns : List Int), vs = [.ref a] ∧ Only H ∧ SqL K H a (ns.map V.int) ∧ ns.length ≤ 63 ∧ ∀ H', Q (.bl true) H'
theorem law_start {W : Wd} {ow : List Nat} {n : Nat} {H : Hp} {N : List Str} {k i : Nat} {a d b : Addr} (hk : N.length = k) (h0 : 0 < k) (hi : i ∉ ow) (hd : W.dk = some (d, b)) (o : W.ok K n H) : SOk K W ow n H ((L2.start N [.ref a]).set i (some (.ref d))) (eSet (startA k []) i (some .deck)) [] := by
  have hg : ∀ j e, eGet (eSet (startA k []) i (some .deck)) j = some e → i = j ∧ e = .deck ∧ i < k := fun j e he => by
    by_cases hij : i = j
    · subst hij
      obtain ⟨h1, h2⟩ := eGet_set he
      rw [startA_length] at h1
      exact ⟨rfl, (Option.some.inj h2).symm, h1⟩
    · rw [eGet_ne hij] at he
      exact (startA_none he).elim
  have hlen : (L2.start N [V.ref a]).length = k := by
    unfold L2.start
    rw [List.length_append, List.length_map, List.length_replicate]
    show 1 + (N.length - 1) = k
    omega
  refine ⟨List.nodup_nil, fun u hu => (by cases hu), o, by rw [List.length_set, eSet_length, startA_length, hlen], fun j e _ he => ?_, fun j e hj he => ?_, fun j m p hj hm _ _ _ => .inl ?_⟩
  · obtain ⟨rfl, rfl, hlt⟩ := hg j e he
    exact ⟨_, List.getElem?_set_self (by rw [hlen]; exact hlt), .deck hd⟩
  · obtain ⟨rfl, _⟩ := hg j e he
    exact absurd hj hi
  · cases e : eGet (eSet (startA k []) i (some .deck)) j with
    | none => rfl
    | some e' =>
      obtain ⟨rfl, _⟩ := hg j e' e
      exact absurd hj hi
theorem law_mir {P : Program} {w : World} {mg : Str → Option Value} {base : Heap} {x qual : Str} {st : Stmt} {f : Addr} {fd : FuncData} {N : List Str} {k : Nat} (ow : List Nat) (kk i : Nat) (hk : N.length = kk) (h0 : 0 < kk) (hi : i ∉ ow) (F : Fun K x qual st f fd) (S : FnScope N ["_law_script"] (defScope st))
    (hbody : ∀ (cdv : Value) (Ar : Around) (outer : List Env) (s : Shared) (H : Hp) (E : XK), Room k (Ar.deeper (envOfC qual (defScope st) s.heap.objs.size f cdv)) →
      ∃ (t : TS) (fa : AS), PSs (cxOf CX0 P w K mg base N qual (defScope st) f cdv Ar outer s H E).nox (defBody st) (tSeq (tAsg (tCall (sp_l_deck K) [] E0 (tCons (tVar 0) tNil)) (gName i)) t) ∧ DS K ow t fa ∧ fa (aTop fun d _ => d = .bl true) (eSet (startA kk []) i (some .deck)) 900000) : FnOk P w K mg base CX0 (k + 1) f fd ["_law_script"] (sp_law K) := by
  refine F.ok S (fun vs H Q E h => ?_) (fun cdv Ar outer s H vs Q E hr h => ?_)
  · obtain ⟨a, ns, rfl, _⟩ := h
    rfl
  · obtain ⟨a, ns, rfl, hO, hS, hn, q⟩ := h
    obtain ⟨t, fa, h1, h2, h3⟩ := hbody cdv Ar outer s H E hr
    refine ⟨_, h1, ?_⟩
    refine ⟨.ref a, rfl, a, ns, rfl, Sc.mk hO hS, hn, fun H' d b hd hb D sm => ?_⟩
    refine DS.run (K := K) (ow := ow) (t := t) (f := fa) ⟨some (d, b), []⟩ [] _ _ 900000 H' _ (aTop fun d _ => d = .bl true) ⟨fun ρ' n' z => (by cases z), fun d' n' z U1 H1 H2 v _ _ _ a' => ?_, fun _ _ q => q.elim, fun _ _ q => q.elim⟩ (law_start hk h0 hi rfl ⟨fun d' b' e' => ?_, fun p hp => (by cases hp), fun _ _ _ p hp => (by cases hp)⟩) h3
    · subst z
      cases a'
      exact q _
    · cases e'
      exact ⟨0, D, by omega⟩

/-! ### shares in the mirror -/
def sh (q : Rat) : D := .tup [.int q.num, .int (q.den : Int)]
theorem sh_of {t u a b : Int} (h : IsSh t u) (hb : b ≠ 0) (c : t * b = u * a) : D.tup [.int t, .int u] = sh (Rat.divInt a b) := by
  obtain ⟨h1, h2⟩ := rep_divInt h hb c
  rw [h1, h2]
  rfl
theorem mulA {n m : Nat} {x y : Int} (h : Bd n x) (g : Bd m y) (hn : n ≤ 400000) (hm : m ≤ 400000) : CMulA x y := .inr (h.mulW g hn hm)
theorem divA {n : Nat} {x y : Int} (h : Bd n y) (h0 : 0 < y) (hn : n < 9000) : CDivA x y := .inr (h.divW h0 hn)
theorem dIte {p : Prop} [Decidable p] {a b : Prop} (h : p → a) (g : ¬ p → b) : aIte (decide p) a b := ⟨fun e => h (of_decide_eq_true e), fun e => g (of_decide_eq_false e)⟩
def a_gcd : ASp := fun ds n Q => ∃ a b : Int, ds = [.int a, .int b] ∧ Q (.int (gcdI a b)) n
theorem kon_NOUGHT' {K : PySem.W.Frag} {a : Addr} (h : ∀ H, SqT K H a [.int 0, .int 1]) : Kon K a (sh 0) := ⟨fun W H => .tup (h H) (.cons (.int _) (.cons (.int _) .nil))⟩

/-! ### spots in the mirror -/
def spt (x y : Rat) : D := .tup [sh x, sh y]
theorem bdq_int {n : Nat} {p : Int} (h : Bd n p) (hn : 0 < n) : BdQ n (p : Rat) := ⟨h, Nat.one_lt_two_pow (by omega)⟩
def a_along (f : Int → Int → Rat → Rat → Rat) : ASp := fun ds n Q => ∃ (p q : Int) (x y : Rat) (k m : Nat), ds = [.tup [.int p, .int q], spt x y] ∧ Bd m p ∧ Bd m q ∧ BdQ k x ∧ BdQ k y ∧ 0 < m ∧ k ≤ 1500 ∧ m ≤ 1500 ∧ Q (sh (f p q x y)) n
def a_spot2 (f : Rat → Rat → Rat) : ASp := fun ds n Q => ∃ (x y x' y' : Rat) (k m : Nat), ds = [spt x y, spt x' y'] ∧ BdQ k x ∧ BdQ k y ∧ BdQ m x' ∧ BdQ m y' ∧ k ≤ 4000 ∧ m ≤ 4000 ∧ Q (spt (f x x') (f y y')) n

/-! ### a body's object is made -/
def flds (ar : Addr) (nm : V) (m : Int) : List (Str × V) := putF "mass" (.int m) (putF "name" nm (putF "row" (.ref ar) []))
theorem n1 : ¬ (("row" : Str) = "mass") := by decide +kernel
theorem n2 : ¬ (("row" : Str) = "name") := by decide +kernel
theorem n3 : ¬ (("name" : Str) = "mass") := by decide +kernel
abbrev bNs : List Str := ["row", "name", "mass"]
theorem flds_eq (ar : Addr) (nm : V) (m : Int) : flds ar nm m = bNs.zip [.ref ar, nm, .int m] := by
  have e1 : putF "row" (V.ref ar) [] = [(("row" : Str), V.ref ar)] := rfl
  have e2 : putF "name" nm [(("row" : Str), V.ref ar)] = (("row" : Str), V.ref ar) :: [(("name" : Str), nm)] := by
    show (if ("row" : Str) = "name" then [(("name" : Str), nm)] else (("row" : Str), V.ref ar) :: putF "name" nm []) = _
    rw [if_neg n2]
    rfl
  have e3 : putF "mass" (V.int m) ((("row" : Str), V.ref ar) :: [(("name" : Str), nm)]) = (("row" : Str), V.ref ar) :: (("name" : Str), nm) :: [(("mass" : Str), V.int m)] := by
    show (if ("row" : Str) = "mass" then (("mass" : Str), V.int m) :: [(("name" : Str), nm)] else (("row" : Str), V.ref ar) :: (if ("name" : Str) = "mass" then [(("mass" : Str), V.int m)] else (("name" : Str), nm) :: putF "mass" (V.int m) [])) = _
    rw [if_neg n1, if_neg n3]
    rfl
  unfold flds
  rw [e1, e2, e3]
  rfl
theorem look_row {a b c : D} : (bNs.zip [a, b, c]).lookup ("row" : Str) = some a := by
  show List.lookup ("row" : Str) [(("row" : Str), a), (("name" : Str), b), (("mass" : Str), c)] = some a
  rw [List.lookup_cons, beq_self_eq_true]
theorem look_name {a b c : D} : (bNs.zip [a, b, c]).lookup ("name" : Str) = some b := by
  show List.lookup ("name" : Str) [(("row" : Str), a), (("name" : Str), b), (("mass" : Str), c)] = some b
  rw [List.lookup_cons, beq_eq_false_iff_ne.mpr (Ne.symm n2), List.lookup_cons, beq_self_eq_true]
theorem look_mass {a b c : D} : (bNs.zip [a, b, c]).lookup ("mass" : Str) = some c := by
  show List.lookup ("mass" : Str) [(("row" : Str), a), (("name" : Str), b), (("mass" : Str), c)] = some c
  rw [List.lookup_cons, beq_eq_false_iff_ne.mpr (Ne.symm n1), List.lookup_cons, beq_eq_false_iff_ne.mpr (Ne.symm n3), List.lookup_cons, beq_self_eq_true]
theorem SqT.ins {K : PySem.W.Frag} {H : Hp} {a x C dx : Addr} {xs : List V} {fs : List (Str × V)} {o : HO} (h : SqT K H a xs) (hx : H x = some (.ins C dx fs)) : SqT K (upd H x o) a xs := by
  rcases h with (h | ⟨o', h⟩) | h
  · exact .inl (.inl (by rw [upd_ne (fun e => by rw [e, hx] at h; cases h)]; exact h))
  · exact .inl (.inr ⟨o', by rw [upd_ne (fun e => by rw [e, hx] at h; cases h)]; exact h⟩)
  · exact .inr h
def sp_init (K : PySem.W.Frag) : Sp := fun vs H Q _ => ∃ (x dx ar C : Addr) (nm sh rl pl st : V) (m : Int), vs = [.ref x, .ref ar] ∧ H x = some (.ins C dx []) ∧ SqT K H ar [nm, sh, .int m, rl, pl, st] ∧ Cls K C ∧ NoAttr K C "row" ∧ NoAttr K C "name" ∧ NoAttr K C "mass" ∧ ∀ H', (∀ b o, b ≠ x → H b = some o → H' b = some o) → H' x = some (.ins C dx (flds ar nm m)) → Q .non H'
theorem ok_m_Body___init__ (T : Tx K mg A) : FnOk P w K mg base CX0 1 A.f_m_Body___init__ A.fd_m_Body___init__ ["self", "row"] (sp_init K) := by
  refine T.F_m_Body___init__.ok sc_m_Body___init__ (fun vs H Q E h => ?_) (fun cdv Ar outer s H vs Q E hr h => ?_)
  · obtain ⟨x, dx, ar, C, nm, sh, rl, pl, st, m, rfl, _⟩ := h
    rfl
  · obtain ⟨x, dx, ar, C, nm, sh, rl, pl, st, m, rfl, hx, hA, cl, n1, n2, n3, q⟩ := h
    refine ⟨_, (pss_cons (ps_fld (pv 0) (pv 1) rfl)
    (pss_cons (ps_fld (pv 0) (pe_ix ix_tup (pv 1) pe_int (fun _ _ => rfl)) rfl)
    (pss_one (ps_fld (pv 0) (pe_ix ix_tup (pv 1) pe_int (fun _ _ => rfl)) rfl)))), ?_⟩
    refine ⟨_, rfl, _, rfl, x, C, dx, [], rfl, hx, cl, n1, (by show 0 < 1000; decide), ?_⟩
    have hA1 := SqT.ins (o := .ins C dx (putF "row" (.ref ar) [])) hA hx
    refine ⟨_, rfl, ar, _, 0, _, rfl, rfl, hA1, rfl, _, rfl, x, C, dx, _, rfl, upd_same, cl, n2, (by show 1 < 1000; decide), ?_⟩
    have hA2 := SqT.ins (o := .ins C dx (putF "name" nm (putF "row" (.ref ar) []))) hA1 upd_same
    refine ⟨_, rfl, ar, _, 2, _, rfl, rfl, hA2, rfl, _, rfl, x, C, dx, _, rfl, upd_same, cl, n3, ?_, ?_⟩
    · have e : (putF "name" nm (putF "row" (V.ref ar) [])).length ≤ 2 := by
        show (if ("row" : Str) = "name" then [(("name" : Str), nm)] else (("row" : Str), V.ref ar) :: putF "name" nm []).length ≤ 2
        rw [if_neg R.n2]
        exact Nat.le_refl 2
      omega
    · refine q _ (fun b o hb e => ?_) upd_same
      rw [upd_ne hb, upd_ne hb, upd_ne hb]
      exact e
structure InitC (K : PySem.W.Frag) (C : Addr) : Prop where
  cl : Cls K C
  r : NoAttr K C "row"
  n : NoAttr K C "name"
  m : NoAttr K C "mass"
def aMk (K : PySem.W.Frag) (C : Addr) (fa : AE) : AE := fun ρ n Q => fa ρ n fun d n1 => match d with
  | .tup [nm, sh, .int m, rl, pl, st] => InitC K C ∧ Q (.ins C bNs [.tup [nm, sh, .int m, rl, pl, st], nm, .int m]) n1
  | _ => False
instance {C : Addr} {te : TE} {fa : AE} [DE K te fa] : DE K (tMake C (sp_init K) [] E0 (tCons te tNil)) (aMk K C fa) := ⟨fun W σ ρ n H Q Qa hQ hE o h =>
  DE.run (te := te) (f := fa) W σ ρ n H _ _ (fun d n1 h1 H1 x l1 o1 ax => by
    split at h1
    · obtain ⟨ic, h1⟩ := h1
      intro z dx hz hdx hne
      cases ax with
      | @tup a xs _ s b =>
        cases b with
        | cons b1 b =>
          cases b with
          | cons b2 b =>
            cases b with
            | cons b3 b =>
              cases b with
              | cons b4 b =>
                cases b with
                | cons b5 b =>
                  cases b with
                  | cons b6 b =>
                    cases b
                    cases b3
                    have two : Same H1 (upd (upd H1 dx (.own z)) z (.ins C dx [])) := fun b' o' h' => by
                      rw [upd_ne (ne_of_none h' hz), upd_ne (ne_of_none h' hdx)]
                      exact h'
                    refine ⟨z, dx, a, C, _, _, _, _, _, _, rfl, upd_same, Same.seqT two s, ic.cl, ic.r, ic.n, ic.m, fun H' hk he => ⟨rfl, ?_⟩⟩
                    have sm : Same H1 H' := fun b' o' h' => hk b' o' (ne_of_none h' hz) (two b' o' h')
                    rw [flds_eq] at he
                    have lw : W.le H1 H' := Wd.le_same sm
                    exact (hQ.le l1) _ _ h1 H' _ lw (o1.same sm) (.ins he rfl (.cons (At.le o1 lw _ (.tup s (.cons b1 (.cons b2 (.cons (.int _) (.cons b4 (.cons b5 (.cons b6 .nil)))))))) (.cons (At.le o1 lw _ b1) (.cons (.int _) .nil))))
    · exact h1.elim) hE o h⟩

/-! ### words -/
abbrev iT (i : Int) : Str := Str.ofString (toString i)
theorem iT_len {i : Int} (h : i.natAbs.log2 < 1920) : (iT i).length ≤ 1921 := PyProof.Rows.int_text_len_1921 h
theorem bd_log {k : Nat} {x : Int} (h : Bd k x) (hk : k ≤ 1900) : x.natAbs.log2 < 1920 := Nat.lt_of_lt_of_le (log2_lt (k := k + 1) (Nat.lt_of_lt_of_le h (Nat.pow_le_pow_right (by decide) (Nat.le_succ _))) (by omega)) (by omega)
theorem str_app_len (a b : Str) : (a ++ b).length = a.length + b.length := strLen_append a b
theorem emp_app (z : Str) : Str.empty ++ z = z := by
  cases z with
  | mk c =>
    show Str.mk (#[] ++ c) = Str.mk c
    rw [Array.empty_append]
theorem one_len : (Str.ofString "/").length = 1 := by decide +kernel
theorem com_len : (Str.ofString ",").length = 1 := by decide +kernel
def wtx (q : Rat) : Str := if (q.den : Int) = 1 then iT q.num else (iT q.num ++ Str.ofString "/") ++ iT (q.den : Int)
theorem wtx_len {q : Rat} {k : Nat} (h : BdQ k q) (hk : k ≤ 1900) : (wtx q).length ≤ 4000 := by
  have h1 := iT_len (bd_log h.1 hk)
  have h2 := iT_len (bd_log h.2 hk)
  have h3 := one_len
  unfold wtx
  split
  · omega
  · rw [str_app_len, str_app_len]
    omega
def cw (p : Pt) : Str := (iT p.1 ++ Str.ofString ",") ++ iT p.2
def PtOk (p : Pt) : Prop := Bd 64 p.1 ∧ Bd 64 p.2
theorem cw_len {p : Pt} (h : PtOk p) : (cw p).length ≤ 4000 := by
  have h1 := iT_len (bd_log h.1 (by decide))
  have h2 := iT_len (bd_log h.2 (by decide))
  have h3 := com_len
  unfold cw
  rw [str_app_len, str_app_len]
  omega
def a_p_share_text : ASp := fun ds n Q => ∃ (q : Rat) (k : Nat), ds = [sh q] ∧ BdQ k q ∧ k ≤ 1900 ∧ Q (.str (wtx q)) n
theorem ok_p_share_text (T : Tx K mg A) : FnOk P w K mg base CX0 1 A.f_p_share_text A.fd_p_share_text ["one"] (spOf K 1 a_p_share_text) := by
  refine fn_mir [] 3 rfl (by decide) (by decide) T.F_p_share_text sc_p_share_text fun cdv Ar outer s H E hr => ?_
  refine ⟨_, _, (pss_cons (ps_asg (pv 0) (k_gtup (K := K) (m := 2) rfl rfl (pgs_cons (pg_name (i := 1) sc_p_share_text.nd rfl (.inl rfl)) (pgs_cons (pg_name (i := 2) sc_p_share_text.nd rfl (.inl rfl)) pgs_nil))))
    (pss_cons (ps_if (pt_cmpR (k_eq (K := K) rfl hr.units) (pv 2) pe_int (nomark _))
      (pss_one (ps_ret (pe_callTy k_str (by rfl) T.m_str (by decide +kernel) (pa_cons (pv 1) pa_nil))))
      pss_nil)
    (pss_one (ps_ret (k_fstr (.cons (pe_fmt (pv 1)) (.cons pe_str (.cons (pe_fmt (pv 2)) .nil)))))))), by infer_instance, fun ds n Q hl hA => ?_⟩
  obtain ⟨q, k, rfl, b, hk, Qk⟩ := hA
  have l1 := bd_log b.1 hk
  have l2 := bd_log b.2 hk
  have t1 := iT_len l1
  have t2 := iT_len l2
  have h3 := one_len
  refine dIte (fun e => ?_) fun e => ?_
  · refine ⟨l1, ?_⟩
    rw [show wtx q = iT q.num from if_pos e] at Qk
    exact Qk
  · rw [show wtx q = (iT q.num ++ Str.ofString "/") ++ iT (q.den : Int) from if_neg e] at Qk
    rw [← emp_app (iT q.num)] at Qk
    have e0 : (Str.empty ++ iT q.num).length ≤ 1921 := by rw [emp_app]; exact t1
    exact ⟨l1, Nat.le_trans e0 (by decide), by rw [str_app_len]; show (Str.empty ++ iT q.num).length + _ ≤ _; omega, l2, by rw [str_app_len, str_app_len]; show (Str.empty ++ iT q.num).length + _ + (iT (q.den : Int)).length ≤ _; omega, Qk⟩
def a_p_spot_words : ASp := fun ds n Q => ∃ (x y : Rat) (k : Nat), ds = [spt x y] ∧ BdQ k x ∧ BdQ k y ∧ k ≤ 1900 ∧ Q (.lst [.str (wtx x), .str (wtx y)]) n
theorem ok_p_spot_words (T : Tx K mg A) : FnOk P w K mg base CX0 2 A.f_p_spot_words A.fd_p_spot_words ["spot"] (spOf K 1 a_p_spot_words) := by
  refine fn_mir [] 2 rfl (by decide) (by decide) T.F_p_spot_words sc_p_spot_words fun cdv Ar outer s H E hr => ?_
  refine ⟨_, _, (pss_one (ps_ret (pe_lc (own := [("part", 1)]) rfl sc_p_spot_words.nd (k_iter (K := K) rfl (pv 0)) (blkOk_by (own := [("part", 1)]) (N := ["spot", "part"]) (sc := defScope s_p_spot_words) (by decide +kernel)) (fun _ _ _ _ _ => (pg_name (i := 1) sc_p_spot_words.nd rfl (Or.inl rfl))) (fun _ _ _ _ _ => pts_nil) (fun _ _ _ _ _ => (pe_call (ok_p_share_text (K := K) T) (hr.mono (by decide)) (by rfl) T.g_p_share_text T.F_p_share_text.kp T.b_p_share_text .nil pass0 (pa_cons (pv 1) pa_nil)))))), by infer_instance, fun ds n Q hl hA => ?_⟩
  obtain ⟨x, y, k, rfl, bx, bY, hk, q⟩ := hA
  exact ⟨(show 2 ≤ 1000000 by decide), aT ⟨x, k, rfl, bx, hk, aT ⟨y, k, rfl, bY, hk, q⟩⟩⟩
def a_p_corner_words : ASp := fun ds n Q => ∃ ps : List Pt, ds = [.tup (ps.map pt)] ∧ ps.length ≤ 8 ∧ (∀ p ∈ ps, PtOk p) ∧ Q (.lst ((ps.map cw).map D.str)) n
theorem ok_p_corner_words (T : Tx K mg A) : FnOk P w K mg base CX0 1 A.f_p_corner_words A.fd_p_corner_words ["shape"] (spOf K 1 a_p_corner_words) := by
  refine fn_mir [] 3 rfl (by decide) (by decide) T.F_p_corner_words sc_p_corner_words fun cdv Ar outer s H E hr => ?_
  refine ⟨_, _, (pss_one (ps_ret (pe_lc (own := [("x", 1), ("y", 2)]) rfl sc_p_corner_words.nd (k_iter (K := K) rfl (pv 0)) (blkOk_by (own := [("x", 1), ("y", 2)]) (N := ["shape", "x", "y"]) (sc := defScope s_p_corner_words) (by decide +kernel)) (fun _ _ _ _ _ => (k_gtup (K := K) (m := 2) rfl rfl (pgs_cons (pg_name (i := 1) sc_p_corner_words.nd rfl (Or.inl rfl)) (pgs_cons (pg_name (i := 2) sc_p_corner_words.nd rfl (Or.inl rfl)) pgs_nil)))) (fun _ _ _ _ _ => pts_nil) (fun _ _ _ _ _ => (k_fstr (.cons (pe_fmt (pv 1)) (.cons pe_str (.cons (pe_fmt (pv 2)) .nil)))))))), by infer_instance, fun ds n Q hl hA => ?_⟩
  obtain ⟨ps, rfl, hl, hp, q⟩ := hA
  refine ⟨by rw [List.length_map]; omega, ?_⟩
  refine aLc_ind (fun acc ds m => m = n ∧ ∃ (pre suf : List Pt), ps = pre ++ suf ∧ ds = suf.map pt ∧ acc = (pre.map cw).map D.str) ?_ ?_ ⟨rfl, [], ps, rfl, rfl, rfl⟩
  · rintro acc d r _ ⟨rfl, pre, suf, hs, e, rfl⟩ ih
    cases suf with
    | nil => cases e
    | cons p suf =>
    obtain ⟨rfl, rfl⟩ := List.cons.inj e
    have ok := hp p (by rw [hs]; simp)
    have l1 := bd_log ok.1 (by decide)
    have l2 := bd_log ok.2 (by decide)
    have t1 := iT_len l1
    have t2 := iT_len l2
    have h3 := com_len
    have e0 : (Str.empty ++ iT p.1).length ≤ 1921 := by rw [emp_app]; exact t1
    refine aT ⟨l1, Nat.le_trans e0 (by decide), by rw [str_app_len]; show (Str.empty ++ iT p.1).length + _ ≤ _; omega, l2, by rw [str_app_len, str_app_len]; show (Str.empty ++ iT p.1).length + _ + (iT p.2).length ≤ _; omega, ih _ _ ⟨rfl, pre ++ [p], suf, by rw [hs, List.append_assoc]; rfl, rfl, ?_⟩⟩
    rw [List.map_append, List.map_append]
    show _ ++ [D.str (Str.empty ++ iT p.1 ++ Str.ofString "," ++ iT p.2)] = _
    rw [emp_app]
    rfl
  · rintro acc _ ⟨rfl, pre, suf, hs, e, rfl⟩
    cases suf with
    | cons p suf => cases e
    | nil =>
    rw [List.append_nil] at hs
    rw [← hs]
    exact q
/-! ### rows -/
inductive Kn where
  | wall | free (m : Int) | rail (m p q : Int)
def Kn.kd : Kn → Kd
  | .wall => .w | .free _ => .f | .rail _ _ _ => .r
def Kn.m : Kn → Int
  | .wall => 0 | .free m => m | .rail m _ _ => m
def Kn.rl : Kn → D
  | .wall => .non | .free _ => .non | .rail _ p q => .tup [.int p, .int q]
def Kn.ok : Kn → Prop
  | .wall => True | .free m => 1 ≤ m ∧ Bd 64 m | .rail m p q => 1 ≤ m ∧ Bd 64 m ∧ Bd 64 p ∧ Bd 64 q
def Kd.cls (A : Ad) : Kd → Addr
  | .w => A.c_Wall
  | .f => A.c_Free
  | .r => A.c_Railed
structure Bw where
  nm : Str
  kn : Kn
  ps : List Pt
  px : Rat
  py : Rat
  x : Rat
  y : Rat
def Bw.rw (b : Bw) : Rw := (b.nm, [.tup (b.ps.map pt), .int b.kn.m, b.kn.rl, spt b.px b.py, spt b.x b.y])
def Bw.d (b : Bw) : D := rowT b.rw
def Bw.ok (b : Bw) : Prop := b.kn.ok ∧ b.ps.length ≤ 8 ∧ (∀ p ∈ b.ps, PtOk p) ∧ BdQ 1500 b.px ∧ BdQ 1500 b.py ∧ BdQ 1500 b.x ∧ BdQ 1500 b.y ∧ b.nm.length ≤ 20
def Bw.ws (b : Bw) : List Str := match b.kn with
  | .wall => [Str.ofString "wall", b.nm] ++ [wtx b.px, wtx b.py] ++ b.ps.map cw
  | .free m => [Str.ofString "free", b.nm, iT m] ++ [wtx b.px, wtx b.py] ++ [wtx b.x, wtx b.y] ++ b.ps.map cw
  | .rail m p q => [Str.ofString "rail", b.nm, iT m, iT p, iT q] ++ [wtx b.px, wtx b.py] ++ [wtx b.x, wtx b.y] ++ b.ps.map cw
def a_ws (kd : Kd) : ASp := fun ds n Q => ∃ b : Bw, ds = [b.d] ∧ b.ok ∧ b.kn.kd = kd ∧ Q (.lst (b.ws.map D.str)) n
abbrev a_p_wall_words : ASp := a_ws .w
abbrev a_p_free_words : ASp := a_ws .f
abbrev a_p_rail_words : ASp := a_ws .r
theorem ok_p_wall_words (T : Tx K mg A) : FnOk P w K mg base CX0 3 A.f_p_wall_words A.fd_p_wall_words ["row"] (spOf K 1 a_p_wall_words) := by
  refine fn_mir [] 7 rfl (by decide) (by decide) T.F_p_wall_words sc_p_wall_words fun cdv Ar outer s H E hr => ?_
  refine ⟨_, _, (pss_cons (ps_asg (pv 0) (k_gtup (K := K) (m := 6) rfl rfl (pgs_cons (pg_name (i := 1) sc_p_wall_words.nd rfl (.inl rfl)) (pgs_cons (pg_name (i := 2) sc_p_wall_words.nd rfl (.inl rfl)) (pgs_cons (pg_name (i := 3) sc_p_wall_words.nd rfl (.inl rfl)) (pgs_cons (pg_name (i := 4) sc_p_wall_words.nd rfl (.inl rfl)) (pgs_cons (pg_name (i := 5) sc_p_wall_words.nd rfl (.inl rfl)) (pgs_cons (pg_name (i := 6) sc_p_wall_words.nd rfl (.inl rfl)) pgs_nil))))))))
    (pss_one (ps_ret (pe_op (k_add (K := K) rfl) (pe_op (k_add (K := K) rfl) (pe_lst (pa_cons pe_str (pa_cons (pv 1) pa_nil))) (pe_call (ok_p_spot_words (K := K) T) (hr.mono (by decide)) (by rfl) T.g_p_spot_words T.F_p_spot_words.kp T.b_p_spot_words .nil pass0 (pa_cons (pv 5) pa_nil))) (pe_call (ok_p_corner_words (K := K) T) (hr.mono (by decide)) (by rfl) T.g_p_corner_words T.F_p_corner_words.kp T.b_p_corner_words .nil pass0 (pa_cons (pv 2) pa_nil)))))), by infer_instance, fun ds n Q hl hA => ?_⟩
  obtain ⟨⟨nm, kn, ps, px, py, x, y⟩, rfl, ⟨ok, hl, hp, b1, b2, b3, b4, hn⟩, hk, q⟩ := hA
  cases kn <;> cases hk
  refine ⟨px, py, 1500, rfl, b1, b2, by decide, (show 2 + 2 ≤ 1000000 by decide), ps, rfl, hl, hp, ?_⟩
  refine ⟨by rw [List.length_map, List.length_map]; show 4 + ps.length ≤ 1000000; have hl' : ps.length ≤ 8 := hl; omega, ?_⟩
  have e : (Bw.mk nm .wall ps px py x y).ws.map D.str = [D.str (Str.ofString "wall"), D.str nm] ++ [.str (wtx px), .str (wtx py)] ++ (ps.map cw).map D.str := by
    show ([Str.ofString "wall", nm] ++ [wtx px, wtx py] ++ ps.map cw).map D.str = _
    rw [List.map_append, List.map_append]
    rfl
  rw [e] at q
  exact q
theorem ok_p_free_words (T : Tx K mg A) : FnOk P w K mg base CX0 3 A.f_p_free_words A.fd_p_free_words ["row"] (spOf K 1 a_p_free_words) := by
  refine fn_mir [] 7 rfl (by decide) (by decide) T.F_p_free_words sc_p_free_words fun cdv Ar outer s H E hr => ?_
  refine ⟨_, _, (pss_cons (ps_asg (pv 0) (k_gtup (K := K) (m := 6) rfl rfl (pgs_cons (pg_name (i := 1) sc_p_free_words.nd rfl (.inl rfl)) (pgs_cons (pg_name (i := 2) sc_p_free_words.nd rfl (.inl rfl)) (pgs_cons (pg_name (i := 3) sc_p_free_words.nd rfl (.inl rfl)) (pgs_cons (pg_name (i := 4) sc_p_free_words.nd rfl (.inl rfl)) (pgs_cons (pg_name (i := 5) sc_p_free_words.nd rfl (.inl rfl)) (pgs_cons (pg_name (i := 6) sc_p_free_words.nd rfl (.inl rfl)) pgs_nil))))))))
    (pss_one (ps_ret (pe_op (k_add (K := K) rfl) (pe_op (k_add (K := K) rfl) (pe_op (k_add (K := K) rfl) (pe_lst (pa_cons pe_str (pa_cons (pv 1) (pa_cons (pe_callTy k_str (by rfl) T.m_str (by decide +kernel) (pa_cons (pv 3) pa_nil)) pa_nil)))) (pe_call (ok_p_spot_words (K := K) T) (hr.mono (by decide)) (by rfl) T.g_p_spot_words T.F_p_spot_words.kp T.b_p_spot_words .nil pass0 (pa_cons (pv 5) pa_nil))) (pe_call (ok_p_spot_words (K := K) T) (hr.mono (by decide)) (by rfl) T.g_p_spot_words T.F_p_spot_words.kp T.b_p_spot_words .nil pass0 (pa_cons (pv 6) pa_nil))) (pe_call (ok_p_corner_words (K := K) T) (hr.mono (by decide)) (by rfl) T.g_p_corner_words T.F_p_corner_words.kp T.b_p_corner_words .nil pass0 (pa_cons (pv 2) pa_nil)))))), by infer_instance, fun ds n Q hl hA => ?_⟩
  obtain ⟨⟨nm, kn, ps, px, py, x, y⟩, rfl, ⟨ok, hl, hp, b1, b2, b3, b4, hn⟩, hk, q⟩ := hA
  cases kn with
  | wall => cases hk
  | rail _ _ _ => cases hk
  | free m =>
  have hl' : ps.length ≤ 8 := hl
  refine ⟨bd_log ok.2 (by decide), px, py, 1500, rfl, b1, b2, by decide, (show 3 + 2 ≤ 1000000 by decide), x, y, 1500, rfl, b3, b4, by decide, (show 5 + 2 ≤ 1000000 by decide), ps, rfl, hl, hp, ?_⟩
  refine ⟨by rw [List.length_map, List.length_map]; show 7 + ps.length ≤ 1000000; omega, ?_⟩
  have e : (Bw.mk nm (.free m) ps px py x y).ws.map D.str = [D.str (Str.ofString "free"), D.str nm, D.str (iT m)] ++ [.str (wtx px), .str (wtx py)] ++ [.str (wtx x), .str (wtx y)] ++ (ps.map cw).map D.str := by
    show ([Str.ofString "free", nm, iT m] ++ [wtx px, wtx py] ++ [wtx x, wtx y] ++ ps.map cw).map D.str = _
    rw [List.map_append, List.map_append, List.map_append]
    rfl
  rw [e] at q
  exact q
theorem ok_p_rail_words (T : Tx K mg A) : FnOk P w K mg base CX0 3 A.f_p_rail_words A.fd_p_rail_words ["row"] (spOf K 1 a_p_rail_words) := by
  refine fn_mir [] 8 rfl (by decide) (by decide) T.F_p_rail_words sc_p_rail_words fun cdv Ar outer s H E hr => ?_
  refine ⟨_, _, (pss_cons (ps_asg (pv 0) (k_gtup (K := K) (m := 6) rfl rfl (pgs_cons (pg_name (i := 1) sc_p_rail_words.nd rfl (.inl rfl)) (pgs_cons (pg_name (i := 2) sc_p_rail_words.nd rfl (.inl rfl)) (pgs_cons (pg_name (i := 3) sc_p_rail_words.nd rfl (.inl rfl)) (pgs_cons (pg_name (i := 4) sc_p_rail_words.nd rfl (.inl rfl)) (pgs_cons (pg_name (i := 5) sc_p_rail_words.nd rfl (.inl rfl)) (pgs_cons (pg_name (i := 6) sc_p_rail_words.nd rfl (.inl rfl)) pgs_nil))))))))
    (pss_cons (ps_set (i := 7) sc_p_rail_words.nd rfl (.inl rfl) (pe_lst (pa_cons pe_str (pa_cons (pv 1) (pa_cons (pe_callTy k_str (by rfl) T.m_str (by decide +kernel) (pa_cons (pv 3) pa_nil)) (pa_cons (pe_callTy k_str (by rfl) T.m_str (by decide +kernel) (pa_cons (pe_ix (k_ix (K := K) rfl) (pv 4) pe_int (fun _ _ => rfl)) pa_nil)) (pa_cons (pe_callTy k_str (by rfl) T.m_str (by decide +kernel) (pa_cons (pe_ix (k_ix (K := K) rfl) (pv 4) pe_int (fun _ _ => rfl)) pa_nil)) pa_nil)))))))
    (pss_one (ps_ret (pe_op (k_add (K := K) rfl) (pe_op (k_add (K := K) rfl) (pe_op (k_add (K := K) rfl) (pv 7) (pe_call (ok_p_spot_words (K := K) T) (hr.mono (by decide)) (by rfl) T.g_p_spot_words T.F_p_spot_words.kp T.b_p_spot_words .nil pass0 (pa_cons (pv 5) pa_nil))) (pe_call (ok_p_spot_words (K := K) T) (hr.mono (by decide)) (by rfl) T.g_p_spot_words T.F_p_spot_words.kp T.b_p_spot_words .nil pass0 (pa_cons (pv 6) pa_nil))) (pe_call (ok_p_corner_words (K := K) T) (hr.mono (by decide)) (by rfl) T.g_p_corner_words T.F_p_corner_words.kp T.b_p_corner_words .nil pass0 (pa_cons (pv 2) pa_nil))))))), by infer_instance, fun ds n Q hl hA => ?_⟩
  obtain ⟨⟨nm, kn, ps, px, py, x, y⟩, rfl, ⟨ok, hl, hp, b1, b2, b3, b4, hn⟩, hk, q⟩ := hA
  cases kn with
  | wall => cases hk
  | free _ => cases hk
  | rail m p1 p2 =>
  have hl' : ps.length ≤ 8 := hl
  refine ⟨bd_log ok.2.1 (by decide), bd_log ok.2.2.1 (by decide), bd_log ok.2.2.2 (by decide), px, py, 1500, rfl, b1, b2, by decide, (show 5 + 2 ≤ 1000000 by decide), x, y, 1500, rfl, b3, b4, by decide, (show 7 + 2 ≤ 1000000 by decide), ps, rfl, hl, hp, ?_⟩
  refine ⟨by rw [List.length_map, List.length_map]; show 9 + ps.length ≤ 1000000; omega, ?_⟩
  have e : (Bw.mk nm (.rail m p1 p2) ps px py x y).ws.map D.str = [D.str (Str.ofString "rail"), D.str nm, D.str (iT m), D.str (iT p1), D.str (iT p2)] ++ [.str (wtx px), .str (wtx py)] ++ [.str (wtx x), .str (wtx y)] ++ (ps.map cw).map D.str := by
    show ([Str.ofString "rail", nm, iT m, iT p1, iT p2] ++ [wtx px, wtx py] ++ [wtx x, wtx y] ++ ps.map cw).map D.str = _
    rw [List.map_append, List.map_append, List.map_append]
    rfl
  rw [e] at q
  exact q
/-! ### bodies and their texts -/
theorem sum_le {ys : List Str} {k : Nat} (h : ∀ y ∈ ys, y.length ≤ k) : (ys.map (·.length)).sum ≤ ys.length * k := by
  induction ys with
  | nil => simp
  | cons y r ih =>
    have h1 := h y List.mem_cons_self
    have h2 := ih fun z hz => h z (List.mem_cons_of_mem _ hz)
    rw [List.map_cons, List.sum_cons, List.length_cons, Nat.add_mul, Nat.one_mul]
    omega
theorem ws_ok {b : Bw} (h : b.ok) : b.ws.length ≤ 17 ∧ ∀ y ∈ b.ws, y.length ≤ 4000 := by
  obtain ⟨nm, kn, ps, px, py, x, y⟩ := b
  obtain ⟨ok, hl, hp, b1, b2, b3, b4, hn⟩ := h
  have hl' : ps.length ≤ 8 := hl
  have hn' : nm.length ≤ 20 := hn
  have c1 := wtx_len b1 (by decide)
  have c2 := wtx_len b2 (by decide)
  have c3 := wtx_len b3 (by decide)
  have c4 := wtx_len b4 (by decide)
  have hc : ∀ z ∈ ps.map cw, z.length ≤ 4000 := fun z hz => by
    obtain ⟨p, hpm, rfl⟩ := List.mem_map.mp hz
    exact cw_len (hp p hpm)
  have w1 : (Str.ofString "wall").length ≤ 4000 := by decide +kernel
  have w2 : (Str.ofString "free").length ≤ 4000 := by decide +kernel
  have w3 : (Str.ofString "rail").length ≤ 4000 := by decide +kernel
  have it : ∀ {i : Int}, Bd 64 i → (iT i).length ≤ 4000 := fun hb => Nat.le_trans (iT_len (bd_log hb (by decide))) (by decide)
  cases kn with
  | wall =>
    refine ⟨by show ([Str.ofString "wall", nm] ++ [wtx px, wtx py] ++ ps.map cw).length ≤ 17; simp; omega, fun z hz => ?_⟩
    have hz' : z ∈ [Str.ofString "wall", nm] ++ [wtx px, wtx py] ++ ps.map cw := hz
    rcases List.mem_append.mp hz' with h | h
    · simp only [List.cons_append, List.nil_append, List.mem_cons, List.not_mem_nil, or_false] at h
      rcases h with rfl | rfl | rfl | rfl
      · exact w1
      · omega
      · exact c1
      · exact c2
    · exact hc z h
  | free m =>
    refine ⟨by show ([Str.ofString "free", nm, iT m] ++ [wtx px, wtx py] ++ [wtx x, wtx y] ++ ps.map cw).length ≤ 17; simp; omega, fun z hz => ?_⟩
    have hz' : z ∈ [Str.ofString "free", nm, iT m] ++ [wtx px, wtx py] ++ [wtx x, wtx y] ++ ps.map cw := hz
    rcases List.mem_append.mp hz' with h | h
    · simp only [List.cons_append, List.nil_append, List.mem_cons, List.not_mem_nil, or_false] at h
      rcases h with rfl | rfl | rfl | rfl | rfl | rfl | rfl
      · exact w2
      · omega
      · exact it ok.2
      · exact c1
      · exact c2
      · exact c3
      · exact c4
    · exact hc z h
  | rail m p1 p2 =>
    refine ⟨by show ([Str.ofString "rail", nm, iT m, iT p1, iT p2] ++ [wtx px, wtx py] ++ [wtx x, wtx y] ++ ps.map cw).length ≤ 17; simp; omega, fun z hz => ?_⟩
    have hz' : z ∈ [Str.ofString "rail", nm, iT m, iT p1, iT p2] ++ [wtx px, wtx py] ++ [wtx x, wtx y] ++ ps.map cw := hz
    rcases List.mem_append.mp hz' with h | h
    · simp only [List.cons_append, List.nil_append, List.mem_cons, List.not_mem_nil, or_false] at h
      rcases h with rfl | rfl | rfl | rfl | rfl | rfl | rfl | rfl | rfl
      · exact w3
      · omega
      · exact it ok.2.1
      · exact it ok.2.2.1
      · exact it ok.2.2.2
      · exact c1
      · exact c2
      · exact c3
      · exact c4
    · exact hc z h
def Bw.tx (b : Bw) : Str := Txt.join (Str.ofString " ") b.ws
theorem sp_len : (Str.ofString " ").length = 1 := by decide +kernel
theorem ws_fit {b : Bw} (h : b.ok) : (b.ws.map (·.length)).sum + b.ws.length * (Str.ofString " ").length ≤ 100000 := by
  obtain ⟨h1, h2⟩ := ws_ok h
  have h3 := sum_le h2
  rw [sp_len]
  have : b.ws.length * 4000 ≤ 17 * 4000 := Nat.mul_le_mul_right _ h1
  omega
def bodyD (A : Ad) (b : Bw) : D := .ins (b.kn.kd.cls A) bNs [b.d, .str b.nm, .int b.kn.m]
def a_str (A : Ad) (kd : Kd) : ASp := fun ds n Q => ∃ b : Bw, ds = [bodyD A b] ∧ b.ok ∧ b.kn.kd = kd ∧ Q (.str b.tx) n
abbrev a_m_Wall___str__ (A : Ad) : ASp := a_str A .w
theorem init_Wall (T : Tx K mg A) : InitC K A.c_Wall := ⟨T.cl_Wall, T.na_Wall_row, T.na_Wall_name, T.na_Wall_mass⟩
theorem init_Free (T : Tx K mg A) : InitC K A.c_Free := ⟨T.cl_Free, T.na_Free_row, T.na_Free_name, T.na_Free_mass⟩
theorem init_Railed (T : Tx K mg A) : InitC K A.c_Railed := ⟨T.cl_Railed, T.na_Railed_row, T.na_Railed_name, T.na_Railed_mass⟩
theorem ok_m_Wall___str__ (T : Tx K mg A) : FnOk P w K mg base CX0 5 A.f_m_Wall___str__ A.fd_m_Wall___str__ ["self"] (spOf K 1 (a_str A .w)) := by
  refine fn_mir [] 1 rfl (by decide) (by decide) T.F_m_Wall___str__ sc_m_Wall___str__ fun cdv Ar outer s H E hr => ?_
  refine ⟨_, _, (pss_one (ps_ret (k_join (K := K) rfl pe_str (pe_call (ok_p_wall_words (K := K) T) (hr.mono (by decide)) (by rfl) T.g_p_wall_words T.F_p_wall_words.kp T.b_p_wall_words .nil pass0 (pa_cons (k_fld (K := K) rfl (pv 0) rfl) pa_nil))))), by infer_instance, fun ds n Q hl hA => ?_⟩
  obtain ⟨b, rfl, ok, hk, q⟩ := hA
  have hf := ws_fit ok
  obtain ⟨nm, kn, ps, px, py, x, y⟩ := b
  cases kn <;> cases hk
  exact ⟨⟨T.cl_Wall, T.na_Wall_row⟩, _, look_row, _, rfl, ok, rfl, _, rfl, Nat.le_trans hf (by decide), q⟩
theorem ok_m_Free___str__ (T : Tx K mg A) : FnOk P w K mg base CX0 5 A.f_m_Free___str__ A.fd_m_Free___str__ ["self"] (spOf K 1 (a_str A .f)) := by
  refine fn_mir [] 1 rfl (by decide) (by decide) T.F_m_Free___str__ sc_m_Free___str__ fun cdv Ar outer s H E hr => ?_
  refine ⟨_, _, (pss_one (ps_ret (k_join (K := K) rfl pe_str (pe_call (ok_p_free_words (K := K) T) (hr.mono (by decide)) (by rfl) T.g_p_free_words T.F_p_free_words.kp T.b_p_free_words .nil pass0 (pa_cons (k_fld (K := K) rfl (pv 0) rfl) pa_nil))))), by infer_instance, fun ds n Q hl hA => ?_⟩
  obtain ⟨b, rfl, ok, hk, q⟩ := hA
  have hf := ws_fit ok
  obtain ⟨nm, kn, ps, px, py, x, y⟩ := b
  cases kn <;> cases hk
  exact ⟨⟨T.cl_Free, T.na_Free_row⟩, _, look_row, _, rfl, ok, rfl, _, rfl, Nat.le_trans hf (by decide), q⟩
theorem ok_m_Railed___str__ (T : Tx K mg A) : FnOk P w K mg base CX0 5 A.f_m_Railed___str__ A.fd_m_Railed___str__ ["self"] (spOf K 1 (a_str A .r)) := by
  refine fn_mir [] 1 rfl (by decide) (by decide) T.F_m_Railed___str__ sc_m_Railed___str__ fun cdv Ar outer s H E hr => ?_
  refine ⟨_, _, (pss_one (ps_ret (k_join (K := K) rfl pe_str (pe_call (ok_p_rail_words (K := K) T) (hr.mono (by decide)) (by rfl) T.g_p_rail_words T.F_p_rail_words.kp T.b_p_rail_words .nil pass0 (pa_cons (k_fld (K := K) rfl (pv 0) rfl) pa_nil))))), by infer_instance, fun ds n Q hl hA => ?_⟩
  obtain ⟨b, rfl, ok, hk, q⟩ := hA
  have hf := ws_fit ok
  obtain ⟨nm, kn, ps, px, py, x, y⟩ := b
  cases kn <;> cases hk
  exact ⟨⟨T.cl_Railed, T.na_Railed_row⟩, _, look_row, _, rfl, ok, rfl, _, rfl, Nat.le_trans hf (by decide), q⟩
def a_p_body_of (A : Ad) : ASp := fun ds n Q => ∃ b : Bw, ds = [b.d] ∧ b.ok ∧ Q (bodyD A b) n
theorem ok_p_body_of (T : Tx K mg A) : FnOk P w K mg base CX0 3 A.f_p_body_of A.fd_p_body_of ["row"] (spOf K 1 (a_p_body_of A)) := by
  refine fn_mir [] 7 rfl (by decide) (by decide) T.F_p_body_of sc_p_body_of fun cdv Ar outer s H E hr => ?_
  refine ⟨_, _, (pss_cons (ps_asg (pv 0) (k_gtup (K := K) (m := 6) rfl rfl (pgs_cons (pg_name (i := 1) sc_p_body_of.nd rfl (.inl rfl)) (pgs_cons (pg_name (i := 2) sc_p_body_of.nd rfl (.inl rfl)) (pgs_cons (pg_name (i := 3) sc_p_body_of.nd rfl (.inl rfl)) (pgs_cons (pg_name (i := 4) sc_p_body_of.nd rfl (.inl rfl)) (pgs_cons (pg_name (i := 5) sc_p_body_of.nd rfl (.inl rfl)) (pgs_cons (pg_name (i := 6) sc_p_body_of.nd rfl (.inl rfl)) pgs_nil))))))))
    (pss_cons (ps_if (pt_cmpR (k_eq (K := K) rfl hr.units) (pv 3) pe_int (nomark _))
      (pss_one (ps_ret (pe_make T.mk_Wall (ok_m_Body___init__ (K := K) T) (hr.mono (by decide)) (by rfl) T.g_Wall T.b_m_Body___init__ .nil pass0 (pa_cons (pv 0) pa_nil))))
      pss_nil)
    (pss_cons (ps_if (pt_cmpR k_isN (pv 4) pe_non (nomark _))
      (pss_one (ps_ret (pe_make T.mk_Free (ok_m_Body___init__ (K := K) T) (hr.mono (by decide)) (by rfl) T.g_Free T.b_m_Body___init__ .nil pass0 (pa_cons (pv 0) pa_nil))))
      pss_nil)
    (pss_one (ps_ret (pe_make T.mk_Railed (ok_m_Body___init__ (K := K) T) (hr.mono (by decide)) (by rfl) T.g_Railed T.b_m_Body___init__ .nil pass0 (pa_cons (pv 0) pa_nil))))))), by infer_instance, fun ds n Q hl hA => ?_⟩
  obtain ⟨b, rfl, ok, q⟩ := hA
  obtain ⟨nm, kn, ps, px, py, x, y⟩ := b
  cases kn with
  | wall => exact ⟨fun _ => ⟨init_Wall T, q⟩, fun e => Bool.noConfusion e⟩
  | free m =>
    have hm : m ≠ 0 := fun z => by have : 1 ≤ m := ok.1.1; omega
    refine dIte (fun e => absurd e hm) (fun _ => ?_)
    exact ⟨fun _ => ⟨init_Free T, q⟩, fun e => Bool.noConfusion e⟩
  | rail m p1 p2 =>
    have hm : m ≠ 0 := fun z => by have : 1 ≤ m := ok.1.1; omega
    refine dIte (fun e => absurd e hm) (fun _ => ?_)
    exact ⟨fun e => Bool.noConfusion e, fun _ => ⟨init_Railed T, q⟩⟩
/-! ### the state's text -/
structure Stt where
  dx : Rat
  dy : Rat
  g : Rat
  c : Rat
  bs : List Bw
def Stt.d (s : Stt) : D := .tup [spt s.dx s.dy, sh s.g, sh s.c, .tup (s.bs.map Bw.d)]
def Stt.ok (s : Stt) : Prop := BdQ 1500 s.dx ∧ BdQ 1500 s.dy ∧ BdQ 1500 s.g ∧ BdQ 1500 s.c ∧ s.bs.length ≤ 12 ∧ ∀ b ∈ s.bs, b.ok
def hws (x y g c : Rat) : List Str := [Str.ofString "world", wtx x, wtx y, wtx g, wtx c]
def Stt.hl (s : Stt) : Str := Txt.join (Str.ofString " ") (hws s.dx s.dy s.g s.c)
theorem hws_fit {x y g c : Rat} (h1 : BdQ 1500 x) (h2 : BdQ 1500 y) (h3 : BdQ 1500 g) (h4 : BdQ 1500 c) : ((hws x y g c).map (·.length)).sum + (hws x y g c).length * (Str.ofString " ").length ≤ 100000 := by
  have c1 := wtx_len h1 (by decide)
  have c2 := wtx_len h2 (by decide)
  have c3 := wtx_len h3 (by decide)
  have c4 := wtx_len h4 (by decide)
  have c5 : (Str.ofString "world").length = 5 := by decide +kernel
  rw [sp_len]
  unfold hws
  simp only [List.map_cons, List.map_nil, List.sum_cons, List.sum_nil, List.length_cons, List.length_nil]
  omega
def a_p_head_line : ASp := fun ds n Q => ∃ x y g c : Rat, ds = [spt x y, sh g, sh c] ∧ BdQ 1500 x ∧ BdQ 1500 y ∧ BdQ 1500 g ∧ BdQ 1500 c ∧ Q (.str (Txt.join (Str.ofString " ") (hws x y g c))) n
theorem ok_p_head_line (T : Tx K mg A) : FnOk P w K mg base CX0 2 A.f_p_head_line A.fd_p_head_line ["pull", "give", "clock"] (spOf K 3 a_p_head_line) := by
  refine fn_mir [] 5 rfl (by decide) (by decide) T.F_p_head_line sc_p_head_line fun cdv Ar outer s H E hr => ?_
  refine ⟨_, _, (pss_cons (ps_asg (pv 0) (k_gtup (K := K) (m := 2) rfl rfl (pgs_cons (pg_name (i := 3) sc_p_head_line.nd rfl (.inl rfl)) (pgs_cons (pg_name (i := 4) sc_p_head_line.nd rfl (.inl rfl)) pgs_nil))))
    (pss_one (ps_ret (k_join (K := K) rfl pe_str (pe_lst (pa_cons pe_str (pa_cons (pe_call (ok_p_share_text (K := K) T) (hr.mono (by decide)) (by rfl) T.g_p_share_text T.F_p_share_text.kp T.b_p_share_text .nil pass0 (pa_cons (pv 3) pa_nil)) (pa_cons (pe_call (ok_p_share_text (K := K) T) (hr.mono (by decide)) (by rfl) T.g_p_share_text T.F_p_share_text.kp T.b_p_share_text .nil pass0 (pa_cons (pv 4) pa_nil)) (pa_cons (pe_call (ok_p_share_text (K := K) T) (hr.mono (by decide)) (by rfl) T.g_p_share_text T.F_p_share_text.kp T.b_p_share_text .nil pass0 (pa_cons (pv 1) pa_nil)) (pa_cons (pe_call (ok_p_share_text (K := K) T) (hr.mono (by decide)) (by rfl) T.g_p_share_text T.F_p_share_text.kp T.b_p_share_text .nil pass0 (pa_cons (pv 2) pa_nil)) pa_nil)))))))))), by infer_instance, fun ds n Q hl hA => ?_⟩
  obtain ⟨x, y, g, c, rfl, b1, b2, b3, b4, q⟩ := hA
  have hf := hws_fit b1 b2 b3 b4
  exact ⟨x, 1500, rfl, b1, by decide, y, 1500, rfl, b2, by decide, g, 1500, rfl, b3, by decide, c, 1500, rfl, b4, by decide, hws x y g c, rfl, Nat.le_trans hf (by decide), q⟩
theorem joinL_le (S : List Nat) : ∀ ps : List (List Nat), (TL.joinL S ps).length ≤ (ps.map (·.length)).sum + ps.length * S.length
  | [] => Nat.zero_le _
  | [p] => by simp [TL.joinL]
  | p :: q :: r => by
    have := joinL_le S (q :: r)
    show (p ++ (S ++ TL.joinL S (q :: r))).length ≤ _
    rw [List.length_append, List.length_append, List.map_cons, List.sum_cons, List.length_cons, Nat.add_mul, Nat.one_mul]
    omega
theorem join_len_le (a : Str) (ys : List Str) : (Txt.join a ys).length ≤ (ys.map (·.length)).sum + ys.length * a.length := by
  have h : (TL.tl (Txt.join a ys)).length ≤ (ys.map (·.length)).sum + ys.length * a.length := by
    rw [TL.join_eq, TL.tl_join]
    refine Nat.le_trans (joinL_le _ _) ?_
    rw [List.map_map, List.length_map]
    exact Nat.le_refl _
  exact h
theorem tx_len {b : Bw} (h : b.ok) : b.tx.length ≤ 100000 := Nat.le_trans (join_len_le _ _) (ws_fit h)
theorem hl_len {s : Stt} (h : s.ok) : s.hl.length ≤ 100000 := Nat.le_trans (join_len_le _ _) (hws_fit h.1 h.2.1 h.2.2.1 h.2.2.2.1)
def Stt.ls (s : Stt) : List Str := s.hl :: s.bs.map Bw.tx
def Stt.tx (s : Stt) : Str := Txt.join (Str.ofString "\n") s.ls
theorem nl_len : (Str.ofString "\n").length = 1 := by decide +kernel
theorem ls_fit {ls : List Str} (h1 : ls.length ≤ 13) (h2 : ∀ l ∈ ls, l.length ≤ 100000) : (ls.map (·.length)).sum + ls.length * (Str.ofString "\n").length ≤ 16777216 := by
  have h3 := sum_le h2
  rw [nl_len]
  have : ls.length * 100000 ≤ 13 * 100000 := Nat.mul_le_mul_right _ h1
  omega
theorem ls_ok {s : Stt} (h : s.ok) : s.ls.length ≤ 13 ∧ ∀ l ∈ s.ls, l.length ≤ 100000 := by
  refine ⟨?_, fun l hl => ?_⟩
  · have := h.2.2.2.2.1
    unfold Stt.ls
    rw [List.length_cons, List.length_map]
    omega
  · rcases List.mem_cons.mp hl with rfl | hl
    · exact hl_len h
    · obtain ⟨b, hb, rfl⟩ := List.mem_map.mp hl
      exact tx_len (h.2.2.2.2.2 b hb)
def a_p_state_text : ASp := fun ds n Q => ∃ s : Stt, ds = [s.d] ∧ s.ok ∧ Q (.str s.tx) n
theorem ok_p_state_text (T : Tx K mg A) : FnOk P w K mg base CX0 8 A.f_p_state_text A.fd_p_state_text ["state"] (spOf K 1 a_p_state_text) := by
  refine fn_mir [] 6 rfl (by decide) (by decide) T.F_p_state_text sc_p_state_text fun cdv Ar outer s H E hr => ?_
  refine ⟨_, _, (pss_cons (ps_asg (pv 0) (k_gtup (K := K) (m := 4) rfl rfl (pgs_cons (pg_name (i := 1) sc_p_state_text.nd rfl (.inl rfl)) (pgs_cons (pg_name (i := 2) sc_p_state_text.nd rfl (.inl rfl)) (pgs_cons (pg_name (i := 3) sc_p_state_text.nd rfl (.inl rfl)) (pgs_cons (pg_name (i := 4) sc_p_state_text.nd rfl (.inl rfl)) pgs_nil))))))
    (pss_one (ps_ret (k_join (K := K) rfl pe_str (pe_op (k_add (K := K) rfl) (pe_lst (pa_cons (pe_call (ok_p_head_line (K := K) T) (hr.mono (by decide)) (by rfl) T.g_p_head_line T.F_p_head_line.kp T.b_p_head_line .nil pass0 (pa_cons (pv 1) (pa_cons (pv 2) (pa_cons (pv 3) pa_nil)))) pa_nil)) (pe_lc (own := [("row", 5)]) rfl sc_p_state_text.nd (k_iter (K := K) rfl (pv 4)) (blkOk_by (own := [("row", 5)]) (N := ["state", "pull", "give", "clock", "rows", "row"]) (sc := defScope s_p_state_text) (by decide +kernel)) (fun _ _ _ _ _ => (pg_name (i := 5) sc_p_state_text.nd rfl (Or.inl rfl))) (fun _ _ _ _ _ => pts_nil) (fun _ _ _ _ _ => (pe_callTy (k_strD (K := K) (cls := Kd.cls A) (B := a_str A) (call_strOwn T.mt_m_Wall___str__ (ok_m_Wall___str__ (K := K) T) (hr.mono (by decide)) T.b_m_Wall___str__ pass0) (call_strOwn T.mt_m_Free___str__ (ok_m_Free___str__ (K := K) T) (hr.mono (by decide)) T.b_m_Free___str__ pass0) (call_strOwn T.mt_m_Railed___str__ (ok_m_Railed___str__ (K := K) T) (hr.mono (by decide)) T.b_m_Railed___str__ pass0)) (by rfl) T.m_str (by decide +kernel) (pa_cons (pe_call (ok_p_body_of (K := K) T) (hr.mono (by decide)) (by rfl) T.g_p_body_of T.F_p_body_of.kp T.b_p_body_of .nil pass0 (pa_cons (pv 5) pa_nil)) pa_nil))))))))), by infer_instance, fun ds n Q hl hA => ?_⟩
  obtain ⟨s, rfl, ok, q⟩ := hA
  have hlo := ls_ok ok
  obtain ⟨b1, b2, b3, b4, hl, hb⟩ := ok
  refine ⟨s.dx, s.dy, s.g, s.c, rfl, b1, b2, b3, b4, by rw [List.length_map]; omega, ?_⟩
  refine aLc_ind (fun acc ds m => m = n ∧ ∃ (pre suf : List Bw), s.bs = pre ++ suf ∧ ds = suf.map Bw.d ∧ acc = (pre.map Bw.tx).map D.str) ?_ ?_ ⟨rfl, [], s.bs, rfl, rfl, rfl⟩
  · rintro acc d r _ ⟨rfl, pre, suf, hs, e, rfl⟩ ih
    cases suf with
    | nil => cases e
    | cons b suf =>
    obtain ⟨rfl, rfl⟩ := List.cons.inj e
    have ok := hb b (by rw [hs]; simp)
    refine aT ⟨b, rfl, ok, b.kn.kd, _, _, rfl, b, rfl, ok, rfl, ⟨_, rfl⟩, ih _ _ ⟨rfl, pre ++ [b], suf, by rw [hs, List.append_assoc]; rfl, rfl, ?_⟩⟩
    rw [List.map_append, List.map_append]
    rfl
  · rintro acc _ ⟨rfl, pre, suf, hs, e, rfl⟩
    cases suf with
    | cons b suf => cases e
    | nil =>
    rw [List.append_nil] at hs
    rw [← hs]
    refine ⟨by rw [List.length_map, List.length_map]; show 1 + s.bs.length ≤ 1000000; omega, s.ls, rfl, ls_fit hlo.1 hlo.2, q⟩
/-! ### the law's words -/
def a_l_word : ASp := fun ds n Q => ∃ (q : Rat) (k : Nat), ds = [sh q] ∧ BdQ k q ∧ k ≤ 1900 ∧ Q (.str (wtx q)) n
theorem ok_l_word (T : Tx K mg A) : FnOk P w K mg base CX0 1 A.f_l_word A.fd_l_word ["_law_part_here"] (spOf K 1 a_l_word) := by
  refine fn_mir [] 1 rfl (by decide) (by decide) T.F_l_word sc_l_word fun cdv Ar outer s H E hr => ?_
  refine ⟨_, _, (pss_cons (ps_if (pt_cmpR (k_eq (K := K) rfl hr.units) (pe_ix (k_ix (K := K) rfl) (pv 0) pe_int (fun _ _ => rfl)) pe_int (nomark _))
      (pss_one (ps_ret (pe_callTy k_str (by rfl) T.m_str (by decide +kernel) (pa_cons (pe_ix (k_ix (K := K) rfl) (pv 0) pe_int (fun _ _ => rfl)) pa_nil))))
      pss_nil)
    (pss_one (ps_ret (pe_op (k_add (K := K) rfl) (pe_op (k_add (K := K) rfl) (pe_callTy k_str (by rfl) T.m_str (by decide +kernel) (pa_cons (pe_ix (k_ix (K := K) rfl) (pv 0) pe_int (fun _ _ => rfl)) pa_nil)) pe_str) (pe_callTy k_str (by rfl) T.m_str (by decide +kernel) (pa_cons (pe_ix (k_ix (K := K) rfl) (pv 0) pe_int (fun _ _ => rfl)) pa_nil)))))), by infer_instance, fun ds n Q hl hA => ?_⟩
  obtain ⟨q, k, rfl, b, hk, Qk⟩ := hA
  have l1 := bd_log b.1 hk
  have l2 := bd_log b.2 hk
  have t1 := iT_len l1
  have t2 := iT_len l2
  have h3 := one_len
  refine dIte (fun e => ?_) fun e => ?_
  · refine ⟨l1, ?_⟩
    rw [show wtx q = iT q.num from if_pos e] at Qk
    exact Qk
  · rw [show wtx q = (iT q.num ++ Str.ofString "/") ++ iT (q.den : Int) from if_neg e] at Qk
    exact ⟨l1, by show (iT q.num).length + (Str.ofString "/").length ≤ _; omega, l2, by rw [str_app_len]; show (iT q.num).length + _ + (iT (q.den : Int)).length ≤ _; omega, Qk⟩
def a_l_words : ASp := fun ds n Q => ∃ b : Bw, ds = [b.d] ∧ b.ok ∧ Q (.lst (b.ws.map D.str)) n
theorem ok_l_words (T : Tx K mg A) : FnOk P w K mg base CX0 2 A.f_l_words A.fd_l_words ["_law_row_here"] (spOf K 1 a_l_words) := by
  refine fn_mir [] 12 rfl (by decide) (by decide) T.F_l_words sc_l_words fun cdv Ar outer s H E hr => ?_
  refine ⟨_, _, (pss_cons (ps_asg (pv 0) (k_gtup (K := K) (m := 6) rfl rfl (pgs_cons (pg_name (i := 1) sc_l_words.nd rfl (.inl rfl)) (pgs_cons (pg_name (i := 2) sc_l_words.nd rfl (.inl rfl)) (pgs_cons (pg_name (i := 3) sc_l_words.nd rfl (.inl rfl)) (pgs_cons (pg_name (i := 4) sc_l_words.nd rfl (.inl rfl)) (pgs_cons (pg_name (i := 5) sc_l_words.nd rfl (.inl rfl)) (pgs_cons (pg_name (i := 6) sc_l_words.nd rfl (.inl rfl)) pgs_nil))))))))
    (pss_cons (ps_set (i := 7) sc_l_words.nd rfl (.inl rfl) (pe_lst (pa_cons pe_str (pa_cons (pv 1) pa_nil))))
    (pss_cons (ps_setLc (i := 8) (own := [("_law_part_here", 9)]) rfl sc_l_words.nd rfl rfl (sw_true rfl rfl rfl (by decide +kernel)) (k_iter (K := K) rfl (pv 5)) (blkOk_by (own := [("_law_part_here", 9)]) (N := ["_law_row_here", "_law_name", "_law_shape_here", "_law_weight", "_law_way", "_law_place", "_law_fast", "_law_head", "_law_going", "_law_part_here", "_law_x", "_law_y"]) (sc := defScope s_l_words) (by decide +kernel)) (fun _ _ _ _ _ => (pg_name (i := 9) sc_l_words.nd rfl (Or.inl rfl))) (fun _ _ _ _ _ => pts_nil) (fun _ _ _ _ _ => (pe_call (ok_l_word (K := K) T) (hr.mono (by decide)) (by rfl) T.g_l_word T.F_l_word.kp T.b_l_word .nil pass0 (pa_cons (pv 9) pa_nil))))
    (pss_cons (ps_if (pt_cmpR op_gt (pv 3) pe_int (nomark _))
      (pss_cons (ps_set (i := 7) sc_l_words.nd rfl (.inl rfl) (pe_lst (pa_cons pe_str (pa_cons (pv 1) (pa_cons (pe_callTy k_str (by rfl) T.m_str (by decide +kernel) (pa_cons (pv 3) pa_nil)) pa_nil)))))
    (pss_one (ps_set (i := 8) sc_l_words.nd rfl (.inl rfl) (pe_op (k_add (K := K) rfl) (pv 8) (pe_lc (own := [("_law_part_here", 9)]) rfl sc_l_words.nd (k_iter (K := K) rfl (pv 6)) (blkOk_by (own := [("_law_part_here", 9)]) (N := ["_law_row_here", "_law_name", "_law_shape_here", "_law_weight", "_law_way", "_law_place", "_law_fast", "_law_head", "_law_going", "_law_part_here", "_law_x", "_law_y"]) (sc := defScope s_l_words) (by decide +kernel)) (fun _ _ _ _ _ => (pg_name (i := 9) sc_l_words.nd rfl (Or.inl rfl))) (fun _ _ _ _ _ => pts_nil) (fun _ _ _ _ _ => (pe_call (ok_l_word (K := K) T) (hr.mono (by decide)) (by rfl) T.g_l_word T.F_l_word.kp T.b_l_word .nil pass0 (pa_cons (pv 9) pa_nil))))))))
      pss_nil)
    (pss_cons (ps_if (pt_cmpR k_notN (pv 4) pe_non (nomark _))
      (pss_one (ps_set (i := 7) sc_l_words.nd rfl (.inl rfl) (pe_lst (pa_cons pe_str (pa_cons (pv 1) (pa_cons (pe_callTy k_str (by rfl) T.m_str (by decide +kernel) (pa_cons (pv 3) pa_nil)) (pa_cons (pe_callTy k_str (by rfl) T.m_str (by decide +kernel) (pa_cons (pe_ix (k_ix (K := K) rfl) (pv 4) pe_int (fun _ _ => rfl)) pa_nil)) (pa_cons (pe_callTy k_str (by rfl) T.m_str (by decide +kernel) (pa_cons (pe_ix (k_ix (K := K) rfl) (pv 4) pe_int (fun _ _ => rfl)) pa_nil)) pa_nil))))))))
      pss_nil)
    (pss_one (ps_ret (pe_op (k_add (K := K) rfl) (pe_op (k_add (K := K) rfl) (pv 7) (pv 8)) (pe_lc (own := [("_law_x", 10), ("_law_y", 11)]) rfl sc_l_words.nd (k_iter (K := K) rfl (pv 2)) (blkOk_by (own := [("_law_x", 10), ("_law_y", 11)]) (N := ["_law_row_here", "_law_name", "_law_shape_here", "_law_weight", "_law_way", "_law_place", "_law_fast", "_law_head", "_law_going", "_law_part_here", "_law_x", "_law_y"]) (sc := defScope s_l_words) (by decide +kernel)) (fun _ _ _ _ _ => (k_gtup (K := K) (m := 2) rfl rfl (pgs_cons (pg_name (i := 10) sc_l_words.nd rfl (Or.inl rfl)) (pgs_cons (pg_name (i := 11) sc_l_words.nd rfl (Or.inl rfl)) pgs_nil)))) (fun _ _ _ _ _ => pts_nil) (fun _ _ _ _ _ => (pe_op (k_add (K := K) rfl) (pe_op (k_add (K := K) rfl) (pe_callTy k_str (by rfl) T.m_str (by decide +kernel) (pa_cons (pv 10) pa_nil)) pe_str) (pe_callTy k_str (by rfl) T.m_str (by decide +kernel) (pa_cons (pv 11) pa_nil))))))))))))), by infer_instance, fun ds n Q hl hA => ?_⟩
  obtain ⟨b, rfl, ok, q⟩ := hA
  obtain ⟨nm, kn, ps, px, py, x, y⟩ := b
  obtain ⟨ok, hl, hp, b1, b2, b3, b4, hn⟩ := ok
  refine ⟨(show 2 ≤ 1000000 by decide), aT ⟨px, 1500, rfl, b1, by decide, aT ⟨py, 1500, rfl, b2, by decide, ?_⟩⟩⟩
  cases kn with
  | wall =>
    refine dIte (fun e => absurd e (show ¬ (0 : Int) < 0 by decide)) fun _ => aF ⟨(show 2 + 2 ≤ 1000000 by decide), ?_⟩
    refine ⟨by rw [List.length_map]; have hl' : ps.length ≤ 8 := hl; show ps.length ≤ 1000000; omega, ?_⟩
    refine aLc_ind (fun acc ds m => m = n ∧ ∃ (pre suf : List Pt), ps = pre ++ suf ∧ ds = suf.map pt ∧ acc = (pre.map cw).map D.str) ?_ ?_ ⟨rfl, [], ps, rfl, rfl, rfl⟩
    · rintro acc d r _ ⟨rfl, pre, suf, hs, e, rfl⟩ ih
      cases suf with
      | nil => cases e
      | cons p suf =>
      obtain ⟨rfl, rfl⟩ := List.cons.inj e
      have ok := hp p (by show p ∈ ps; rw [hs]; simp)
      have l1 := bd_log ok.1 (by decide)
      have l2 := bd_log ok.2 (by decide)
      have t1 := iT_len l1
      have t2 := iT_len l2
      have h3 := com_len
      refine aT ⟨l1, by show (iT p.1).length + (Str.ofString ",").length ≤ _; omega, l2, by rw [str_app_len]; show (iT p.1).length + _ + (iT p.2).length ≤ _; omega, ih _ _ ⟨rfl, pre ++ [p], suf, by rw [hs, List.append_assoc]; rfl, rfl, ?_⟩⟩
      rw [List.map_append, List.map_append]
      rfl
    · rintro acc _ ⟨rfl, pre, suf, hs, e, rfl⟩
      cases suf with
      | cons p suf => cases e
      | nil =>
      rw [List.append_nil] at hs
      subst hs
      refine ⟨by rw [List.length_map, List.length_map]; have hl' : ps.length ≤ 8 := hl; show 4 + ps.length ≤ 1000000; omega, ?_⟩
      have e : (Bw.mk nm .wall ps px py x y).ws.map D.str = [D.str (Str.ofString "wall"), D.str nm] ++ [.str (wtx px), .str (wtx py)] ++ (ps.map cw).map D.str := by
        show ([Str.ofString "wall", nm] ++ [wtx px, wtx py] ++ ps.map cw).map D.str = _
        rw [List.map_append, List.map_append]
        rfl
      rw [e] at q
      exact q
  | free m =>
    have hm : 0 < m := by have : 1 ≤ m := ok.1; omega
    refine dIte (fun _ => ?_) fun e => absurd hm e
    refine ⟨bd_log ok.2 (by decide), (show 2 ≤ 1000000 by decide), aT ⟨x, 1500, rfl, b3, by decide, aT ⟨y, 1500, rfl, b4, by decide, ?_⟩⟩⟩
    refine ⟨(show 2 + 2 ≤ 1000000 by decide), aF ⟨(show 3 + 4 ≤ 1000000 by decide), ?_⟩⟩
    refine ⟨by rw [List.length_map]; have hl' : ps.length ≤ 8 := hl; show ps.length ≤ 1000000; omega, ?_⟩
    refine aLc_ind (fun acc ds m => m = n ∧ ∃ (pre suf : List Pt), ps = pre ++ suf ∧ ds = suf.map pt ∧ acc = (pre.map cw).map D.str) ?_ ?_ ⟨rfl, [], ps, rfl, rfl, rfl⟩
    · rintro acc d r _ ⟨rfl, pre, suf, hs, e, rfl⟩ ih
      cases suf with
      | nil => cases e
      | cons p suf =>
      obtain ⟨rfl, rfl⟩ := List.cons.inj e
      have ok := hp p (by show p ∈ ps; rw [hs]; simp)
      have l1 := bd_log ok.1 (by decide)
      have l2 := bd_log ok.2 (by decide)
      have t1 := iT_len l1
      have t2 := iT_len l2
      have h3 := com_len
      refine aT ⟨l1, by show (iT p.1).length + (Str.ofString ",").length ≤ _; omega, l2, by rw [str_app_len]; show (iT p.1).length + _ + (iT p.2).length ≤ _; omega, ih _ _ ⟨rfl, pre ++ [p], suf, by rw [hs, List.append_assoc]; rfl, rfl, ?_⟩⟩
      rw [List.map_append, List.map_append]
      rfl
    · rintro acc _ ⟨rfl, pre, suf, hs, e, rfl⟩
      cases suf with
      | cons p suf => cases e
      | nil =>
      rw [List.append_nil] at hs
      subst hs
      refine ⟨by rw [List.length_map, List.length_map]; have hl' : ps.length ≤ 8 := hl; show 7 + ps.length ≤ 1000000; omega, ?_⟩
      have e : (Bw.mk nm (.free m) ps px py x y).ws.map D.str = [D.str (Str.ofString "free"), D.str nm, D.str (iT m)] ++ ([.str (wtx px), .str (wtx py)] ++ [.str (wtx x), .str (wtx y)]) ++ (ps.map cw).map D.str := by
        show ([Str.ofString "free", nm, iT m] ++ [wtx px, wtx py] ++ [wtx x, wtx y] ++ ps.map cw).map D.str = _
        rw [List.map_append, List.map_append, List.map_append]
        rfl
      rw [e] at q
      exact q
  | rail m p1 p2 =>
    have hm : 0 < m := by have : 1 ≤ m := ok.1; omega
    refine dIte (fun _ => ?_) fun e => absurd hm e
    have g1 : m.natAbs.log2 < 1920 := bd_log ok.2.1 (by decide)
    have g2 : p1.natAbs.log2 < 1920 := bd_log ok.2.2.1 (by decide)
    have g3 : p2.natAbs.log2 < 1920 := bd_log ok.2.2.2 (by decide)
    refine ⟨g1, (show 2 ≤ 1000000 by decide), aT ⟨x, 1500, rfl, b3, by decide, aT ⟨y, 1500, rfl, b4, by decide, ?_⟩⟩⟩
    refine ⟨(show 2 + 2 ≤ 1000000 by decide), ?_⟩
    refine aT ?_
    refine ⟨g1, ?_⟩
    refine ⟨g2, ?_⟩
    refine ⟨g3, ?_⟩
    simp only [startA, eSetAll, eSet, List.cons_append, List.nil_append]
    refine ⟨(show 5 + 4 ≤ 1000000 by decide), ?_⟩
    refine ⟨by rw [List.length_map]; have hl' : ps.length ≤ 8 := hl; show ps.length ≤ 1000000; omega, ?_⟩
    refine aLc_ind (fun acc ds m => m = n ∧ ∃ (pre suf : List Pt), ps = pre ++ suf ∧ ds = suf.map pt ∧ acc = (pre.map cw).map D.str) ?_ ?_ ⟨rfl, [], ps, rfl, rfl, rfl⟩
    · rintro acc d r _ ⟨rfl, pre, suf, hs, e, rfl⟩ ih
      cases suf with
      | nil => cases e
      | cons p suf =>
      obtain ⟨rfl, rfl⟩ := List.cons.inj e
      have ok := hp p (by show p ∈ ps; rw [hs]; simp)
      have l1 := bd_log ok.1 (by decide)
      have l2 := bd_log ok.2 (by decide)
      have t1 := iT_len l1
      have t2 := iT_len l2
      have h3 := com_len
      refine aT ⟨l1, by show (iT p.1).length + (Str.ofString ",").length ≤ _; omega, l2, by rw [str_app_len]; show (iT p.1).length + _ + (iT p.2).length ≤ _; omega, ih _ _ ⟨rfl, pre ++ [p], suf, by rw [hs, List.append_assoc]; rfl, rfl, ?_⟩⟩
      rw [List.map_append, List.map_append]
      rfl
    · rintro acc _ ⟨rfl, pre, suf, hs, e, rfl⟩
      cases suf with
      | cons p suf => cases e
      | nil =>
      rw [List.append_nil] at hs
      subst hs
      refine ⟨by rw [List.length_map, List.length_map]; have hl' : ps.length ≤ 8 := hl; show 9 + ps.length ≤ 1000000; omega, ?_⟩
      have e : (Bw.mk nm (.rail m p1 p2) ps px py x y).ws.map D.str = [D.str (Str.ofString "rail"), D.str nm, D.str (iT m), D.str (iT p1), D.str (iT p2)] ++ ([.str (wtx px), .str (wtx py)] ++ [.str (wtx x), .str (wtx y)]) ++ (ps.map cw).map D.str := by
        show ([Str.ofString "rail", nm, iT m, iT p1, iT p2] ++ [wtx px, wtx py] ++ [wtx x, wtx y] ++ ps.map cw).map D.str = _
        rw [List.map_append, List.map_append, List.map_append]
        rfl
      rw [e] at q
      exact q
def a_l_lines : ASp := fun ds _ Q => ∃ s : Stt, ds = [s.d] ∧ s.ok ∧ ∀ n', Q (.lst (s.ls.map D.str)) n'
theorem ok_l_lines (T : Tx K mg A) : FnOk P w K mg base CX0 3 A.f_l_lines A.fd_l_lines ["_law_state_here"] (spOf K 1 a_l_lines) := by
  refine fn_mir [] 9 rfl (by decide) (by decide) T.F_l_lines sc_l_lines fun cdv Ar outer s H E hr => ?_
  refine ⟨_, _, (pss_cons (ps_asg (pv 0) (k_gtup (K := K) (m := 4) rfl rfl (pgs_cons (pg_name (i := 1) sc_l_lines.nd rfl (.inl rfl)) (pgs_cons (pg_name (i := 2) sc_l_lines.nd rfl (.inl rfl)) (pgs_cons (pg_name (i := 3) sc_l_lines.nd rfl (.inl rfl)) (pgs_cons (pg_name (i := 4) sc_l_lines.nd rfl (.inl rfl)) pgs_nil))))))
    (pss_cons (ps_set (i := 5) sc_l_lines.nd rfl (.inl rfl) (pe_op (k_add (K := K) rfl) (pe_lst (pa_cons pe_str pa_nil)) (pe_lc (own := [("_law_part_here", 6)]) rfl sc_l_lines.nd (k_iter (K := K) rfl (pe_lst (pa_cons (pe_ix (k_ix (K := K) rfl) (pv 1) pe_int (fun _ _ => rfl)) (pa_cons (pe_ix (k_ix (K := K) rfl) (pv 1) pe_int (fun _ _ => rfl)) (pa_cons (pv 2) (pa_cons (pv 3) pa_nil)))))) (blkOk_by (own := [("_law_part_here", 6)]) (N := ["_law_state_here", "_law_drift", "_law_bounce", "_law_clock", "_law_rows", "_law_head", "_law_part_here", "_law_words_here", "_law_row_here"]) (sc := defScope s_l_lines) (by decide +kernel)) (fun _ _ _ _ _ => (pg_name (i := 6) sc_l_lines.nd rfl (Or.inl rfl))) (fun _ _ _ _ _ => pts_nil) (fun _ _ _ _ _ => (pe_call (ok_l_word (K := K) T) (hr.mono (by decide)) (by rfl) T.g_l_word T.F_l_word.kp T.b_l_word .nil pass0 (pa_cons (pv 6) pa_nil))))))
    (pss_one (ps_ret (pe_lc (own := [("_law_words_here", 7)]) rfl sc_l_lines.nd (k_iter (K := K) rfl (pe_op (k_add (K := K) rfl) (pe_lst (pa_cons (pv 5) pa_nil)) (pe_lc (own := [("_law_row_here", 8)]) rfl sc_l_lines.nd (k_iter (K := K) rfl (pv 4)) (blkOk_by (own := [("_law_row_here", 8)]) (N := ["_law_state_here", "_law_drift", "_law_bounce", "_law_clock", "_law_rows", "_law_head", "_law_part_here", "_law_words_here", "_law_row_here"]) (sc := defScope s_l_lines) (by decide +kernel)) (fun _ _ _ _ _ => (pg_name (i := 8) sc_l_lines.nd rfl (Or.inl rfl))) (fun _ _ _ _ _ => pts_nil) (fun _ _ _ _ _ => (pe_call (ok_l_words (K := K) T) (hr.mono (by decide)) (by rfl) T.g_l_words T.F_l_words.kp T.b_l_words .nil pass0 (pa_cons (pv 8) pa_nil)))))) (blkOk_by (own := [("_law_words_here", 7)]) (N := ["_law_state_here", "_law_drift", "_law_bounce", "_law_clock", "_law_rows", "_law_head", "_law_part_here", "_law_words_here", "_law_row_here"]) (sc := defScope s_l_lines) (by decide +kernel)) (fun _ _ _ _ _ => (pg_name (i := 7) sc_l_lines.nd rfl (Or.inl rfl))) (fun _ _ _ _ _ => pts_nil) (fun _ _ _ _ _ => (k_join (K := K) rfl pe_str (pv 7)))))))), by infer_instance, fun ds n Q hl hA => ?_⟩
  obtain ⟨s, rfl, ok, q⟩ := hA
  obtain ⟨b1, b2, b3, b4, hl, hb⟩ := ok
  refine ⟨(show 4 ≤ 1000000 by decide), aT ⟨s.dx, 1500, rfl, b1, by decide, aT ⟨s.dy, 1500, rfl, b2, by decide, aT ⟨s.g, 1500, rfl, b3, by decide, aT ⟨s.c, 1500, rfl, b4, by decide, ?_⟩⟩⟩⟩⟩
  refine ⟨(show 1 + 4 ≤ 1000000 by decide), by rw [List.length_map]; omega, ?_⟩
  refine aLc_ind (fun acc ds m => m = n ∧ ∃ (pre suf : List Bw), s.bs = pre ++ suf ∧ ds = suf.map Bw.d ∧ acc = pre.map fun b => D.lst (b.ws.map D.str)) ?_ ?_ ⟨rfl, [], s.bs, rfl, rfl, rfl⟩
  · rintro acc d r _ ⟨rfl, pre, suf, hs, e, rfl⟩ ih
    cases suf with
    | nil => cases e
    | cons b suf =>
    obtain ⟨rfl, rfl⟩ := List.cons.inj e
    have ok := hb b (by rw [hs]; simp)
    refine aT ⟨b, rfl, ok, ih _ _ ⟨rfl, pre ++ [b], suf, by rw [hs, List.append_assoc]; rfl, rfl, ?_⟩⟩
    rw [List.map_append]
    rfl
  · rintro acc m0 ⟨_, pre, suf, hs, e, rfl⟩
    cases suf with
    | cons b suf => cases e
    | nil =>
    rw [List.append_nil] at hs
    rw [← hs]
    have hf := hws_fit b1 b2 b3 b4
    refine ⟨by rw [List.length_map]; show 1 + s.bs.length ≤ 1000000; omega, by rw [List.length_append, List.length_map]; show 1 + s.bs.length ≤ 1000000; omega, ?_⟩
    refine aT ⟨hws s.dx s.dy s.g s.c, rfl, Nat.le_trans hf (by decide), ?_⟩
    refine aLc_ind (fun acc ds m => ∃ (pre suf : List Bw), s.bs = pre ++ suf ∧ (ds = suf.map fun b => D.lst (b.ws.map D.str)) ∧ acc = D.str s.hl :: (pre.map Bw.tx).map D.str) ?_ ?_ ⟨[], s.bs, rfl, rfl, rfl⟩
    · rintro acc d r _ ⟨pre, suf, hs, e, rfl⟩ ih
      cases suf with
      | nil => cases e
      | cons b suf =>
      obtain ⟨rfl, rfl⟩ := List.cons.inj e
      have ok := hb b (by rw [hs]; simp)
      refine aT ⟨b.ws, rfl, Nat.le_trans (ws_fit ok) (by decide), ih _ _ ⟨pre ++ [b], suf, by rw [hs, List.append_assoc]; rfl, rfl, ?_⟩⟩
      rw [List.map_append, List.map_append]
      rfl
    · rintro acc m1 ⟨pre, suf, hs, e, rfl⟩
      cases suf with
      | cons b suf => cases e
      | nil =>
      rw [List.append_nil] at hs
      rw [← hs]
      exact q _

/-! ### the law's numbers -/
def partD (a b : Int) : D := .tup [.int (a / gcdI a b), .int (b / gcdI a b)]
theorem part_sh {a b : Int} (hb : 0 < b) : partD a b = sh (Rat.divInt a b) := by
  obtain ⟨h1, h2, _, _⟩ := low_is (a := a) (b := b) hb
  exact sh_of h1 (by omega) h2
abbrev a_l_gcd : ASp := a_gcd
theorem ok_l_gcd (T : Tx K mg A) : FnOk P w K mg base CX0 1 A.f_l_gcd A.fd_l_gcd ["_law_one", "_law_other"] (spOf K 2 a_l_gcd) := by
  refine fn_mir [] 3 rfl (by decide) (by decide) T.F_l_gcd sc_l_gcd fun cdv Ar outer s H E hr => ?_
  refine ⟨_, _, (pss_cons (ps_set (i := 0) sc_l_gcd.nd rfl (.inl rfl) (pe_callB k_abs (by rfl) T.m_abs (by decide +kernel) (pa_cons (pv 0) pa_nil)))
    (pss_cons (ps_set (i := 1) sc_l_gcd.nd rfl (.inl rfl) (pe_callB k_abs (by rfl) T.m_abs (by decide +kernel) (pa_cons (pv 1) pa_nil)))
    (pss_cons (ps_while PassesOwn.never (pt_cmpR op_gt (pv 1) pe_int (nomark _))
      (pss_cons (ps_set (i := 2) sc_l_gcd.nd rfl (.inl rfl) (pe_op op_mod (pv 0) (pv 1)))
    (pss_cons (ps_set (i := 0) sc_l_gcd.nd rfl (.inl rfl) (pv 1))
    (pss_one (ps_set (i := 1) sc_l_gcd.nd rfl (.inl rfl) (pv 2))))))
    (pss_one (ps_ret (pv 0)))))), by infer_instance, fun ds n Q hl hA => ?_⟩
  obtain ⟨a, b, rfl, q⟩ := hA
  refine ⟨fun m ρ n' => ∃ (x y : Nat) (z : Option D), ρ = [some (.int (x : Int)), some (.int (y : Int)), z] ∧ m = y ∧ n' = n ∧ Nat.gcd x y = Nat.gcd a.natAbs b.natAbs, ⟨_, a.natAbs, b.natAbs, none, by rw [← abs_nat, ← abs_nat]; rfl, rfl, rfl, rfl⟩, ?_⟩
  rintro m _ _ ⟨x, y, z, rfl, rfl, rfl, g⟩
  refine dIte (fun h => ?_) (fun h => ?_)
  · refine ⟨(show (0 : Int) < m by omega), x % m, Nat.mod_lt _ (by omega), m, x % m, _, rfl, rfl, rfl, ?_⟩
    rw [← g, Nat.gcd_comm x m, Nat.gcd_rec m x, Nat.gcd_comm]
  · have hm : m = 0 := by omega
    subst hm
    have e : (x : Int) = gcdI a b := by
      unfold gcdI
      rw [← g, Nat.gcd_zero_right]
    show Q (.int (x : Int)) _
    rw [e]
    exact q
@[irreducible] def a_l_share : ASp := fun ds n Q => ∃ (a b : Int) (k : Nat), ds = [.int a, .int b] ∧ 0 < b ∧ 0 < gcdI a b ∧ Bd k (gcdI a b) ∧ k < 9000 ∧ Q (partD a b) n
theorem ok_l_share (T : Tx K mg A) : FnOk P w K mg base CX0 2 A.f_l_share A.fd_l_share ["_law_top", "_law_bottom"] (spOf K 2 a_l_share) := by
  refine fn_mir [] 3 rfl (by decide) (by decide) T.F_l_share sc_l_share fun cdv Ar outer s H E hr => ?_
  refine ⟨_, _, (pss_cons (ps_if (pt_cmpR op_lt (pv 1) pe_int (nomark _))
      (pss_cons (ps_set (i := 0) sc_l_share.nd rfl (.inl rfl) (pe_un un_neg (pv 0)))
    (pss_one (ps_set (i := 1) sc_l_share.nd rfl (.inl rfl) (pe_un un_neg (pv 1)))))
      pss_nil)
    (pss_cons (ps_set (i := 2) sc_l_share.nd rfl (.inl rfl) (pe_call (ok_l_gcd (K := K) T) (hr.mono (by decide)) (by rfl) T.g_l_gcd T.F_l_gcd.kp T.b_l_gcd .nil pass0 (pa_cons (pv 0) (pa_cons (pv 1) pa_nil))))
    (pss_one (ps_ret (pe_tup (pa_cons (pe_op k_fdiv (pv 0) (pv 2)) (pa_cons (pe_op k_fdiv (pv 1) (pv 2)) pa_nil))))))), by infer_instance, fun ds n Q hl hA => ?_⟩
  unfold a_l_share at hA
  obtain ⟨a, b, k, rfl, hb, g0, gb, hk, q⟩ := hA
  refine dIte (fun e => absurd e (by omega)) fun _ => ?_
  exact ⟨a, b, rfl, divA gb g0 hk, divA gb g0 hk, q⟩
theorem share_ok {a b : Int} {k n : Nat} {Q : D → Nat → Prop} (hb : 0 < b) (bb : Bd k b) (hk : k < 9000) (q : Q (sh (Rat.divInt a b)) n) : a_l_share [.int a, .int b] n Q := by
  unfold a_l_share
  exact ⟨a, b, k, rfl, hb, gcdI_pos (by omega), gcdI_bd bb (by omega), hk, by rw [part_sh hb]; exact q⟩
theorem small_log {m : Int} (h0 : 0 < m) (h1 : m ≤ 4000000) : m.natAbs.log2 < 9000 := by
  have e : (2 : Nat) ^ 22 = 4194304 := by decide
  exact Nat.lt_of_lt_of_le (log2_lt (k := 22) (by omega) (by decide)) (by decide)
theorem bd_abs {k : Nat} {r n : Int} (h1 : n.natAbs < 2 ^ k) (h2 : -n ≤ r) (h3 : r ≤ n) : Bd k r := by
  unfold Bd
  omega
open PySem.NumText in
theorem dv_lt : ∀ (k : Nat) (cs : List Nat), cs.length = k → (∀ c ∈ cs, c ≤ 57) → digitsVal cs < 10 ^ k
  | 0, cs, h, _ => by
    obtain rfl := List.length_eq_zero_iff.mp h
    decide
  | k + 1, cs, h, hc => by
    have hne : cs ≠ [] := fun z => by rw [z] at h; cases h
    have e := List.dropLast_concat_getLast hne
    have hl : cs.dropLast.length = k := by rw [List.length_dropLast]; omega
    have ih := dv_lt k cs.dropLast hl fun c hm => hc c (List.dropLast_subset _ hm)
    have h9 := hc _ (List.getLast_mem hne)
    rw [← e, digitsVal_snoc, Nat.pow_succ]
    omega
open PySem.NumText in
theorem rep_int {d : Int} (h0 : 0 ≤ d) (h1 : d ≤ 8) : (iT (1 + d)).length = 1 ∧ ∀ (k : Nat) (t : Str), 1 ≤ k → k ≤ 390 → t.cps.toList = (List.replicate k (iT (1 + d)).cps.toList).flatten → ∃ i : Int, PySem.intText? t = some i ∧ t.length ≤ 640 ∧ 0 ≤ i ∧ Bd 1300 i := by
  obtain ⟨c, hc1, hc2, hcl⟩ : ∃ c : Nat, 48 ≤ c ∧ c ≤ 57 ∧ (iT (1 + d)).cps.toList = [c] := by
    obtain rfl | rfl | rfl | rfl | rfl | rfl | rfl | rfl | rfl : d = 0 ∨ d = 1 ∨ d = 2 ∨ d = 3 ∨ d = 4 ∨ d = 5 ∨ d = 6 ∨ d = 7 ∨ d = 8 := by omega
    · exact ⟨49, by decide, by decide, by decide +kernel⟩
    · exact ⟨50, by decide, by decide, by decide +kernel⟩
    · exact ⟨51, by decide, by decide, by decide +kernel⟩
    · exact ⟨52, by decide, by decide, by decide +kernel⟩
    · exact ⟨53, by decide, by decide, by decide +kernel⟩
    · exact ⟨54, by decide, by decide, by decide +kernel⟩
    · exact ⟨55, by decide, by decide, by decide +kernel⟩
    · exact ⟨56, by decide, by decide, by decide +kernel⟩
    · exact ⟨57, by decide, by decide, by decide +kernel⟩
  refine ⟨?_, fun k t hk0 hk ht => ?_⟩
  · show (iT (1 + d)).cps.size = 1
    rw [← Array.length_toList, hcl]
    rfl
  · rw [hcl] at ht
    have hrep : t.cps.toList = List.replicate k c := by
      rw [ht]
      clear hk hk0 ht
      induction k with
      | zero => rfl
      | succ k ih => rw [List.replicate_succ, List.flatten_cons, ih]; rfl
    have hlen : t.length = k := by
      show t.cps.size = k
      rw [← Array.length_toList, hrep, List.length_replicate]
    have hall : AllDigits t.cps.toList := fun x hx => by
      rw [hrep] at hx
      rw [List.eq_of_mem_replicate hx]
      exact ⟨hc1, hc2⟩
    refine ⟨_, intText_digits hall (by rw [hrep]; intro z; have := congrArg List.length z; rw [List.length_replicate] at this; have h0 : ([] : List Nat).length = 0 := rfl; omega) (by omega), by omega, Int.natCast_nonneg _, ?_⟩
    have hv := dv_lt k t.cps.toList (by rw [hrep, List.length_replicate]) fun x hx => (hall x hx).2
    have hp : (10 : Nat) ^ k ≤ 10 ^ 390 := Nat.pow_le_pow_right (by decide) hk
    have hq : (10 : Nat) ^ 390 < 2 ^ 1300 := by decide +kernel
    unfold Bd
    rw [Int.natAbs_natCast]
    omega
def a_l_number : ASp := fun ds n Q => ds = [.deck] ∧ 10 ≤ n ∧ ∀ (r : Int) (n' : Nat), 0 ≤ r → Bd 1300 r → n ≤ n' + 4 → Q (.int r) n'
theorem ok_l_number (T : Tx K mg A) : FnOk P w K mg base CX0 4 A.f_l_number A.fd_l_number ["_law_deck_here"] (spOf K 1 a_l_number) := by
  refine fn_mir [] 3 rfl (by decide) (by decide) T.F_l_number sc_l_number fun cdv Ar outer s H E hr => ?_
  refine ⟨_, _, (pss_cons (ps_set (i := 1) sc_l_number.nd rfl (.inl rfl) (pe_call (ok_l_take (K := K) T) (hr.mono (by decide)) (by rfl) T.g_l_take T.F_l_take.kp T.b_l_take .nil pass0 (pa_cons (pv 0) (pa_cons pe_int pa_nil))))
    (pss_cons (ps_set (i := 2) sc_l_number.nd rfl (.inl rfl) (pe_call (ok_l_take (K := K) T) (hr.mono (by decide)) (by rfl) T.g_l_take T.F_l_take.kp T.b_l_take .nil pass0 (pa_cons (pv 0) (pa_cons pe_int pa_nil))))
    (pss_cons (ps_if (pt_cmpR (k_eq (K := K) rfl hr.units) (pv 1) pe_int (nomark _))
      (pss_one (ps_set (i := 2) sc_l_number.nd rfl (.inl rfl) (pe_call (ok_l_take (K := K) T) (hr.mono (by decide)) (by rfl) T.g_l_take T.F_l_take.kp T.b_l_take .nil pass0 (pa_cons (pv 0) (pa_cons (pe_op op_pow pe_int pe_int) pa_nil)))))
      pss_nil)
    (pss_cons (ps_if (pt_cmpR (k_eq (K := K) rfl hr.units) (pv 1) pe_int (nomark _))
      (pss_one (ps_set (i := 2) sc_l_number.nd rfl (.inl rfl) (pe_callTy k_intT (by rfl) T.m_int (by decide +kernel) (pa_cons (pe_op k_tmul (pe_callTy k_str (by rfl) T.m_str (by decide +kernel) (pa_cons (pe_op (k_add (K := K) rfl) pe_int (pv 2)) pa_nil)) (pe_op (k_add (K := K) rfl) pe_int (pe_call (ok_l_take (K := K) T) (hr.mono (by decide)) (by rfl) T.g_l_take T.F_l_take.kp T.b_l_take .nil pass0 (pa_cons (pv 0) (pa_cons pe_int pa_nil))))) pa_nil))))
      pss_nil)
    (pss_cons (ps_if (PW.pt (pw_and (pt_cmpR (k_eq (K := K) rfl hr.units) (pv 1) pe_int (nomark _)) (pw_and1 (pt_cmpR (k_eq (K := K) rfl hr.units) (pe_call (ok_l_take (K := K) T) (hr.mono (by decide)) (by rfl) T.g_l_take T.F_l_take.kp T.b_l_take .nil pass0 (pa_cons (pv 0) (pa_cons pe_int pa_nil))) pe_int (nomark _)))))
      (pss_one (ps_set (i := 2) sc_l_number.nd rfl (.inl rfl) (pe_callTy k_intT (by rfl) T.m_int (by decide +kernel) (pa_cons (pe_op k_tmul (pe_callTy k_str (by rfl) T.m_str (by decide +kernel) (pa_cons (pe_op (k_add (K := K) rfl) pe_int (pv 2)) pa_nil)) (pe_op (k_add (K := K) rfl) pe_int (pe_call (ok_l_take (K := K) T) (hr.mono (by decide)) (by rfl) T.g_l_take T.F_l_take.kp T.b_l_take .nil pass0 (pa_cons (pv 0) (pa_cons pe_int pa_nil))))) pa_nil))))
      pss_nil)
    (pss_one (ps_ret (pv 2)))))))), by infer_instance, fun ds n Q hl hA => ?_⟩
  obtain ⟨rfl, hn, q⟩ := hA
  refine ⟨4, rfl, by decide, by decide, by omega, fun kd l u => ?_⟩
  refine ⟨9, rfl, by decide, by decide, by omega, fun d ld ud => ?_⟩
  have bsm : ∀ r : Int, 0 ≤ r → r < 1000000 → Bd 1300 r := fun r h0 h1 => (bd_abs (k := 20) (n := 1000000) (by decide) (by omega) (by omega)).le (by decide)
  obtain ⟨hone, hrep⟩ := rep_int (d := d) ld (by omega)
  have lg : (1 + d).natAbs.log2 < 1920 := bd_log (k := 20) (bd_abs (n := 1000000) (by decide) (by omega) (by omega)) (by decide)
  obtain rfl | rfl | rfl | rfl : kd = 0 ∨ kd = 1 ∨ kd = 2 ∨ kd = 3 := by omega
  · refine dIte (fun e => absurd e (by decide)) fun _ => dIte (fun e => absurd e (by decide)) fun _ => dIte (fun e => absurd e (by decide)) fun _ => ?_
    exact aF (q d _ ld (bsm d ld (by omega)) (by omega))
  · refine dIte (fun _ => ?_) fun e => absurd rfl e
    refine ⟨⟨by decide, by decide, by decide⟩, 1000000, rfl, by decide, by decide, by omega, fun r lr ur => ?_⟩
    refine dIte (fun e => absurd e (by decide)) fun _ => dIte (fun e => absurd e (by decide)) fun _ => ?_
    exact aF (q r _ lr (bsm r lr (by omega)) (by omega))
  · refine dIte (fun e => absurd e (by decide)) fun _ => dIte (fun _ => ?_) fun e => absurd rfl e
    refine ⟨lg, 39, rfl, by decide, by decide, by omega, fun r lr ur => ?_⟩
    refine ⟨_, (1 + r).toNat, rfl, by rw [Int.toNat_of_nonneg (by omega)], hone, by omega, by omega, fun t ht => ?_⟩
    obtain ⟨i, h1, h2, h3, h4⟩ := hrep _ t (by omega) (by omega) ht
    refine ⟨t, i, rfl, h1, h2, ?_⟩
    refine dIte (fun e => absurd e (by decide)) fun _ => ?_
    exact aF (q i _ h3 h4 (by omega))
  · refine dIte (fun e => absurd e (by decide)) fun _ => dIte (fun e => absurd e (by decide)) fun _ => dIte (fun _ => ?_) fun e => absurd rfl e
    refine ⟨5, rfl, by decide, by decide, by omega, fun r5 l5 u5 => dIte (fun _ => ?_) fun _ => ?_⟩
    · refine ⟨lg, 390, rfl, by decide, by decide, by omega, fun r lr ur => ?_⟩
      refine ⟨_, (1 + r).toNat, rfl, by rw [Int.toNat_of_nonneg (by omega)], hone, by omega, by omega, fun t ht => ?_⟩
      obtain ⟨i, h1, h2, h3, h4⟩ := hrep _ t (by omega) (by omega) ht
      exact ⟨t, i, rfl, h1, h2, q i _ h3 h4 (by omega)⟩
    · exact q d _ ld (bsm d ld (by omega)) (by omega)
def a_l_part : ASp := fun ds n Q => ds = [.deck] ∧ 30 ≤ n ∧ ∀ (q : Rat) (n' : Nat), BdQ 1302 q → n ≤ n' + 11 → Q (sh q) n'
theorem ok_l_part (T : Tx K mg A) : FnOk P w K mg base CX0 5 A.f_l_part A.fd_l_part ["_law_deck_here"] (spOf K 1 a_l_part) := by
  refine fn_mir [] 4 rfl (by decide) (by decide) T.F_l_part sc_l_part fun cdv Ar outer s H E hr => ?_
  refine ⟨_, _, (pss_cons (ps_set (i := 1) sc_l_part.nd rfl (.inl rfl) (pe_call (ok_l_take (K := K) T) (hr.mono (by decide)) (by rfl) T.g_l_take T.F_l_take.kp T.b_l_take .nil pass0 (pa_cons (pv 0) (pa_cons pe_int pa_nil))))
    (pss_cons (ps_set (i := 2) sc_l_part.nd rfl (.inl rfl) (pe_call (ok_l_number (K := K) T) (hr.mono (by decide)) (by rfl) T.g_l_number T.F_l_number.kp T.b_l_number .nil pass0 (pa_cons (pv 0) pa_nil)))
    (pss_cons (ps_set (i := 3) sc_l_part.nd rfl (.inl rfl) pe_int)
    (pss_cons (ps_if (pt_cmpR (k_eq (K := K) rfl hr.units) (pv 1) pe_int (nomark _))
      (pss_one (ps_set (i := 3) sc_l_part.nd rfl (.inl rfl) (pe_op (k_add (K := K) rfl) pe_int (pe_call (ok_l_take (K := K) T) (hr.mono (by decide)) (by rfl) T.g_l_take T.F_l_take.kp T.b_l_take .nil pass0 (pa_cons (pv 0) (pa_cons pe_int pa_nil))))))
      pss_nil)
    (pss_cons (ps_if (pt_cmpR (k_eq (K := K) rfl hr.units) (pv 1) pe_int (nomark _))
      (pss_one (ps_set (i := 3) sc_l_part.nd rfl (.inl rfl) (pe_op (k_add (K := K) rfl) pe_int (pe_call (ok_l_number (K := K) T) (hr.mono (by decide)) (by rfl) T.g_l_number T.F_l_number.kp T.b_l_number .nil pass0 (pa_cons (pv 0) pa_nil)))))
      pss_nil)
    (pss_one (ps_ret (pe_call (ok_l_share (K := K) T) (hr.mono (by decide)) (by rfl) T.g_l_share T.F_l_share.kp T.b_l_share .nil pass0 (pa_cons (pe_op k_mul (pv 2) (pe_op op_sub pe_int (pe_op k_mul pe_int (pe_call (ok_l_take (K := K) T) (hr.mono (by decide)) (by rfl) T.g_l_take T.F_l_take.kp T.b_l_take .nil pass0 (pa_cons (pv 0) (pa_cons pe_int pa_nil)))))) (pa_cons (pv 3) pa_nil)))))))))), by infer_instance, fun ds n Q hl hA => ?_⟩
  obtain ⟨rfl, hn, q⟩ := hA
  refine ⟨5, rfl, by decide, by decide, by omega, fun kd l u => ?_⟩
  refine ⟨rfl, by omega, fun a n1 a0 ba h1 => ?_⟩
  have fin : ∀ (b : Int) (n2 : Nat), 1 ≤ b → Bd 1302 b → n1 ≤ n2 + 5 → ∀ r : Int, 0 ≤ r → r < 2 → CMulA 2 r ∧ CMulA a (1 - 2 * r) ∧ a_l_share [.int (a * (1 - 2 * r)), .int b] (n2 - 1) Q := fun b n2 hb bb h2 r lr ur => by
    have b3 : Bd 2 (1 - 2 * r) := bd_abs (n := 1) (by decide) (by omega) (by omega)
    refine ⟨.inl (.inl (by decide)), mulA ba b3 (by decide) (by decide), share_ok (by omega) bb (by decide) (q _ _ (divInt_bd (by omega) (ba.mul b3) bb) (by omega))⟩
  have b1 : Bd 1302 1 := by unfold Bd; decide +kernel
  refine dIte (fun e => ?_) fun e => dIte (fun e2 => ?_) fun e2 => ?_
  · refine ⟨50, rfl, by decide, by decide, by omega, fun r lr ur => ?_⟩
    refine dIte (fun e2 => absurd e2 (by omega)) fun _ => ?_
    refine ⟨2, rfl, by decide, by decide, by omega, fun r2 l2 u2 => fin (1 + r) _ (by omega) ((bd_abs (k := 20) (n := 1000000) (by decide) (by omega) (by omega)).le (by decide)) (by omega) r2 l2 u2⟩
  · refine ⟨rfl, by omega, fun b n2 b0 bb h2 => ?_⟩
    have bb1 : Bd 1302 (1 + b) := by
      unfold Bd at bb ⊢
      have e : (2 : Nat) ^ 1300 + 1 ≤ 2 ^ 1302 := by decide +kernel
      omega
    refine ⟨2, rfl, by decide, by decide, by omega, fun r2 l2 u2 => fin (1 + b) _ (by omega) bb1 (by omega) r2 l2 u2⟩
  · refine ⟨2, rfl, by decide, by decide, by omega, fun r2 l2 u2 => fin 1 _ (by decide) b1 (by omega) r2 l2 u2⟩
/-! ### names -/
theorem joinE_len : ∀ ps : List (List Nat), (TL.joinL [] ps).length = (ps.map (·.length)).sum
  | [] => rfl
  | [p] => by simp [TL.joinL]
  | p :: q :: r => by
    have := joinE_len (q :: r)
    show (p ++ ([] ++ TL.joinL [] (q :: r))).length = _
    rw [List.nil_append, List.length_append, this]
    simp
theorem joinE (ys : List Str) : (Txt.join (Str.ofString "") ys).length = (ys.map (·.length)).sum := by
  have e0 : TL.tl (Str.ofString "") = [] := by decide +kernel
  have h : (TL.tl (Txt.join (Str.ofString "") ys)).length = (ys.map (·.length)).sum := by
    rw [TL.join_eq, TL.tl_join, e0, joinE_len, List.map_map]
    congr 1
  rw [← h]
  show (Txt.join (Str.ofString "") ys).cps.size = (Txt.join (Str.ofString "") ys).cps.toList.length
  simp
theorem letters_at {i : Int} (h0 : 0 ≤ i) (h1 : i < 26) : ∃ c, atI (Str.ofString "qwertyuiopasdfghjklzxcvbnm").cps.toList i = some c := by
  have hl : (Str.ofString "qwertyuiopasdfghjklzxcvbnm").cps.toList.length = 26 := by decide +kernel
  obtain ⟨x, _, h⟩ := pick_at (xs := (Str.ofString "qwertyuiopasdfghjklzxcvbnm").cps.toList) h0 (by rw [hl]; exact h1)
  exact ⟨x, h⟩
theorem aIx_str {z : Str} {i : Int} {c n : Nat} {Q : D → Nat → Prop} (hl : z.length ≤ 1000000) (e : atI z.cps.toList i = some c) (q : Q (.str ⟨#[c]⟩) n) : aIxS (.str z) (.int i) n Q := by
  unfold aIxS
  refine ⟨hl, ?_⟩
  rw [e]
  exact q
theorem any_str {nm : Str} : ∀ {zs : List Str}, ((zs.map D.str).any fun x => eqF x (.str nm)) = false → nm ∉ zs
  | [], _, h => by cases h
  | z :: zs, e, h => by
    rw [List.map_cons, List.any_cons, Bool.or_eq_false_iff] at e
    rcases List.mem_cons.mp h with rfl | h
    · have : (nm == nm) = false := e.1
      simp at this
    · exact any_str e.2 h
theorem all_str : ∀ zs : List Str, (zs.map D.str).all flatD = true
  | [] => rfl
  | z :: zs => by
    rw [List.map_cons, List.all_cons, all_str zs]
    rfl
def NmI (n : Nat) (k : Nat) (ds : List D) (ρ : Env') (m : Nat) : Prop := ∃ (zs : List Str) (y4 y5 y6 y7 : Option D), ρ = [some .deck, some (.int (k : Int)), some (.str (Str.ofString "qwertyuiopasdfghjklzxcvbnm")), some (.lst (zs.map D.str)), y4, y5, y6, y7] ∧ zs.Nodup ∧ zs.length ≤ k ∧ (∀ z ∈ zs, z.length ≤ 12) ∧ n ≤ m + 13 * (48 - ds.length) ∧ ds.length ≤ 48
def a_l_names : ASp := fun ds n Q => ∃ k : Nat, ds = [.deck, .int (k : Int)] ∧ k ≤ 12 ∧ 1000 ≤ n ∧ ∀ (zs : List Str) (n' : Nat), zs.Nodup → zs.length ≤ 12 → (∀ z ∈ zs, z.length ≤ 12) → n ≤ n' + 624 → Q (.lst (zs.map D.str)) n'
theorem ok_l_names (T : Tx K mg A) : FnOk P w K mg base CX0 4 A.f_l_names A.fd_l_names ["_law_deck_here", "_law_many"] (spOf K 2 a_l_names) := by
  refine fn_mir [3] 8 rfl (by decide) (by decide) T.F_l_names sc_l_names fun cdv Ar outer s H E hr => ?_
  refine ⟨_, _, (pss_cons (ps_set (i := 2) sc_l_names.nd rfl (.inr rfl) pe_str)
    (pss_cons (k_own (ps_set (i := 3) sc_l_names.nd rfl (.inl rfl) (pe_lst pa_nil)))
    (pss_cons (ps_for PassesOwn.never rfl (pi_range1 (by rfl) T.m_range (pa_cons (pe_op k_mul pe_int (pv 1)) pa_nil)) (pg_name (i := 4) sc_l_names.nd rfl (.inl rfl))
      (pss_cons (ps_set (i := 5) sc_l_names.nd rfl (.inl rfl) (pe_ix (k_ixS (K := K) rfl) (pe_lst (pa_cons pe_int (pa_cons pe_int (pa_cons pe_int (pa_cons pe_int pa_nil))))) (pe_call (ok_l_take (K := K) T) (hr.mono (by decide)) (by rfl) T.g_l_take T.F_l_take.kp T.b_l_take .nil pass0 (pa_cons (pv 0) (pa_cons pe_int pa_nil))) (fun _ _ => rfl)))
    (pss_cons (ps_set (i := 6) sc_l_names.nd rfl (.inl rfl) (k_join (K := K) rfl pe_str (pe_lc (own := [("_law_k", 7)]) rfl sc_l_names.nd (pi_range1 (by rfl) T.m_range (pa_cons (pv 5) pa_nil)) (blkOk_by (own := [("_law_k", 7)]) (N := ["_law_deck_here", "_law_many", "_law_letters", "_law_found", "_law_turn", "_law_size", "_law_name", "_law_k"]) (sc := defScope s_l_names) (by decide +kernel)) (fun _ _ _ _ _ => (pg_name (i := 7) sc_l_names.nd rfl (Or.inl rfl))) (fun _ _ _ _ _ => pts_nil) (fun _ _ _ _ _ => (pe_ix (k_ixS (K := K) rfl) (pv 2) (pe_call (ok_l_take (K := K) T) (hr.mono (by decide)) (by rfl) T.g_l_take T.F_l_take.kp T.b_l_take .nil pass0 (pa_cons (pv 0) (pa_cons pe_int pa_nil))) (fun _ _ => rfl))))))
    (pss_one (ps_if (PW.pt (pw_and (pt_cmpR (k_notin (K := K) rfl hr.units) (pv 6) (pv 3) (by rfl)) (pw_and1 (pt_cmpR op_lt (pe_callB (k_len (K := K) rfl) (by rfl) T.m_len (by decide +kernel) (pa_cons (pv 3) pa_nil)) (pv 1) (nomark _)))))
      (pss_one (k_app (K := K) rfl (ps_expr (pe_bm PySem.F.plainAttrs_list PySem.F.slot_list_append PySem.F.type_list_append mt_append (pv 3) (pa_cons (pv 6) pa_nil)))))
      pss_nil)))))
    (pss_one (ps_ret (pv 3)))))), by infer_instance, fun ds n Q hl hA => ?_⟩
  obtain ⟨k, rfl, hk, hn, q⟩ := hA
  refine ⟨.inl (.inl (by decide)), ⟨by omega, by omega⟩, ?_⟩
  refine aFor_ind (NmI n k) ?_ ?_ ⟨[], none, none, none, none, rfl, List.nodup_nil, by simp, (fun z h => by cases h), by omega, by rw [rangeD_length]; omega⟩
  · rintro d r _ m ⟨zs, y4, y5, y6, y7, rfl, hnd, hl, hzl, hm, hd⟩ ih
    rw [List.length_cons] at hm hd
    refine ⟨4, rfl, by decide, by decide, by omega, fun r1 l1 u1 => ?_⟩
    obtain ⟨lg, hlg, hat⟩ : ∃ lg : Nat, lg ≤ 12 ∧ atI [D.int 1, D.int 2, D.int 3, D.int 12] r1 = some (D.int (lg : Int)) := by
      obtain rfl | rfl | rfl | rfl : r1 = 0 ∨ r1 = 1 ∨ r1 = 2 ∨ r1 = 3 := by omega
      · exact ⟨1, by decide, rfl⟩
      · exact ⟨2, by decide, rfl⟩
      · exact ⟨3, by decide, rfl⟩
      · exact ⟨12, by decide, rfl⟩
    refine aIx_lst hat ?_
    refine ⟨⟨by omega, by omega⟩, by rw [rangeD_length]; omega, ?_⟩
    refine aLc_ind (fun acc ds m' => ∃ ys : List Str, acc = ys.map D.str ∧ (∀ y ∈ ys, y.length = 1) ∧ ys.length + ds.length = lg ∧ m ≤ m' + 1 + ys.length) ?_ ?_ ⟨[], rfl, (fun y h => by cases h), by rw [rangeD_length]; simp, by simp; omega⟩
    · rintro acc d r m' ⟨ys, rfl, hy, hl', hm'⟩ ih'
      rw [List.length_cons] at hl'
      refine aT ⟨26, rfl, by decide, by decide, by omega, fun x l5 u5 => ?_⟩
      obtain ⟨ch, hch⟩ := letters_at l5 u5
      refine aIx_str (by decide +kernel) hch (ih' _ _ ⟨ys ++ [⟨#[ch]⟩], by rw [List.map_append]; rfl, ?_, by rw [List.length_append]; simp; omega, by rw [List.length_append]; simp; omega⟩)
      intro y hy'
      rcases List.mem_append.mp hy' with h | h
      · exact hy y h
      · rw [List.mem_singleton.mp h]
        rfl
    · rintro acc m' ⟨ys, rfl, hy, hl', hm'⟩
      have hs : (ys.map (·.length)).sum = ys.length := by
        clear hl' hm'
        induction ys with
        | nil => rfl
        | cons y r ih =>
          rw [List.map_cons, List.sum_cons, ih fun z hz => hy z (List.mem_cons_of_mem _ hz), List.length_cons, hy y List.mem_cons_self]
          omega
      have hlen : (Str.ofString "").length = 0 := by decide +kernel
      simp at hl'
      refine ⟨ys, rfl, by rw [hs, hlen]; omega, ?_⟩
      have hn1 : (Txt.join (Str.ofString "") ys).length ≤ 12 := by rw [joinE, hs]; omega
      generalize Txt.join (Str.ofString "") ys = nm at hn1
      refine ⟨rfl, all_str zs, fun e5 => ?_, fun e5 => ?_⟩
      · have hnm : nm ∉ zs := any_str (by simpa using e5)
        refine dIte (fun e6 => ?_) fun _ => ih _ _ ⟨zs, _, _, _, _, rfl, hnd, hl, hzl, by omega, by omega⟩
        rw [List.length_map] at e6
        refine ⟨by simp; omega, ih _ _ ⟨zs ++ [nm], _, _, _, _, by rw [List.map_append]; rfl, ?_, by simp; omega, ?_, by omega, by omega⟩⟩
        · rw [List.nodup_append]
          exact ⟨hnd, by simp, fun a ha b hb e => hnm (by rw [List.mem_singleton.mp hb] at e; rw [← e]; exact ha)⟩
        · intro z hz'
          rcases List.mem_append.mp hz' with h | h
          · exact hzl z h
          · rw [List.mem_singleton.mp h]
            exact hn1
      · exact aF (ih _ _ ⟨zs, _, _, _, _, rfl, hnd, hl, hzl, by omega, by omega⟩)
  · rintro _ m ⟨zs, y4, y5, y6, y7, rfl, hnd, hl, hzl, hm, hd⟩
    exact q zs _ hnd (by omega) hzl (by simp at hm; omega)
/-! ### shapes and rows -/
def a_l_shape : ASp := fun ds n Q => ds = [.deck] ∧ 10 ≤ n ∧ ∀ (ps : List Pt) (n' : Nat), ps.length ≤ 8 → (∀ p ∈ ps, PtOk p) → n ≤ n' + 5 → Q (.tup (ps.map pt)) n'
theorem ok_l_shape (T : Tx K mg A) : FnOk P w K mg base CX0 4 A.f_l_shape A.fd_l_shape ["_law_deck_here"] (spOf K 1 a_l_shape) := by
  refine fn_mir [] 6 rfl (by decide) (by decide) T.F_l_shape sc_l_shape fun cdv Ar outer s H E hr => ?_
  refine ⟨_, _, (pss_cons (ps_set (i := 1) sc_l_shape.nd rfl (.inl rfl) (pe_ix (k_ixS (K := K) rfl) (pe_lst (pa_cons pe_int (pa_cons pe_int (pa_cons pe_int pa_nil)))) (pe_call (ok_l_take (K := K) T) (hr.mono (by decide)) (by rfl) T.g_l_take T.F_l_take.kp T.b_l_take .nil pass0 (pa_cons (pv 0) (pa_cons pe_int pa_nil))) (fun _ _ => rfl)))
    (pss_cons (ps_set (i := 2) sc_l_shape.nd rfl (.inl rfl) (pe_op (k_add (K := K) rfl) pe_int (pe_call (ok_l_take (K := K) T) (hr.mono (by decide)) (by rfl) T.g_l_take T.F_l_take.kp T.b_l_take .nil pass0 (pa_cons (pv 0) (pa_cons (pv 1) pa_nil)))))
    (pss_cons (ps_set (i := 3) sc_l_shape.nd rfl (.inl rfl) (pe_op (k_add (K := K) rfl) pe_int (pe_call (ok_l_take (K := K) T) (hr.mono (by decide)) (by rfl) T.g_l_take T.F_l_take.kp T.b_l_take .nil pass0 (pa_cons (pv 0) (pa_cons (pv 1) pa_nil)))))
    (pss_cons (ps_set (i := 4) sc_l_shape.nd rfl (.inl rfl) (pe_op op_sub (pe_call (ok_l_take (K := K) T) (hr.mono (by decide)) (by rfl) T.g_l_take T.F_l_take.kp T.b_l_take .nil pass0 (pa_cons (pv 0) (pa_cons (pe_op k_mul pe_int (pv 1)) pa_nil))) (pv 1)))
    (pss_cons (ps_set (i := 5) sc_l_shape.nd rfl (.inl rfl) (pe_call (ok_l_take (K := K) T) (hr.mono (by decide)) (by rfl) T.g_l_take T.F_l_take.kp T.b_l_take .nil pass0 (pa_cons (pv 0) (pa_cons pe_int pa_nil))))
    (pss_cons (ps_if (pt_cmpR (k_eq (K := K) rfl hr.units) (pv 5) pe_int (nomark _))
      (pss_one (ps_ret (pe_tup (pa_cons (pe_tup (pa_cons pe_int (pa_cons (pv 4) pa_nil))) (pa_cons (pe_tup (pa_cons (pv 2) (pa_cons (pv 4) pa_nil))) (pa_cons (pe_tup (pa_cons (pv 2) (pa_cons (pe_op (k_add (K := K) rfl) (pv 4) (pv 3)) pa_nil))) (pa_cons (pe_tup (pa_cons pe_int (pa_cons (pe_op (k_add (K := K) rfl) (pv 4) (pv 3)) pa_nil))) pa_nil)))))))
      pss_nil)
    (pss_cons (ps_if (pt_cmpR (k_eq (K := K) rfl hr.units) (pv 5) pe_int (nomark _))
      (pss_one (ps_ret (pe_tup (pa_cons (pe_tup (pa_cons (pe_un un_neg (pv 2)) (pa_cons (pv 4) pa_nil))) (pa_cons (pe_tup (pa_cons pe_int (pa_cons (pe_op op_sub (pv 4) (pv 3)) pa_nil))) (pa_cons (pe_tup (pa_cons (pv 2) (pa_cons (pv 4) pa_nil))) pa_nil))))))
      pss_nil)
    (pss_cons (ps_set (i := 2) sc_l_shape.nd rfl (.inl rfl) (pe_op (k_add (K := K) rfl) pe_int (pe_op k_fdiv (pv 2) pe_int)))
    (pss_one (ps_ret (pe_tup (pa_cons (pe_tup (pa_cons (pe_op k_mul (pe_un un_neg pe_int) (pv 2)) (pa_cons pe_int pa_nil))) (pa_cons (pe_tup (pa_cons (pe_op k_mul (pe_un un_neg pe_int) (pv 2)) (pa_cons (pe_un un_neg pe_int) pa_nil))) (pa_cons (pe_tup (pa_cons (pe_op k_mul (pe_un un_neg pe_int) (pv 2)) (pa_cons (pe_un un_neg pe_int) pa_nil))) (pa_cons (pe_tup (pa_cons pe_int (pa_cons (pe_un un_neg pe_int) pa_nil))) (pa_cons (pe_tup (pa_cons pe_int (pa_cons pe_int pa_nil))) (pa_cons (pe_tup (pa_cons (pe_op k_mul (pe_un un_neg pe_int) (pv 2)) (pa_cons pe_int pa_nil))) (pa_cons (pe_tup (pa_cons (pe_op k_mul (pe_un un_neg pe_int) (pv 2)) (pa_cons pe_int pa_nil))) pa_nil)))))))))))))))))), by infer_instance, fun ds n Q hl hA => ?_⟩
  obtain ⟨rfl, hn, q⟩ := hA
  refine ⟨3, rfl, by decide, by decide, by omega, fun r l u => ?_⟩
  obtain ⟨sp, hs0, hs1, hat⟩ : ∃ sp : Int, 1 ≤ sp ∧ sp ≤ 500000 ∧ atI [D.int 1, D.int 30, D.int 500000] r = some (D.int sp) := by
    obtain rfl | rfl | rfl : r = 0 ∨ r = 1 ∨ r = 2 := by omega
    · exact ⟨1, by decide, by decide, rfl⟩
    · exact ⟨30, by decide, by decide, rfl⟩
    · exact ⟨500000, by decide, by decide, rfl⟩
  refine aIx_lst hat ?_
  refine ⟨sp, rfl, by omega, small_log (by omega) (by omega), by omega, fun wd lw uw => ?_⟩
  refine ⟨sp, rfl, by omega, small_log (by omega) (by omega), by omega, fun hg lh uh => ?_⟩
  refine ⟨.inl (.inl (by decide)), 2 * sp, rfl, by omega, small_log (by omega) (by omega), by omega, fun lo ll ul => ?_⟩
  refine ⟨3, rfl, by decide, by decide, by omega, fun kd lk uk => ?_⟩
  have bb : ∀ i : Int, -100000000 ≤ i → i ≤ 100000000 → Bd 64 i := fun i h1 h2 => bd_abs (n := 100000000) (by decide) h1 h2
  refine dIte (fun e => ?_) fun e => dIte (fun e2 => ?_) fun e2 => ?_
  · refine q [(0, lo - sp), (1 + wd, lo - sp), (1 + wd, lo - sp + (1 + hg)), (0, lo - sp + (1 + hg))] _ (by simp) (fun p hp => ?_) (by omega)
    simp only [List.mem_cons, List.not_mem_nil, or_false] at hp
    rcases hp with rfl | rfl | rfl | rfl <;> exact ⟨bb _ (by simp only; omega) (by simp only; omega), bb _ (by simp only; omega) (by simp only; omega)⟩
  · refine q [(-(1 + wd), lo - sp), (0, lo - sp - (1 + hg)), (1 + wd, lo - sp)] _ (by simp) (fun p hp => ?_) (by omega)
    simp only [List.mem_cons, List.not_mem_nil, or_false] at hp
    rcases hp with rfl | rfl | rfl <;> exact ⟨bb _ (by simp only; omega) (by simp only; omega), bb _ (by simp only; omega) (by simp only; omega)⟩
  · refine ⟨.inl ⟨by decide, by decide⟩, ?_⟩
    have hc : ∀ k : Int, -(2 ^ 64) < k → k < 2 ^ 64 → CMulA k (1 + (1 + wd) / 9) := fun k h1 h2 => .inl (.inl ⟨h1, h2⟩)
    refine ⟨hc _ (by decide) (by decide), hc _ (by decide) (by decide), hc _ (by decide) (by decide), hc _ (by decide) (by decide), hc _ (by decide) (by decide), ?_⟩
    refine q [(-16 * (1 + (1 + wd) / 9), 0), (-9 * (1 + (1 + wd) / 9), -3), (-4 * (1 + (1 + wd) / 9), -4), (0, -3), (0, 3), (-4 * (1 + (1 + wd) / 9), 4), (-9 * (1 + (1 + wd) / 9), 3)] _ (by simp) (fun p hp => ?_) (by omega)
    simp only [List.mem_cons, List.not_mem_nil, or_false] at hp
    rcases hp with rfl | rfl | rfl | rfl | rfl | rfl | rfl <;> exact ⟨bb _ (by simp only; omega) (by simp only; omega), bb _ (by simp only; omega) (by simp only; omega)⟩
theorem fdiv_bd {p g r : Int} {k : Nat} (hp : Bd k p) (hg : 0 < g) (h0 : 0 ≤ r) (h1 : r < 2) : Bd k (p.fdiv (g * (1 - 2 * r))) := by
  have nd : ∀ a : Int, (a / g).natAbs ≤ a.natAbs := fun a => by
    obtain ⟨j, rfl⟩ := Int.eq_ofNat_of_zero_le (Int.le_of_lt hg)
    exact Int.natAbs_ediv_le_natAbs a j
  obtain rfl | rfl : r = 0 ∨ r = 1 := by omega
  · have e : g * (1 - 2 * 0) = g := by omega
    rw [e, Int.fdiv_eq_ediv_of_nonneg _ (by omega)]
    exact hp.of_le (nd p)
  · have e : g * (1 - 2 * 1) = -g := by omega
    have e2 : p.fdiv (-g) = (-p) / g := by
      have := Int.neg_fdiv_neg (-p) g
      rw [Int.neg_neg] at this
      rw [this, Int.fdiv_eq_ediv_of_nonneg _ (by omega)]
    rw [e, e2]
    exact hp.of_le (by rw [← Int.natAbs_neg p]; exact nd (-p))
def a_l_row : ASp := fun ds n Q => ∃ (z : Str) (far : Int), ds = [.deck, .str z, .int far] ∧ z.length ≤ 12 ∧ 0 ≤ far ∧ far ≤ 100 ∧ 100 ≤ n ∧ ∀ (b : Bw) (n' : Nat), b.nm = z → b.ok → n ≤ n' + 60 → Q b.d n'
theorem ok_l_row (T : Tx K mg A) : FnOk P w K mg base CX0 6 A.f_l_row A.fd_l_row ["_law_deck_here", "_law_name", "_law_far"] (spOf K 3 a_l_row) := by
  refine fn_mir [] 13 rfl (by decide) (by decide) T.F_l_row sc_l_row fun cdv Ar outer s H E hr => ?_
  refine ⟨_, _, (pss_cons (ps_set (i := 3) sc_l_row.nd rfl (.inl rfl) (pe_call (ok_l_take (K := K) T) (hr.mono (by decide)) (by rfl) T.g_l_take T.F_l_take.kp T.b_l_take .nil pass0 (pa_cons (pv 0) (pa_cons pe_int pa_nil))))
    (pss_cons (ps_set (i := 4) sc_l_row.nd rfl (.inl rfl) (pe_call (ok_l_shape (K := K) T) (hr.mono (by decide)) (by rfl) T.g_l_shape T.F_l_shape.kp T.b_l_shape .nil pass0 (pa_cons (pv 0) pa_nil)))
    (pss_cons (ps_set (i := 5) sc_l_row.nd rfl (.inl rfl) (pe_op (k_add (K := K) rfl) pe_int (pe_op k_mul (pe_call (ok_l_take (K := K) T) (hr.mono (by decide)) (by rfl) T.g_l_take T.F_l_take.kp T.b_l_take .nil pass0 (pa_cons (pv 0) (pa_cons pe_int pa_nil))) pe_int)))
    (pss_cons (ps_set (i := 6) sc_l_row.nd rfl (.inl rfl) (pe_tup (pa_cons (pe_call (ok_l_share (K := K) T) (hr.mono (by decide)) (by rfl) T.g_l_share T.F_l_share.kp T.b_l_share .nil pass0 (pa_cons (pe_op (k_add (K := K) rfl) (pe_op k_mul (pe_op k_mul (pe_op op_pow pe_int pe_int) (pv 2)) (pv 5)) (pe_call (ok_l_take (K := K) T) (hr.mono (by decide)) (by rfl) T.g_l_take T.F_l_take.kp T.b_l_take .nil pass0 (pa_cons (pv 0) (pa_cons pe_int pa_nil)))) (pa_cons (pv 5) pa_nil))) (pa_cons (pe_call (ok_l_part (K := K) T) (hr.mono (by decide)) (by rfl) T.g_l_part T.F_l_part.kp T.b_l_part .nil pass0 (pa_cons (pv 0) pa_nil)) pa_nil))))
    (pss_cons (ps_if (pt_cmpR (k_eq (K := K) rfl hr.units) (pv 3) pe_int (nomark _))
      (pss_one (ps_ret (pe_tup (pa_cons (pv 1) (pa_cons (pv 4) (pa_cons pe_int (pa_cons pe_non (pa_cons (pv 6) (pa_cons (pe_tup (pa_cons (pe_tup (pa_cons pe_int (pa_cons pe_int pa_nil))) (pa_cons (pe_tup (pa_cons pe_int (pa_cons pe_int pa_nil))) pa_nil))) pa_nil)))))))))
      pss_nil)
    (pss_cons (ps_set (i := 7) sc_l_row.nd rfl (.inl rfl) (pe_ix (k_ixS (K := K) rfl) (pe_lst (pa_cons pe_int (pa_cons (pe_op (k_add (K := K) rfl) pe_int (pe_call (ok_l_take (K := K) T) (hr.mono (by decide)) (by rfl) T.g_l_take T.F_l_take.kp T.b_l_take .nil pass0 (pa_cons (pv 0) (pa_cons pe_int pa_nil)))) pa_nil))) (pe_call (ok_l_take (K := K) T) (hr.mono (by decide)) (by rfl) T.g_l_take T.F_l_take.kp T.b_l_take .nil pass0 (pa_cons (pv 0) (pa_cons pe_int pa_nil))) (fun _ _ => rfl)))
    (pss_cons (ps_set (i := 8) sc_l_row.nd rfl (.inl rfl) (pe_call (ok_l_part (K := K) T) (hr.mono (by decide)) (by rfl) T.g_l_part T.F_l_part.kp T.b_l_part .nil pass0 (pa_cons (pv 0) pa_nil)))
    (pss_cons (ps_if (pt_cmpR (k_eq (K := K) rfl hr.units) (pv 3) pe_int (nomark _))
      (pss_one (ps_ret (pe_tup (pa_cons (pv 1) (pa_cons (pv 4) (pa_cons (pv 7) (pa_cons pe_non (pa_cons (pv 6) (pa_cons (pe_tup (pa_cons (pv 8) (pa_cons (pe_call (ok_l_part (K := K) T) (hr.mono (by decide)) (by rfl) T.g_l_part T.F_l_part.kp T.b_l_part .nil pass0 (pa_cons (pv 0) pa_nil)) pa_nil))) pa_nil)))))))))
      pss_nil)
    (pss_cons (ps_set (i := 9) sc_l_row.nd rfl (.inl rfl) (pe_op op_sub (pe_call (ok_l_take (K := K) T) (hr.mono (by decide)) (by rfl) T.g_l_take T.F_l_take.kp T.b_l_take .nil pass0 (pa_cons (pv 0) (pa_cons pe_int pa_nil))) pe_int))
    (pss_cons (ps_set (i := 10) sc_l_row.nd rfl (.inl rfl) (pe_op (k_add (K := K) rfl) pe_int (pe_call (ok_l_take (K := K) T) (hr.mono (by decide)) (by rfl) T.g_l_take T.F_l_take.kp T.b_l_take .nil pass0 (pa_cons (pv 0) (pa_cons pe_int pa_nil)))))
    (pss_cons (ps_set (i := 11) sc_l_row.nd rfl (.inl rfl) (pe_op k_mul (pe_call (ok_l_gcd (K := K) T) (hr.mono (by decide)) (by rfl) T.g_l_gcd T.F_l_gcd.kp T.b_l_gcd .nil pass0 (pa_cons (pv 9) (pa_cons (pv 10) pa_nil))) (pe_op op_sub pe_int (pe_op k_mul pe_int (pe_call (ok_l_take (K := K) T) (hr.mono (by decide)) (by rfl) T.g_l_take T.F_l_take.kp T.b_l_take .nil pass0 (pa_cons (pv 0) (pa_cons pe_int pa_nil)))))))
    (pss_cons (ps_par (i := 9) (j := 10) (by rfl) sc_l_row.nd rfl rfl (by decide) rfl rfl (pa_cons (pe_op op_fdivN (pv 9) (pv 11)) (pa_cons (pe_op op_fdivN (pv 10) (pv 11)) pa_nil)) (by rfl))
    (pss_cons (ps_set (i := 12) sc_l_row.nd rfl (.inl rfl) (pe_tup (pa_cons (pe_call (ok_l_share (K := K) T) (hr.mono (by decide)) (by rfl) T.g_l_share T.F_l_share.kp T.b_l_share .nil pass0 (pa_cons (pe_op k_mul (pv 9) (pe_ix (k_ix (K := K) rfl) (pv 8) pe_int (fun _ _ => rfl))) (pa_cons (pe_ix (k_ix (K := K) rfl) (pv 8) pe_int (fun _ _ => rfl)) pa_nil))) (pa_cons (pe_call (ok_l_share (K := K) T) (hr.mono (by decide)) (by rfl) T.g_l_share T.F_l_share.kp T.b_l_share .nil pass0 (pa_cons (pe_op k_mul (pv 10) (pe_ix (k_ix (K := K) rfl) (pv 8) pe_int (fun _ _ => rfl))) (pa_cons (pe_ix (k_ix (K := K) rfl) (pv 8) pe_int (fun _ _ => rfl)) pa_nil))) pa_nil))))
    (pss_one (ps_ret (pe_tup (pa_cons (pv 1) (pa_cons (pv 4) (pa_cons (pv 7) (pa_cons (pe_tup (pa_cons (pv 9) (pa_cons (pv 10) pa_nil))) (pa_cons (pv 6) (pa_cons (pv 12) pa_nil)))))))))))))))))))))), by infer_instance, fun ds n Q hl hA => ?_⟩
  obtain ⟨z, far, rfl, hz, hf0, hf1, hn, q⟩ := hA
  have hz' : z.length ≤ 20 := by omega
  refine ⟨3, rfl, by decide, by decide, by omega, fun kd l u => ?_⟩
  refine ⟨rfl, by omega, fun ps n1 hl hp h1 => ?_⟩
  refine ⟨3, rfl, by decide, by decide, by omega, fun r lr ur => ?_⟩
  refine ⟨.inl (.inr (by decide)), ?_⟩
  refine ⟨⟨by decide, by decide, by decide⟩, .inl (.inl (by decide)), .inl (.inr ⟨by omega, by omega⟩), 900, rfl, by decide, by decide, by omega, fun r9 l9 u9 => ?_⟩
  have e8 : (10 : Int) ^ Int.toNat 8 = 100000000 := by decide
  have hb0 : 0 < 1 + r * 6 := by omega
  have hbb : Bd 64 (1 + r * 6) := bd_abs (n := 1000) (by decide) (by omega) (by omega)
  have hnum : Bd 64 (10 ^ Int.toNat 8 * far * (1 + r * 6) + r9) := by
    rw [e8]
    have hr : r = 0 ∨ r = 1 ∨ r = 2 := by omega
    rcases hr with rfl | rfl | rfl
    · exact bd_abs (n := 1000000000000) (by decide) (by omega) (by omega)
    · exact bd_abs (n := 1000000000000) (by decide) (by omega) (by omega)
    · exact bd_abs (n := 1000000000000) (by decide) (by omega) (by omega)
  refine share_ok hb0 hbb (by decide) ?_
  have bpx : BdQ 1500 (Rat.divInt (10 ^ Int.toNat 8 * far * (1 + r * 6) + r9) (1 + r * 6)) := (divInt_bd hb0 hnum hbb).le (by decide)
  generalize Rat.divInt (10 ^ Int.toNat 8 * far * (1 + r * 6) + r9) (1 + r * 6) = px at bpx
  refine ⟨rfl, by omega, fun py n2 bpy h2 => ?_⟩
  have bpy' := bpy.le (show 1302 ≤ 1500 by decide)
  have b0 : BdQ 1500 (0 : Rat) := ⟨by unfold Bd; decide +kernel, by unfold Bd; decide +kernel⟩
  refine dIte (fun e => ?_) fun e => ?_
  · exact q ⟨z, .wall, ps, px, py, 0, 0⟩ _ rfl ⟨trivial, hl, hp, bpx, bpy', b0, b0, hz'⟩ (by omega)
  refine ⟨1000000, rfl, by decide, by decide, by omega, fun m lm um => ?_⟩
  refine ⟨2, rfl, by decide, by decide, by omega, fun r2 l2 u2 => ?_⟩
  obtain ⟨wt, hw0, hw1, hat⟩ : ∃ wt : Int, 1 ≤ wt ∧ wt ≤ 1000000 ∧ atI [D.int 1, D.int (1 + m)] r2 = some (D.int wt) := by
    obtain rfl | rfl : r2 = 0 ∨ r2 = 1 := by omega
    · exact ⟨1, by decide, by decide, rfl⟩
    · exact ⟨1 + m, by omega, by omega, rfl⟩
  refine aIx_lst hat ?_
  have bw : Bd 64 wt := bd_abs (n := 1000000) (by decide) (by omega) (by omega)
  refine ⟨rfl, by omega, fun v n3 bv h3 => ?_⟩
  have bv' := bv.le (show 1302 ≤ 1500 by decide)
  refine dIte (fun e2 => ?_) fun e2 => ?_
  · exact ⟨rfl, by omega, fun v2 n4 bv2 h4 => q ⟨z, .free wt, ps, px, py, v, v2⟩ _ rfl ⟨⟨hw0, bw⟩, hl, hp, bpx, bpy', bv', bv2.le (by decide), hz'⟩ (by omega)⟩
  refine ⟨2001, rfl, by decide, by decide, by omega, fun p lp up => ?_⟩
  refine ⟨1000000, rfl, by decide, by decide, by omega, fun q' lq uq => ?_⟩
  refine ⟨p - 1000, 1 + q', rfl, ?_⟩
  have g0 : 0 < gcdI (p - 1000) (1 + q') := gcdI_pos (by omega)
  have bp : Bd 30 (p - 1000) := bd_abs (n := 1000000) (by decide) (by omega) (by omega)
  have bq : Bd 30 (1 + q') := bd_abs (n := 1000000) (by decide) (by omega) (by omega)
  have gle : gcdI (p - 1000) (1 + q') ≤ 1000000 := by
    have h := dvd_le_natAbs (gcdI_dvd_r (p - 1000) (1 + q')) (by omega)
    omega
  generalize gcdI (p - 1000) (1 + q') = g at g0 gle
  refine ⟨2, rfl, by decide, by decide, by omega, fun r3 l3 u3 => ?_⟩
  refine ⟨.inl (.inl (by decide)), .inl (.inl ⟨by omega, by omega⟩), ?_⟩
  have hj : g * (1 - 2 * r3) ≠ 0 ∧ (g * (1 - 2 * r3)).natAbs < 1073741824 := by
    obtain rfl | rfl : r3 = 0 ∨ r3 = 1 := by omega
    · omega
    · omega
  refine ⟨hj, hj, ?_⟩
  have b1 := fdiv_bd bp g0 l3 u3
  have b2 := fdiv_bd bq g0 l3 u3
  refine ⟨mulA b1 bv.1 (by decide) (by decide), ?_⟩
  refine share_ok (den_pos v) bv.2 (by decide) ?_
  refine ⟨mulA b2 bv.1 (by decide) (by decide), ?_⟩
  refine share_ok (den_pos v) bv.2 (by decide) ?_
  exact q ⟨z, .rail wt ((p - 1000).fdiv (g * (1 - 2 * r3))) ((1 + q').fdiv (g * (1 - 2 * r3))), ps, px, py, _, _⟩ _ rfl ⟨⟨hw0, bw, b1.le (by decide), b2.le (by decide)⟩, hl, hp, bpx, bpy', (divInt_bd (den_pos v) (b1.mul bv.1) (bv.2.le (by decide))).le (by decide), (divInt_bd (den_pos v) (b2.mul bv.1) (bv.2.le (by decide))).le (by decide), hz'⟩ (by omega)
/-! ### the state -/
theorem abs_sh (q : Rat) : D.tup [.int (if q.num < 0 then -q.num else q.num), .int (q.den : Int)] = sh (if q.num < 0 then -q else q) := by
  split
  · rfl
  · rfl
theorem back_map {bs : List Bw} : ∀ {rs : List Rw}, (∀ r ∈ rs, r ∈ bs.map Bw.rw) → ∃ bs' : List Bw, bs'.map Bw.rw = rs ∧ ∀ b ∈ bs', b ∈ bs
  | [], _ => ⟨[], rfl, fun b h => by cases h⟩
  | r :: rs, h => by
    obtain ⟨bs', h1, h2⟩ := back_map (rs := rs) fun x hx => h x (List.mem_cons_of_mem _ hx)
    obtain ⟨b, hb, e⟩ := List.mem_map.mp (h r List.mem_cons_self)
    refine ⟨b :: bs', by rw [List.map_cons, e, h1], fun c hc => ?_⟩
    rcases List.mem_cons.mp hc with rfl | hc
    · exact hb
    · exact h2 c hc
theorem enum_cut : ∀ {as : List D} {k : Nat} {d : D} {r : List D}, enumD k as = d :: r → ∃ a as', as = a :: as' ∧ d = .tup [.int (k : Int), a] ∧ r = enumD (k + 1) as'
  | [], _, _, _, h => by cases h
  | a :: as, k, _, _, h => by
    obtain ⟨rfl, rfl⟩ := List.cons.inj h
    exact ⟨a, as, rfl, rfl, rfl⟩
def a_l_state : ASp := fun ds n Q => ∃ k : Nat, ds = [.deck, .int (k : Int)] ∧ k ≤ 12 ∧ 3000 ≤ n ∧ ∀ (s : Stt) (n' : Nat), s.ok → Q s.d n'
theorem ok_l_state (T : Tx K mg A) : FnOk P w K mg base CX0 7 A.f_l_state A.fd_l_state ["_law_deck_here", "_law_many"] (spOf K 2 a_l_state) := by
  refine fn_mir [6] 9 rfl (by decide) (by decide) T.F_l_state sc_l_state fun cdv Ar outer s H E hr => ?_
  refine ⟨_, _, (pss_cons (ps_set (i := 2) sc_l_state.nd rfl (.inl rfl) (pe_tup (pa_cons (pe_call (ok_l_part (K := K) T) (hr.mono (by decide)) (by rfl) T.g_l_part T.F_l_part.kp T.b_l_part .nil pass0 (pa_cons (pv 0) pa_nil)) (pa_cons (pe_call (ok_l_part (K := K) T) (hr.mono (by decide)) (by rfl) T.g_l_part T.F_l_part.kp T.b_l_part .nil pass0 (pa_cons (pv 0) pa_nil)) pa_nil))))
    (pss_cons (ps_set (i := 3) sc_l_state.nd rfl (.inl rfl) (pe_op (k_add (K := K) rfl) pe_int (pe_call (ok_l_take (K := K) T) (hr.mono (by decide)) (by rfl) T.g_l_take T.F_l_take.kp T.b_l_take .nil pass0 (pa_cons (pv 0) (pa_cons pe_int pa_nil)))))
    (pss_cons (ps_set (i := 4) sc_l_state.nd rfl (.inl rfl) (pe_call (ok_l_share (K := K) T) (hr.mono (by decide)) (by rfl) T.g_l_share T.F_l_share.kp T.b_l_share .nil pass0 (pa_cons (pe_call (ok_l_take (K := K) T) (hr.mono (by decide)) (by rfl) T.g_l_take T.F_l_take.kp T.b_l_take .nil pass0 (pa_cons (pv 0) (pa_cons (pe_op (k_add (K := K) rfl) (pv 3) pe_int) pa_nil))) (pa_cons (pv 3) pa_nil))))
    (pss_cons (ps_set (i := 5) sc_l_state.nd rfl (.inl rfl) (pe_call (ok_l_part (K := K) T) (hr.mono (by decide)) (by rfl) T.g_l_part T.F_l_part.kp T.b_l_part .nil pass0 (pa_cons (pv 0) pa_nil)))
    (pss_cons (k_own (ps_set (i := 6) sc_l_state.nd rfl (.inl rfl) (pe_lst pa_nil)))
    (pss_cons (ps_for PassesOwn.never rfl (k_enum (K := K) rfl (by rfl) T.m_enumerate (pa_cons (pe_call (ok_l_names (K := K) T) (hr.mono (by decide)) (by rfl) T.g_l_names T.F_l_names.kp T.b_l_names .nil pass0 (pa_cons (pv 0) (pa_cons (pv 1) pa_nil))) pa_nil)) (k_gtup (K := K) (m := 2) rfl rfl (pgs_cons (pg_name (i := 7) sc_l_state.nd rfl (.inl rfl)) (pgs_cons (pg_name (i := 8) sc_l_state.nd rfl (.inl rfl)) pgs_nil)))
      (pss_one (k_app (K := K) rfl (ps_expr (pe_bm PySem.F.plainAttrs_list PySem.F.slot_list_append PySem.F.type_list_append mt_append (pv 6) (pa_cons (pe_call (ok_l_row (K := K) T) (hr.mono (by decide)) (by rfl) T.g_l_row T.F_l_row.kp T.b_l_row .nil pass0 (pa_cons (pv 0) (pa_cons (pv 8) (pa_cons (pv 7) pa_nil)))) pa_nil))))))
    (pss_one (ps_ret (pe_tup (pa_cons (pv 2) (pa_cons (pv 4) (pa_cons (pe_tup (pa_cons (pe_callB k_abs (by rfl) T.m_abs (by decide +kernel) (pa_cons (pe_ix (k_ix (K := K) rfl) (pv 5) pe_int (fun _ _ => rfl)) pa_nil)) (pa_cons (pe_ix (k_ix (K := K) rfl) (pv 5) pe_int (fun _ _ => rfl)) pa_nil))) (pa_cons (pe_callTy (k_tuple (K := K) rfl) (by rfl) T.m_tuple (by decide +kernel) (pa_cons (pe_callB (k_sortR (K := K) rfl) (by rfl) T.m_sorted (by decide +kernel) (pa_cons (pv 6) pa_nil)) pa_nil)) pa_nil))))))))))))), by infer_instance, fun ds n Q hl hA => ?_⟩
  obtain ⟨k, rfl, hk, hn, q⟩ := hA
  refine ⟨rfl, by omega, fun dx n1 bdx h1 => ⟨rfl, by omega, fun dy n2 bdy h2 => ?_⟩⟩
  refine ⟨99, rfl, by decide, by decide, by omega, fun be lb ub => ?_⟩
  refine ⟨1 + be + 1, rfl, by omega, small_log (by omega) (by omega), by omega, fun bo lo uo => ?_⟩
  have bbe : Bd 64 (1 + be) := bd_abs (n := 1000) (by decide) (by omega) (by omega)
  have bbo : Bd 64 bo := bd_abs (n := 1000) (by decide) (by omega) (by omega)
  refine share_ok (by omega) bbe (by decide) ?_
  have bg : BdQ 1500 (Rat.divInt bo (1 + be)) := (divInt_bd (by omega) bbo bbe).le (by decide)
  generalize Rat.divInt bo (1 + be) = g at bg
  refine ⟨rfl, by omega, fun c n3 bc h3 => ?_⟩
  refine ⟨k, rfl, hk, by omega, fun zs n4 hnd hl hzl h4 => ?_⟩
  refine aFor_ind (fun ds ρ m => ∃ (bs : List Bw) (us : List Str) (j : Nat) (y7 y8 : Option D), ρ = [some .deck, some (.int (k : Int)), some (spt dx dy), some (.int (1 + be)), some (sh g), some (sh c), some (.lst (bs.map Bw.d)), y7, y8] ∧ ds = enumD j (us.map D.str) ∧ j = bs.length ∧ bs.map Bw.nm ++ us = zs ∧ (∀ b ∈ bs, b.ok) ∧ n4 ≤ m + 60 * bs.length) ?_ ?_ ⟨[], zs, 0, none, none, rfl, rfl, rfl, rfl, (fun b h => by cases h), by simp⟩
  · rintro d r _ m ⟨bs, us, j, y7, y8, rfl, e, hj, hz, hb, hm⟩ ih
    obtain ⟨a, as', e1, rfl, rfl⟩ := enum_cut e.symm
    cases us with
    | nil => cases e1
    | cons u us =>
    obtain ⟨rfl, rfl⟩ := List.cons.inj e1
    have hlen : bs.length + us.length + 1 ≤ 12 := by
      rw [← hz, List.length_append, List.length_map, List.length_cons] at hl
      omega
    have hu : u.length ≤ 12 := hzl u (by rw [← hz]; simp)
    refine ⟨u, (j : Int), rfl, hu, by omega, by omega, by omega, fun b n5 hbn hbo h5 => ?_⟩
    refine ⟨by rw [List.length_map]; omega, ih _ _ ⟨bs ++ [b], us, j + 1, _, _, by rw [List.map_append]; rfl, rfl, by simp; omega, ?_, ?_, by simp; omega⟩⟩
    · rw [List.map_append, List.append_assoc, ← hz, ← hbn]
      rfl
    · intro b' hc
      rcases List.mem_append.mp hc with hc | hc
      · exact hb b' hc
      · rw [List.mem_singleton.mp hc]
        exact hbo
  · rintro _ m ⟨bs, us, j, y7, y8, rfl, e, hj, hz, hb, hm⟩
    cases us with
    | cons u us => cases e
    | nil =>
    rw [List.append_nil] at hz
    have hbl : bs.length ≤ 12 := by
      rw [← hz, List.length_map] at hl
      exact hl
    refine ⟨bs.map Bw.rw, by rw [List.map_map]; rfl, ?_, fun rs hp _ => ?_⟩
    · rw [List.map_map]
      show (bs.map Bw.nm).Nodup
      rw [hz]
      exact hnd
    · obtain ⟨bs', e1, e2⟩ := back_map (bs := bs) fun x hx => hp.mem_iff.mp hx
      have el := hp.length_eq
      rw [← e1, List.length_map, List.length_map] at el
      subst e1
      have bc' : BdQ 1500 (if c.num < 0 then -c else c) := by
        have h := bc.le (show 1302 ≤ 1500 by decide)
        split
        · exact h.neg
        · exact h
      have := q ⟨dx, dy, g, if c.num < 0 then -c else c, bs'⟩ m ⟨bdx.le (by decide), bdy.le (by decide), bg, bc', by show bs'.length ≤ 12; omega, fun b h => hb b (e2 b h)⟩
      have e3 : (Stt.mk dx dy g (if c.num < 0 then -c else c) bs').d = .tup [spt dx dy, sh g, .tup [.int (if c.num < 0 then -c.num else c.num), .int (c.den : Int)], .tup ((bs'.map Bw.rw).map rowT)] := by
        rw [abs_sh, List.map_map]
        rfl
      rw [e3] at this
      exact this

/-! CUT -/
/-! ### zip of any two things that go item by item -/
namespace RX
open PySem
/-- an iterator it over what stands at l: its states, its items -/
structure Src (prog : Program) (w : World) (it l : Addr) (J : Nat → Heap → Prop) (get : Nat → Option Value) : Prop where
  keep : ∀ {k : Nat} {g g' : Heap} {c : Addr}, it ≠ c → l ≠ c → Heap.ExtBut c g g' → J k g → J k g'
  step : ∀ {A : Around} {E : Value → Shared → Prop} {s : Shared} {Q : Value → Shared → Prop} {k : Nat} {x : Value}, J k s.heap → get k = some x → (∀ g, J (k + 1) g → Heap.SameBut it s.heap g → Q x { s with heap := g }) → wpAny (model prog w) A (Builtin.SmallTypes.nextOf (.ref it)) Q E s
  stop : ∀ {A : Around} {E : Value → Shared → Prop} {s : Shared} {Q : Value → Shared → Prop} {k : Nat}, A.handled = none → J k s.heap → get k = none → (∀ g e, Heap.ExtBut it s.heap g → (∃ o, g.get? e = some o ∧ o.cls = .type "StopIteration") → E (.ref e) { s with heap := g }) → wpAny (model prog w) A (Builtin.SmallTypes.nextOf (.ref it)) Q E s
  here : ∀ {k : Nat} {g : Heap}, J k g → ∃ o, g.get? it = some o ∧ ∀ v, o.data ≠ .cell v
theorem srcT {prog : Program} {w : World} {it l : Addr} (hne : l ≠ it) (xs : Array Value) : Src prog w it l (fun k g => g.IsTupleIter it l k ∧ g.IsTuple l xs) (fun k => xs[k]?) where
  keep := fun h1 h2 e j => ⟨j.1.extBut e h1, j.2.extBut e h2⟩
  step := fun j hx q => RZ.nextOf_tuple_item j.1 j.2 hx fun g h1 h2 => q g ⟨h1, j.2.extBut h2.extBut hne⟩ h2
  stop := fun hh j hx q => RZ.nextOf_tuple_end hh j.1 j.2 hx q
  here := fun j => by obtain ⟨o, ho, _, hd⟩ := j.1; exact ⟨o, ho, fun v e => by rw [hd] at e; cases e⟩
theorem srcL {prog : Program} {w : World} {it l : Addr} (hne : l ≠ it) (xs : Array Value) : Src prog w it l (fun k g => g.IsListIter it l k ∧ g.IsList l xs) (fun k => xs[k]?) where
  keep := fun h1 h2 e j => ⟨j.1.extBut e h1, j.2.extBut e h2⟩
  step := fun j hx q => wpAny_nextOf_list_item j.1 j.2 hx fun g h1 h2 => q g ⟨h1, j.2.extBut h2.extBut hne⟩ h2
  stop := fun hh j hx q => wpAny_nextOf_list_end hh j.1 j.2 hx q
  here := fun j => by obtain ⟨o, ho, _, hd⟩ := j.1; exact ⟨o, ho, fun v e => by rw [hd] at e; cases e⟩
section
variable {prog : Program} {w : World} {A : Around} {E : Value → Shared → Prop} {s : Shared} {z TI TO i1 i2 l1 l2 : Addr} {J1 J2 : Nat → Heap → Prop} {g1 g2 : Nat → Option Value}
/-- one more pair -/
theorem zip_item {k : Nat} {x y a b : Value} {Q : Value → Shared → Prop} (D : ZipApart z TI TO i1 i2 l1 l2) (S1 : Src prog w i1 l1 J1 g1) (S2 : Src prog w i2 l2 J2 g2) (zz : IsZip s.heap z TI TO .none) (zi : IsPair s.heap TI (.ref i1) (.ref i2)) (zo : IsPair s.heap TO a b) (j1 : J1 k s.heap) (j2 : J2 k s.heap) (hx : g1 k = some x) (hy : g2 k = some y)
    (q : ∀ g, IsZip g z TI TO (rawInt s.heap.objs.size) → IsPair g TO x y → J1 (k + 1) g → J2 (k + 1) g → IsPair g s.heap.objs.size x y → g.objs.size = s.heap.objs.size + 1 → (∀ c o, c ≠ z → c ≠ TO → c ≠ i1 → c ≠ i2 → s.heap.get? c = some o → g.get? c = some o) → Q (.ref s.heap.objs.size) { s with heap := g }) :
    wpAny (model prog w) A (Builtin.«zip.__next__» ⟨[.ref z], []⟩) (fun fin s' => ∃ v, fin = .done (.ret v) ∧ Q v s') E s := by
  show wpAny _ _ (field (.ref z) 2 >>= _) _ _ _; refine wpAny_bind (wpAny_field zz rfl (x := .bool false) rfl ?_)
  show wpAny _ _ (field (.ref z) 3 >>= _) _ _ _; refine wpAny_bind (wpAny_field zz rfl (x := .ref TI) rfl (wpAny_bind (wpAny_seqItems zi rfl ?_)))
  show wpAny _ _ (Builtin.SmallTypes.ownedTupleIsFree (.ref z) >>= _) _ _ _; refine wpAny_bind ?_; unfold Builtin.SmallTypes.ownedTupleIsFree
  refine wpAny_bind (wpAny_field zz rfl (x := .none) rfl (wpAny_pure ?_)); simp only [if_true]
  refine wpAny_bind (wpAny_rule (wpAny_bind (wpAny_field zz rfl (x := .ref TO) rfl (wpAny_bind (wpAny_setField_rec zz (by simp) fun ha za sa => ?_)))))
  replace za : IsZip ha z TI TO .ellipsis := za
  refine wpAny_bind ?_; simp only [List.zipIdx_cons, List.zipIdx_nil, List.forIn_cons, List.forIn_nil]
  refine wpAny_bind (wpAny_bind (wpAny_onRaise ?_)); show wpAny _ _ (Builtin.SmallTypes.nextOf (.ref i1) >>= _) _ _ _
  refine wpAny_bind (S1.step (s := { s with heap := ha }) (S1.keep D.i1z D.l1z sa.extBut j1) hx fun hb jb sb => wpAny_pure ?_)
  have ob : IsPair hb TO a b := sb.extBut _ _ D.TOi1 (sa.extBut _ _ D.TOz zo)
  refine wpAny_bind (wpAny_seqItems ob rfl (wpAny_bind (wpAny_updateSeq_pair ob fun hc oc sc => ?_)))
  replace oc : IsPair hc TO x b := oc
  refine wpAny_bind (wpAny_letGo (wpAny_pure (wpAny_bind (wpAny_bind (wpAny_onRaise ?_))))); show wpAny _ _ (Builtin.SmallTypes.nextOf (.ref i2) >>= _) _ _ _
  refine wpAny_bind (S2.step (s := { s with heap := hc }) (S2.keep D.TOi2.symm D.l2TO sc.extBut (S2.keep D.i12.symm D.l2i1 sb.extBut (S2.keep D.i2z D.l2z sa.extBut j2))) hy fun hd jd sd => wpAny_pure ?_)
  have od : IsPair hd TO x b := sd.extBut _ _ D.TOi2 oc
  refine wpAny_bind (wpAny_seqItems od rfl (wpAny_bind (wpAny_updateSeq_pair od fun he oe se => ?_)))
  replace oe : IsPair he TO x y := oe
  refine wpAny_bind (wpAny_letGo (wpAny_pure (wpAny_pure (wpAny_bind (wpAny_seqItems oe rfl (wpAny_bind (wpAny_newTuple ?_)))))))
  have size : he.objs.size = s.heap.objs.size := by rw [se.1, sd.1, sc.1, sb.1, sa.1]
  have ze : IsZip he z TI TO .ellipsis := se.extBut _ _ D.TOz.symm (sd.extBut _ _ D.i2z.symm (sc.extBut _ _ D.TOz.symm (sb.extBut _ _ D.i1z.symm za)))
  have ke : ∀ c o, c ≠ z → c ≠ TO → c ≠ i1 → c ≠ i2 → s.heap.get? c = some o → he.get? c = some o := fun c o c1 c2 c3 c4 e => se.extBut _ _ c2 (sd.extBut _ _ c4 (sc.extBut _ _ c2 (sb.extBut _ _ c3 (sa.extBut _ _ c1 e))))
  have ja : J1 (k + 1) he := S1.keep D.TOi1.symm D.l1TO se.extBut (S1.keep D.i12 D.l1i2 sd.extBut (S1.keep D.TOi1.symm D.l1TO sc.extBut jb))
  have jc : J2 (k + 1) he := S2.keep D.TOi2.symm D.l2TO se.extBut jd
  have below : z < he.objs.size := Heap.lt_size ze
  show wpAny _ _ (Builtin.SmallTypes.ownedTupleHandOut (.ref z) (.ref he.objs.size) >>= _) _ _ _; refine wpAny_bind ?_; unfold Builtin.SmallTypes.ownedTupleHandOut
  have zf : IsZip (he.push { cls := .type "tuple", data := .seq #[x, y] }) z TI TO .ellipsis := Heap.get?_push_of_some _ ze
  refine wpAny_bind (wpAny_setField_rec zf (by simp) fun hg zg sg => ?_)
  replace zg : IsZip hg z TI TO (rawInt he.objs.size) := zg
  refine wpAny_setField_rec zg (by simp) fun hh zh sh => ?_
  replace zh : IsZip hh z TI TO (rawInt he.objs.size) := zh
  have grow : Heap.ExtBut z he hh := fun c o c1 e => sh.extBut _ _ c1 (sg.extBut _ _ c1 (Heap.get?_push_of_some _ e))
  have pair : IsPair hh he.objs.size x y := sh.extBut _ _ (Nat.ne_of_gt below) (sg.extBut _ _ (Nat.ne_of_gt below) (Heap.get?_push_size _ rfl))
  have more : hh.objs.size = he.objs.size + 1 := by rw [sh.1, sg.1, Heap.size_push]
  rw [size] at zh pair more
  refine wpAny_pure ⟨_, rfl, ?_⟩; show Q (.ref he.objs.size) _; rw [size]
  exact q hh zh (grow _ _ D.TOz oe) (S1.keep D.i1z D.l1z grow ja) (S2.keep D.i2z D.l2z grow jc) pair more fun c o c1 c2 c3 c4 e => grow c o c1 (ke c o c1 c2 c3 c4 e)
/-- no more -/
theorem zip_end {k : Nat} {a b : Value} {Q : Fin → Shared → Prop} (hn : A.handled = none) (D : ZipApart z TI TO i1 i2 l1 l2) (S1 : Src prog w i1 l1 J1 g1) (S2 : Src prog w i2 l2 J2 g2) (zz : IsZip s.heap z TI TO .none) (zi : IsPair s.heap TI (.ref i1) (.ref i2)) (zo : IsPair s.heap TO a b) (j1 : J1 k s.heap) (j2 : J2 k s.heap) (last : g1 k = none ∨ g2 k = none)
    (q : ∀ g e, (∀ c o, c ≠ z → c ≠ TO → c ≠ i1 → c ≠ i2 → s.heap.get? c = some o → g.get? c = some o) → (∃ o, g.get? e = some o ∧ o.cls = .type "StopIteration") → E (.ref e) { s with heap := g }) :
    wpAny (model prog w) A (Builtin.«zip.__next__» ⟨[.ref z], []⟩) Q E s := by
  show wpAny _ _ (field (.ref z) 2 >>= _) _ _ _; refine wpAny_bind (wpAny_field zz rfl (x := .bool false) rfl ?_)
  show wpAny _ _ (field (.ref z) 3 >>= _) _ _ _; refine wpAny_bind (wpAny_field zz rfl (x := .ref TI) rfl (wpAny_bind (wpAny_seqItems zi rfl ?_)))
  show wpAny _ _ (Builtin.SmallTypes.ownedTupleIsFree (.ref z) >>= _) _ _ _; refine wpAny_bind ?_; unfold Builtin.SmallTypes.ownedTupleIsFree
  refine wpAny_bind (wpAny_field zz rfl (x := .none) rfl (wpAny_pure ?_)); simp only [if_true]
  refine wpAny_bind (wpAny_rule (wpAny_bind (wpAny_field zz rfl (x := .ref TO) rfl (wpAny_bind (wpAny_setField_rec zz (by simp) fun ha za sa => ?_)))))
  replace za : IsZip ha z TI TO .ellipsis := za
  refine wpAny_bind ?_; simp only [List.zipIdx_cons, List.zipIdx_nil, List.forIn_cons, List.forIn_nil]
  refine wpAny_bind (wpAny_bind (wpAny_onRaise ?_)); show wpAny _ _ (Builtin.SmallTypes.nextOf (.ref i1) >>= _) _ _ _
  cases hx : g1 k with
  | none =>
    refine wpAny_bind (S1.stop (s := { s with heap := ha }) hn (S1.keep D.i1z D.l1z sa.extBut j1) hx fun hb e sb ⟨oe, ho, hce⟩ => ?_)
    have zb : IsZip hb z TI TO .ellipsis := sb _ _ D.i1z.symm za
    have ne : e ≠ z := fun x => by subst x; rw [zb] at ho; cases ho; simp at hce
    exact wpAny_setField_rec zb (by simp) fun hc _ sc => q hc e (fun c o c1 _ c3 _ v => sc.extBut _ _ c1 (sb _ _ c3 (sa.extBut _ _ c1 v))) ⟨oe, sc.extBut _ _ ne ho, hce⟩
  | some x =>
    have hy : g2 k = none := last.resolve_left fun h => by rw [hx] at h; cases h
    refine wpAny_bind (S1.step (s := { s with heap := ha }) (S1.keep D.i1z D.l1z sa.extBut j1) hx fun hb jb sb => wpAny_pure ?_)
    have ob : IsPair hb TO a b := sb.extBut _ _ D.TOi1 (sa.extBut _ _ D.TOz zo)
    refine wpAny_bind (wpAny_seqItems ob rfl (wpAny_bind (wpAny_updateSeq_pair ob fun hc oc sc => ?_)))
    refine wpAny_bind (wpAny_letGo (wpAny_pure (wpAny_bind (wpAny_bind (wpAny_onRaise ?_))))); show wpAny _ _ (Builtin.SmallTypes.nextOf (.ref i2) >>= _) _ _ _
    refine wpAny_bind (S2.stop (s := { s with heap := hc }) hn (S2.keep D.TOi2.symm D.l2TO sc.extBut (S2.keep D.i12.symm D.l2i1 sb.extBut (S2.keep D.i2z D.l2z sa.extBut j2))) hy fun hd e sd ⟨oe, ho, hce⟩ => ?_)
    have zd : IsZip hd z TI TO .ellipsis := sd _ _ D.i2z.symm (sc.extBut _ _ D.TOz.symm (sb.extBut _ _ D.i1z.symm za))
    have ne : e ≠ z := fun x => by subst x; rw [zd] at ho; cases ho; simp at hce
    exact wpAny_setField_rec zd (by simp) fun he _ se => q he e (fun c o c1 c2 c3 c4 v => se.extBut _ _ c1 (sd _ _ c4 (sc.extBut _ _ c2 (sb.extBut _ _ c3 (sa.extBut _ _ c1 v))))) ⟨oe, se.extBut _ _ ne ho, hce⟩
/-- by pyNext -/
theorem next_item {k : Nat} {x y a b : Value} {Q : Option Value → Shared → Prop} (D : ZipApart z TI TO i1 i2 l1 l2) (S1 : Src prog w i1 l1 J1 g1) (S2 : Src prog w i2 l2 J2 g2) (zz : IsZip s.heap z TI TO .none) (zi : IsPair s.heap TI (.ref i1) (.ref i2)) (zo : IsPair s.heap TO a b) (j1 : J1 k s.heap) (j2 : J2 k s.heap) (hx : g1 k = some x) (hy : g2 k = some y)
    (q : ∀ g, IsZip g z TI TO (rawInt s.heap.objs.size) → IsPair g TO x y → J1 (k + 1) g → J2 (k + 1) g → IsPair g s.heap.objs.size x y → g.objs.size = s.heap.objs.size + 1 → (∀ c o, c ≠ z → c ≠ TO → c ≠ i1 → c ≠ i2 → s.heap.get? c = some o → g.get? c = some o) → Q (some (.ref s.heap.objs.size)) { s with heap := g }) :
    wpAny (model prog w) A (pyNext (.ref z)) Q E s := by
  have ty : s.TypeIs (.ref z) "zip" := ⟨_, zz, rfl⟩
  unfold pyNext
  refine wpAny_bind (wpAny_attempt (wpAny_callSpecial?_slot (name := Str.ofString "__next__") ty F.slot_zip_next (wpAny_call_entry F.slot_zip_next ty F.entry_zip_next (zip_item D S1 S2 zz zi zo j1 j2 hx hy fun g b1 b2 b3 b4 b5 b6 b7 => ?_) (F.args_zip_next_1 _))))
  exact wpAny_pure (q g b1 b2 b3 b4 b5 b6 b7)
theorem next_end {k : Nat} {a b : Value} {Q : Option Value → Shared → Prop} (hn : A.handled = none) (D : ZipApart z TI TO i1 i2 l1 l2) (S1 : Src prog w i1 l1 J1 g1) (S2 : Src prog w i2 l2 J2 g2) (zz : IsZip s.heap z TI TO .none) (zi : IsPair s.heap TI (.ref i1) (.ref i2)) (zo : IsPair s.heap TO a b) (j1 : J1 k s.heap) (j2 : J2 k s.heap) (last : g1 k = none ∨ g2 k = none)
    (q : ∀ g, (∀ c o, c ≠ z → c ≠ TO → c ≠ i1 → c ≠ i2 → s.heap.get? c = some o → g.get? c = some o) → Q none { s with heap := g }) : wpAny (model prog w) A (pyNext (.ref z)) Q E s := by
  have ty : s.TypeIs (.ref z) "zip" := ⟨_, zz, rfl⟩
  unfold pyNext
  refine wpAny_bind (wpAny_attempt (wpAny_callSpecial?_slot (name := Str.ofString "__next__") ty F.slot_zip_next (wpAny_call_entry F.slot_zip_next ty F.entry_zip_next (zip_end hn D S1 S2 zz zi zo j1 j2 last fun g e kp ⟨o, ho, hc⟩ => ?_) (F.args_zip_next_1 _))))
  exact wpAny_bind (wpAny_isInstance (T := "StopIteration") (b := true) ⟨o, ho, hc⟩ isSubtype_stop (wpAny_pure (q _ kp)))
end
/-! zip(a tuple, a list) -/
abbrev mH (h : Heap) (l1 l2 : Addr) : Heap := (((h.push { cls := .type "tuple_iterator", data := .fields #[.ref l1, .int 0 0] }).push { cls := .type "list_iterator", data := .fields #[.ref l2, .int 0 0] }).push { cls := .type "tuple", data := .seq #[.ref h.objs.size, .ref (h.objs.size + 1)] }).push { cls := .type "tuple", data := .seq #[.none, .none] }
abbrev mZ (h : Heap) (l1 l2 : Addr) : Heap := (mH h l1 l2).push { cls := .type "zip", data := .fields #[.none, .bool false, .bool false, .ref (h.objs.size + 2), .ref (h.objs.size + 3)] }
theorem new_zipM (l1 l2 : Addr) (xs ys : Array Value) : Meets (Builtin.«zip.__new__» ⟨[.type "zip", .ref l1, .ref l2], []⟩) (fun _ R s => s.heap.IsTuple l1 xs ∧ s.heap.IsList l2 ys ∧ R (.ok (.ret (.ref (s.heap.objs.size + 4)))) { s with heap := mZ s.heap l1 l2 }) :=
  .of_wp fun prog w A R s h => by
    obtain ⟨hp, g, d, tk, os⟩ := s
    obtain ⟨t1, t2, h⟩ := h
    have sub := sub_zip
    have u1 : Heap.IsTuple (Shared.heap ⟨hp, g, d, tk, os⟩) l1 xs := t1
    have u2 : Heap.IsList (Shared.heap ⟨hp.push { cls := .type "tuple_iterator", data := .fields #[.ref l1, .int 0 0] }, g, d, tk, os⟩) l2 ys := Heap.IsList.push t2 _
    wp_walk using wpAny_pyIter_tuple u1, wpAny_pyIter_list u2
    refine ⟨_, rfl, ?_⟩
    simp only [Heap.size_push] at h ⊢
    exact h
theorem call_zipM {prog : Program} {w : World} {A : Around} {E : Value → Shared → Prop} {s : Shared} {l1 l2 : Addr} {xs ys : Array Value} {Q : Value → Shared → Prop} (t1 : s.heap.IsTuple l1 xs) (t2 : s.heap.IsList l2 ys)
    (h : ∀ g, IsZip g (s.heap.objs.size + 4) (s.heap.objs.size + 2) (s.heap.objs.size + 3) .none → IsPair g (s.heap.objs.size + 2) (.ref s.heap.objs.size) (.ref (s.heap.objs.size + 1)) → IsPair g (s.heap.objs.size + 3) .none .none → g.IsTupleIter s.heap.objs.size l1 0 → g.IsListIter (s.heap.objs.size + 1) l2 0 → (∀ c o, s.heap.get? c = some o → g.get? c = some o) → Q (.ref (s.heap.objs.size + 4)) { s with heap := g }) :
    wpAny (model prog w) A (call (.type "zip") [.ref l1, .ref l2]) Q E s := by
  refine callType_new F.called_zip (by decide) (F.typeCall_zip_2 _ _) (F.newCall_zip_2 _ _) (fun obj => F.args_object_init_3 obj _ _) F.entry_zip_new (new_zipM l1 l2 xs ys) ⟨t1, t2, ?_⟩
  have up : ∀ (g : Heap) (o : Obj) (c : Addr) (o' : Obj), g.get? c = some o' → (g.push o).get? c = some o' := fun g o c o' e => Heap.get?_push_of_some _ e
  have at_ : ∀ (g : Heap) (o : Obj) (c : Addr), g.objs.size = c → o.isFreed = false → (g.push o).get? c = some o := fun g o c e f => by
    subst e
    exact Heap.get?_push_size _ f
  have zz : IsZip (mZ s.heap l1 l2) (s.heap.objs.size + 4) (s.heap.objs.size + 2) (s.heap.objs.size + 3) .none := at_ _ _ _ (by simp only [Heap.size_push]) rfl
  have w1 : (mZ s.heap l1 l2).get? s.heap.objs.size = some { cls := .type "tuple_iterator", data := .fields #[.ref l1, .int 0 0] } := up _ _ _ _ (up _ _ _ _ (up _ _ _ _ (up _ _ _ _ (at_ _ _ _ rfl rfl))))
  have w2 : (mZ s.heap l1 l2).get? (s.heap.objs.size + 1) = some { cls := .type "list_iterator", data := .fields #[.ref l2, .int 0 0] } := up _ _ _ _ (up _ _ _ _ (up _ _ _ _ (at_ _ _ _ (by simp only [Heap.size_push]) rfl)))
  refine ⟨⟨_, zz, rfl⟩, h _ zz ?_ ?_ ⟨_, w1, rfl, rfl⟩ ⟨_, w2, rfl, rfl⟩ fun c o e => up _ _ _ _ (up _ _ _ _ (up _ _ _ _ (up _ _ _ _ (up _ _ _ _ e))))⟩
  · exact up _ _ _ _ (up _ _ _ _ (at_ _ _ _ (by simp only [Heap.size_push]) rfl))
  · exact up _ _ _ _ (at_ _ _ _ (by simp only [Heap.size_push]) rfl)
end RX
namespace RX
open PySem PySem.Spec PyProof.Rows L2
/-- a tuple and a list, item by item, in new pairs -/
def ItzM (K : PySem.W.Frag) (a b : Addr) : It :=
  ⟨fun i H => ∃ (xs ys : List V) (x y : V), SqT K H a xs ∧ SqL K H b ys ∧ xs[i]? = some x ∧ ys[i]? = some y,
   fun i H v H' => ∃ T x y, v = .ref T ∧ H T = none ∧ H' = upd H T (.tup [x, y]) ∧ (∀ xs, SqT K H a xs → xs[i]? = some x) ∧ ∀ ys, SqL K H b ys → ys[i]? = some y,
   fun i H => ∃ xs ys : List V, SqT K H a xs ∧ SqL K H b ys ∧ (xs.length ≤ i ∨ ys.length ≤ i)⟩
theorem turnM {P : Program} {w : World} {K : PySem.W.Frag} {elts : List Expr} {kk : Nat} {tpos : Pos} {a b z TI TO i1 i2 : Addr} (D : ZipApart z TI TO i1 i2 a b) :
    Turn P w K (.Tuple elts kk tpos) (ItzM K a b) [z, TI, TO, i1, i2] z (fun i h => IsZip h z TI TO .none ∧ IsPair h TI (.ref i1) (.ref i2) ∧ (∃ x y, IsPair h TO x y) ∧ h.IsTupleIter i1 a i ∧ h.IsListIter i2 b i) where
  mem := List.mem_cons_self
  obj := fun i h ⟨hz, hi, ⟨x, y, ho⟩, ⟨o1, e1, _, d1⟩, ⟨o2, e2, _, d2⟩⟩ c hc => by
    simp only [List.mem_cons, List.not_mem_nil, or_false] at hc
    rcases hc with rfl | rfl | rfl | rfl | rfl
    · exact ⟨_, hz, fun v e => nomatch e⟩
    · exact ⟨_, hi, fun v e => nomatch e⟩
    · exact ⟨_, ho, fun v e => nomatch e⟩
    · exact ⟨o1, e1, fun v e => by rw [d1] at e; cases e⟩
    · exact ⟨o2, e2, fun v e => by rw [d2] at e; cases e⟩
  keep := fun i h h' ⟨hz, hi, ⟨x, y, ho⟩, t1, t2⟩ k =>
    ⟨k z (by simp) _ hz, k TI (by simp) _ hi, ⟨x, y, k TO (by simp) _ ho⟩, t1.at fun o e => k i1 (by simp) o e, t2.at fun o e => k i2 (by simp) o e⟩
  item := by
    intro X hP hw hK hc i pins s σ H E I fp ⟨hz, hi, ⟨x0, y0, ho⟩, t1, t2⟩ ⟨xs, ys, x, y, qx, qy, ex, ey⟩
    subst hP hw hK
    obtain ⟨its, rv, pa, _⟩ := I.tuple qx
    obtain ⟨its2, rv2, pb, _⟩ := I.list qy
    obtain ⟨u, eu, ru⟩ := rv.get ex
    obtain ⟨u2, eu2, ru2⟩ := rv2.get ey
    have low : z < s.heap.objs.size := Heap.lt_size hz
    refine next_item D (srcT D.l1i1 its.toArray) (srcL D.l2i2 its2.toArray) hz hi ho ⟨t1, pa⟩ ⟨t2, pb.isList⟩ (x := u) (y := u2) (by simpa using eu) (by simpa using eu2) fun g zg og j1 j2 pg _ kp => ?_
    refine ⟨_, rfl, wpAny_letOwnedTupleGo_zip (s := { s with heap := g }) zg fun g2 zg2 sb => ?_⟩
    have pg2 : g2.get? s.heap.objs.size = some { cls := .type "tuple", data := .seq #[u, u2] } := (sb.2 _ (Nat.ne_of_gt low)).trans pg
    have made : ObjOk X.prog X.w (upd H s.heap.objs.size (.tup [x, y])) g2 s.heap.objs.size (.tup [x, y]) := ⟨(by decide : 2 ≤ sizeLine), [u, u2], .cons ru (.cons ru2 .nil), ⟨_, pg2, rfl, _, rfl⟩⟩
    have I2 : Inv X pins σ (upd H s.heap.objs.size (.tup [x, y])) { s with heap := g2 } := I.turnedNew (t' := s.toks) (ch := [z, TI, TO, i1, i2]) (fun c o nb e => by
      simp only [List.mem_cons, List.not_mem_nil, or_false, not_or] at nb
      exact (sb.2 c nb.1).trans (kp c o nb.1 nb.2.2.1 nb.2.2.2.1 nb.2.2.2.2 e)) fp (Nat.le_refl _) made
    refine ⟨.ref s.heap.objs.size, _, I2, rfl, ⟨_, x, y, rfl, I.hok.fresh (Nat.le_refl _), rfl, fun l hl => by rw [I.tuple_inj hl qx]; exact ex, fun l hl => by rw [I.list_inj hl qy]; exact ey⟩, ⟨zg2, (sb.2 _ D.TIz).trans (kp _ _ D.TIz D.TITO D.TIi1 D.TIi2 hi), ⟨u, u2, (sb.2 _ D.TOz).trans og⟩, j1.1.at fun o e => (sb.2 _ D.i1z).trans e, j2.1.at fun o e => (sb.2 _ D.i2z).trans e⟩, fun c hcm => ?_⟩
    have lt : c < s.heap.objs.size := by
      have old := hcm
      simp only [List.mem_cons, List.not_mem_nil, or_false] at hcm
      rcases hcm with rfl | rfl | rfl | rfl | rfl
      · exact low
      · exact Heap.lt_size hi
      · exact Heap.lt_size ho
      · exact let ⟨_, e, _⟩ := t1; Heap.lt_size e
      · exact let ⟨_, e, _⟩ := t2; Heap.lt_size e
    rw [upd_ne (Nat.ne_of_lt lt)]
    exact (fp c hcm).1
  done := by
    intro X hP hw hK hc i pins s σ H E I fp ⟨hz, hi, ⟨x0, y0, ho⟩, t1, t2⟩ ⟨xs, ys, qx, qy, last⟩
    subst hP hw hK
    obtain ⟨its, rv, pa, _⟩ := I.tuple qx
    obtain ⟨its2, rv2, pb, _⟩ := I.list qy
    have len1 := rv.length
    have len2 := rv2.length
    refine next_end (I.ok.hd hc) D (srcT D.l1i1 its.toArray) (srcL D.l2i2 its2.toArray) hz hi ho ⟨t1, pa⟩ ⟨t2, pb.isList⟩ (last.imp (fun h => by simp; omega) fun h => by simp; omega) fun g kp => ⟨rfl, I.turnedL (t' := s.toks) (ch := [z, TI, TO, i1, i2]) (fun c o nb e => ?_) fp⟩
    simp only [List.mem_cons, List.not_mem_nil, or_false, not_or] at nb
    exact kp c o nb.1 nb.2.2.1 nb.2.2.2.1 nb.2.2.2.2 e
  self := fun A i s Q E st h => wpAny_pyIter_zip st.1 h
def iZipM (K : PySem.W.Frag) (ta : TA) : TI := fun σ H R => ta σ H fun vs H1 => ∃ a b xs ys, vs = [.ref a, .ref b] ∧ SqT K H1 a xs ∧ SqL K H1 b ys ∧ R (ItzM K a b) H1
theorem pi_zipM {X : Cx} {e e2 : Expr} {ta : TA} {p pos tpos : Pos} {elts : List Expr} {kk : Nat} (hg : Gl X "zip") (hm : X.mg "zip" = none) (ha : PA X [e, e2] ta) (hs : starEach [e, e2] X.env = (false, eval e X.env) :: starEach [e2] X.env := by rfl) (hpl : (backTo pos (starEach [e2] X.env)).any (·.1) = false := by rfl) :
    PI X (.Tuple elts kk tpos) (.Call (.Name "zip" p) [e, e2] [] pos) (iZipM X.K ta) := by
  refine ⟨fun pins s σ H R I h => Call_ (ld_blt I hg hm PyProof.Rows.boot_zip (PyProof.Rows.callWith_type1 (thn (ha.run pos pins s σ H _ I h) fun us s1 ⟨vs, H1, I1, r1, a, b, xs, ys, ev, qx, qy, q⟩ => ?_) hs hpl))⟩
  subst ev
  cases r1 with
  | cons ra rr =>
  cases rr with
  | cons rb rr =>
  cases rr
  cases ra
  cases rb
  obtain ⟨its, rv, pa, _⟩ := I1.tuple qx
  obtain ⟨its2, rv2, pb, _⟩ := I1.list qy
  obtain ⟨oa, ea, _⟩ := id pa
  refine call_zipM (show s1.heap.IsTuple a its.toArray from pa) pb.isList fun g hz hi ho t1 t2 kp => wpAny_pyIter_zip hz ⟨s1.heap.objs.size + 4, [s1.heap.objs.size + 4, s1.heap.objs.size + 2, s1.heap.objs.size + 3, s1.heap.objs.size, s1.heap.objs.size + 1], _, _, H1, rfl, I1.kept (t' := s1.toks) kp, turnM (PySem.W.ktu_apart s1.heap.objs.size a b (Heap.lt_size ea) pb.lt), ⟨hz, hi, ⟨_, _, ho⟩, t1, t2⟩, fun c hcm => ?_, q⟩
  have up : s1.heap.objs.size ≤ c := by
    simp only [List.mem_cons, List.not_mem_nil, or_false] at hcm
    rcases hcm with rfl | rfl | rfl | rfl | rfl <;> first | exact Nat.le_add_right _ _ | exact Nat.le_refl _
  exact I1.fpOk up (I1.hok.fresh up)
end RX

/-! ### zip of a tuple and a list, slices of any tuple -/
section
variable {K : PySem.W.Frag}
def iZipMK (K : PySem.W.Frag) (ta : TA) : TI := RX.iZipM K ta
theorem k_zipM {X : Cx} {e e2 : Expr} {ta : TA} {p pos tpos : Pos} {elts : List Expr} {kk : Nat} (hK : X.K = K) (hg : Gl X "zip") (hm : X.mg "zip" = none) (ha : PA X [e, e2] ta) (hs : starEach [e, e2] X.env = (false, eval e X.env) :: starEach [e2] X.env := by rfl) (hpl : (backTo pos (starEach [e2] X.env)).any (·.1) = false := by rfl) :
    PI X (.Tuple elts kk tpos) (.Call (.Name "zip" p) [e, e2] [] pos) (iZipMK K ta) := hK ▸ RX.pi_zipM hg hm ha hs hpl
def aZipM (g : AA) : AI := fun ρ n Q => g ρ n fun ds n1 => match ds with
  | [.tup as, .lst bs] => Q (zipD as bs) n1
  | _ => False
instance {ta : TA} {g : AA} [DA K ta g] : DI K (iZipMK K ta) (aZipM g) := ⟨fun W σ ρ n H R Qa hQ hE o h =>
  DA.run (te := ta) (f := g) W σ ρ n H _ _ (fun ds n1 h1 H1 vs l1 o1 ax => by
    split at h1
    · cases ax with
      | cons a r =>
        cases r with
        | cons b r =>
          cases r
          cases a with
          | tup sa a =>
            cases b with
            | lst rb sb b =>
              refine ⟨_, _, _, _, rfl, sa, SqL.of sb, hQ _ _ h1 _ H1 l1 o1 fun W' hr hd H2 n2 l2 o2 i => ?_⟩
              have s2 := sqt_lk (o1.lk' hr) l2 sa
              have s3 := sql_lk (K := K) l2 (fun z => by rw [hr _ z rb] at sb; cases sb) sb
              refine ⟨fun d e => ?_, fun hi => ⟨_, _, s2, s3, ?_⟩⟩
              · obtain ⟨x, y, e1, e2, rfl⟩ := zipD_get e
                obtain ⟨v, e1', a1⟩ := a.get e1
                obtain ⟨u, e2', a2⟩ := b.get e2
                refine ⟨⟨_, _, v, u, s2, s3, e1', e2'⟩, fun z H3 ⟨T, x', y', ez, hT, eH, e3, e4⟩ => ?_⟩
                have q1 := e3 _ s2
                have q2 := e4 _ s3
                rw [e1'] at q1
                rw [e2'] at q2
                cases q1
                cases q2
                subst ez eH
                have st : Same H2 (upd H2 T (.tup [v, u])) := same_upd hT
                refine ⟨st, .tup (.inl (.inl upd_same)) (.cons ?_ (.cons ?_ .nil))⟩
                · exact At.le o2 (Wd.le_same st) _ (At.lk (o1.lk' hr) l2 _ (At.ext hr hd _ a1))
                · exact At.le o2 (Wd.le_same st) _ (At.lk (o1.lk' hr) l2 _ (At.ext hr hd _ a2))
              · rw [zipD_length] at hi
                rw [a.length, b.length]
                omega
    · exact h1.elim) hE o h⟩
def rSlW (K : PySem.W.Frag) : V → Option Int → Option Int → Hp → VK → Prop := L2.rSlA K
theorem k_slW {X : Cx} (hK : X.K = K) : SlR X (rSlW K) := hK ▸ sl_tupA
def aCutW (d : D) (l u : Option Int) (n : Nat) (Q : D → Nat → Prop) : Prop := match d with
  | .tup ds => Q (.tup (cutL ds l u)) n
  | _ => False
def aSlW (fa : AE) (fl fu : Env' → Nat → (Option Int → Nat → Prop) → Prop) : AE := fun ρ n Q => fa ρ n fun d n1 => fl ρ n1 fun l n2 => fu ρ n2 fun u n3 => aCutW d l u n3 Q
theorem cutL_whole {ds : List D} {l u : Option Int} (h : HT.sIx ds.length 0 l = 0 ∧ HT.sIx ds.length ds.length u = ds.length) : cutL ds l u = ds := by
  unfold cutL
  rw [h.1, h.2]
  simp
instance {te : TE} {tl tu : TO} {fa : AE} {fl fu : Env' → Nat → (Option Int → Nat → Prop) → Prop} [DE K te fa] [DO K tl fl] [DO K tu fu] : DE K (tSl (rSlW K) te tl tu) (aSlW fa fl fu) := ⟨fun W σ ρ n H Q Qa hQ hE o h =>
  DE.run (te := te) (f := fa) W σ ρ n H _ _ (fun d n1 h1 H1 x l1 o1 ax => DO.run (te := tl) (f := fl) W σ ρ n1 H1 _ _ (fun l n2 h2 H2 l2 o2 => DO.run (te := tu) (f := fu) W σ ρ n2 H2 _ _ (fun u n3 h3 H3 l3 o3 => by
    have hQ3 := hQ.le (l1.trans (l2.trans l3))
    unfold aCutW at h3
    split at h3
    · cases At.le o1 (l2.trans l3) _ ax with
      | tup s a =>
        refine ⟨_, _, rfl, s, fun hw => ?_, fun _ p hp => hQ3.new o3 h3 hp ?_⟩
        · rw [a.length] at hw
          rw [cutL_whole hw] at h3
          exact hQ3.now o3 h3 (.tup s a)
        · refine .tup (.inl (.inl upd_same)) ?_
          unfold cutV cutL
          rw [a.length]
          exact take_at _ (drop_at _ (AtAll.le o3 (Wd.le_same (same_upd hp)) _ a))
    · exact h3.elim) (hE.le o (l1.trans l2)) o2 h2) (hE.le o l1) o1 h1) hE o h⟩
end

/-! ### the law -/
theorem cut_from (xs : List D) (k : Nat) : cutL xs (some (k : Int)) none = xs.drop k := by
  unfold cutL
  rw [HT.sIx_nat, HT.sIx_none]
  rcases Nat.le_total k xs.length with h | h
  · rw [Nat.min_eq_left h, List.take_of_length_le (by rw [List.length_drop]; omega)]
  · rw [Nat.min_eq_right h, List.drop_of_length_le (Nat.le_refl _), List.drop_of_length_le h]
    simp
theorem cut_to (xs : List D) (k : Nat) : cutL xs none (some (k : Int)) = xs.take k := by
  unfold cutL
  rw [HT.sIx_nat, HT.sIx_none, List.drop_zero, Nat.sub_zero]
  rcases Nat.le_total k xs.length with h | h
  · rw [Nat.min_eq_left h]
  · rw [Nat.min_eq_right h, List.take_of_length_le (Nat.le_refl _), List.take_of_length_le h]
theorem zipD_map (f g : Bw → D) : ∀ bs : List Bw, zipD (bs.map f) (bs.map g) = bs.map fun b => D.tup [f b, g b]
  | [] => rfl
  | b :: bs => by
    rw [List.map_cons, List.map_cons, List.map_cons, ← zipD_map f g bs]
    rfl
theorem ok_law (T : Tx K mg A) : FnOk P w K mg base CX0 10 A.f_law A.fd_law ["_law_script"] (sp_law K) := by
  refine law_mir [] 9 1 rfl (by decide) (by decide) T.F_law sc_law fun cdv Ar outer s H E hr => ?_
  refine ⟨_, _, (pss_cons (ps_set (i := 1) sc_law.nd rfl (.inl rfl) (pe_call (ok_l_deck (K := K) T) (hr.mono (by decide)) (by rfl) T.g_l_deck T.F_l_deck.kp T.b_l_deck .nil pass0 (pa_cons (pv 0) pa_nil)))
    (pss_cons (ps_set (i := 2) sc_law.nd rfl (.inl rfl) (pe_ix (k_ixS (K := K) rfl) (pe_lst (pa_cons pe_int (pa_cons pe_int (pa_cons pe_int (pa_cons pe_int (pa_cons (pe_call (ok_l_take (K := K) T) (hr.mono (by decide)) (by rfl) T.g_l_take T.F_l_take.kp T.b_l_take .nil pass0 (pa_cons (pv 1) (pa_cons pe_int pa_nil))) (pa_cons (pe_call (ok_l_take (K := K) T) (hr.mono (by decide)) (by rfl) T.g_l_take T.F_l_take.kp T.b_l_take .nil pass0 (pa_cons (pv 1) (pa_cons pe_int pa_nil))) pa_nil))))))) (pe_call (ok_l_take (K := K) T) (hr.mono (by decide)) (by rfl) T.g_l_take T.F_l_take.kp T.b_l_take .nil pass0 (pa_cons (pv 1) (pa_cons pe_int pa_nil))) (fun _ _ => rfl)))
    (pss_cons (ps_set (i := 3) sc_law.nd rfl (.inl rfl) (pe_call (ok_l_state (K := K) T) (hr.mono (by decide)) (by rfl) T.g_l_state T.F_l_state.kp T.b_l_state .nil pass0 (pa_cons (pv 1) (pa_cons (pv 2) pa_nil))))
    (pss_cons (ps_set (i := 4) sc_law.nd rfl (.inl rfl) (pe_call (ok_l_lines (K := K) T) (hr.mono (by decide)) (by rfl) T.g_l_lines T.F_l_lines.kp T.b_l_lines .nil pass0 (pa_cons (pv 3) pa_nil)))
    (pss_cons (ps_for PassesOwn.never rfl (k_zipM (K := K) rfl (by rfl) T.m_zip (pa_cons (pe_ix (k_ix (K := K) rfl) (pv 3) pe_int (fun _ _ => rfl)) (pa_cons (pe_slice (k_sl (K := K) rfl) (pv 4) (po_some pe_int) po_none) pa_nil))) (k_gtup (K := K) (m := 2) rfl rfl (pgs_cons (pg_name (i := 5) sc_law.nd rfl (.inl rfl)) (pgs_cons (pg_name (i := 6) sc_law.nd rfl (.inl rfl)) pgs_nil)))
      (pss_cons (ps_set (i := 7) sc_law.nd rfl (.inl rfl) (pe_callTy (k_strD (K := K) (cls := Kd.cls A) (B := a_str A) (call_strOwn T.mt_m_Wall___str__ (ok_m_Wall___str__ (K := K) T) (hr.mono (by decide)) T.b_m_Wall___str__ pass0) (call_strOwn T.mt_m_Free___str__ (ok_m_Free___str__ (K := K) T) (hr.mono (by decide)) T.b_m_Free___str__ pass0) (call_strOwn T.mt_m_Railed___str__ (ok_m_Railed___str__ (K := K) T) (hr.mono (by decide)) T.b_m_Railed___str__ pass0)) (by rfl) T.m_str (by decide +kernel) (pa_cons (pe_call (ok_p_body_of (K := K) T) (hr.mono (by decide)) (by rfl) T.g_p_body_of T.F_p_body_of.kp T.b_p_body_of .nil pass0 (pa_cons (pv 5) pa_nil)) pa_nil)))
    (pss_one (ps_if (PW.pt (pw_or (pt_not (pt_val (pe_callB (k_isi (K := K) rfl) (by rfl) T.m_isinstance (by decide +kernel) (pa_cons (pv 7) (pa_cons (k_ty (t := .str) (by rfl) T.m_str (by decide +kernel)) pa_nil))))) (pw_or1 (pt_cmpR (k_ne (K := K) rfl hr.units) (pv 7) (pv 6) (nomark _)))))
      (pss_one (ps_ret pe_bl))
      pss_nil))))
    (pss_cons (ps_set (i := 7) sc_law.nd rfl (.inl rfl) (pe_call (ok_p_state_text (K := K) T) (hr.mono (by decide)) (by rfl) T.g_p_state_text T.F_p_state_text.kp T.b_p_state_text .nil pass0 (pa_cons (pv 3) pa_nil)))
    (pss_cons (ps_if (PW.pt (pw_or (pt_not (pt_val (pe_callB (k_isi (K := K) rfl) (by rfl) T.m_isinstance (by decide +kernel) (pa_cons (pv 7) (pa_cons (k_ty (t := .str) (by rfl) T.m_str (by decide +kernel)) pa_nil))))) (pw_or1 (pt_cmpR (k_ne (K := K) rfl hr.units) (pv 7) (k_join (K := K) rfl pe_str (pv 4)) (nomark _)))))
      (pss_one (ps_ret pe_bl))
      pss_nil)
    (pss_cons (ps_set (i := 8) sc_law.nd rfl (.inl rfl) (pe_op (k_add (K := K) rfl) (pe_slice (k_sl (K := K) rfl) (pv 3) po_none (po_some pe_int)) (pe_tup (pa_cons (pe_slice (k_slW (K := K) rfl) (pe_ix (k_ix (K := K) rfl) (pv 3) pe_int (fun _ _ => rfl)) (po_some pe_int) po_none) pa_nil))))
    (pss_one (ps_ret (pe_and (pe_cmpR (k_eq (K := K) rfl hr.units) (pe_call (ok_p_state_text (K := K) T) (hr.mono (by decide)) (by rfl) T.g_p_state_text T.F_p_state_text.kp T.b_p_state_text .nil pass0 (pa_cons (pv 8) pa_nil)) (k_join (K := K) rfl pe_str (pe_op (k_add (K := K) rfl) (pe_slice (k_sl (K := K) rfl) (pv 4) po_none (po_some pe_int)) (pe_slice (k_sl (K := K) rfl) (pv 4) (po_some pe_int) po_none))) (nomark _)) (pe_one (pe_cmpR (k_eq (K := K) rfl hr.units) (pe_call (ok_p_state_text (K := K) T) (hr.mono (by decide)) (by rfl) T.g_p_state_text T.F_p_state_text.kp T.b_p_state_text .nil pass0 (pa_cons (pv 3) pa_nil)) (pv 7) (nomark _)))))))))))))), by infer_instance, ?_⟩
  refine ⟨13, rfl, by decide, by decide, by decide, fun a la ua => ⟨6, rfl, by decide, by decide, by decide, fun b lb ub => ⟨6, rfl, by decide, by decide, by decide, fun r lr ur => ?_⟩⟩⟩
  obtain ⟨k, hk, hat⟩ : ∃ k : Nat, k ≤ 12 ∧ atI [D.int 0, D.int 1, D.int 2, D.int 12, D.int a, D.int b] r = some (D.int (k : Int)) := by
    obtain ⟨a', rfl⟩ := Int.eq_ofNat_of_zero_le la
    obtain ⟨b', rfl⟩ := Int.eq_ofNat_of_zero_le lb
    obtain rfl | rfl | rfl | rfl | rfl | rfl : r = 0 ∨ r = 1 ∨ r = 2 ∨ r = 3 ∨ r = 4 ∨ r = 5 := by omega
    · exact ⟨0, by decide, rfl⟩
    · exact ⟨1, by decide, rfl⟩
    · exact ⟨2, by decide, rfl⟩
    · exact ⟨12, by decide, rfl⟩
    · exact ⟨a', by omega, rfl⟩
    · exact ⟨b', by omega, rfl⟩
  refine aIx_lst hat ?_
  refine ⟨k, rfl, hk, by decide, fun s n1 ok => ?_⟩
  refine ⟨s, rfl, ok, fun n2 => ?_⟩
  have hz : zipD (s.bs.map Bw.d) (cutL (s.ls.map D.str) (some 1) none) = s.bs.map fun b => D.tup [b.d, .str b.tx] := by
    rw [show (some (1 : Int)) = some ((1 : Nat) : Int) from rfl, cut_from]
    show zipD (s.bs.map Bw.d) ((s.bs.map Bw.tx).map D.str) = _
    rw [List.map_map]
    exact zipD_map Bw.d (fun b => .str b.tx) s.bs
  have same : ∀ z : Str, (!decide (z = z)) = false := fun z => by simp
  have yes : ∀ z : Str, decide (z = z) = true := fun z => by simp
  obtain ⟨hl1, hl2⟩ := ls_ok ok
  refine aFor_ind (fun ds ρ _ => ∃ (suf : List Bw) (y5 y6 y7 : Option D), ds = (suf.map fun b => D.tup [b.d, .str b.tx]) ∧ (∀ b ∈ suf, b.ok) ∧ ρ = [none, some .deck, some (.int (k : Int)), some s.d, some (.lst (s.ls.map D.str)), y5, y6, y7, none]) ?_ ?_ ⟨s.bs, none, none, none, hz, ok.2.2.2.2.2, rfl⟩
  · rintro d r' _ m ⟨suf, y5, y6, y7, e, hb, rfl⟩ ih
    cases suf with
    | nil => cases e
    | cons b suf =>
    obtain ⟨rfl, rfl⟩ := List.cons.inj e
    have okb := hb b List.mem_cons_self
    refine ⟨b, rfl, okb, b.kn.kd, _, _, rfl, b, rfl, okb, rfl, ⟨_, rfl⟩, aF ?_⟩
    show aIte (!decide (b.tx = b.tx)) _ _
    rw [same]
    exact aF (ih _ _ ⟨suf, _, _, _, rfl, fun c h => hb c (List.mem_cons_of_mem _ h), rfl⟩)
  · rintro _ m ⟨suf, y5, y6, y7, e, _, rfl⟩
    refine ⟨s, rfl, ok, aF ⟨s.ls, rfl, ls_fit hl1 hl2, ?_⟩⟩
    show aIte (!decide (s.tx = s.tx)) _ _
    rw [same]
    refine aF ⟨(fun z => by cases z.2), (fun z => by cases z), (show 3 + 1 ≤ 1000000 by decide), ?_⟩
    have ok' : (Stt.mk s.dx s.dy s.g s.c (s.bs.drop 1)).ok := ⟨ok.1, ok.2.1, ok.2.2.1, ok.2.2.2.1, by show (s.bs.drop 1).length ≤ 12; rw [List.length_drop]; have := ok.2.2.2.2.1; omega, fun b h => ok.2.2.2.2.2 b (List.mem_of_mem_drop h)⟩
    obtain ⟨hm1, hm2⟩ := ls_ok ok'
    refine ⟨⟨s.dx, s.dy, s.g, s.c, s.bs.drop 1⟩, ?_, ok', ?_⟩
    · show [D.tup [spt s.dx s.dy, sh s.g, sh s.c, .tup (cutL (s.bs.map Bw.d) (some ((1 : Nat) : Int)) none)]] = _
      rw [cut_from, ← List.map_drop]
      rfl
    have e2 : cutL (s.ls.map D.str) none (some 1) ++ cutL (s.ls.map D.str) (some 2) none = (Stt.mk s.dx s.dy s.g s.c (s.bs.drop 1)).ls.map D.str := by
      rw [show (some (1 : Int)) = some ((1 : Nat) : Int) from rfl, show (some (2 : Int)) = some ((2 : Nat) : Int) from rfl, cut_from, cut_to]
      show [D.str s.hl] ++ ((s.bs.map Bw.tx).map D.str).drop 1 = D.str s.hl :: ((s.bs.drop 1).map Bw.tx).map D.str
      rw [List.map_drop, List.map_drop]
      rfl
    refine ⟨?_, (Stt.mk s.dx s.dy s.g s.c (s.bs.drop 1)).ls, e2, ls_fit hm1 hm2, ?_⟩
    · have h := congrArg List.length e2
      rw [List.length_append, List.length_map] at h
      omega
    show aIte (decide ((Stt.mk s.dx s.dy s.g s.c (s.bs.drop 1)).tx = (Stt.mk s.dx s.dy s.g s.c (s.bs.drop 1)).tx)) _ _
    rw [yes]
    refine aT ⟨s, rfl, ok, ?_⟩
    show D.bl (decide (s.tx = s.tx)) = D.bl true
    rw [yes]

/-! STOP -/
end
theorem all_mk {l : PySem.W.OpenLaw} {w : World} {K : PySem.W.Frag} {h : Heap} {mg : Str → Option Value} {fa : Addr} (X : K.In h) (G : h.Ns mainGlobals mg) (hfa : mg "law" = some (.ref fa))
    {od0 an0 : Option Addr} {sl0 : Array (Option Value)} {oc0 kV0 dc0 pm0 cd0 ct0 : Value} {f0 : Addr}
    {od1 an1 : Option Addr} {sl1 : Array (Option Value)} {oc1 kV1 dc1 pm1 cd1 ct1 : Value} {f1 : Addr}
    {od2 an2 : Option Addr} {sl2 : Array (Option Value)} {oc2 kV2 dc2 pm2 cd2 ct2 : Value} {f2 : Addr}
    {od3 an3 : Option Addr} {sl3 : Array (Option Value)} {oc3 kV3 dc3 pm3 cd3 ct3 : Value} {f3 : Addr}
    {od4 an4 : Option Addr} {sl4 : Array (Option Value)} {oc4 kV4 dc4 pm4 cd4 ct4 : Value} {f4 : Addr}
    {od5 an5 : Option Addr} {sl5 : Array (Option Value)} {oc5 kV5 dc5 pm5 cd5 ct5 : Value} {f5 : Addr}
    {od6 an6 : Option Addr} {sl6 : Array (Option Value)} {oc6 kV6 dc6 pm6 cd6 ct6 : Value} {f6 : Addr}
    {od7 an7 : Option Addr} {sl7 : Array (Option Value)} {oc7 kV7 dc7 pm7 cd7 ct7 : Value} {f7 : Addr}
    {od8 an8 : Option Addr} {sl8 : Array (Option Value)} {oc8 kV8 dc8 pm8 cd8 ct8 : Value} {f8 : Addr}
    {od9 an9 : Option Addr} {sl9 : Array (Option Value)} {oc9 kV9 dc9 pm9 cd9 ct9 : Value} {f9 : Addr}
    {od10 an10 : Option Addr} {sl10 : Array (Option Value)} {oc10 kV10 dc10 pm10 cd10 ct10 : Value} {f10 : Addr}
    {od11 an11 : Option Addr} {sl11 : Array (Option Value)} {oc11 kV11 dc11 pm11 cd11 ct11 : Value} {f11 : Addr}
    {od12 an12 : Option Addr} {sl12 : Array (Option Value)} {oc12 kV12 dc12 pm12 cd12 ct12 : Value} {f12 : Addr}
    {od13 an13 : Option Addr} {sl13 : Array (Option Value)} {oc13 kV13 dc13 pm13 cd13 ct13 : Value} {f13 : Addr}
    {od14 an14 : Option Addr} {sl14 : Array (Option Value)} {oc14 kV14 dc14 pm14 cd14 ct14 : Value} {f14 : Addr}
    {od15 an15 : Option Addr} {sl15 : Array (Option Value)} {oc15 kV15 dc15 pm15 cd15 ct15 : Value} {f15 : Addr}
    {od16 an16 : Option Addr} {sl16 : Array (Option Value)} {oc16 kV16 dc16 pm16 cd16 ct16 : Value} {f16 : Addr}
    {od17 an17 : Option Addr} {sl17 : Array (Option Value)} {oc17 kV17 dc17 pm17 cd17 ct17 : Value} {f17 : Addr}
    {od18 an18 : Option Addr} {sl18 : Array (Option Value)} {oc18 kV18 dc18 pm18 cd18 ct18 : Value} {f18 : Addr}
    {od19 an19 : Option Addr} {sl19 : Array (Option Value)} {oc19 kV19 dc19 pm19 cd19 ct19 : Value} {f19 : Addr}
    {od20 an20 : Option Addr} {sl20 : Array (Option Value)} {oc20 kV20 dc20 pm20 cd20 ct20 : Value} {f20 : Addr}
    {od21 an21 : Option Addr} {sl21 : Array (Option Value)} {oc21 kV21 dc21 pm21 cd21 ct21 : Value} {f21 : Addr}
    {od22 an22 : Option Addr} {sl22 : Array (Option Value)} {oc22 kV22 dc22 pm22 cd22 ct22 : Value} {f22 : Addr}
    {od23 an23 : Option Addr} {sl23 : Array (Option Value)} {oc23 kV23 dc23 pm23 cd23 ct23 : Value} {f23 : Addr}
    {od24 an24 : Option Addr} {sl24 : Array (Option Value)} {oc24 kV24 dc24 pm24 cd24 ct24 : Value} {f24 : Addr}
    {c_Body : Addr}
    {c_Wall : Addr}
    {c_Free : Addr}
    {c_Railed : Addr}
    {odm0 anm0 : Option Addr} {slm0 : Array (Option Value)} {ocm0 kVm0 dcm0 pmm0 cdm0 ctm0 : Value} {fm0 : Addr}
    {odm1 anm1 : Option Addr} {slm1 : Array (Option Value)} {ocm1 kVm1 dcm1 pmm1 cdm1 ctm1 : Value} {fm1 : Addr}
    {odm2 anm2 : Option Addr} {slm2 : Array (Option Value)} {ocm2 kVm2 dcm2 pmm2 cdm2 ctm2 : Value} {fm2 : Addr}
    {odm3 anm3 : Option Addr} {slm3 : Array (Option Value)} {ocm3 kVm3 dcm3 pmm3 cdm3 ctm3 : Value} {fm3 : Addr}
    (a0 : PySem.W.nsIn K mainGlobals "share_text" = some (some (.ref f0))) (l0 : K.lookup f0 = some ⟨oc0, od0, .func (PySem.W.fnOf "share_text" "share_text" (defArgs s_p_share_text) (defBody s_p_share_text) (defScope s_p_share_text) .none kV0 dc0 pm0 an0 cd0 ct0), sl0⟩) (c0 : PySem.W.codeIn K cd0 "share_text" = true) (k0 : PySem.W.keepIn K (.ref f0) = true)
    (a1 : PySem.W.nsIn K mainGlobals "spot_words" = some (some (.ref f1))) (l1 : K.lookup f1 = some ⟨oc1, od1, .func (PySem.W.fnOf "spot_words" "spot_words" (defArgs s_p_spot_words) (defBody s_p_spot_words) (defScope s_p_spot_words) .none kV1 dc1 pm1 an1 cd1 ct1), sl1⟩) (c1 : PySem.W.codeIn K cd1 "spot_words" = true) (k1 : PySem.W.keepIn K (.ref f1) = true)
    (a2 : PySem.W.nsIn K mainGlobals "corner_words" = some (some (.ref f2))) (l2 : K.lookup f2 = some ⟨oc2, od2, .func (PySem.W.fnOf "corner_words" "corner_words" (defArgs s_p_corner_words) (defBody s_p_corner_words) (defScope s_p_corner_words) .none kV2 dc2 pm2 an2 cd2 ct2), sl2⟩) (c2 : PySem.W.codeIn K cd2 "corner_words" = true) (k2 : PySem.W.keepIn K (.ref f2) = true)
    (a3 : PySem.W.nsIn K mainGlobals "wall_words" = some (some (.ref f3))) (l3 : K.lookup f3 = some ⟨oc3, od3, .func (PySem.W.fnOf "wall_words" "wall_words" (defArgs s_p_wall_words) (defBody s_p_wall_words) (defScope s_p_wall_words) .none kV3 dc3 pm3 an3 cd3 ct3), sl3⟩) (c3 : PySem.W.codeIn K cd3 "wall_words" = true) (k3 : PySem.W.keepIn K (.ref f3) = true)
    (a4 : PySem.W.nsIn K mainGlobals "free_words" = some (some (.ref f4))) (l4 : K.lookup f4 = some ⟨oc4, od4, .func (PySem.W.fnOf "free_words" "free_words" (defArgs s_p_free_words) (defBody s_p_free_words) (defScope s_p_free_words) .none kV4 dc4 pm4 an4 cd4 ct4), sl4⟩) (c4 : PySem.W.codeIn K cd4 "free_words" = true) (k4 : PySem.W.keepIn K (.ref f4) = true)
    (a5 : PySem.W.nsIn K mainGlobals "rail_words" = some (some (.ref f5))) (l5 : K.lookup f5 = some ⟨oc5, od5, .func (PySem.W.fnOf "rail_words" "rail_words" (defArgs s_p_rail_words) (defBody s_p_rail_words) (defScope s_p_rail_words) .none kV5 dc5 pm5 an5 cd5 ct5), sl5⟩) (c5 : PySem.W.codeIn K cd5 "rail_words" = true) (k5 : PySem.W.keepIn K (.ref f5) = true)
    (a6 : PySem.W.nsIn K mainGlobals "body_of" = some (some (.ref f6))) (l6 : K.lookup f6 = some ⟨oc6, od6, .func (PySem.W.fnOf "body_of" "body_of" (defArgs s_p_body_of) (defBody s_p_body_of) (defScope s_p_body_of) .none kV6 dc6 pm6 an6 cd6 ct6), sl6⟩) (c6 : PySem.W.codeIn K cd6 "body_of" = true) (k6 : PySem.W.keepIn K (.ref f6) = true)
    (a7 : PySem.W.nsIn K mainGlobals "head_line" = some (some (.ref f7))) (l7 : K.lookup f7 = some ⟨oc7, od7, .func (PySem.W.fnOf "head_line" "head_line" (defArgs s_p_head_line) (defBody s_p_head_line) (defScope s_p_head_line) .none kV7 dc7 pm7 an7 cd7 ct7), sl7⟩) (c7 : PySem.W.codeIn K cd7 "head_line" = true) (k7 : PySem.W.keepIn K (.ref f7) = true)
    (a8 : PySem.W.nsIn K mainGlobals "state_text" = some (some (.ref f8))) (l8 : K.lookup f8 = some ⟨oc8, od8, .func (PySem.W.fnOf "state_text" "state_text" (defArgs s_p_state_text) (defBody s_p_state_text) (defScope s_p_state_text) .none kV8 dc8 pm8 an8 cd8 ct8), sl8⟩) (c8 : PySem.W.codeIn K cd8 "state_text" = true) (k8 : PySem.W.keepIn K (.ref f8) = true)
    (a9 : PySem.W.nsIn K mainGlobals "_law_cell" = some (some (.ref f9))) (l9 : K.lookup f9 = some ⟨oc9, od9, .func (PySem.W.fnOf "_law_cell" "_law_cell" (defArgs s_l_cell) (defBody s_l_cell) (defScope s_l_cell) .none kV9 dc9 pm9 an9 cd9 ct9), sl9⟩) (c9 : PySem.W.codeIn K cd9 "_law_cell" = true) (k9 : PySem.W.keepIn K (.ref f9) = true)
    (a10 : PySem.W.nsIn K mainGlobals "_law_mixed" = some (some (.ref f10))) (l10 : K.lookup f10 = some ⟨oc10, od10, .func (PySem.W.fnOf "_law_mixed" "_law_mixed" (defArgs s_l_mixed) (defBody s_l_mixed) (defScope s_l_mixed) .none kV10 dc10 pm10 an10 cd10 ct10), sl10⟩) (c10 : PySem.W.codeIn K cd10 "_law_mixed" = true) (k10 : PySem.W.keepIn K (.ref f10) = true)
    (a11 : PySem.W.nsIn K mainGlobals "_law_deck" = some (some (.ref f11))) (l11 : K.lookup f11 = some ⟨oc11, od11, .func (PySem.W.fnOf "_law_deck" "_law_deck" (defArgs s_l_deck) (defBody s_l_deck) (defScope s_l_deck) .none kV11 dc11 pm11 an11 cd11 ct11), sl11⟩) (c11 : PySem.W.codeIn K cd11 "_law_deck" = true) (k11 : PySem.W.keepIn K (.ref f11) = true)
    (a12 : PySem.W.nsIn K mainGlobals "_law_take" = some (some (.ref f12))) (l12 : K.lookup f12 = some ⟨oc12, od12, .func (PySem.W.fnOf "_law_take" "_law_take" (defArgs s_l_take) (defBody s_l_take) (defScope s_l_take) .none kV12 dc12 pm12 an12 cd12 ct12), sl12⟩) (c12 : PySem.W.codeIn K cd12 "_law_take" = true) (k12 : PySem.W.keepIn K (.ref f12) = true)
    (a13 : PySem.W.nsIn K mainGlobals "_law_gcd" = some (some (.ref f13))) (l13 : K.lookup f13 = some ⟨oc13, od13, .func (PySem.W.fnOf "_law_gcd" "_law_gcd" (defArgs s_l_gcd) (defBody s_l_gcd) (defScope s_l_gcd) .none kV13 dc13 pm13 an13 cd13 ct13), sl13⟩) (c13 : PySem.W.codeIn K cd13 "_law_gcd" = true) (k13 : PySem.W.keepIn K (.ref f13) = true)
    (a14 : PySem.W.nsIn K mainGlobals "_law_share" = some (some (.ref f14))) (l14 : K.lookup f14 = some ⟨oc14, od14, .func (PySem.W.fnOf "_law_share" "_law_share" (defArgs s_l_share) (defBody s_l_share) (defScope s_l_share) .none kV14 dc14 pm14 an14 cd14 ct14), sl14⟩) (c14 : PySem.W.codeIn K cd14 "_law_share" = true) (k14 : PySem.W.keepIn K (.ref f14) = true)
    (a15 : PySem.W.nsIn K mainGlobals "_law_number" = some (some (.ref f15))) (l15 : K.lookup f15 = some ⟨oc15, od15, .func (PySem.W.fnOf "_law_number" "_law_number" (defArgs s_l_number) (defBody s_l_number) (defScope s_l_number) .none kV15 dc15 pm15 an15 cd15 ct15), sl15⟩) (c15 : PySem.W.codeIn K cd15 "_law_number" = true) (k15 : PySem.W.keepIn K (.ref f15) = true)
    (a16 : PySem.W.nsIn K mainGlobals "_law_part" = some (some (.ref f16))) (l16 : K.lookup f16 = some ⟨oc16, od16, .func (PySem.W.fnOf "_law_part" "_law_part" (defArgs s_l_part) (defBody s_l_part) (defScope s_l_part) .none kV16 dc16 pm16 an16 cd16 ct16), sl16⟩) (c16 : PySem.W.codeIn K cd16 "_law_part" = true) (k16 : PySem.W.keepIn K (.ref f16) = true)
    (a17 : PySem.W.nsIn K mainGlobals "_law_names" = some (some (.ref f17))) (l17 : K.lookup f17 = some ⟨oc17, od17, .func (PySem.W.fnOf "_law_names" "_law_names" (defArgs s_l_names) (defBody s_l_names) (defScope s_l_names) .none kV17 dc17 pm17 an17 cd17 ct17), sl17⟩) (c17 : PySem.W.codeIn K cd17 "_law_names" = true) (k17 : PySem.W.keepIn K (.ref f17) = true)
    (a18 : PySem.W.nsIn K mainGlobals "_law_shape" = some (some (.ref f18))) (l18 : K.lookup f18 = some ⟨oc18, od18, .func (PySem.W.fnOf "_law_shape" "_law_shape" (defArgs s_l_shape) (defBody s_l_shape) (defScope s_l_shape) .none kV18 dc18 pm18 an18 cd18 ct18), sl18⟩) (c18 : PySem.W.codeIn K cd18 "_law_shape" = true) (k18 : PySem.W.keepIn K (.ref f18) = true)
    (a19 : PySem.W.nsIn K mainGlobals "_law_row" = some (some (.ref f19))) (l19 : K.lookup f19 = some ⟨oc19, od19, .func (PySem.W.fnOf "_law_row" "_law_row" (defArgs s_l_row) (defBody s_l_row) (defScope s_l_row) .none kV19 dc19 pm19 an19 cd19 ct19), sl19⟩) (c19 : PySem.W.codeIn K cd19 "_law_row" = true) (k19 : PySem.W.keepIn K (.ref f19) = true)
    (a20 : PySem.W.nsIn K mainGlobals "_law_state" = some (some (.ref f20))) (l20 : K.lookup f20 = some ⟨oc20, od20, .func (PySem.W.fnOf "_law_state" "_law_state" (defArgs s_l_state) (defBody s_l_state) (defScope s_l_state) .none kV20 dc20 pm20 an20 cd20 ct20), sl20⟩) (c20 : PySem.W.codeIn K cd20 "_law_state" = true) (k20 : PySem.W.keepIn K (.ref f20) = true)
    (a21 : PySem.W.nsIn K mainGlobals "_law_word" = some (some (.ref f21))) (l21 : K.lookup f21 = some ⟨oc21, od21, .func (PySem.W.fnOf "_law_word" "_law_word" (defArgs s_l_word) (defBody s_l_word) (defScope s_l_word) .none kV21 dc21 pm21 an21 cd21 ct21), sl21⟩) (c21 : PySem.W.codeIn K cd21 "_law_word" = true) (k21 : PySem.W.keepIn K (.ref f21) = true)
    (a22 : PySem.W.nsIn K mainGlobals "_law_words" = some (some (.ref f22))) (l22 : K.lookup f22 = some ⟨oc22, od22, .func (PySem.W.fnOf "_law_words" "_law_words" (defArgs s_l_words) (defBody s_l_words) (defScope s_l_words) .none kV22 dc22 pm22 an22 cd22 ct22), sl22⟩) (c22 : PySem.W.codeIn K cd22 "_law_words" = true) (k22 : PySem.W.keepIn K (.ref f22) = true)
    (a23 : PySem.W.nsIn K mainGlobals "_law_lines" = some (some (.ref f23))) (l23 : K.lookup f23 = some ⟨oc23, od23, .func (PySem.W.fnOf "_law_lines" "_law_lines" (defArgs s_l_lines) (defBody s_l_lines) (defScope s_l_lines) .none kV23 dc23 pm23 an23 cd23 ct23), sl23⟩) (c23 : PySem.W.codeIn K cd23 "_law_lines" = true) (k23 : PySem.W.keepIn K (.ref f23) = true)
    (a24 : PySem.W.nsIn K mainGlobals "law" = some (some (.ref f24))) (l24 : K.lookup f24 = some ⟨oc24, od24, .func (PySem.W.fnOf "law" "law" (defArgs s_law) (defBody s_law) (defScope s_law) .none kV24 dc24 pm24 an24 cd24 ct24), sl24⟩) (c24 : PySem.W.codeIn K cd24 "law" = true) (k24 : PySem.W.keepIn K (.ref f24) = true)
    (z_abs : PySem.W.nsIn K mainGlobals "abs" = some none)
    (z_enumerate : PySem.W.nsIn K mainGlobals "enumerate" = some none)
    (z_int : PySem.W.nsIn K mainGlobals "int" = some none)
    (z_isinstance : PySem.W.nsIn K mainGlobals "isinstance" = some none)
    (z_len : PySem.W.nsIn K mainGlobals "len" = some none)
    (z_range : PySem.W.nsIn K mainGlobals "range" = some none)
    (z_sorted : PySem.W.nsIn K mainGlobals "sorted" = some none)
    (z_str : PySem.W.nsIn K mainGlobals "str" = some none)
    (z_tuple : PySem.W.nsIn K mainGlobals "tuple" = some none)
    (z_zip : PySem.W.nsIn K mainGlobals "zip" = some none)
    (ac_Body : PySem.W.nsIn K mainGlobals "Body" = some (some (.ref c_Body)))
    (ac_Wall : PySem.W.nsIn K mainGlobals "Wall" = some (some (.ref c_Wall)))
    (ac_Free : PySem.W.nsIn K mainGlobals "Free" = some (some (.ref c_Free)))
    (ac_Railed : PySem.W.nsIn K mainGlobals "Railed" = some (some (.ref c_Railed)))
    (am0 : PySem.W.findIn K (.ref c_Wall) "__init__" = some (some (.ref fm0)))
    (im0 : PySem.W.isFn K (.ref fm0) = true)
    (lm0 : K.lookup fm0 = some ⟨ocm0, odm0, .func (PySem.W.fnOf "__init__" "Body.__init__" (defArgs s_m_Body___init__) (defBody s_m_Body___init__) (defScope s_m_Body___init__) .none kVm0 dcm0 pmm0 anm0 cdm0 ctm0), slm0⟩)
    (cm0 : PySem.W.codeIn K cdm0 "Body.__init__" = true)
    (km0 : PySem.W.keepIn K (.ref fm0) = true)
    (am1 : PySem.W.findIn K (.ref c_Wall) "__str__" = some (some (.ref fm1)))
    (im1 : PySem.W.isFn K (.ref fm1) = true)
    (lm1 : K.lookup fm1 = some ⟨ocm1, odm1, .func (PySem.W.fnOf "__str__" "Wall.__str__" (defArgs s_m_Wall___str__) (defBody s_m_Wall___str__) (defScope s_m_Wall___str__) .none kVm1 dcm1 pmm1 anm1 cdm1 ctm1), slm1⟩)
    (cm1 : PySem.W.codeIn K cdm1 "Wall.__str__" = true)
    (km1 : PySem.W.keepIn K (.ref fm1) = true)
    (am2 : PySem.W.findIn K (.ref c_Free) "__str__" = some (some (.ref fm2)))
    (im2 : PySem.W.isFn K (.ref fm2) = true)
    (lm2 : K.lookup fm2 = some ⟨ocm2, odm2, .func (PySem.W.fnOf "__str__" "Free.__str__" (defArgs s_m_Free___str__) (defBody s_m_Free___str__) (defScope s_m_Free___str__) .none kVm2 dcm2 pmm2 anm2 cdm2 ctm2), slm2⟩)
    (cm2 : PySem.W.codeIn K cdm2 "Free.__str__" = true)
    (km2 : PySem.W.keepIn K (.ref fm2) = true)
    (am3 : PySem.W.findIn K (.ref c_Railed) "__str__" = some (some (.ref fm3)))
    (im3 : PySem.W.isFn K (.ref fm3) = true)
    (lm3 : K.lookup fm3 = some ⟨ocm3, odm3, .func (PySem.W.fnOf "__str__" "Railed.__str__" (defArgs s_m_Railed___str__) (defBody s_m_Railed___str__) (defScope s_m_Railed___str__) .none kVm3 dcm3 pmm3 anm3 cdm3 ctm3), slm3⟩)
    (cm3 : PySem.W.codeIn K cdm3 "Railed.__str__" = true)
    (km3 : PySem.W.keepIn K (.ref fm3) = true)
    (pg_Wall : PySem.W.plainGet K c_Wall Str.empty = true)
    (bhd_Wall : PySem.W.hasDictIn K c_Wall = true)
    (po_Wall : PySem.W.plainOver K c_Wall = true)
    (sa_Wall : PySem.W.findIn K (.ref c_Wall) "__setattr__" = some (some (.builtin "object.__setattr__")))
    (mki_Wall : PySem.W.makesIn K c_Wall = true)
    (ini_Wall : PySem.W.findIn K (.ref c_Wall) "__init__" = some (some (.ref fm0)))
    (kpc_Wall : PySem.W.keepIn K (.ref c_Wall) = true)
    (na_Wall_row : PySem.W.findIn K (.ref c_Wall) "row" = some none)
    (na_Wall_name : PySem.W.findIn K (.ref c_Wall) "name" = some none)
    (na_Wall_mass : PySem.W.findIn K (.ref c_Wall) "mass" = some none)
    (pg_Free : PySem.W.plainGet K c_Free Str.empty = true)
    (bhd_Free : PySem.W.hasDictIn K c_Free = true)
    (po_Free : PySem.W.plainOver K c_Free = true)
    (sa_Free : PySem.W.findIn K (.ref c_Free) "__setattr__" = some (some (.builtin "object.__setattr__")))
    (mki_Free : PySem.W.makesIn K c_Free = true)
    (ini_Free : PySem.W.findIn K (.ref c_Free) "__init__" = some (some (.ref fm0)))
    (kpc_Free : PySem.W.keepIn K (.ref c_Free) = true)
    (na_Free_row : PySem.W.findIn K (.ref c_Free) "row" = some none)
    (na_Free_name : PySem.W.findIn K (.ref c_Free) "name" = some none)
    (na_Free_mass : PySem.W.findIn K (.ref c_Free) "mass" = some none)
    (pg_Railed : PySem.W.plainGet K c_Railed Str.empty = true)
    (bhd_Railed : PySem.W.hasDictIn K c_Railed = true)
    (po_Railed : PySem.W.plainOver K c_Railed = true)
    (sa_Railed : PySem.W.findIn K (.ref c_Railed) "__setattr__" = some (some (.builtin "object.__setattr__")))
    (mki_Railed : PySem.W.makesIn K c_Railed = true)
    (ini_Railed : PySem.W.findIn K (.ref c_Railed) "__init__" = some (some (.ref fm0)))
    (kpc_Railed : PySem.W.keepIn K (.ref c_Railed) = true)
    (na_Railed_row : PySem.W.findIn K (.ref c_Railed) "row" = some none)
    (na_Railed_name : PySem.W.findIn K (.ref c_Railed) "name" = some none)
    (na_Railed_mass : PySem.W.findIn K (.ref c_Railed) "mass" = some none)
    : ∃ fd : FuncData, (∀ (s : Shared) (v : Value), BindsTo s fd ⟨[v], []⟩ [("_law_script", v)]) ∧ ∀ base : Heap, K.In base → base.Ns mainGlobals mg → FnOk l.prog w K mg base CX0 10 fa fd ["_law_script"] (sp_law K) := by
  have e := hfa.symm.trans (PySem.W.mg_of X G a24)
  cases e
  have T : Tx K mg { f_p_share_text := f0, fd_p_share_text := PySem.W.fnOf "share_text" "share_text" (defArgs s_p_share_text) (defBody s_p_share_text) (defScope s_p_share_text) .none kV0 dc0 pm0 an0 cd0 ct0, f_p_spot_words := f1, fd_p_spot_words := PySem.W.fnOf "spot_words" "spot_words" (defArgs s_p_spot_words) (defBody s_p_spot_words) (defScope s_p_spot_words) .none kV1 dc1 pm1 an1 cd1 ct1, f_p_corner_words := f2, fd_p_corner_words := PySem.W.fnOf "corner_words" "corner_words" (defArgs s_p_corner_words) (defBody s_p_corner_words) (defScope s_p_corner_words) .none kV2 dc2 pm2 an2 cd2 ct2, f_p_wall_words := f3, fd_p_wall_words := PySem.W.fnOf "wall_words" "wall_words" (defArgs s_p_wall_words) (defBody s_p_wall_words) (defScope s_p_wall_words) .none kV3 dc3 pm3 an3 cd3 ct3, f_p_free_words := f4, fd_p_free_words := PySem.W.fnOf "free_words" "free_words" (defArgs s_p_free_words) (defBody s_p_free_words) (defScope s_p_free_words) .none kV4 dc4 pm4 an4 cd4 ct4, f_p_rail_words := f5, fd_p_rail_words := PySem.W.fnOf "rail_words" "rail_words" (defArgs s_p_rail_words) (defBody s_p_rail_words) (defScope s_p_rail_words) .none kV5 dc5 pm5 an5 cd5 ct5, f_p_body_of := f6, fd_p_body_of := PySem.W.fnOf "body_of" "body_of" (defArgs s_p_body_of) (defBody s_p_body_of) (defScope s_p_body_of) .none kV6 dc6 pm6 an6 cd6 ct6, f_p_head_line := f7, fd_p_head_line := PySem.W.fnOf "head_line" "head_line" (defArgs s_p_head_line) (defBody s_p_head_line) (defScope s_p_head_line) .none kV7 dc7 pm7 an7 cd7 ct7, f_p_state_text := f8, fd_p_state_text := PySem.W.fnOf "state_text" "state_text" (defArgs s_p_state_text) (defBody s_p_state_text) (defScope s_p_state_text) .none kV8 dc8 pm8 an8 cd8 ct8, f_l_cell := f9, fd_l_cell := PySem.W.fnOf "_law_cell" "_law_cell" (defArgs s_l_cell) (defBody s_l_cell) (defScope s_l_cell) .none kV9 dc9 pm9 an9 cd9 ct9, f_l_mixed := f10, fd_l_mixed := PySem.W.fnOf "_law_mixed" "_law_mixed" (defArgs s_l_mixed) (defBody s_l_mixed) (defScope s_l_mixed) .none kV10 dc10 pm10 an10 cd10 ct10, f_l_deck := f11, fd_l_deck := PySem.W.fnOf "_law_deck" "_law_deck" (defArgs s_l_deck) (defBody s_l_deck) (defScope s_l_deck) .none kV11 dc11 pm11 an11 cd11 ct11, f_l_take := f12, fd_l_take := PySem.W.fnOf "_law_take" "_law_take" (defArgs s_l_take) (defBody s_l_take) (defScope s_l_take) .none kV12 dc12 pm12 an12 cd12 ct12, f_l_gcd := f13, fd_l_gcd := PySem.W.fnOf "_law_gcd" "_law_gcd" (defArgs s_l_gcd) (defBody s_l_gcd) (defScope s_l_gcd) .none kV13 dc13 pm13 an13 cd13 ct13, f_l_share := f14, fd_l_share := PySem.W.fnOf "_law_share" "_law_share" (defArgs s_l_share) (defBody s_l_share) (defScope s_l_share) .none kV14 dc14 pm14 an14 cd14 ct14, f_l_number := f15, fd_l_number := PySem.W.fnOf "_law_number" "_law_number" (defArgs s_l_number) (defBody s_l_number) (defScope s_l_number) .none kV15 dc15 pm15 an15 cd15 ct15, f_l_part := f16, fd_l_part := PySem.W.fnOf "_law_part" "_law_part" (defArgs s_l_part) (defBody s_l_part) (defScope s_l_part) .none kV16 dc16 pm16 an16 cd16 ct16, f_l_names := f17, fd_l_names := PySem.W.fnOf "_law_names" "_law_names" (defArgs s_l_names) (defBody s_l_names) (defScope s_l_names) .none kV17 dc17 pm17 an17 cd17 ct17, f_l_shape := f18, fd_l_shape := PySem.W.fnOf "_law_shape" "_law_shape" (defArgs s_l_shape) (defBody s_l_shape) (defScope s_l_shape) .none kV18 dc18 pm18 an18 cd18 ct18, f_l_row := f19, fd_l_row := PySem.W.fnOf "_law_row" "_law_row" (defArgs s_l_row) (defBody s_l_row) (defScope s_l_row) .none kV19 dc19 pm19 an19 cd19 ct19, f_l_state := f20, fd_l_state := PySem.W.fnOf "_law_state" "_law_state" (defArgs s_l_state) (defBody s_l_state) (defScope s_l_state) .none kV20 dc20 pm20 an20 cd20 ct20, f_l_word := f21, fd_l_word := PySem.W.fnOf "_law_word" "_law_word" (defArgs s_l_word) (defBody s_l_word) (defScope s_l_word) .none kV21 dc21 pm21 an21 cd21 ct21, f_l_words := f22, fd_l_words := PySem.W.fnOf "_law_words" "_law_words" (defArgs s_l_words) (defBody s_l_words) (defScope s_l_words) .none kV22 dc22 pm22 an22 cd22 ct22, f_l_lines := f23, fd_l_lines := PySem.W.fnOf "_law_lines" "_law_lines" (defArgs s_l_lines) (defBody s_l_lines) (defScope s_l_lines) .none kV23 dc23 pm23 an23 cd23 ct23, f_law := fa, fd_law := PySem.W.fnOf "law" "law" (defArgs s_law) (defBody s_law) (defScope s_law) .none kV24 dc24 pm24 an24 cd24 ct24, c_Body := c_Body, c_Wall := c_Wall, c_Free := c_Free, c_Railed := c_Railed, f_m_Body___init__ := fm0, fd_m_Body___init__ := PySem.W.fnOf "__init__" "Body.__init__" (defArgs s_m_Body___init__) (defBody s_m_Body___init__) (defScope s_m_Body___init__) .none kVm0 dcm0 pmm0 anm0 cdm0 ctm0, f_m_Wall___str__ := fm1, fd_m_Wall___str__ := PySem.W.fnOf "__str__" "Wall.__str__" (defArgs s_m_Wall___str__) (defBody s_m_Wall___str__) (defScope s_m_Wall___str__) .none kVm1 dcm1 pmm1 anm1 cdm1 ctm1, f_m_Free___str__ := fm2, fd_m_Free___str__ := PySem.W.fnOf "__str__" "Free.__str__" (defArgs s_m_Free___str__) (defBody s_m_Free___str__) (defScope s_m_Free___str__) .none kVm2 dcm2 pmm2 anm2 cdm2 ctm2, f_m_Railed___str__ := fm3, fd_m_Railed___str__ := PySem.W.fnOf "__str__" "Railed.__str__" (defArgs s_m_Railed___str__) (defBody s_m_Railed___str__) (defScope s_m_Railed___str__) .none kVm3 dcm3 pmm3 anm3 cdm3 ctm3 } := { F_p_share_text := fun_mk (st := s_p_share_text) l0 c0 k0, b_p_share_text := (fun_mk (st := s_p_share_text) l0 c0 k0).binds (ps := ["one"]) fun _ _ _ _ _ _ us hl => match us, hl with | [_], _ => rfl, g_p_share_text := PySem.W.mg_of X G a0, F_p_spot_words := fun_mk (st := s_p_spot_words) l1 c1 k1, b_p_spot_words := (fun_mk (st := s_p_spot_words) l1 c1 k1).binds (ps := ["spot"]) fun _ _ _ _ _ _ us hl => match us, hl with | [_], _ => rfl, g_p_spot_words := PySem.W.mg_of X G a1, F_p_corner_words := fun_mk (st := s_p_corner_words) l2 c2 k2, b_p_corner_words := (fun_mk (st := s_p_corner_words) l2 c2 k2).binds (ps := ["shape"]) fun _ _ _ _ _ _ us hl => match us, hl with | [_], _ => rfl, g_p_corner_words := PySem.W.mg_of X G a2, F_p_wall_words := fun_mk (st := s_p_wall_words) l3 c3 k3, b_p_wall_words := (fun_mk (st := s_p_wall_words) l3 c3 k3).binds (ps := ["row"]) fun _ _ _ _ _ _ us hl => match us, hl with | [_], _ => rfl, g_p_wall_words := PySem.W.mg_of X G a3, F_p_free_words := fun_mk (st := s_p_free_words) l4 c4 k4, b_p_free_words := (fun_mk (st := s_p_free_words) l4 c4 k4).binds (ps := ["row"]) fun _ _ _ _ _ _ us hl => match us, hl with | [_], _ => rfl, g_p_free_words := PySem.W.mg_of X G a4, F_p_rail_words := fun_mk (st := s_p_rail_words) l5 c5 k5, b_p_rail_words := (fun_mk (st := s_p_rail_words) l5 c5 k5).binds (ps := ["row"]) fun _ _ _ _ _ _ us hl => match us, hl with | [_], _ => rfl, g_p_rail_words := PySem.W.mg_of X G a5, F_p_body_of := fun_mk (st := s_p_body_of) l6 c6 k6, b_p_body_of := (fun_mk (st := s_p_body_of) l6 c6 k6).binds (ps := ["row"]) fun _ _ _ _ _ _ us hl => match us, hl with | [_], _ => rfl, g_p_body_of := PySem.W.mg_of X G a6, F_p_head_line := fun_mk (st := s_p_head_line) l7 c7 k7, b_p_head_line := (fun_mk (st := s_p_head_line) l7 c7 k7).binds (ps := ["pull", "give", "clock"]) fun _ _ _ _ _ _ us hl => match us, hl with | [_, _, _], _ => rfl, g_p_head_line := PySem.W.mg_of X G a7, F_p_state_text := fun_mk (st := s_p_state_text) l8 c8 k8, b_p_state_text := (fun_mk (st := s_p_state_text) l8 c8 k8).binds (ps := ["state"]) fun _ _ _ _ _ _ us hl => match us, hl with | [_], _ => rfl, g_p_state_text := PySem.W.mg_of X G a8, F_l_cell := fun_mk (st := s_l_cell) l9 c9 k9, b_l_cell := (fun_mk (st := s_l_cell) l9 c9 k9).binds (ps := ["_law_script", "_law_k"]) fun _ _ _ _ _ _ us hl => match us, hl with | [_, _], _ => rfl, g_l_cell := PySem.W.mg_of X G a9, F_l_mixed := fun_mk (st := s_l_mixed) l10 c10 k10, b_l_mixed := (fun_mk (st := s_l_mixed) l10 c10 k10).binds (ps := ["_law_script", "_law_k", "_law_many"]) fun _ _ _ _ _ _ us hl => match us, hl with | [_, _, _], _ => rfl, g_l_mixed := PySem.W.mg_of X G a10, F_l_deck := fun_mk (st := s_l_deck) l11 c11 k11, b_l_deck := (fun_mk (st := s_l_deck) l11 c11 k11).binds (ps := ["_law_script"]) fun _ _ _ _ _ _ us hl => match us, hl with | [_], _ => rfl, g_l_deck := PySem.W.mg_of X G a11, F_l_take := fun_mk (st := s_l_take) l12 c12 k12, b_l_take := (fun_mk (st := s_l_take) l12 c12 k12).binds (ps := ["_law_deck_here", "_law_many"]) fun _ _ _ _ _ _ us hl => match us, hl with | [_, _], _ => rfl, g_l_take := PySem.W.mg_of X G a12, F_l_gcd := fun_mk (st := s_l_gcd) l13 c13 k13, b_l_gcd := (fun_mk (st := s_l_gcd) l13 c13 k13).binds (ps := ["_law_one", "_law_other"]) fun _ _ _ _ _ _ us hl => match us, hl with | [_, _], _ => rfl, g_l_gcd := PySem.W.mg_of X G a13, F_l_share := fun_mk (st := s_l_share) l14 c14 k14, b_l_share := (fun_mk (st := s_l_share) l14 c14 k14).binds (ps := ["_law_top", "_law_bottom"]) fun _ _ _ _ _ _ us hl => match us, hl with | [_, _], _ => rfl, g_l_share := PySem.W.mg_of X G a14, F_l_number := fun_mk (st := s_l_number) l15 c15 k15, b_l_number := (fun_mk (st := s_l_number) l15 c15 k15).binds (ps := ["_law_deck_here"]) fun _ _ _ _ _ _ us hl => match us, hl with | [_], _ => rfl, g_l_number := PySem.W.mg_of X G a15, F_l_part := fun_mk (st := s_l_part) l16 c16 k16, b_l_part := (fun_mk (st := s_l_part) l16 c16 k16).binds (ps := ["_law_deck_here"]) fun _ _ _ _ _ _ us hl => match us, hl with | [_], _ => rfl, g_l_part := PySem.W.mg_of X G a16, F_l_names := fun_mk (st := s_l_names) l17 c17 k17, b_l_names := (fun_mk (st := s_l_names) l17 c17 k17).binds (ps := ["_law_deck_here", "_law_many"]) fun _ _ _ _ _ _ us hl => match us, hl with | [_, _], _ => rfl, g_l_names := PySem.W.mg_of X G a17, F_l_shape := fun_mk (st := s_l_shape) l18 c18 k18, b_l_shape := (fun_mk (st := s_l_shape) l18 c18 k18).binds (ps := ["_law_deck_here"]) fun _ _ _ _ _ _ us hl => match us, hl with | [_], _ => rfl, g_l_shape := PySem.W.mg_of X G a18, F_l_row := fun_mk (st := s_l_row) l19 c19 k19, b_l_row := (fun_mk (st := s_l_row) l19 c19 k19).binds (ps := ["_law_deck_here", "_law_name", "_law_far"]) fun _ _ _ _ _ _ us hl => match us, hl with | [_, _, _], _ => rfl, g_l_row := PySem.W.mg_of X G a19, F_l_state := fun_mk (st := s_l_state) l20 c20 k20, b_l_state := (fun_mk (st := s_l_state) l20 c20 k20).binds (ps := ["_law_deck_here", "_law_many"]) fun _ _ _ _ _ _ us hl => match us, hl with | [_, _], _ => rfl, g_l_state := PySem.W.mg_of X G a20, F_l_word := fun_mk (st := s_l_word) l21 c21 k21, b_l_word := (fun_mk (st := s_l_word) l21 c21 k21).binds (ps := ["_law_part_here"]) fun _ _ _ _ _ _ us hl => match us, hl with | [_], _ => rfl, g_l_word := PySem.W.mg_of X G a21, F_l_words := fun_mk (st := s_l_words) l22 c22 k22, b_l_words := (fun_mk (st := s_l_words) l22 c22 k22).binds (ps := ["_law_row_here"]) fun _ _ _ _ _ _ us hl => match us, hl with | [_], _ => rfl, g_l_words := PySem.W.mg_of X G a22, F_l_lines := fun_mk (st := s_l_lines) l23 c23 k23, b_l_lines := (fun_mk (st := s_l_lines) l23 c23 k23).binds (ps := ["_law_state_here"]) fun _ _ _ _ _ _ us hl => match us, hl with | [_], _ => rfl, g_l_lines := PySem.W.mg_of X G a23, F_law := fun_mk (st := s_law) l24 c24 k24, b_law := (fun_mk (st := s_law) l24 c24 k24).binds (ps := ["_law_script"]) fun _ _ _ _ _ _ us hl => match us, hl with | [_], _ => rfl, g_law := PySem.W.mg_of X G a24, m_abs := PySem.W.mg_none_of X G z_abs, m_enumerate := PySem.W.mg_none_of X G z_enumerate, m_int := PySem.W.mg_none_of X G z_int, m_isinstance := PySem.W.mg_none_of X G z_isinstance, m_len := PySem.W.mg_none_of X G z_len, m_range := PySem.W.mg_none_of X G z_range, m_sorted := PySem.W.mg_none_of X G z_sorted, m_str := PySem.W.mg_none_of X G z_str, m_tuple := PySem.W.mg_none_of X G z_tuple, m_zip := PySem.W.mg_none_of X G z_zip, g_Body := PySem.W.mg_of X G ac_Body, g_Wall := PySem.W.mg_of X G ac_Wall, g_Free := PySem.W.mg_of X G ac_Free, g_Railed := PySem.W.mg_of X G ac_Railed, F_m_Body___init__ := fun_mk (st := s_m_Body___init__) lm0 cm0 km0, b_m_Body___init__ := (fun_mk (st := s_m_Body___init__) lm0 cm0 km0).binds (ps := ["self", "row"]) fun _ _ _ _ _ _ us hl => match us, hl with | [_, _], _ => rfl, F_m_Wall___str__ := fun_mk (st := s_m_Wall___str__) lm1 cm1 km1, b_m_Wall___str__ := (fun_mk (st := s_m_Wall___str__) lm1 cm1 km1).binds (ps := ["self"]) fun _ _ _ _ _ _ us hl => match us, hl with | [_], _ => rfl, mt_m_Wall___str__ := ⟨am1, im1, km1⟩, F_m_Free___str__ := fun_mk (st := s_m_Free___str__) lm2 cm2 km2, b_m_Free___str__ := (fun_mk (st := s_m_Free___str__) lm2 cm2 km2).binds (ps := ["self"]) fun _ _ _ _ _ _ us hl => match us, hl with | [_], _ => rfl, mt_m_Free___str__ := ⟨am2, im2, km2⟩, F_m_Railed___str__ := fun_mk (st := s_m_Railed___str__) lm3 cm3 km3, b_m_Railed___str__ := (fun_mk (st := s_m_Railed___str__) lm3 cm3 km3).binds (ps := ["self"]) fun _ _ _ _ _ _ us hl => match us, hl with | [_], _ => rfl, mt_m_Railed___str__ := ⟨am3, im3, km3⟩, na_Wall_row := na_Wall_row, na_Wall_name := na_Wall_name, na_Wall_mass := na_Wall_mass, cl_Wall := ⟨pg_Wall, bhd_Wall, po_Wall, sa_Wall⟩, mk_Wall := ⟨mki_Wall, ini_Wall, im0, kpc_Wall⟩, na_Free_row := na_Free_row, na_Free_name := na_Free_name, na_Free_mass := na_Free_mass, cl_Free := ⟨pg_Free, bhd_Free, po_Free, sa_Free⟩, mk_Free := ⟨mki_Free, ini_Free, im0, kpc_Free⟩, na_Railed_row := na_Railed_row, na_Railed_name := na_Railed_name, na_Railed_mass := na_Railed_mass, cl_Railed := ⟨pg_Railed, bhd_Railed, po_Railed, sa_Railed⟩, mk_Railed := ⟨mki_Railed, ini_Railed, im0, kpc_Railed⟩ }
  exact ⟨PySem.W.fnOf "law" "law" (defArgs s_law) (defBody s_law) (defScope s_law) .none kV24 dc24 pm24 an24 cd24 ct24, fun s v => .of_eq rfl, fun base _ _ => ok_law T⟩
end R
open PySem PySem.W PyProof.Rows
set_option maxRecDepth 100000 in
set_option maxHeartbeats 0 in
theorem PySem.Challenge.cw_restbodies_k71_states_written_holds : PySem.Challenge.rw_restbodies_k71_states_written.Holds := by
  w_on; o_law; k_head; (case hw => w_witness2)
  k_fill
  refine L2.walk_of (l := PySem.Challenge.rw_restbodies_k71_states_written) (n := 63) (k := 10) (x := "_law_script") (CX := fun _ => L2.CX0) (sp := fun w => R.sp_law _) rfl (by decide) rfl ⟨rfl, by decide, by decide⟩ (fun w h Y => PySem.W.kIn_of Y) ?F (fun _ _ a ns hl hO hS => ⟨a, ns, rfl, hO, hS, hl, fun _ => rfl⟩) (fun _ _ _ _ _ h => h)
  case F =>
    intro w mg fa h KX G hmg
    refine' R.all_mk KX G hmg ?a0 ?l0 ?c0 ?k0 ?a1 ?l1 ?c1 ?k1 ?a2 ?l2 ?c2 ?k2 ?a3 ?l3 ?c3 ?k3 ?a4 ?l4 ?c4 ?k4 ?a5 ?l5 ?c5 ?k5 ?a6 ?l6 ?c6 ?k6 ?a7 ?l7 ?c7 ?k7 ?a8 ?l8 ?c8 ?k8 ?a9 ?l9 ?c9 ?k9 ?a10 ?l10 ?c10 ?k10 ?a11 ?l11 ?c11 ?k11 ?a12 ?l12 ?c12 ?k12 ?a13 ?l13 ?c13 ?k13 ?a14 ?l14 ?c14 ?k14 ?a15 ?l15 ?c15 ?k15 ?a16 ?l16 ?c16 ?k16 ?a17 ?l17 ?c17 ?k17 ?a18 ?l18 ?c18 ?k18 ?a19 ?l19 ?c19 ?k19 ?a20 ?l20 ?c20 ?k20 ?a21 ?l21 ?c21 ?k21 ?a22 ?l22 ?c22 ?k22 ?a23 ?l23 ?c23 ?k23 ?a24 ?l24 ?c24 ?k24 ?z_abs ?z_enumerate ?z_int ?z_isinstance ?z_len ?z_range ?z_sorted ?z_str ?z_tuple ?z_zip ?ac_Body ?ac_Wall ?ac_Free ?ac_Railed ?am0 ?im0 ?lm0 ?cm0 ?km0 ?am1 ?im1 ?lm1 ?cm1 ?km1 ?am2 ?im2 ?lm2 ?cm2 ?km2 ?am3 ?im3 ?lm3 ?cm3 ?km3 ?pg_Wall ?bhd_Wall ?po_Wall ?sa_Wall ?mki_Wall ?ini_Wall ?kpc_Wall ?na_Wall_row ?na_Wall_name ?na_Wall_mass ?pg_Free ?bhd_Free ?po_Free ?sa_Free ?mki_Free ?ini_Free ?kpc_Free ?na_Free_row ?na_Free_name ?na_Free_mass ?pg_Railed ?bhd_Railed ?po_Railed ?sa_Railed ?mki_Railed ?ini_Railed ?kpc_Railed ?na_Railed_row ?na_Railed_name ?na_Railed_mass
    (case a0 => k_is)
    (case l0 => k_is)
    (case c0 => k_is)
    (case k0 => k_is)
    (case a1 => k_is)
    (case l1 => k_is)
    (case c1 => k_is)
    (case k1 => k_is)
    (case a2 => k_is)
    (case l2 => k_is)
    (case c2 => k_is)
    (case k2 => k_is)
    (case a3 => k_is)
    (case l3 => k_is)
    (case c3 => k_is)
    (case k3 => k_is)
    (case a4 => k_is)
    (case l4 => k_is)
    (case c4 => k_is)
    (case k4 => k_is)
    (case a5 => k_is)
    (case l5 => k_is)
    (case c5 => k_is)
    (case k5 => k_is)
    (case a6 => k_is)
    (case l6 => k_is)
    (case c6 => k_is)
    (case k6 => k_is)
    (case a7 => k_is)
    (case l7 => k_is)
    (case c7 => k_is)
    (case k7 => k_is)
    (case a8 => k_is)
    (case l8 => k_is)
    (case c8 => k_is)
    (case k8 => k_is)
    (case a9 => k_is)
    (case l9 => k_is)
    (case c9 => k_is)
    (case k9 => k_is)
    (case a10 => k_is)
    (case l10 => k_is)
    (case c10 => k_is)
    (case k10 => k_is)
    (case a11 => k_is)
    (case l11 => k_is)
    (case c11 => k_is)
    (case k11 => k_is)
    (case a12 => k_is)
    (case l12 => k_is)
    (case c12 => k_is)
    (case k12 => k_is)
    (case a13 => k_is)
    (case l13 => k_is)
    (case c13 => k_is)
    (case k13 => k_is)
    (case a14 => k_is)
    (case l14 => k_is)
    (case c14 => k_is)
    (case k14 => k_is)
    (case a15 => k_is)
    (case l15 => k_is)
    (case c15 => k_is)
    (case k15 => k_is)
    (case a16 => k_is)
    (case l16 => k_is)
    (case c16 => k_is)
    (case k16 => k_is)
    (case a17 => k_is)
    (case l17 => k_is)
    (case c17 => k_is)
    (case k17 => k_is)
    (case a18 => k_is)
    (case l18 => k_is)
    (case c18 => k_is)
    (case k18 => k_is)
    (case a19 => k_is)
    (case l19 => k_is)
    (case c19 => k_is)
    (case k19 => k_is)
    (case a20 => k_is)
    (case l20 => k_is)
    (case c20 => k_is)
    (case k20 => k_is)
    (case a21 => k_is)
    (case l21 => k_is)
    (case c21 => k_is)
    (case k21 => k_is)
    (case a22 => k_is)
    (case l22 => k_is)
    (case c22 => k_is)
    (case k22 => k_is)
    (case a23 => k_is)
    (case l23 => k_is)
    (case c23 => k_is)
    (case k23 => k_is)
    (case a24 => k_is)
    (case l24 => k_is)
    (case c24 => k_is)
    (case k24 => k_is)
    (case z_abs => k_is)
    (case z_enumerate => k_is)
    (case z_int => k_is)
    (case z_isinstance => k_is)
    (case z_len => k_is)
    (case z_range => k_is)
    (case z_sorted => k_is)
    (case z_str => k_is)
    (case z_tuple => k_is)
    (case z_zip => k_is)
    (case ac_Body => k_is)
    (case ac_Wall => k_is)
    (case ac_Free => k_is)
    (case ac_Railed => k_is)
    (case am0 => k_is)
    (case im0 => k_is)
    (case lm0 => k_is)
    (case cm0 => k_is)
    (case km0 => k_is)
    (case am1 => k_is)
    (case im1 => k_is)
    (case lm1 => k_is)
    (case cm1 => k_is)
    (case km1 => k_is)
    (case am2 => k_is)
    (case im2 => k_is)
    (case lm2 => k_is)
    (case cm2 => k_is)
    (case km2 => k_is)
    (case am3 => k_is)
    (case im3 => k_is)
    (case lm3 => k_is)
    (case cm3 => k_is)
    (case km3 => k_is)
    (case pg_Wall => k_is)
    (case bhd_Wall => k_is)
    (case po_Wall => k_is)
    (case sa_Wall => k_is)
    (case mki_Wall => k_is)
    (case ini_Wall => k_is)
    (case kpc_Wall => k_is)
    (case na_Wall_row => k_is)
    (case na_Wall_name => k_is)
    (case na_Wall_mass => k_is)
    (case pg_Free => k_is)
    (case bhd_Free => k_is)
    (case po_Free => k_is)
    (case sa_Free => k_is)
    (case mki_Free => k_is)
    (case ini_Free => k_is)
    (case kpc_Free => k_is)
    (case na_Free_row => k_is)
    (case na_Free_name => k_is)
    (case na_Free_mass => k_is)
    (case pg_Railed => k_is)
    (case bhd_Railed => k_is)
    (case po_Railed => k_is)
    (case sa_Railed => k_is)
    (case mki_Railed => k_is)
    (case ini_Railed => k_is)
    (case kpc_Railed => k_is)
    (case na_Railed_row => k_is)
    (case na_Railed_name => k_is)
    (case na_Railed_mass => k_is)
