import PyProof.Rows.All
import Wide.All
import OpenK.AllK
import Wide.FinOn
import HandS.ForMost
import HandS.Wide
import HandS.IsInst
import HandS.Defaults

import PySem.Challenge.RW_restbodies_k03_shares_ordered
set_option Elab.async false
set_option linter.all false
set_option maxRecDepth 100000
set_option maxHeartbeats 2000000
namespace R
open PySem PySem.Spec PyProof.Rows L2
/-! ### the text -/
def topS (i : Nat) : Stmt := PySem.Challenge.pw_restbodies_k03_shares_ordered.main.body.getD i (.Pass ⟨0, 0, 0, 0⟩)
abbrev s_p_order : Stmt := topS 2
theorem sc_p_order : FnScope ["one", "other", "left", "right"] ["one", "other"] (defScope s_p_order) := ⟨rfl, rfl, rfl, by decide +kernel, rfl, by decide +kernel, by decide +kernel⟩
abbrev s_p_least : Stmt := topS 3
theorem sc_p_least : FnScope ["shares", "default", "best", "one"] ["shares", "default"] (defScope s_p_least) := ⟨rfl, rfl, rfl, by decide +kernel, rfl, by decide +kernel, by decide +kernel⟩
abbrev s_l_cell : Stmt := topS 5
theorem sc_l_cell : FnScope ["_law_script", "_law_k"] ["_law_script", "_law_k"] (defScope s_l_cell) := ⟨rfl, rfl, rfl, by decide +kernel, rfl, by decide +kernel, by decide +kernel⟩
abbrev s_l_mixed : Stmt := topS 6
theorem sc_l_mixed : FnScope ["_law_script", "_law_k", "_law_many", "_law_number"] ["_law_script", "_law_k", "_law_many"] (defScope s_l_mixed) := ⟨rfl, rfl, rfl, by decide +kernel, rfl, by decide +kernel, by decide +kernel⟩
abbrev s_l_deck : Stmt := topS 7
theorem sc_l_deck : FnScope ["_law_script", "_law_cell_here"] ["_law_script"] (defScope s_l_deck) := ⟨rfl, rfl, rfl, by decide +kernel, rfl, by decide +kernel, by decide +kernel⟩
abbrev s_l_take : Stmt := topS 8
theorem sc_l_take : FnScope ["_law_deck_here", "_law_many", "_law_cell_here"] ["_law_deck_here", "_law_many"] (defScope s_l_take) := ⟨rfl, rfl, rfl, by decide +kernel, rfl, by decide +kernel, by decide +kernel⟩
abbrev s_l_gcd : Stmt := topS 9
theorem sc_l_gcd : FnScope ["_law_one", "_law_other", "_law_rest"] ["_law_one", "_law_other"] (defScope s_l_gcd) := ⟨rfl, rfl, rfl, by decide +kernel, rfl, by decide +kernel, by decide +kernel⟩
abbrev s_l_share : Stmt := topS 10
theorem sc_l_share : FnScope ["_law_top", "_law_bottom", "_law_found"] ["_law_top", "_law_bottom"] (defScope s_l_share) := ⟨rfl, rfl, rfl, by decide +kernel, rfl, by decide +kernel, by decide +kernel⟩
abbrev s_l_whole : Stmt := topS 11
theorem sc_l_whole : FnScope ["_law_deck_here", "_law_kind", "_law_number", "_law_turn"] ["_law_deck_here"] (defScope s_l_whole) := ⟨rfl, rfl, rfl, by decide +kernel, rfl, by decide +kernel, by decide +kernel⟩
abbrev s_l_is_share : Stmt := topS 12
theorem sc_l_is_share : FnScope ["_law_thing", "_law_number"] ["_law_thing"] (defScope s_l_is_share) := ⟨rfl, rfl, rfl, by decide +kernel, rfl, by decide +kernel, by decide +kernel⟩
abbrev s_l_drawn : Stmt := topS 13
theorem sc_l_drawn : FnScope ["_law_deck_here", "_law_row", "_law_kind", "_law_number", "_law_beneath", "_law_hair"] ["_law_deck_here", "_law_row"] (defScope s_l_drawn) := ⟨rfl, rfl, rfl, by decide +kernel, rfl, by decide +kernel, by decide +kernel⟩
abbrev s_l_order : Stmt := topS 14
theorem sc_l_order : FnScope ["_law_one", "_law_other", "_law_left", "_law_right_here"] ["_law_one", "_law_other"] (defScope s_l_order) := ⟨rfl, rfl, rfl, by decide +kernel, rfl, by decide +kernel, by decide +kernel⟩
abbrev s_l_right : Stmt := topS 15
theorem sc_l_right : FnScope ["_law_one", "_law_other", "_law_found"] ["_law_one", "_law_other"] (defScope s_l_right) := ⟨rfl, rfl, rfl, by decide +kernel, rfl, by decide +kernel, by decide +kernel⟩
abbrev s_l_least : Stmt := topS 16
theorem sc_l_least : FnScope ["_law_row", "_law_found", "_law_one"] ["_law_row"] (defScope s_l_least) := ⟨rfl, rfl, rfl, by decide +kernel, rfl, by decide +kernel, by decide +kernel⟩
abbrev s_law : Stmt := topS 17
theorem sc_law : FnScope ["_law_script", "_law_deck_here", "_law_many", "_law_spare", "_law_row", "_law_turn", "_law_k", "_law_one", "_law_other", "_law_handed", "_law_found", "_law_due", "_law_far"] ["_law_script"] (defScope s_law) := ⟨rfl, rfl, rfl, by decide +kernel, rfl, by decide +kernel, by decide +kernel⟩
/-! ### heaps -/
theorem upd_some {H : Hp} {p x : Addr} {o u : HO} (hp : H p = none) (h : H x = some u) : (upd H p o) x = some u := by
  rw [upd_ne (ne_of_none h hp)]
  exact h
theorem same_upd {H : Hp} {p : Addr} {o : HO} (h : H p = none) : Same H (upd H p o) := fun b x e => upd_some h e
theorem alloc {H G : Hp} {p : Addr} {o : HO} (e : upd H p o = G) (hp : H p = none) : Same H G ∧ G p = some o := by
  subst e
  exact ⟨same_upd hp, upd_same⟩
theorem Same.seqT {K : PySem.W.Frag} {H H' : Hp} {a : Addr} {xs : List V} (e : Same H H') (h : SqT K H a xs) : SqT K H' a xs := by
  rcases h with (h | ⟨o, h⟩) | h
  · exact .inl (.inl (e _ _ h))
  · exact .inl (.inr ⟨o, e _ _ h⟩)
  · exact .inr h
/-- all but what stands at d and b is as it was -/
def Kp (d b : Addr) (H H' : Hp) : Prop := ∀ x o, x ≠ d → x ≠ b → H x = some o → H' x = some o
theorem Kp.refl {d b : Addr} {H : Hp} : Kp d b H H := fun _ _ _ _ h => h
theorem Kp.trans {d b : Addr} {H H1 H2 : Hp} (u : Kp d b H H1) (v : Kp d b H1 H2) : Kp d b H H2 := fun x o h1 h2 h => v x o h1 h2 (u x o h1 h2 h)
theorem Kp.same {d b : Addr} {H H' : Hp} (s : Same H H') : Kp d b H H' := fun x o _ _ h => s x o h
theorem Kp.free {d b : Addr} {H H' : Hp} (u : Kp d b H H') {x : Addr} (hd : H d ≠ none) (hb : H b ≠ none) (h : H' x = none) (h1 : H' d ≠ none) (h2 : H' b ≠ none) : H x = none := by
  cases e : H x with
  | none => rfl
  | some o =>
    by_cases e1 : x = d
    · subst e1; exact absurd h h1
    by_cases e2 : x = b
    · subst e2; exact absurd h h2
    rw [u x o e1 e2 e] at h
    cases h
/-- the law's script -/
def Sc (K : PySem.W.Frag) (H : Hp) (s : Addr) (ns : List Int) : Prop := (∃ o, H s = some (.frz o (.lst (ns.map V.int)))) ∨ ∀ H', SqL K H' s (ns.map V.int)
theorem Sc.seq {K : PySem.W.Frag} {H : Hp} {s : Addr} {ns : List Int} (h : Sc K H s ns) : SqL K H s (ns.map V.int) := by
  rcases h with ⟨o, h⟩ | h
  · exact .inl (.inr ⟨o, h⟩)
  · exact h H
theorem Sc.mk {K : PySem.W.Frag} {H : Hp} {s : Addr} {ns : List Int} (hO : Only H) (h : SqL K H s (ns.map V.int)) : Sc K H s ns := by
  rcases h with (h | ⟨o, h⟩) | h
  · rcases hO s with e | ⟨o, xs, e⟩
    · rw [e] at h; cases h
    · rw [e] at h; cases h
  · exact .inl ⟨o, h⟩
  · exact .inr fun H' => .inr h
theorem Sc.upd {K : PySem.W.Frag} {H : Hp} {s b : Addr} {ns : List Int} {u : HO} (h : Sc K H s ns) (hb : H b = none ∨ ∃ xs, H b = some (.lst xs)) : Sc K (upd H b u) s ns := by
  rcases h with ⟨o, h⟩ | h
  · refine .inl ⟨o, ?_⟩
    have n : s ≠ b := fun e => by
      subst e
      rcases hb with e | ⟨xs, e⟩ <;> rw [e] at h <;> cases h
    rw [upd_ne n]
    exact h
  · exact .inr h
theorem Sc.keep {K : PySem.W.Frag} {H H' : Hp} {s : Addr} {ns : List Int} (h : Sc K H s ns) (k : Same H H') : Sc K H' s ns := by
  rcases h with ⟨o, h⟩ | h
  · exact .inl ⟨o, k _ _ h⟩
  · exact .inr h
/-- the deck at d, its cells at b, drawn at most c times -/
structure Deck (K : PySem.W.Frag) (H : Hp) (d b : Addr) (c : Int) : Prop where
  ex : ∃ (s : Addr) (ns cs : List Int) (i k : Int), H d = some (.lst [.ref s, .ref b, .int i, .int k]) ∧ H b = some (.lst (cs.map V.int)) ∧ Sc K H s ns ∧ 0 ≤ i ∧ 0 ≤ k ∧ k ≤ c
  ne : b ≠ d
theorem Deck.keep {K : PySem.W.Frag} {H H' : Hp} {d b : Addr} {c : Int} (D : Deck K H d b c) (k : Same H H') : Deck K H' d b c := by
  obtain ⟨⟨s, ns, cs, i, j, h1, h2, h3, h4⟩, n⟩ := D
  exact ⟨⟨s, ns, cs, i, j, k _ _ h1, k _ _ h2, h3.keep k, h4⟩, n⟩
theorem Deck.le {K : PySem.W.Frag} {H : Hp} {d b : Addr} {c c' : Int} (D : Deck K H d b c) (h : c ≤ c') : Deck K H d b c' := by
  obtain ⟨⟨s, ns, cs, i, j, h1, h2, h3, h4, h5, h6⟩, n⟩ := D
  exact ⟨⟨s, ns, cs, i, j, h1, h2, h3, h4, h5, by omega⟩, n⟩
/-- an object beside the deck stands -/
theorem Deck.tup {K : PySem.W.Frag} {H H' : Hp} {d b x : Addr} {c : Int} {xs : List V} (D : Deck K H d b c) (k : Kp d b H H') (h : H x = some (.tup xs)) : H' x = some (.tup xs) := by
  obtain ⟨⟨s, ns, cs, i, j, h1, h2, _⟩, n⟩ := D
  exact k x _ (fun e => by rw [e, h1] at h; cases h) (fun e => by rw [e, h2] at h; cases h) h
theorem Deck.seqT {K : PySem.W.Frag} {H H' : Hp} {d b x : Addr} {c : Int} {xs : List V} (D : Deck K H d b c) (k : Kp d b H H') (h : SqT K H x xs) : SqT K H' x xs := by
  obtain ⟨⟨s, ns, cs, i, j, h1, h2, _⟩, n⟩ := D
  rcases h with (h | ⟨o, h⟩) | h
  · exact .inl (.inl (k x _ (fun e => by rw [e, h1] at h; cases h) (fun e => by rw [e, h2] at h; cases h) h))
  · exact .inl (.inr ⟨o, k x _ (fun e => by rw [e, h1] at h; cases h) (fun e => by rw [e, h2] at h; cases h) h⟩)
  · exact .inr h
theorem Deck.hd {K : PySem.W.Frag} {H : Hp} {d b : Addr} {c : Int} (D : Deck K H d b c) : H d ≠ none := by
  obtain ⟨⟨s, ns, cs, i, j, h1, _⟩, n⟩ := D
  rw [h1]; exact fun e => nomatch e
theorem Deck.hb {K : PySem.W.Frag} {H : Hp} {d b : Addr} {c : Int} (D : Deck K H d b c) : H b ≠ none := by
  obtain ⟨⟨s, ns, cs, i, j, _, h1, _⟩, n⟩ := D
  rw [h1]; exact fun e => nomatch e
theorem Deck.free {K : PySem.W.Frag} {H H' : Hp} {d b x : Addr} {c c' : Int} (D : Deck K H d b c) (D' : Deck K H' d b c') (k : Kp d b H H') (h : H' x = none) : H x = none := k.free D.hd D.hb h D'.hd D'.hb
theorem Deck.ne_d {K : PySem.W.Frag} {H : Hp} {d b x : Addr} {c : Int} (D : Deck K H d b c) (h : H x = none) : x ≠ d := fun e => D.hd (e ▸ h)
theorem Deck.ne_b {K : PySem.W.Frag} {H : Hp} {d b x : Addr} {c : Int} (D : Deck K H d b c) (h : H x = none) : x ≠ b := fun e => D.hb (e ▸ h)
/-! ### numbers -/
theorem log2_lt {n k : Nat} (h : n < 2 ^ k) (h0 : 0 < k) : n.log2 < k := PySem.Flt.log2_lt_of h0 h
theorem size63 {n : Nat} (h : n ≤ 1000) : n ≤ sizeLine := Nat.le_of_lt (small1000 h)
theorem abs_nn (i : Int) : 0 ≤ (if i < 0 then -i else i) := by
  split <;> omega
theorem abs_nat (i : Int) : (if i < 0 then -i else i) = (i.natAbs : Int) := by
  split <;> omega
/-! ### the facts of the text -/
structure Ad where
  f_p_order : Addr
  fd_p_order : FuncData
  f_p_least : Addr
  fd_p_least : FuncData
  f_l_cell : Addr
  fd_l_cell : FuncData
  f_l_mixed : Addr
  fd_l_mixed : FuncData
  f_l_deck : Addr
  fd_l_deck : FuncData
  f_l_take : Addr
  fd_l_take : FuncData
  f_l_gcd : Addr
  fd_l_gcd : FuncData
  f_l_share : Addr
  fd_l_share : FuncData
  f_l_whole : Addr
  fd_l_whole : FuncData
  f_l_is_share : Addr
  fd_l_is_share : FuncData
  f_l_drawn : Addr
  fd_l_drawn : FuncData
  f_l_order : Addr
  fd_l_order : FuncData
  f_l_right : Addr
  fd_l_right : FuncData
  f_l_least : Addr
  fd_l_least : FuncData
  f_law : Addr
  fd_law : FuncData
  n_NOUGHT : Addr
structure Tx (K : PySem.W.Frag) (mg : Str → Option Value) (A : Ad) : Prop where
  F_p_order : Fun K "order" "order" s_p_order A.f_p_order A.fd_p_order
  b_p_order : Binds K A.fd_p_order ["one", "other"] []
  g_p_order : mg "order" = some (.ref A.f_p_order)
  g_p_least : mg "least" = some (.ref A.f_p_least)
  F_l_cell : Fun K "_law_cell" "_law_cell" s_l_cell A.f_l_cell A.fd_l_cell
  b_l_cell : Binds K A.fd_l_cell ["_law_script", "_law_k"] []
  g_l_cell : mg "_law_cell" = some (.ref A.f_l_cell)
  F_l_mixed : Fun K "_law_mixed" "_law_mixed" s_l_mixed A.f_l_mixed A.fd_l_mixed
  b_l_mixed : Binds K A.fd_l_mixed ["_law_script", "_law_k", "_law_many"] []
  g_l_mixed : mg "_law_mixed" = some (.ref A.f_l_mixed)
  F_l_deck : Fun K "_law_deck" "_law_deck" s_l_deck A.f_l_deck A.fd_l_deck
  b_l_deck : Binds K A.fd_l_deck ["_law_script"] []
  g_l_deck : mg "_law_deck" = some (.ref A.f_l_deck)
  F_l_take : Fun K "_law_take" "_law_take" s_l_take A.f_l_take A.fd_l_take
  b_l_take : Binds K A.fd_l_take ["_law_deck_here", "_law_many"] []
  g_l_take : mg "_law_take" = some (.ref A.f_l_take)
  F_l_gcd : Fun K "_law_gcd" "_law_gcd" s_l_gcd A.f_l_gcd A.fd_l_gcd
  b_l_gcd : Binds K A.fd_l_gcd ["_law_one", "_law_other"] []
  g_l_gcd : mg "_law_gcd" = some (.ref A.f_l_gcd)
  F_l_share : Fun K "_law_share" "_law_share" s_l_share A.f_l_share A.fd_l_share
  b_l_share : Binds K A.fd_l_share ["_law_top", "_law_bottom"] []
  g_l_share : mg "_law_share" = some (.ref A.f_l_share)
  F_l_whole : Fun K "_law_whole" "_law_whole" s_l_whole A.f_l_whole A.fd_l_whole
  b_l_whole : Binds K A.fd_l_whole ["_law_deck_here"] []
  g_l_whole : mg "_law_whole" = some (.ref A.f_l_whole)
  F_l_is_share : Fun K "_law_is_share" "_law_is_share" s_l_is_share A.f_l_is_share A.fd_l_is_share
  b_l_is_share : Binds K A.fd_l_is_share ["_law_thing"] []
  g_l_is_share : mg "_law_is_share" = some (.ref A.f_l_is_share)
  F_l_drawn : Fun K "_law_drawn" "_law_drawn" s_l_drawn A.f_l_drawn A.fd_l_drawn
  b_l_drawn : Binds K A.fd_l_drawn ["_law_deck_here", "_law_row"] []
  g_l_drawn : mg "_law_drawn" = some (.ref A.f_l_drawn)
  F_l_order : Fun K "_law_order" "_law_order" s_l_order A.f_l_order A.fd_l_order
  b_l_order : Binds K A.fd_l_order ["_law_one", "_law_other"] []
  g_l_order : mg "_law_order" = some (.ref A.f_l_order)
  F_l_right : Fun K "_law_right" "_law_right" s_l_right A.f_l_right A.fd_l_right
  b_l_right : Binds K A.fd_l_right ["_law_one", "_law_other"] []
  g_l_right : mg "_law_right" = some (.ref A.f_l_right)
  F_l_least : Fun K "_law_least" "_law_least" s_l_least A.f_l_least A.fd_l_least
  b_l_least : Binds K A.fd_l_least ["_law_row"] []
  g_l_least : mg "_law_least" = some (.ref A.f_l_least)
  F_law : Fun K "law" "law" s_law A.f_law A.fd_law
  b_law : Binds K A.fd_law ["_law_script"] []
  g_law : mg "law" = some (.ref A.f_law)
  m_abs : mg "abs" = none
  m_all : mg "all" = none
  m_bool : mg "bool" = none
  m_enumerate : mg "enumerate" = none
  m_int : mg "int" = none
  m_isinstance : mg "isinstance" = none
  m_len : mg "len" = none
  m_list : mg "list" = none
  m_max : mg "max" = none
  m_range : mg "range" = none
  m_tuple : mg "tuple" = none
  g_NOUGHT : mg "NOUGHT" = some (.ref A.n_NOUGHT)
  F_p_least : FunD K "least" "least" (defArgs s_p_least) (defBody s_p_least) (defScope s_p_least) [] [("default", .ref A.n_NOUGHT)] A.f_p_least A.fd_p_least
  b_p_least : Binds K A.fd_p_least ["shares", "default"] [Value.ref A.n_NOUGHT]
  kb_p_least : KBn K A.fd_p_least ["shares", "default"] 1 ["default"] (fun us ws => us ++ ws) (fun vs zs => vs ++ zs)
  t_NOUGHT : ∀ H, SqT K H A.n_NOUGHT [.int 0, .int 1]
section
variable {P : Program} {w : World} {K : PySem.W.Frag} {mg : Str → Option Value} {base : Heap} {A : Ad}
theorem ixN_nat {n j : Nat} (h : j < n) : ixN n (j : Int) = some j := by
  unfold ixN
  rw [if_pos (by omega), if_pos (by omega)]
  rfl
theorem ty_tup {H : Hp} {a : Addr} {xs : List V} (h : SqT K H a xs) : TyX K H (.ref a) (.type "tuple") := by
  rcases h with (h | ⟨o, h⟩) | ⟨o, its, n, h, hc, _⟩
  · exact .base (.tup h)
  · exact .fTuple h
  · exact .kTuple h hc

/-! ### a cell of the script -/
def sp_l_cell (K : PySem.W.Frag) : Sp := fun vs H Q _ => ∃ (s : Addr) (ns : List Int) (k : Int), vs = [.ref s, .int k] ∧ SqL K H s (ns.map V.int) ∧ 0 ≤ k ∧ k ≤ 1000000 ∧ ∀ r, 0 ≤ r → Q (.int r) H
theorem ok_l_cell (T : Tx K mg A) : FnOk P w K mg base CX0 1 A.f_l_cell A.fd_l_cell ["_law_script", "_law_k"] (sp_l_cell K) := by
  refine T.F_l_cell.ok sc_l_cell (fun vs H Q E h => ?_) (fun cdv A outer s H vs Q E hr h => ?_)
  · obtain ⟨s, ns, k, rfl, _⟩ := h
    rfl
  · obtain ⟨s, ns, k, rfl, hS, h0, h1, q⟩ := h
    refine ⟨_, (pss_cons (ps_if (pt_cmpR op_eq (pe_callB call_len_seq (by rfl) T.m_len (by decide +kernel) (pa_cons (pv 0) pa_nil)) pe_int (nomark _))
      (pss_one (ps_ret (pe_op op_add (pe_op op_mul pe_int (pv 1)) pe_int)))
      pss_nil)
    (pss_one (ps_ret (pe_callB call_abs (by rfl) T.m_abs (by decide +kernel) (pa_cons (pe_ix ix_list (pv 0) (pe_op op_mod (pv 1) (pe_callB call_len_seq (by rfl) T.m_len (by decide +kernel) (pa_cons (pv 0) pa_nil))) (fun _ _ => rfl)) pa_nil))))), ?_⟩
    refine ⟨.ref s, rfl, s, ns.map V.int, rfl, .inl hS, rfl, _, rfl, ite2 (fun e => ?_) (fun e => ?_)⟩
    · exact ⟨_, rfl, 7, k, rfl, rfl, .inl (by decide), _, _, rfl, rfl, q _ (by omega)⟩
    · have hl : ns.length ≠ 0 := fun z => e (decide_eq_true (by rw [List.length_map, z]; rfl))
      have hp : (0 : Int) < ((ns.map V.int).length : Int) := by
        rw [List.length_map]
        omega
      have hm0 : 0 ≤ k % ((ns.map V.int).length : Int) := Int.emod_nonneg _ (by omega)
      have hm1 : k % ((ns.map V.int).length : Int) < ((ns.map V.int).length : Int) := Int.emod_lt_of_pos _ hp
      obtain ⟨j, hj⟩ : ∃ j : Nat, (j : Int) = k % ((ns.map V.int).length : Int) := ⟨_, Int.toNat_of_nonneg hm0⟩
      have hj2 : j < ns.length := by
        rw [List.length_map] at hj hm1
        omega
      have ha : atI (ns.map V.int) (k % ((ns.map V.int).length : Int)) = some (.int ns[j]) := by
        rw [← hj]
        exact atI_nat (by rw [List.getElem?_map, List.getElem?_eq_getElem hj2]; rfl)
      exact ⟨_, rfl, _, rfl, _, rfl, s, _, rfl, .inl hS, k, _, rfl, rfl, hp, s, _, _, _, rfl, rfl, hS, ha, _, rfl, q _ (abs_nn _)⟩
/-! ### a mixed number -/
def sp_l_mixed (K : PySem.W.Frag) : Sp := fun vs H Q _ => ∃ (s : Addr) (ns : List Int) (k m : Int), vs = [.ref s, .int k, .int m] ∧ SqL K H s (ns.map V.int) ∧ 0 ≤ k ∧ k ≤ 1000000 ∧ 0 < m ∧ ∀ r, 0 ≤ r → r < m → Q (.int r) H
theorem mixed_bound {r k : Int} (h0 : 0 ≤ r) (h1 : r < 1000003) (k0 : 0 ≤ k) (k1 : k ≤ 1000000) : ((r + 5) * (k + 2) + 7919 * k).natAbs < 2 ^ 64 := by
  have e1 : (r + 5) * (k + 2) ≤ 1000008 * 1000002 := Int.mul_le_mul (by omega) (by omega) (by omega) (by omega)
  have e0 : 0 ≤ (r + 5) * (k + 2) := Int.mul_nonneg (by omega) (by omega)
  omega
theorem ok_l_mixed (T : Tx K mg A) : FnOk P w K mg base CX0 2 A.f_l_mixed A.fd_l_mixed ["_law_script", "_law_k", "_law_many"] (sp_l_mixed K) := by
  refine T.F_l_mixed.ok sc_l_mixed (fun vs H Q E h => ?_) (fun cdv A outer s H vs Q E hr h => ?_)
  · obtain ⟨s, ns, k, m, rfl, _⟩ := h
    rfl
  · obtain ⟨s, ns, k, m, rfl, hS, h0, h1, hm, q⟩ := h
    refine ⟨_, (pss_cons (ps_set (i := 3) sc_l_mixed.nd rfl (.inl rfl) (pe_op op_mod (pe_op op_pow (pe_op op_add (pe_op op_mul (pe_op op_add (pe_op op_mod (pe_call (ok_l_cell T) (hr.mono (by decide)) (by rfl) T.g_l_cell T.F_l_cell.kp T.b_l_cell .nil pass0 (pa_cons (pv 0) (pa_cons (pv 1) pa_nil))) pe_int) pe_int) (pe_op op_add (pv 1) pe_int)) (pe_op op_mul pe_int (pv 1))) pe_int) pe_int))
    (pss_one (ps_ret (pe_op op_mod (pe_op op_fdivW (pv 3) pe_int) (pv 2))))), ?_⟩
    refine ⟨_, rfl, _, rfl, s, ns, k, rfl, hS, h0, h1, fun r hr0 => ?_⟩
    have c0 : 0 ≤ r % 1000003 := Int.emod_nonneg _ (by decide)
    have c1 : r % 1000003 < 1000003 := Int.emod_lt_of_pos _ (by decide)
    refine ⟨r, 1000003, rfl, rfl, (show (0 : Int) < 1000003 by decide), _, _, rfl, rfl, _, rfl, _, _, rfl, rfl, _, _, rfl, rfl, ?_, _, rfl, _, _, rfl, rfl, .inl (by decide), _, _, rfl, rfl, _, _, rfl, rfl, ⟨by decide, by decide, ?_⟩, _, _, rfl, rfl, (show (0 : Int) < 2147483647 by decide), ?_⟩
    · exact .inl ⟨by omega, by omega⟩
    · exact mixed_bound c0 c1 h0 h1
    · refine ⟨_, rfl, _, _, rfl, rfl, ⟨by decide, by decide⟩, _, rfl, _, _, rfl, rfl, hm, ?_⟩
      exact q _ (Int.emod_nonneg _ (by omega)) (Int.emod_lt_of_pos _ hm)
/-! ### the deck is made -/
def sp_l_deck (K : PySem.W.Frag) : Sp := fun vs H Q _ => ∃ (s : Addr) (ns : List Int), vs = [.ref s] ∧ Sc K H s ns ∧ ns.length ≤ 63 ∧ ∀ H' d b, H d = none → H b = none → Deck K H' d b 0 → Same H H' → Q (.ref d) H'
theorem ok_l_deck (T : Tx K mg A) : FnOk P w K mg base CX0 1 A.f_l_deck A.fd_l_deck ["_law_script"] (sp_l_deck K) := by
  refine T.F_l_deck.ok sc_l_deck (fun vs H Q E h => ?_) (fun cdv A outer s H vs Q E hr h => ?_)
  · obtain ⟨s, ns, rfl, _⟩ := h
    rfl
  · obtain ⟨s, ns, rfl, hS, hlen, q⟩ := h
    refine ⟨_, (pss_one (ps_ret (pe_lst (pa_cons (pv 0) (pa_cons (pe_lc (own := [("_law_cell_here", 1)]) rfl sc_l_deck.nd (pi_list (pv 0)) (blkOk_by (own := [("_law_cell_here", 1)]) (N := ["_law_script", "_law_cell_here"]) (sc := defScope s_l_deck) (by decide +kernel)) (fun _ _ _ _ _ => (pg_name (i := 1) sc_l_deck.nd rfl (Or.inl rfl))) (fun _ _ _ _ _ => (pts_one (pt_cmpR op_ge (pe_callB call_abs (by rfl) T.m_abs (by decide +kernel) (pa_cons (pv 1) pa_nil)) (pe_op op_pow pe_int pe_int) (nomark _)))) (fun _ _ _ _ _ => (pe_callB call_abs (by rfl) T.m_abs (by decide +kernel) (pa_cons (pv 1) pa_nil)))) (pa_cons pe_int (pa_cons pe_int pa_nil))))))), ?_⟩
    refine ⟨_, rfl, _, rfl, s, rfl, ⟨_, hS.seq⟩, fun D hD => lc_list (K := K) (a := s) (xs := ns.map V.int) (fun i H' => ∃ cs : List Int, Same H H' ∧ Sc K H' s ns ∧ H' D = some (.lst (cs.map V.int)) ∧ cs.length ≤ i) ?_ ?_ ?_ ?_⟩
    · exact ⟨[], same_upd hD, hS.upd (.inl hD), upd_same, Nat.le_refl _⟩
    · rintro i H' _ ⟨cs, _, h, _⟩
      exact h.seq
    · rintro i x H' hx ⟨cs, sm, hs, hd, hc⟩
      obtain ⟨n, rfl⟩ : ∃ n : Int, x = .int n := by
        rw [List.getElem?_map] at hx
        cases e : ns[i]? with
        | none => rw [e] at hx; cases hx
        | some n => rw [e] at hx; exact ⟨n, (Option.some.inj hx).symm⟩
      have hi : i < ns.length := by
        have := (List.getElem?_eq_some_iff.mp hx).1
        rw [List.length_map] at this
        exact this
      refine ⟨rfl, _, rfl, n, rfl, 10, 18, rfl, rfl, ⟨by decide, by decide, by decide⟩, _, _, rfl, rfl, _, rfl, ite2 (fun e => ?_) (fun e => ?_)⟩
      · refine ⟨_, rfl, n, rfl, cs.map V.int, hd, small1000 (by rw [List.length_map]; omega), cs ++ [(if n < 0 then -n else n)], ?_, ?_, ?_, ?_⟩
        · exact fun x o h => by
            rw [upd_ne (ne_of_none h hD)]
            exact sm _ _ h
        · exact hs.upd (.inr ⟨_, hd⟩)
        · rw [upd_same, List.map_append]
          rfl
        · rw [List.length_append]
          exact Nat.succ_le_succ hc
      · exact ⟨cs, sm, hs, hd, Nat.le_succ_of_le hc⟩
    · rintro H' ⟨cs, sm, hs, hd, hc⟩
      refine ⟨size63 (show 4 ≤ 1000 by decide), fun d hn => ?_⟩
      have ne : D ≠ d := ne_of_none hd hn
      refine q _ d D (sm.free hn) hD ⟨⟨s, ns, cs, 0, 0, upd_same, ?_, hs.upd (.inl hn), by omega, by omega, by omega⟩, ne⟩ (sm.trans (same_upd hn))
      rw [upd_ne ne]
      exact hd
/-! ### a number is taken -/
def sp_l_take (K : PySem.W.Frag) : Sp := fun vs H Q _ => ∃ (d b : Addr) (c m : Int), vs = [.ref d, .int m] ∧ Deck K H d b c ∧ c < 1000000 ∧ 0 < m ∧ m.natAbs.log2 < 9000 ∧ ∀ H' r, Deck K H' d b (c + 1) → Kp d b H H' → 0 ≤ r → r < m → Q (.int r) H'
theorem ok_l_take (T : Tx K mg A) : FnOk P w K mg base CX0 3 A.f_l_take A.fd_l_take ["_law_deck_here", "_law_many"] (sp_l_take K) := by
  refine T.F_l_take.ok sc_l_take (fun vs H Q E h => ?_) (fun cdv A outer s H vs Q E hr h => ?_)
  · obtain ⟨d, b, c, m, rfl, _⟩ := h
    rfl
  · obtain ⟨d, b, c, m, rfl, ⟨⟨s, ns, cs, i0, k, hd, hb, hS, hi0, hk0, hk1⟩, ne⟩, hc, hm, hm2, q⟩ := h
    refine ⟨_, (pss_cons (ps_while PassesOwn.never (pt_cmpR op_lt (pe_ix ix_list (pv 0) pe_int (fun _ _ => rfl)) (pe_callB call_len_seq (by rfl) T.m_len (by decide +kernel) (pa_cons (pe_ix ix_list (pv 0) pe_int (fun _ _ => rfl)) pa_nil)) (nomark _))
      (pss_cons (ps_set (i := 2) sc_l_take.nd rfl (.inl rfl) (pe_ix ix_list (pe_ix ix_list (pv 0) pe_int (fun _ _ => rfl)) (pe_ix ix_list (pv 0) pe_int (fun _ _ => rfl)) (fun _ _ => rfl)))
    (pss_cons (ps_if (pt_cmpR op_gt (pv 2) pe_int (nomark _))
      (pss_cons (ps_asg (pe_op op_fdivW (pv 2) (pv 1)) (pg_sub (pe_ix ix_list (pv 0) pe_int (fun _ _ => rfl)) (pe_ix ix_list (pv 0) pe_int (fun _ _ => rfl)) set_list))
    (pss_one (ps_ret (pe_op op_mod (pv 2) (pv 1)))))
      pss_nil)
    (pss_one (ps_asg (pe_op op_add (pe_ix ix_list (pv 0) pe_int (fun _ _ => rfl)) pe_int) (pg_sub (pv 0) pe_int set_list))))))
    (pss_cons (ps_asg (pe_op op_add (pe_ix ix_list (pv 0) pe_int (fun _ _ => rfl)) pe_int) (pg_sub (pv 0) pe_int set_list))
    (pss_one (ps_ret (pe_call (ok_l_mixed T) (hr.mono (by decide)) (by rfl) T.g_l_mixed T.F_l_mixed.kp T.b_l_mixed .nil pass0 (pa_cons (pe_ix ix_list (pv 0) pe_int (fun _ _ => rfl)) (pa_cons (pe_ix ix_list (pv 0) pe_int (fun _ _ => rfl)) (pa_cons (pv 1) pa_nil)))))))), ?_⟩
    refine ⟨fun n σ H' => ∃ (y : Option V) (i : Int), σ = [some (.ref d), some (.int m), y] ∧ 0 ≤ i ∧ n = cs.length - i.toNat ∧ H' d = some (.lst [.ref s, .ref b, .int i, .int k]) ∧ H' b = some (.lst (cs.map V.int)) ∧ Sc K H' s ns ∧ Kp d b H H', ⟨_, none, i0, rfl, hi0, rfl, hd, hb, hS, Kp.refl⟩, fun n σ H' hW => ?_⟩
    obtain ⟨y, i, rfl, hi, hn, hd', hb', hS', kp⟩ := hW
    refine ⟨_, rfl, d, _, 2, .int i, rfl, rfl, SqL.of hd', rfl, _, rfl, d, _, 1, .ref b, rfl, rfl, SqL.of hd', rfl, b, _, rfl, .inl (SqL.of hb'), i, _, rfl, rfl, _, rfl, ite2 (fun e => ?_) (fun e => ?_)⟩
    · -- a turn
      have hlt : i < ((cs.map V.int).length : Int) := of_decide_eq_true e
      rw [List.length_map] at hlt
      obtain ⟨j, rfl⟩ : ∃ j : Nat, i = (j : Int) := ⟨_, (Int.toNat_of_nonneg hi).symm⟩
      have hj : j < cs.length := by omega
      have ha : atI (cs.map V.int) (j : Int) = some (.int cs[j]) := atI_nat (by rw [List.getElem?_map, List.getElem?_eq_getElem hj]; rfl)
      refine ⟨fun σ' H'' => ∃ (y : Option V), σ' = [some (.ref d), some (.int m), y] ∧ H'' d = some (.lst [.ref s, .ref b, .int ((j : Int) + 1), .int k]) ∧ H'' b = some (.lst (cs.map V.int)) ∧ Sc K H'' s ns ∧ Kp d b H H'', ?_, ?_⟩
      · rintro σ' H'' ⟨y, e1, e2, e3, e4, e5⟩
        exact ⟨cs.length - ((j : Int) + 1).toNat, by omega, y, _, e1, by omega, rfl, e2, e3, e4, e5⟩
      · refine ⟨_, rfl, d, _, 1, .ref b, rfl, rfl, SqL.of hd', rfl, _, rfl, d, _, 2, .int (j : Int), rfl, rfl, SqL.of hd', rfl, b, _, (j : Int), .int cs[j], rfl, rfl, SqL.of hb', ha, ?_⟩
        refine ⟨_, rfl, cs[j], 0, rfl, rfl, _, rfl, ite2 (fun e2 => ?_) (fun e2 => ?_)⟩
        · -- the cell is drawn from
          refine ⟨_, rfl, _, rfl, cs[j], m, rfl, rfl, ⟨hm, hm2⟩, _, rfl, d, _, 1, .ref b, rfl, rfl, SqL.of hd', rfl, _, rfl, d, _, 2, .int (j : Int), rfl, rfl, SqL.of hd', rfl, b, _, (j : Int), j, rfl, rfl, hb', ?_, ?_⟩
          · exact ixN_nat (by rw [List.length_map]; exact hj)
          · refine ⟨_, rfl, _, rfl, cs[j], m, rfl, rfl, hm, ?_⟩
            refine q _ _ ⟨⟨s, ns, cs.set j (cs[j] / m), (j : Int), k, ?_, ?_, hS'.upd (.inr ⟨_, hb'⟩), by omega, hk0, by omega⟩, ne⟩ ?_ (Int.emod_nonneg _ (by omega)) (Int.emod_lt_of_pos _ hm)
            · rw [upd_ne (Ne.symm ne)]
              exact hd'
            · rw [upd_same, List.map_set]
            · intro x o h1 h2 h
              rw [upd_ne h2]
              exact kp x o h1 h2 h
        · -- the next cell
          refine ⟨_, rfl, d, _, 2, .int (j : Int), rfl, rfl, SqL.of hd', rfl, _, _, rfl, rfl, _, rfl, d, _, 2, 2, rfl, rfl, hd', rfl, ?_⟩
          refine ⟨_, rfl, ?_, ?_, hS'.upd (.inr ⟨_, hd'⟩), ?_⟩
          · rw [upd_same]; rfl
          · rw [upd_ne ne]; exact hb'
          · intro x o h1 h2 h
            rw [upd_ne h1]
            exact kp x o h1 h2 h
    · -- no cell is left
      refine ⟨_, rfl, d, _, 3, .int k, rfl, rfl, SqL.of hd', rfl, _, _, rfl, rfl, _, rfl, d, _, 3, 3, rfl, rfl, hd', rfl, ?_⟩
      have hd2 : (upd H' d (.lst ([V.ref s, V.ref b, V.int i, V.int k].set 3 (V.int (k + 1))))) d = some (.lst [.ref s, .ref b, .int i, .int (k + 1)]) := upd_same
      have hS2 : Sc K (upd H' d (.lst ([V.ref s, V.ref b, V.int i, V.int k].set 3 (V.int (k + 1))))) s ns := hS'.upd (.inr ⟨_, hd'⟩)
      refine ⟨_, rfl, d, _, 0, .ref s, rfl, rfl, SqL.of hd2, rfl, _, rfl, d, _, 3, .int (k + 1), rfl, rfl, SqL.of hd2, rfl, _, rfl, s, ns, k + 1, m, rfl, hS2.seq, by omega, by omega, hm, fun r h0 h1 => ?_⟩
      refine q _ r ⟨⟨s, ns, cs, i, k + 1, hd2, ?_, hS2, hi, by omega, by omega⟩, ne⟩ ?_ h0 h1
      · rw [upd_ne ne]; exact hb'
      · intro x o h1 h2 h
        rw [upd_ne h1]
        exact kp x o h1 h2 h

/-! ### divisors -/
def gcdI (a b : Int) : Int := ((Nat.gcd a.natAbs b.natAbs : Nat) : Int)
/-- a share's two numbers -/
def IsSh (t u : Int) : Prop := 1 ≤ u ∧ gcdI t u = 1
instance (t u : Int) : Decidable (IsSh t u) := inferInstanceAs (Decidable (_ ∧ _))
theorem gcdI_nn (a b : Int) : 0 ≤ gcdI a b := Int.natCast_nonneg _
theorem gcdI_pos {a b : Int} (h : b ≠ 0) : 0 < gcdI a b := by
  have : 0 < Nat.gcd a.natAbs b.natAbs := Nat.gcd_pos_of_pos_right _ (by omega)
  unfold gcdI
  omega
theorem gcdI_neg_l (a b : Int) : gcdI (-a) b = gcdI a b := by
  unfold gcdI
  rw [Int.natAbs_neg]
theorem gcdI_neg_r (a b : Int) : gcdI a (-b) = gcdI a b := by
  unfold gcdI
  rw [Int.natAbs_neg]
theorem gcdI_dvd_l (a b : Int) : gcdI a b ∣ a := by
  unfold gcdI
  exact Int.ofNat_dvd_left.mpr (Nat.gcd_dvd_left _ _)
theorem gcdI_dvd_r (a b : Int) : gcdI a b ∣ b := by
  unfold gcdI
  exact Int.ofNat_dvd_left.mpr (Nat.gcd_dvd_right _ _)
/-- a share is told by what it is worth -/
theorem share_uniq {t u t' u' : Int} (h : IsSh t u) (h' : IsSh t' u') (e : t * u' = t' * u) : t = t' ∧ u = u' := by
  obtain ⟨u1, g1⟩ := h
  obtain ⟨u2, g2⟩ := h'
  have c1 : Nat.gcd t.natAbs u.natAbs = 1 := by unfold gcdI at g1; omega
  have c2 : Nat.gcd t'.natAbs u'.natAbs = 1 := by unfold gcdI at g2; omega
  have en : t.natAbs * u'.natAbs = t'.natAbs * u.natAbs := by
    rw [← Int.natAbs_mul, ← Int.natAbs_mul, e]
  have d1 : u.natAbs ∣ u'.natAbs := (Nat.Coprime.symm c1).dvd_of_dvd_mul_left (by rw [en]; exact Nat.dvd_mul_left _ _)
  have d2 : u'.natAbs ∣ u.natAbs := (Nat.Coprime.symm c2).dvd_of_dvd_mul_left (by rw [← en]; exact Nat.dvd_mul_left _ _)
  have eu : u = u' := by
    have := Nat.dvd_antisymm d1 d2
    omega
  subst eu
  exact ⟨Int.eq_of_mul_eq_mul_right (by omega) e, rfl⟩
theorem dvd_le_natAbs {g a : Int} (h : g ∣ a) (ha : a ≠ 0) : g.natAbs ≤ a.natAbs := Nat.le_of_dvd (by omega) (Int.natAbs_dvd_natAbs.mpr h)
theorem div_natAbs_le {a g : Int} (hg : 0 < g) (h : g ∣ a) : (a / g).natAbs ≤ a.natAbs := by
  obtain ⟨q, rfl⟩ := h
  rw [Int.mul_ediv_cancel_left _ (by omega), Int.natAbs_mul]
  exact Nat.le_mul_of_pos_left _ (by omega)
/-- a over b (b above nought) in lowest terms -/
theorem low_is {a b : Int} (hb : 0 < b) : IsSh (a / gcdI a b) (b / gcdI a b) ∧ (a / gcdI a b) * b = (b / gcdI a b) * a ∧ (a / gcdI a b).natAbs ≤ a.natAbs ∧ (b / gcdI a b).natAbs ≤ b.natAbs := by
  have hg : 0 < gcdI a b := gcdI_pos (by omega)
  have d1 := gcdI_dvd_l a b
  have d2 := gcdI_dvd_r a b
  refine ⟨⟨?_, ?_⟩, ?_, div_natAbs_le hg d1, div_natAbs_le hg d2⟩
  · have : 0 < b / gcdI a b := Int.ediv_pos_of_pos_of_dvd hb (by omega) d2
    omega
  · unfold gcdI at hg d1 d2 ⊢
    have e1 : (a / ((Nat.gcd a.natAbs b.natAbs : Nat) : Int)).natAbs = a.natAbs / Nat.gcd a.natAbs b.natAbs := by
      rw [Int.natAbs_ediv_of_dvd d1]
      rfl
    have e2 : (b / ((Nat.gcd a.natAbs b.natAbs : Nat) : Int)).natAbs = b.natAbs / Nat.gcd a.natAbs b.natAbs := by
      rw [Int.natAbs_ediv_of_dvd d2]
      rfl
    rw [e1, e2, Nat.gcd_div_gcd_div_gcd_of_pos_right (by omega)]
    rfl
  · obtain ⟨x, hx⟩ := d1
    obtain ⟨y, hy⟩ := d2
    have q1 : a / gcdI a b = x := (Int.eq_ediv_of_mul_eq_right (by omega) hx.symm).symm
    have q2 : b / gcdI a b = y := (Int.eq_ediv_of_mul_eq_right (by omega) hy.symm).symm
    rw [q1, q2]
    conv => lhs; rw [hy]
    conv => rhs; rw [hx]
    rw [Int.mul_left_comm, Int.mul_left_comm y, Int.mul_comm x y]
theorem log_le {m n k : Nat} (h : m ≤ n) (hn : n < 2 ^ k) (h0 : 0 < k) : m.log2 < k := log2_lt (Nat.lt_of_le_of_lt h hn) h0
/-! ### the law's gcd -/
def sp_gcd : Sp := fun vs H Q _ => ∃ a b : Int, vs = [.int a, .int b] ∧ Q (.int (gcdI a b)) H
theorem ok_l_gcd (T : Tx K mg A) : FnOk P w K mg base CX0 1 A.f_l_gcd A.fd_l_gcd ["_law_one", "_law_other"] sp_gcd := by
  refine T.F_l_gcd.ok sc_l_gcd (fun vs H Q E h => ?_) (fun cdv A outer s H vs Q E hr h => ?_)
  · obtain ⟨a, b, rfl, _⟩ := h
    rfl
  · obtain ⟨a, b, rfl, q⟩ := h
    refine ⟨_, (pss_cons (ps_set (i := 0) sc_l_gcd.nd rfl (.inl rfl) (pe_callB call_abs (by rfl) T.m_abs (by decide +kernel) (pa_cons (pv 0) pa_nil)))
    (pss_cons (ps_set (i := 1) sc_l_gcd.nd rfl (.inl rfl) (pe_callB call_abs (by rfl) T.m_abs (by decide +kernel) (pa_cons (pv 1) pa_nil)))
    (pss_cons (ps_while PassesOwn.never (pt_cmpR op_gt (pv 1) pe_int (nomark _))
      (pss_cons (ps_set (i := 2) sc_l_gcd.nd rfl (.inl rfl) (pe_op op_mod (pv 0) (pv 1)))
    (pss_cons (ps_set (i := 0) sc_l_gcd.nd rfl (.inl rfl) (pv 1))
    (pss_one (ps_set (i := 1) sc_l_gcd.nd rfl (.inl rfl) (pv 2))))))
    (pss_one (ps_ret (pv 0)))))), ?_⟩
    refine ⟨_, rfl, a, rfl, _, rfl, b, rfl, ?_⟩
    refine ⟨fun n σ H' => ∃ (x y : Nat) (r : Option V), σ = [some (.int (x : Int)), some (.int (y : Int)), r] ∧ n = y ∧ H' = H ∧ Nat.gcd x y = Nat.gcd a.natAbs b.natAbs, ⟨_, a.natAbs, b.natAbs, none, ?_, rfl, rfl, rfl⟩, fun n σ H' hW => ?_⟩
    · rw [abs_nat, abs_nat]
      rfl
    · obtain ⟨x, y, r, rfl, rfl, rfl, g⟩ := hW
      refine ⟨_, rfl, (n : Int), 0, rfl, rfl, _, rfl, ite2 (fun e => ?_) (fun e => ?_)⟩
      · have hy : 0 < n := by
          have := of_decide_eq_true e
          omega
        refine ⟨fun σ' H'' => ∃ r, σ' = [some (.int (n : Int)), some (.int ((x % n : Nat) : Int)), r] ∧ H'' = H', ?_, ?_⟩
        · rintro σ' H'' ⟨r, e1, rfl⟩
          exact ⟨x % n, Nat.mod_lt _ hy, n, x % n, r, e1, rfl, rfl, by rw [← g, Nat.gcd_comm x n, Nat.gcd_rec n x, Nat.gcd_comm]⟩
        · refine ⟨_, rfl, _, rfl, (x : Int), (n : Int), rfl, rfl, by omega, _, rfl, _, rfl, _, rfl, rfl⟩
      · have hy : n = 0 := by
          have : ¬ (0 < (n : Int)) := fun z => e (decide_eq_true z)
          omega
        subst hy
        refine ⟨_, rfl, ?_⟩
        have : (x : Int) = gcdI a b := by
          unfold gcdI
          rw [← g, Nat.gcd_zero_right]
        rw [this]
        exact q

/-! ### the law's own share -/
def Bd (n : Nat) (x : Int) : Prop := x.natAbs < 2 ^ n
theorem Bd.le {n m : Nat} {x : Int} (h : Bd n x) (l : n ≤ m) : Bd m x := Nat.lt_of_lt_of_le h (Nat.pow_le_pow_right (by decide) l)
theorem Bd.mul {n m : Nat} {x y : Int} (h : Bd n x) (g : Bd m y) : Bd (n + m) (x * y) := wide_lt h g
theorem Bd.of_le {n : Nat} {x y : Int} (h : Bd n x) (l : y.natAbs ≤ x.natAbs) : Bd n y := Nat.lt_of_le_of_lt l h
theorem Bd.neg {n : Nat} {x : Int} (h : Bd n x) : Bd n (-x) := by
  unfold Bd
  rw [Int.natAbs_neg]
  exact h
theorem Bd.add {n : Nat} {x y : Int} (h : Bd n x) (g : Bd n y) : Bd (n + 1) (x + y) := by
  unfold Bd at *
  rw [Nat.pow_succ]
  omega
theorem Bd.mulW {n m : Nat} {x y : Int} (h : Bd n x) (g : Bd m y) (hn : n ≤ 400000) (hm : m ≤ 400000) : CMulW x y := wide_mul (a := n + 1) (b := m + 1) (h.le (Nat.le_succ _)) (g.le (Nat.le_succ _)) (by omega) (by omega) (by omega)
theorem Bd.divW {n : Nat} {x y : Int} (h : Bd n y) (h0 : 0 < y) (hn : n < 9000) : CDivW x y := wide_div (b := n + 1) h0 (h.le (Nat.le_succ _)) (by omega) (by omega)
theorem gcdI_bd {n : Nat} {a b : Int} (h : Bd n b) (hb : b ≠ 0) : Bd n (gcdI a b) := h.of_le (by
  unfold gcdI
  exact Nat.le_of_dvd (by omega) (Nat.gcd_dvd_right _ _))
def sp_l_share : Sp := fun vs H Q _ => ∃ (a b : Int) (n : Nat), vs = [.int a, .int b] ∧ b ≠ 0 ∧ Bd n b ∧ n < 9000 ∧ ∀ p t u, H p = none → IsSh t u → t * b = u * a → t.natAbs ≤ a.natAbs → u.natAbs ≤ b.natAbs → Q (.ref p) (upd H p (.tup [.int t, .int u]))
theorem ok_l_share (T : Tx K mg A) : FnOk P w K mg base CX0 2 A.f_l_share A.fd_l_share ["_law_top", "_law_bottom"] sp_l_share := by
  refine T.F_l_share.ok sc_l_share (fun vs H Q E h => ?_) (fun cdv A outer s H vs Q E hr h => ?_)
  · obtain ⟨a, b, n, rfl, _⟩ := h
    rfl
  · obtain ⟨a, b, n, rfl, hb, hbd, hn, q⟩ := h
    refine ⟨_, (pss_cons (ps_if (pt_cmpR op_lt (pv 1) pe_int (nomark _))
      (pss_cons (ps_set (i := 0) sc_l_share.nd rfl (.inl rfl) (pe_un un_neg (pv 0)))
    (pss_one (ps_set (i := 1) sc_l_share.nd rfl (.inl rfl) (pe_un un_neg (pv 1)))))
      pss_nil)
    (pss_cons (ps_set (i := 2) sc_l_share.nd rfl (.inl rfl) (pe_call (ok_l_gcd T) (hr.mono (by decide)) (by rfl) T.g_l_gcd T.F_l_gcd.kp T.b_l_gcd .nil pass0 (pa_cons (pv 0) (pa_cons (pv 1) pa_nil))))
    (pss_one (ps_ret (pe_tup (pa_cons (pe_op op_fdivW (pv 0) (pv 2)) (pa_cons (pe_op op_fdivW (pv 1) (pv 2)) pa_nil))))))), ?_⟩
    refine ⟨_, rfl, b, 0, rfl, rfl, _, rfl, ite2 (fun e => ?_) (fun e => ?_)⟩
    · have hb0 : b < 0 := of_decide_eq_true e
      obtain ⟨h1, h2, h3, h4⟩ := low_is (a := -a) (b := -b) (by omega)
      have hg : Bd n (gcdI (-a) (-b)) := gcdI_bd hbd.neg (by omega)
      have hg0 : 0 < gcdI (-a) (-b) := gcdI_pos (by omega)
      refine ⟨_, rfl, a, rfl, _, rfl, b, rfl, ?_⟩
      refine ⟨_, rfl, _, rfl, -a, -b, rfl, ?_⟩
      refine ⟨_, rfl, _, rfl, _, _, rfl, rfl, hg.divW hg0 hn, _, rfl, _, rfl, _, _, rfl, rfl, hg.divW hg0 hn, size63 (show 2 ≤ 1000 by decide), fun p hp => ?_⟩
      refine q p _ _ hp h1 ?_ (by rw [Int.natAbs_neg] at h3; exact h3) (by rw [Int.natAbs_neg b] at h4; exact h4)
      rw [Int.mul_neg, Int.mul_neg] at h2
      omega
    · have hb0 : 0 < b := by
        have : ¬ b < 0 := fun z => e (decide_eq_true z)
        omega
      obtain ⟨h1, h2, h3, h4⟩ := low_is (a := a) (b := b) hb0
      have hg : Bd n (gcdI a b) := gcdI_bd hbd (by omega)
      have hg0 : 0 < gcdI a b := gcdI_pos (by omega)
      refine ⟨_, rfl, _, rfl, a, b, rfl, ?_⟩
      refine ⟨_, rfl, _, rfl, _, _, rfl, rfl, hg.divW hg0 hn, _, rfl, _, rfl, _, _, rfl, rfl, hg.divW hg0 hn, size63 (show 2 ≤ 1000 by decide), fun p hp => ?_⟩
      exact q p _ _ hp h1 h2 h3 h4
/-! ### a whole number is drawn -/
def big : Nat := 100000000 ^ 4
def sp_l_whole (K : PySem.W.Frag) : Sp := fun vs H Q _ => ∃ (d b : Addr) (c : Int), vs = [.ref d] ∧ Deck K H d b c ∧ c < 900000 ∧ ∀ H' r, Deck K H' d b (c + 7) → Kp d b H H' → r.natAbs ≤ big → Q (.int r) H'
theorem whole_step {n r : Nat} {i : Nat} (h : n < 100000000 ^ i) (h2 : r < 100000000) : n * 100000000 + r < 100000000 ^ (i + 1) := by
  rw [Nat.pow_succ]
  omega
theorem ok_l_whole (T : Tx K mg A) : FnOk P w K mg base CX0 4 A.f_l_whole A.fd_l_whole ["_law_deck_here"] (sp_l_whole K) := by
  refine T.F_l_whole.ok sc_l_whole (fun vs H Q E h => ?_) (fun cdv A outer s H vs Q E hr h => ?_)
  · obtain ⟨d, b, c, rfl, _⟩ := h
    rfl
  · obtain ⟨d, b, c, rfl, hD, hc, q⟩ := h
    refine ⟨_, (pss_cons (ps_set (i := 1) sc_l_whole.nd rfl (.inl rfl) (pe_call (ok_l_take T) (hr.mono (by decide)) (by rfl) T.g_l_take T.F_l_take.kp T.b_l_take .nil pass0 (pa_cons (pv 0) (pa_cons pe_int pa_nil))))
    (pss_cons (ps_if (pt_cmpR op_eq (pv 1) pe_int (nomark _))
      (pss_one (ps_ret (pe_op op_sub (pe_call (ok_l_take T) (hr.mono (by decide)) (by rfl) T.g_l_take T.F_l_take.kp T.b_l_take .nil pass0 (pa_cons (pv 0) (pa_cons pe_int pa_nil))) pe_int)))
      pss_nil)
    (pss_cons (ps_set (i := 2) sc_l_whole.nd rfl (.inl rfl) pe_int)
    (pss_cons (ps_for PassesOwn.never rfl (pi_range1 (by rfl) T.m_range (pa_cons (pe_ix ix_list (pe_lst (pa_cons pe_int (pa_cons pe_int (pa_cons pe_int (pa_cons (pe_op op_add pe_int (pe_call (ok_l_take T) (hr.mono (by decide)) (by rfl) T.g_l_take T.F_l_take.kp T.b_l_take .nil pass0 (pa_cons (pv 0) (pa_cons pe_int pa_nil)))) pa_nil))))) (pv 1) (fun _ _ => rfl)) pa_nil)) (pg_name (i := 3) sc_l_whole.nd rfl (.inl rfl))
      (pss_one (ps_set (i := 2) sc_l_whole.nd rfl (.inl rfl) (pe_op op_add (pe_op op_mul (pv 2) (pe_op op_pow pe_int pe_int)) (pe_call (ok_l_take T) (hr.mono (by decide)) (by rfl) T.g_l_take T.F_l_take.kp T.b_l_take .nil pass0 (pa_cons (pv 0) (pa_cons (pe_op op_pow pe_int pe_int) pa_nil)))))))
    (pss_one (ps_ret (pe_op op_mul (pv 2) (pe_op op_sub pe_int (pe_op op_mul pe_int (pe_call (ok_l_take T) (hr.mono (by decide)) (by rfl) T.g_l_take T.F_l_take.kp T.b_l_take .nil pass0 (pa_cons (pv 0) (pa_cons pe_int pa_nil)))))))))))), ?_⟩
    refine ⟨_, rfl, d, b, c, 4, rfl, hD, by omega, by decide, by decide, fun H1 r1 D1 k1 l1 u1 => ?_⟩
    refine ⟨_, rfl, rfl, _, rfl, ite2 (fun e => ?_) (fun e => ?_)⟩
    · refine ⟨_, rfl, d, b, c + 1, 5, rfl, D1, by omega, by decide, by decide, fun H2 r2 D2 k2 l2 u2 => ?_⟩
      refine ⟨r2, 2, rfl, rfl, q _ _ (D2.le (by omega)) (k1.trans k2) ?_⟩
      have : (5 : Nat) ≤ big := by decide
      omega
    · have hk : r1 ≠ 0 := fun z => e (decide_eq_true (by rw [z]))
      refine ⟨_, rfl, d, b, c + 1, 4, rfl, D1, by omega, by decide, by decide, fun H2 r2 D2 k2 l2 u2 => ?_⟩
      refine ⟨1, r2, rfl, rfl, size63 (show 4 ≤ 1000 by decide), fun p hp => ?_⟩
      obtain ⟨n, hn4, hat⟩ : ∃ n : Nat, n ≤ 4 ∧ atI [V.int 0, V.int 1, V.int 2, V.int (1 + r2)] r1 = some (V.int (n : Int)) := by
        obtain rfl | rfl | rfl : r1 = 1 ∨ r1 = 2 ∨ r1 = 3 := by omega
        · exact ⟨1, by omega, rfl⟩
        · exact ⟨2, by omega, rfl⟩
        · refine ⟨(1 + r2).toNat, by omega, ?_⟩
          rw [Int.toNat_of_nonneg (by omega)]
          rfl
      have s2 : Same H2 (upd H2 p (.lst [V.int 0, V.int 1, V.int 2, V.int (1 + r2)])) := same_upd hp
      refine ⟨_, rfl, p, _, r1, V.int (n : Int), rfl, rfl, SqL.of upd_same, hat, n, rfl, by omega, by omega, ?_⟩
      refine for_range (n := n) (fun i σ H' => ∃ (x : Nat) (y : Option V), σ = [some (.ref d), some (.int r1), some (.int (x : Int)), y] ∧ x < 100000000 ^ i ∧ Deck K H' d b (c + 2 + i) ∧ Kp d b H H') ?_ ?_ ?_
      · exact ⟨0, none, rfl, by decide, (D2.keep s2).le (by omega), (k1.trans k2).trans (Kp.same s2)⟩
      · rintro i σ H' hi ⟨x, y, rfl, hx, D', k'⟩
        refine ⟨_, rfl, 10, 8, rfl, rfl, ⟨by decide, by decide, by decide⟩, (x : Int), _, rfl, rfl, .inr (by decide), _, rfl, 10, 8, rfl, rfl, ⟨by decide, by decide, by decide⟩, d, b, c + 2 + i, 100000000, rfl, D', by omega, by decide, by decide, fun H3 r3 D3 k3 l3 u3 => ?_⟩
        obtain ⟨m, rfl⟩ : ∃ m : Nat, r3 = (m : Int) := ⟨_, (Int.toNat_of_nonneg l3).symm⟩
        refine ⟨(x : Int) * 100000000, (m : Int), rfl, rfl, x * 100000000 + m, _, rfl, whole_step hx (by omega), D3.le (by omega), k'.trans k3⟩
      · rintro σ H' ⟨x, y, rfl, hx, D', k'⟩
        have hx4 : x ≤ big := Nat.le_of_lt (Nat.lt_of_lt_of_le hx (Nat.pow_le_pow_right (by decide) hn4))
        refine ⟨_, rfl, _, rfl, d, b, c + 2 + n, 2, rfl, D', by omega, by decide, by decide, fun H3 r3 D3 k3 l3 u3 => ?_⟩
        refine ⟨2, r3, rfl, rfl, .inl (by decide), 1, _, rfl, rfl, (x : Int), _, rfl, rfl, .inr (by omega), ?_⟩
        refine q _ _ (D3.le (by omega)) (k'.trans k3) ?_
        obtain rfl | rfl : r3 = 0 ∨ r3 = 1 := by omega
        · omega
        · omega
/-! ### the law's look at a share -/
def sp_l_is_share (K : PySem.W.Frag) : Sp := fun vs H Q _ => ∃ (a : Addr) (t u : Int), vs = [.ref a] ∧ SqT K H a [.int t, .int u] ∧ Q (.bl (decide (IsSh t u))) H
theorem ok_l_is_share (T : Tx K mg A) : FnOk P w K mg base CX0 2 A.f_l_is_share A.fd_l_is_share ["_law_thing"] (sp_l_is_share K) := by
  refine T.F_l_is_share.ok sc_l_is_share (fun vs H Q E h => ?_) (fun cdv A outer s H vs Q E hr h => ?_)
  · obtain ⟨a, t, u, rfl, _⟩ := h
    rfl
  · obtain ⟨a, t, u, rfl, hA, q⟩ := h
    refine ⟨_, (pss_cons (ps_if (PW.pt (pw_or (pt_not (pt_val (pe_callB call_isi (by rfl) T.m_isinstance (by decide +kernel) (pa_cons (pv 0) (pa_cons (pe_bltn (v := .ty "tuple") (by rfl) T.m_tuple (by decide +kernel) rfl) pa_nil))))) (pw_or1 (pt_cmpR op_ne (pe_callB call_len_seq (by rfl) T.m_len (by decide +kernel) (pa_cons (pv 0) pa_nil)) pe_int (nomark _)))))
      (pss_one (ps_ret pe_bl))
      pss_nil)
    (pss_cons (ps_for PassesOwn.never rfl (pi_tup (pv 0)) (pg_name (i := 1) sc_l_is_share.nd rfl (.inl rfl))
      (pss_one (ps_if (PW.pt (pw_or (pt_not (pt_val (pe_callB call_isi (by rfl) T.m_isinstance (by decide +kernel) (pa_cons (pv 1) (pa_cons (pe_bltn (v := .ty "int") (by rfl) T.m_int (by decide +kernel) rfl) pa_nil))))) (pw_or1 (pt_val (pe_callB call_isi (by rfl) T.m_isinstance (by decide +kernel) (pa_cons (pv 1) (pa_cons (pe_bltn (v := .ty "bool") (by rfl) T.m_bool (by decide +kernel) rfl) pa_nil)))))))
      (pss_one (ps_ret pe_bl))
      pss_nil)))
    (pss_one (ps_ret (pe_and (pe_cmpR op_ge (pe_ix ix_tup (pv 0) pe_int (fun _ _ => rfl)) pe_int (nomark _)) (pe_one (pe_cmpR op_eq (pe_call (ok_l_gcd T) (hr.mono (by decide)) (by rfl) T.g_l_gcd T.F_l_gcd.kp T.b_l_gcd .nil pass0 (pa_cons (pe_ix ix_tup (pv 0) pe_int (fun _ _ => rfl)) (pa_cons (pe_ix ix_tup (pv 0) pe_int (fun _ _ => rfl)) pa_nil))) pe_int (nomark _)))))))), ?_⟩
    refine ⟨_, rfl, _, _, _, _, true, rfl, .ty _, ty_tup hA, kit_ty (by decide +kernel), true, rfl, iteF ⟨_, rfl, a, _, rfl, .inr hA, rfl, _, rfl, iteF ?_⟩⟩
    refine ⟨_, rfl, a, rfl, ⟨_, hA⟩, for_tup (K := K) (a := a) (xs := [.int t, .int u]) (fun i σ H' => ∃ y, σ = [some (.ref a), y] ∧ H' = H) ⟨_, rfl, rfl⟩ ?_ ?_ ?_⟩
    · rintro i σ H' _ ⟨y, _, rfl⟩
      exact hA
    · rintro i x σ H' hx ⟨y, rfl, rfl⟩
      obtain ⟨z, rfl⟩ : ∃ z : Int, x = .int z := by
        match i, hx with
        | 0, e => exact ⟨t, (Option.some.inj e).symm⟩
        | 1, e => exact ⟨u, (Option.some.inj e).symm⟩
      refine ⟨_, rfl, _, _, _, _, true, rfl, .ty _, .base (.int z), kit_ty (by decide +kernel), true, rfl, iteF ⟨_, rfl, _, _, _, _, false, rfl, .ty _, .base (.int z), kit_ty (by decide +kernel), false, rfl, iteF ⟨_, rfl, rfl⟩⟩⟩
    · rintro σ H' ⟨y, rfl, rfl⟩
      refine ⟨_, rfl, a, _, 1, .int u, rfl, rfl, hA, rfl, u, 1, rfl, rfl, _, rfl, ite2 (fun e => ?_) (fun e => ?_)⟩
      · refine ⟨_, rfl, a, _, 0, .int t, rfl, rfl, hA, rfl, _, rfl, a, _, 1, .int u, rfl, rfl, hA, rfl, t, u, rfl, rfl, ?_⟩
        have e1 : 1 ≤ u := of_decide_eq_true e
        have : decide (V.int (gcdI t u) = V.int 1) = decide (IsSh t u) := decide_eq_decide.mpr ⟨fun z => ⟨e1, V.int.inj z⟩, fun z => congrArg V.int z.2⟩
        rw [this]
        exact q
      · have : decide (IsSh t u) = false := decide_eq_false fun z => e (decide_eq_true z.1)
        rw [this] at q
        exact q

/-! ### data -/
def shD (x : Int × Int) : PyData := .tuple [.int x.1, .int x.2]
theorem lay_shs : ∀ xs : List (Int × Int), PyData.canLayAll0 (xs.map shD) = true
  | [] => rfl
  | x :: r => by
    rw [List.map_cons, PyData.canLayAll0, lay_shs r]
    rfl
theorem depth_shs : ∀ xs : List (Int × Int), PyData.depthAll (xs.map shD) ≤ 1
  | [] => Nat.zero_le _
  | x :: r => by
    rw [List.map_cons, PyData.depthAll]
    exact Nat.max_le.mpr ⟨Nat.le_refl 1, depth_shs r⟩
theorem shaped_shs (xs : List (Int × Int)) : SeqAt.shaped (.list (xs.map shD)) = true := by
  unfold SeqAt.shaped
  rw [PyData.canLay0, lay_shs, PyData.depth, Bool.true_and]
  have := depth_shs xs
  exact decide_eq_true (by omega)
theorem shaped_sh (x : Int × Int) : SeqAt.shaped (shD x) = true := rfl
theorem eqv_shs (xs : List (Int × Int)) : PyData.eqv (.list (xs.map shD)) (.list (xs.map shD)) = true := SeqAt.eqv_refl _ (by rw [PyData.canLay0, lay_shs])
theorem eqv_sh (x : Int × Int) : PyData.eqv (shD x) (shD x) = true := SeqAt.eqv_refl _ rfl
/-- a share lies at v -/
def ShAt (K : PySem.W.Frag) (H : Hp) (v : V) (x : Int × Int) : Prop := ∃ a, v = .ref a ∧ SqT K H a [.int x.1, .int x.2]
theorem ShAt.keep {K : PySem.W.Frag} {H H' : Hp} {v : V} {x : Int × Int} (h : ShAt K H v x) (k : Same H H') : ShAt K H' v x := by
  obtain ⟨a, e, h⟩ := h
  exact ⟨a, e, Same.seqT k h⟩
theorem ShAt.deck {K : PySem.W.Frag} {H H' : Hp} {v : V} {x : Int × Int} {d b : Addr} {c : Int} (h : ShAt K H v x) (D : Deck K H d b c) (k : Kp d b H H') : ShAt K H' v x := by
  obtain ⟨a, e, h⟩ := h
  exact ⟨a, e, D.seqT k h⟩
theorem ShAt.dp {K : PySem.W.Frag} {H : Hp} {v : V} {x : Int × Int} (h : ShAt K H v x) : Dp K H v (shD x) := by
  obtain ⟨a, rfl, h⟩ := h
  exact .tup h (.cons (.int _) (.cons (.int _) .nil))
abbrev RowAt (K : PySem.W.Frag) (H : Hp) : List V → List (Int × Int) → Prop := Paired (ShAt K H)
theorem paired_imp {α β : Type} {F G : α → β → Prop} (h : ∀ a b, F a b → G a b) : ∀ {l : List α} {m : List β}, Paired F l m → Paired G l m
  | _, _, .nil => .nil
  | _, _, .cons a r => .cons (h _ _ a) (paired_imp h r)
theorem paired_get {α β : Type} {F : α → β → Prop} : ∀ {l : List α} {m : List β} {i : Nat} {a : α}, Paired F l m → l[i]? = some a → ∃ b, m[i]? = some b ∧ F a b
  | _, _, _, _, .nil, e => by cases e
  | _, _, 0, _, .cons a _, e => by
    cases e
    exact ⟨_, rfl, a⟩
  | _, _, i + 1, _, .cons _ r, e => paired_get (i := i) r e
theorem paired_get' {α β : Type} {F : α → β → Prop} : ∀ {l : List α} {m : List β} {i : Nat} {b : β}, Paired F l m → m[i]? = some b → ∃ a, l[i]? = some a ∧ F a b
  | _, _, _, _, .nil, e => by cases e
  | _, _, 0, _, .cons a _, e => by
    cases e
    exact ⟨_, rfl, a⟩
  | _, _, i + 1, _, .cons _ r, e => paired_get' (i := i) r e
theorem RowAt.keep {K : PySem.W.Frag} {H H' : Hp} {vs : List V} {xs : List (Int × Int)} (h : RowAt K H vs xs) (k : Same H H') : RowAt K H' vs xs := paired_imp (fun _ _ s => s.keep k) h
theorem RowAt.deck {K : PySem.W.Frag} {H H' : Hp} {vs : List V} {xs : List (Int × Int)} {d b : Addr} {c : Int} (h : RowAt K H vs xs) (D : Deck K H d b c) (k : Kp d b H H') : RowAt K H' vs xs := paired_imp (fun _ _ s => s.deck D k) h
theorem RowAt.dp {K : PySem.W.Frag} {H : Hp} : ∀ {vs : List V} {xs : List (Int × Int)}, RowAt K H vs xs → DpAll K H vs (xs.map shD)
  | _, _, .nil => .nil
  | _, _, .cons a r => .cons a.dp (RowAt.dp r)
/-- what changes an object other than a tuple leaves the tuples -/
theorem SqT.upd_lst {K : PySem.W.Frag} {H : Hp} {a p : Addr} {xs ys : List V} {o : HO} (h : SqT K H a xs) (hp : H p = some (.lst ys)) : SqT K (upd H p o) a xs := by
  rcases h with (h | ⟨o', h⟩) | h
  · refine .inl (.inl ?_)
    rw [upd_ne (fun e => by rw [e, hp] at h; cases h)]
    exact h
  · refine .inl (.inr ⟨o', ?_⟩)
    rw [upd_ne (fun e => by rw [e, hp] at h; cases h)]
    exact h
  · exact .inr h
theorem RowAt.upd_lst {K : PySem.W.Frag} {H : Hp} {p : Addr} {vs ys : List V} {xs : List (Int × Int)} {o : HO} (h : RowAt K H vs xs) (hp : H p = some (.lst ys)) : RowAt K (upd H p o) vs xs := paired_imp (fun _ _ ⟨a, e, s⟩ => ⟨a, e, SqT.upd_lst s hp⟩) h
theorem Deck.upd {K : PySem.W.Frag} {H : Hp} {d b p : Addr} {c : Int} {ys : List V} {o : HO} (D : Deck K H d b c) (hp : H p = some (.lst ys)) (n1 : p ≠ d) (n2 : p ≠ b) : Deck K (upd H p o) d b c := by
  obtain ⟨⟨s, ns, cs, i, k, h1, h2, h3, h4⟩, n⟩ := D
  refine ⟨⟨s, ns, cs, i, k, ?_, ?_, h3.upd (.inr ⟨_, hp⟩), h4⟩, n⟩
  · rw [upd_ne (Ne.symm n1)]; exact h1
  · rw [upd_ne (Ne.symm n2)]; exact h2
theorem for_enum {K : PySem.W.Frag} {a : Addr} {xs : List V} {g : TG} {tb : TS} {D : Ends} {σ : L2.St} {H : Hp} (Pv : Nat → L2.St → Hp → Prop) (h0 : Pv 0 σ H) (hl : ∀ i σ H, i ≤ xs.length → Pv i σ H → SqL K H a xs)
    (hs : ∀ i x σ H p, xs[i]? = some x → Pv i σ H → H p = none → g (.ref p) σ (upd H p (.tup [.int (i : Nat), x])) fun σ2 H2 => tb { D with nx := Pv (i + 1), ct := Pv (i + 1), bk := D.nx } σ2 H2) (hd : ∀ σ H, Pv xs.length σ H → D.nx σ H) :
    ∃ W : Nat → Nat → L2.St → Hp → Prop, (∃ m, W 0 m σ H) ∧ ∀ i m σ H, W i m σ H →
      ((Ite K a).stop i H ∧ D.nx σ H) ∨ ((Ite K a).go i H ∧ ∃ N : L2.St → Hp → Prop, (∀ σ' H', N σ' H' → ∃ m', m' < m ∧ W (i + 1) m' σ' H') ∧ ∀ x H', (Ite K a).yld i H x H' → g x σ H' fun σ2 H2 => tb { D with nx := N, ct := N, bk := D.nx } σ2 H2) := by
  refine ⟨fun i m σ H => m = xs.length - i ∧ i ≤ xs.length ∧ Pv i σ H, ⟨xs.length, by simp, Nat.zero_le _, h0⟩, ?_⟩
  rintro i m σ H ⟨rfl, hi, p⟩
  have q := hl i σ H hi p
  by_cases hlt : i < xs.length
  · refine .inr ⟨⟨xs, xs[i], q, by simp [hlt]⟩, Pv (i + 1), fun σ' H' p' => ⟨xs.length - (i + 1), by omega, rfl, hlt, p'⟩, fun x H' y => ?_⟩
    obtain ⟨t, z, rfl, ht, rfl, y⟩ := y
    exact hs i z σ H t (y xs q) p ht
  · have e : i = xs.length := by omega
    subst e
    exact .inl ⟨⟨xs, q, Nat.le_refl _⟩, hd σ H p⟩

/-! ### order -/
def lt2 (x y : Int × Int) : Bool := decide (x.1 * y.2 < y.1 * x.2)
def ordI (x y : Int × Int) : Int := if x.1 * y.2 < y.1 * x.2 then -1 else if y.1 * x.2 < x.1 * y.2 then 1 else 0
theorem ord_lt (x y : Int × Int) : decide (ordI x y < 0) = lt2 x y := by
  unfold ordI lt2
  split
  · next h => rw [decide_eq_true h]; rfl
  · next h =>
    rw [decide_eq_false h]
    split <;> rfl
def BdP (x : Int × Int) : Prop := Bd 2000 x.1 ∧ Bd 2000 x.2
def sp_order (K : PySem.W.Frag) : Sp := fun vs H Q _ => ∃ (v v' : V) (x y : Int × Int), vs = [v, v'] ∧ ShAt K H v x ∧ ShAt K H v' y ∧ BdP x ∧ BdP y ∧ Q (.int (ordI x y)) H
theorem ok_p_order (T : Tx K mg A) : FnOk P w K mg base CX0 1 A.f_p_order A.fd_p_order ["one", "other"] (sp_order K) := by
  refine T.F_p_order.ok sc_p_order (fun vs H Q E h => ?_) (fun cdv A outer s H vs Q E hr h => ?_)
  · obtain ⟨v, v', x, y, rfl, _⟩ := h
    rfl
  · obtain ⟨_, _, x, y, rfl, ⟨a, rfl, ha⟩, ⟨b, rfl, hb⟩, bx, bY, q⟩ := h
    refine ⟨_, (pss_cons (ps_set (i := 2) sc_p_order.nd rfl (.inl rfl) (pe_op op_mulW (pe_ix ix_tup (pv 0) pe_int (fun _ _ => rfl)) (pe_ix ix_tup (pv 1) pe_int (fun _ _ => rfl))))
    (pss_cons (ps_set (i := 3) sc_p_order.nd rfl (.inl rfl) (pe_op op_mulW (pe_ix ix_tup (pv 1) pe_int (fun _ _ => rfl)) (pe_ix ix_tup (pv 0) pe_int (fun _ _ => rfl))))
    (pss_cons (ps_if (pt_cmpR op_lt (pv 2) (pv 3) (nomark _))
      (pss_one (ps_ret (pe_un un_neg pe_int)))
      pss_nil)
    (pss_cons (ps_if (pt_cmpR op_gt (pv 2) (pv 3) (nomark _))
      (pss_one (ps_ret pe_int))
      pss_nil)
    (pss_one (ps_ret pe_int)))))), ?_⟩
    refine ⟨_, rfl, a, _, 0, _, rfl, rfl, ha, rfl, _, rfl, b, _, 1, _, rfl, rfl, hb, rfl, x.1, y.2, rfl, rfl, bx.1.mulW bY.2 (by decide) (by decide), ?_⟩
    refine ⟨_, rfl, b, _, 0, _, rfl, rfl, hb, rfl, _, rfl, a, _, 1, _, rfl, rfl, ha, rfl, y.1, x.2, rfl, rfl, bY.1.mulW bx.2 (by decide) (by decide), ?_⟩
    refine ⟨_, rfl, _, rfl, _, _, rfl, rfl, _, rfl, ite2 (fun e => ?_) (fun e => ?_)⟩
    · have h := of_decide_eq_true e
      unfold ordI at q
      rw [if_pos h] at q
      exact ⟨1, rfl, q⟩
    · have h : ¬ x.1 * y.2 < y.1 * x.2 := fun z => e (decide_eq_true z)
      unfold ordI at q
      rw [if_neg h] at q
      refine ⟨_, rfl, _, rfl, _, _, rfl, rfl, _, rfl, ite2 (fun e2 => ?_) (fun e2 => ?_)⟩
      · rw [if_pos (of_decide_eq_true e2)] at q
        exact q
      · rw [if_neg (fun z => e2 (decide_eq_true z))] at q
        exact q
theorem ok_l_order (T : Tx K mg A) : FnOk P w K mg base CX0 1 A.f_l_order A.fd_l_order ["_law_one", "_law_other"] (sp_order K) := by
  refine T.F_l_order.ok sc_l_order (fun vs H Q E h => ?_) (fun cdv A outer s H vs Q E hr h => ?_)
  · obtain ⟨v, v', x, y, rfl, _⟩ := h
    rfl
  · obtain ⟨_, _, x, y, rfl, ⟨a, rfl, ha⟩, ⟨b, rfl, hb⟩, bx, bY, q⟩ := h
    refine ⟨_, (pss_cons (ps_set (i := 2) sc_l_order.nd rfl (.inl rfl) (pe_op op_mulW (pe_ix ix_tup (pv 0) pe_int (fun _ _ => rfl)) (pe_ix ix_tup (pv 1) pe_int (fun _ _ => rfl))))
    (pss_cons (ps_set (i := 3) sc_l_order.nd rfl (.inl rfl) (pe_op op_mulW (pe_ix ix_tup (pv 1) pe_int (fun _ _ => rfl)) (pe_ix ix_tup (pv 0) pe_int (fun _ _ => rfl))))
    (pss_one (ps_ret (pe_op op_sub (pe_callTy call_int1 (by rfl) T.m_int (by decide +kernel) (pa_cons (pe_cmpR op_gt (pv 2) (pv 3) (nomark _)) pa_nil)) (pe_callTy call_int1 (by rfl) T.m_int (by decide +kernel) (pa_cons (pe_cmpR op_lt (pv 2) (pv 3) (nomark _)) pa_nil))))))), ?_⟩
    refine ⟨_, rfl, a, _, 0, _, rfl, rfl, ha, rfl, _, rfl, b, _, 1, _, rfl, rfl, hb, rfl, x.1, y.2, rfl, rfl, bx.1.mulW bY.2 (by decide) (by decide), ?_⟩
    refine ⟨_, rfl, b, _, 0, _, rfl, rfl, hb, rfl, _, rfl, a, _, 1, _, rfl, rfl, ha, rfl, y.1, x.2, rfl, rfl, bY.1.mulW bx.2 (by decide) (by decide), ?_⟩
    refine ⟨_, rfl, _, rfl, _, _, rfl, rfl, .inr ⟨_, rfl, _, rfl, _, rfl, _, _, rfl, rfl, .inr ⟨_, rfl, _, _, rfl, rfl, ?_⟩⟩⟩
    have : (if decide (y.1 * x.2 < x.1 * y.2) = true then (1 : Int) else 0) - (if decide (x.1 * y.2 < y.1 * x.2) = true then 1 else 0) = ordI x y := by
      unfold ordI
      by_cases h1 : x.1 * y.2 < y.1 * x.2
      · rw [if_pos h1, decide_eq_true h1, decide_eq_false (by omega)]
        rfl
      · rw [if_neg h1, decide_eq_false h1]
        by_cases h2 : y.1 * x.2 < x.1 * y.2
        · rw [if_pos h2, decide_eq_true h2]
          rfl
        · rw [if_neg h2, decide_eq_false h2]
          rfl
    show Q (V.int (_ - _)) H
    rw [this]
    exact q
def sp_l_right (K : PySem.W.Frag) : Sp := fun vs H Q _ => ∃ (v v' : V) (x y : Int × Int), vs = [v, v'] ∧ ShAt K H v x ∧ ShAt K H v' y ∧ BdP x ∧ BdP y ∧ Q (.bl true) H
theorem ok_l_right (T : Tx K mg A) : FnOk P w K mg base CX0 2 A.f_l_right A.fd_l_right ["_law_one", "_law_other"] (sp_l_right K) := by
  refine T.F_l_right.ok sc_l_right (fun vs H Q E h => ?_) (fun cdv A outer s H vs Q E hr h => ?_)
  · obtain ⟨v, v', x, y, rfl, _⟩ := h
    rfl
  · obtain ⟨v, v', x, y, rfl, h1, h2, bx, bY, q⟩ := h
    refine ⟨_, (pss_cons (ps_set (i := 2) sc_l_right.nd rfl (.inl rfl) (pe_call (ok_p_order T) (hr.mono (by decide)) (by rfl) T.g_p_order T.F_p_order.kp T.b_p_order .nil pass0 (pa_cons (pv 0) (pa_cons (pv 1) pa_nil))))
    (pss_one (ps_ret (pe_and (pe_callB call_isi (by rfl) T.m_isinstance (by decide +kernel) (pa_cons (pv 2) (pa_cons (pe_bltn (v := .ty "int") (by rfl) T.m_int (by decide +kernel) rfl) pa_nil))) (pe_and (pe_not (pe_callB call_isi (by rfl) T.m_isinstance (by decide +kernel) (pa_cons (pv 2) (pa_cons (pe_bltn (v := .ty "bool") (by rfl) T.m_bool (by decide +kernel) rfl) pa_nil)))) (pe_one (pe_cmpR op_eq (pv 2) (pe_call (ok_l_order T) (hr.mono (by decide)) (by rfl) T.g_l_order T.F_l_order.kp T.b_l_order .nil pass0 (pa_cons (pv 0) (pa_cons (pv 1) pa_nil))) (nomark _)))))))), ?_⟩
    refine ⟨_, rfl, _, rfl, v, v', x, y, rfl, h1, h2, bx, bY, ?_⟩
    refine ⟨_, rfl, _, _, _, _, true, rfl, .ty _, .base (.int _), kit_ty (by decide +kernel), true, rfl, iteT ⟨_, rfl, _, _, _, _, false, rfl, .ty _, .base (.int _), kit_ty (by decide +kernel), false, rfl, true, rfl, iteT ⟨_, rfl, _, rfl, _, rfl, v, v', x, y, rfl, h1, h2, bx, bY, rfl, ?_⟩⟩⟩
    rw [decide_eq_true rfl]
    exact q
/-! ### the least -/
def leastF (b : Int × Int) (xs : List (Int × Int)) : Int × Int := xs.foldl (fun best one => if lt2 one best = true then one else best) b
def leastL (d : Int × Int) : List (Int × Int) → Int × Int
  | [] => d
  | x :: r => leastF x (x :: r)
theorem leastF_take {b x : Int × Int} {xs : List (Int × Int)} {i : Nat} (h : xs[i]? = some x) : leastF b (xs.take (i + 1)) = if lt2 x (leastF b (xs.take i)) = true then x else leastF b (xs.take i) := by
  unfold leastF
  rw [List.take_add_one, h, List.foldl_append]
  rfl
theorem leastF_mem (b : Int × Int) : ∀ xs : List (Int × Int), leastF b xs = b ∨ leastF b xs ∈ xs
  | [] => .inl rfl
  | x :: r => by
    show leastF (if lt2 x b = true then x else b) r = b ∨ leastF (if lt2 x b = true then x else b) r ∈ x :: r
    rcases leastF_mem (if lt2 x b = true then x else b) r with h | h
    · rw [h]
      by_cases c : lt2 x b = true
      · rw [if_pos c]; exact .inr List.mem_cons_self
      · rw [if_neg c]; exact .inl rfl
    · exact .inr (List.mem_cons_of_mem _ h)
theorem leastF_stay (b : Int × Int) : ∀ xs : List (Int × Int), (∀ x ∈ xs, lt2 x b = false) → leastF b xs = b
  | [], _ => rfl
  | x :: r, h => by
    show leastF (if lt2 x b = true then x else b) r = b
    rw [h x List.mem_cons_self, if_neg Bool.false_ne_true]
    exact leastF_stay b r fun y hy => h y (List.mem_cons_of_mem _ hy)
def sp_p_least (K : PySem.W.Frag) : Sp := fun vs H Q _ => ∃ (p : Addr) (w : V) (d : Int × Int) (us : List V) (xs : List (Int × Int)), vs = [.ref p, w] ∧ SqL K H p us ∧ RowAt K H us xs ∧ ShAt K H w d ∧ (∀ x ∈ xs, BdP x) ∧ ∀ r, ShAt K H r (leastL d xs) → Q r H
theorem ok_p_least (T : Tx K mg A) : FnOk P w K mg base CX0 2 A.f_p_least A.fd_p_least ["shares", "default"] (sp_p_least K) := by
  refine T.F_p_least.ok sc_p_least (fun vs H Q E h => ?_) (fun cdv A outer s H vs Q E hr h => ?_)
  · obtain ⟨p, w, d, us, xs, rfl, _⟩ := h
    rfl
  · obtain ⟨p, wd, d, us, xs, rfl, hP, hR, hw, hb, q⟩ := h
    refine ⟨_, PSs.nox (pss_cons (ps_if (pt_cmpR op_eq (pe_callB call_len_seq (by rfl) T.m_len (by decide +kernel) (pa_cons (pv 0) pa_nil)) pe_int (nomark _))
      (pss_one (ps_ret (pv 1)))
      pss_nil)
    (pss_cons (ps_set (i := 2) sc_p_least.nd rfl (.inl rfl) (pe_ix ix_list (pv 0) pe_int (fun _ _ => rfl)))
    (pss_cons (ps_for PassesOwn.never rfl (pi_list (pv 0)) (pg_name (i := 3) sc_p_least.nd rfl (.inl rfl))
      (pss_one (ps_if (pt_cmpR op_lt (pe_call (ok_p_order T) (hr.mono (by decide)) (by rfl) T.g_p_order T.F_p_order.kp T.b_p_order .nil pass0 (pa_cons (pv 3) (pa_cons (pv 2) pa_nil))) pe_int (nomark _))
      (pss_one (ps_set (i := 2) sc_p_least.nd rfl (.inl rfl) (pv 3)))
      pss_nil)))
    (pss_one (ps_ret (pv 2)))))), ?_⟩
    refine ⟨_, rfl, p, us, rfl, .inl hP, rfl, _, rfl, ite2 (fun e => ?_) (fun e => ?_)⟩
    · have e0 : (us.length : Int) = 0 := V.int.inj (of_decide_eq_true e)
      cases hR with
      | nil => exact ⟨_, rfl, q _ hw⟩
      | cons => rw [List.length_cons] at e0; omega
    · cases hR with
      | nil => exact absurd (decide_eq_true rfl) e
      | @cons v0 x0 us xs h0 hr0 =>
        have hR : RowAt K H (v0 :: us) (x0 :: xs) := .cons h0 hr0
        refine ⟨_, rfl, p, _, 0, v0, rfl, rfl, hP, atI_nat (j := 0) rfl, ?_⟩
        refine ⟨_, rfl, p, rfl, ⟨_, hP⟩, for_list (K := K) (a := p) (xs := v0 :: us) (fun i σ H' => ∃ r y, σ = [some (.ref p), some wd, some r, y] ∧ H' = H ∧ ShAt K H r (leastF x0 ((x0 :: xs).take i))) ⟨v0, none, rfl, rfl, h0⟩ ?_ ?_ ?_⟩
        · rintro i σ H' _ ⟨r, y, _, rfl, _⟩
          exact hP
        · rintro i v σ H' hv ⟨r, y, rfl, rfl, hr1⟩
          obtain ⟨x, hx, hvx⟩ := paired_get hR hv
          have hbx : BdP x := hb x (List.mem_of_getElem? hx)
          have hbr : BdP (leastF x0 ((x0 :: xs).take i)) := by
            rcases leastF_mem x0 ((x0 :: xs).take i) with z | z
            · rw [z]; exact hb _ List.mem_cons_self
            · exact hb _ (List.mem_of_mem_take z)
          refine ⟨_, rfl, _, rfl, v, r, x, _, rfl, hvx, hr1, hbx, hbr, _, 0, rfl, rfl, _, rfl, ?_⟩
          show if decide (ordI x (leastF x0 ((x0 :: xs).take i)) < 0) = true then _ else _
          rw [ord_lt]
          refine ite2 (fun e2 => ?_) (fun e2 => ?_)
          · refine ⟨_, rfl, _, _, rfl, rfl, ?_⟩
            rw [leastF_take hx, if_pos e2]
            exact hvx
          · refine ⟨_, _, rfl, rfl, ?_⟩
            rw [leastF_take hx, if_neg e2]
            exact hr1
        · rintro σ H' ⟨r, y, rfl, rfl, hr1⟩
          have e3 : (x0 :: xs).take (v0 :: us).length = x0 :: xs := List.take_of_length_le (by
            rw [List.length_cons, List.length_cons, Paired.length hr0]
            exact Nat.le_refl _)
          rw [e3] at hr1
          exact ⟨_, rfl, q _ hr1⟩
def sp_l_least (K : PySem.W.Frag) : Sp := fun vs H Q _ => ∃ (p : Addr) (us : List V) (x0 : Int × Int) (xs : List (Int × Int)), vs = [.ref p] ∧ SqL K H p us ∧ RowAt K H us (x0 :: xs) ∧ (∀ x ∈ x0 :: xs, BdP x) ∧ ∀ r, ShAt K H r (leastF x0 (x0 :: xs)) → Q r H
theorem ok_l_least (T : Tx K mg A) : FnOk P w K mg base CX0 2 A.f_l_least A.fd_l_least ["_law_row"] (sp_l_least K) := by
  refine T.F_l_least.ok sc_l_least (fun vs H Q E h => ?_) (fun cdv A outer s H vs Q E hr h => ?_)
  · obtain ⟨p, us, x0, xs, rfl, _⟩ := h
    rfl
  · obtain ⟨p, us, x0, xs, rfl, hP, hR, hb, q⟩ := h
    refine ⟨_, (pss_cons (ps_set (i := 1) sc_l_least.nd rfl (.inl rfl) (pe_ix ix_list (pv 0) pe_int (fun _ _ => rfl)))
    (pss_cons (ps_for PassesOwn.never rfl (pi_list (pv 0)) (pg_name (i := 2) sc_l_least.nd rfl (.inl rfl))
      (pss_one (ps_if (pt_cmpR op_lt (pe_call (ok_l_order T) (hr.mono (by decide)) (by rfl) T.g_l_order T.F_l_order.kp T.b_l_order .nil pass0 (pa_cons (pv 2) (pa_cons (pv 1) pa_nil))) pe_int (nomark _))
      (pss_one (ps_set (i := 1) sc_l_least.nd rfl (.inl rfl) (pv 2)))
      pss_nil)))
    (pss_one (ps_ret (pv 1))))), ?_⟩
    cases hR with
      | @cons v0 _ us _ h0 hr0 =>
        have hR : RowAt K H (v0 :: us) (x0 :: xs) := .cons h0 hr0
        refine ⟨_, rfl, p, _, 0, v0, rfl, rfl, hP, atI_nat (j := 0) rfl, ?_⟩
        refine ⟨_, rfl, p, rfl, ⟨_, hP⟩, for_list (K := K) (a := p) (xs := v0 :: us) (fun i σ H' => ∃ r y, σ = [some (.ref p), some r, y] ∧ H' = H ∧ ShAt K H r (leastF x0 ((x0 :: xs).take i))) ⟨v0, none, rfl, rfl, h0⟩ ?_ ?_ ?_⟩
        · rintro i σ H' _ ⟨r, y, _, rfl, _⟩
          exact hP
        · rintro i v σ H' hv ⟨r, y, rfl, rfl, hr1⟩
          obtain ⟨x, hx, hvx⟩ := paired_get hR hv
          have hbx : BdP x := hb x (List.mem_of_getElem? hx)
          have hbr : BdP (leastF x0 ((x0 :: xs).take i)) := by
            rcases leastF_mem x0 ((x0 :: xs).take i) with z | z
            · rw [z]; exact hb _ List.mem_cons_self
            · exact hb _ (List.mem_of_mem_take z)
          refine ⟨_, rfl, _, rfl, v, r, x, _, rfl, hvx, hr1, hbx, hbr, _, 0, rfl, rfl, _, rfl, ?_⟩
          show if decide (ordI x (leastF x0 ((x0 :: xs).take i)) < 0) = true then _ else _
          rw [ord_lt]
          refine ite2 (fun e2 => ?_) (fun e2 => ?_)
          · refine ⟨_, rfl, _, _, rfl, rfl, ?_⟩
            rw [leastF_take hx, if_pos e2]
            exact hvx
          · refine ⟨_, _, rfl, rfl, ?_⟩
            rw [leastF_take hx, if_neg e2]
            exact hr1
        · rintro σ H' ⟨r, y, rfl, rfl, hr1⟩
          have e3 : (x0 :: xs).take (v0 :: us).length = x0 :: xs := List.take_of_length_le (by
            rw [List.length_cons, List.length_cons, Paired.length hr0]
            exact Nat.le_refl _)
          rw [e3] at hr1
          exact ⟨_, rfl, q _ hr1⟩
/-! ### a row's share is drawn -/
def Itm (i : Nat) (x : Int × Int) : Prop := IsSh x.1 x.2 ∧ Bd (120 + 31 * i) x.1 ∧ Bd (120 + 31 * i) x.2 ∧ x.1.natAbs ≤ (big + i) * x.2.natAbs
theorem Itm.le {i j : Nat} {x : Int × Int} (h : Itm i x) (l : i ≤ j) : Itm j x := ⟨h.1, h.2.1.le (by omega), h.2.2.1.le (by omega), Nat.le_trans h.2.2.2 (Nat.mul_le_mul_right _ (by omega))⟩
theorem Itm.bd {i : Nat} {x : Int × Int} (h : Itm i x) (l : i ≤ 30) : BdP x := ⟨h.2.1.le (by omega), h.2.2.1.le (by omega)⟩
theorem big_bd {r : Int} (h : r.natAbs ≤ big) : Bd 120 r := Nat.lt_of_le_of_lt h (by decide)
theorem cross_le {t u a b : Int} {M : Nat} (hb : 0 < b.natAbs) (e : t * b = u * a) (h : a.natAbs ≤ M * b.natAbs) : t.natAbs ≤ M * u.natAbs := by
  have e2 : t.natAbs * b.natAbs = u.natAbs * a.natAbs := by
    rw [← Int.natAbs_mul, ← Int.natAbs_mul, e]
  have h2 : t.natAbs * b.natAbs ≤ (M * u.natAbs) * b.natAbs := by
    rw [e2, Nat.mul_comm M u.natAbs, Nat.mul_assoc]
    exact Nat.mul_le_mul_left _ h
  exact Nat.le_of_mul_le_mul_right h2 hb
theorem hair_le {n m h e : Int} {M : Nat} (h1 : n.natAbs ≤ M * m.natAbs) (he : e.natAbs ≤ 1) (hm : 0 < m.natAbs) (hh : 0 < h.natAbs) : (n * h + e).natAbs ≤ (M + 1) * (m * h).natAbs := by
  have a1 : (n * h + e).natAbs ≤ (n * h).natAbs + e.natAbs := Int.natAbs_add_le _ _
  have a2 : (n * h).natAbs ≤ (M * m.natAbs) * h.natAbs := by
    rw [Int.natAbs_mul]
    exact Nat.mul_le_mul_right _ h1
  have a3 : 1 ≤ (m * h).natAbs := by
    rw [Int.natAbs_mul]
    exact Nat.mul_pos hm hh
  rw [Nat.add_mul, Nat.one_mul, Int.natAbs_mul m h, ← Nat.mul_assoc]
  rw [Int.natAbs_mul] at a3
  omega
def sp_l_drawn (K : PySem.W.Frag) : Sp := fun vs H Q _ => ∃ (d b p : Addr) (c : Int) (us : List V) (xs : List (Int × Int)) (i : Nat), vs = [.ref d, .ref p] ∧ Deck K H d b c ∧ c < 800000 ∧ H p = some (.lst us) ∧ p ≠ d ∧ p ≠ b ∧ RowAt K H us xs ∧ (∀ x ∈ xs, Itm i x) ∧ i ≤ 25 ∧ us.length ≤ 30 ∧
  ∀ H' r x, Deck K H' d b (c + 30) → Kp d b H H' → H' r = some (.tup [.int x.1, .int x.2]) → Itm (i + 1) x → Q (.ref r) H'
theorem ok_l_drawn (T : Tx K mg A) : FnOk P w K mg base CX0 5 A.f_l_drawn A.fd_l_drawn ["_law_deck_here", "_law_row"] (sp_l_drawn K) := by
  refine T.F_l_drawn.ok sc_l_drawn (fun vs H Q E h => ?_) (fun cdv A outer s H vs Q E hr h => ?_)
  · obtain ⟨d, b, p, c, us, xs, i, rfl, _⟩ := h
    rfl
  · obtain ⟨d, b, p, c, us, xs, i, rfl, hD, hc, hp, n1, n2, hR, hI, hi, hul, q⟩ := h
    refine ⟨_, (pss_cons (ps_set (i := 2) sc_l_drawn.nd rfl (.inl rfl) (pe_call (ok_l_take T) (hr.mono (by decide)) (by rfl) T.g_l_take T.F_l_take.kp T.b_l_take .nil pass0 (pa_cons (pv 0) (pa_cons pe_int pa_nil))))
    (pss_cons (ps_if (PW.pt (pw_and (pt_cmpR (op_neD hr.units) (pv 1) (pe_lst pa_nil) (nomark _)) (pw_and1 (pt_cmpR op_lt (pv 2) pe_int (nomark _)))))
      (pss_cons (ps_asg (pe_ix ix_list (pv 1) (pe_call (ok_l_take T) (hr.mono (by decide)) (by rfl) T.g_l_take T.F_l_take.kp T.b_l_take .nil pass0 (pa_cons (pv 0) (pa_cons (pe_callB call_len_seq (by rfl) T.m_len (by decide +kernel) (pa_cons (pv 1) pa_nil)) pa_nil))) (fun _ _ => rfl)) (pg_tup rfl (pgs_cons (pg_name (i := 3) sc_l_drawn.nd rfl (.inl rfl)) (pgs_cons (pg_name (i := 4) sc_l_drawn.nd rfl (.inl rfl)) pgs_nil))))
    (pss_cons (ps_if (pt_cmpR op_eq (pv 2) pe_int (nomark _))
      (pss_one (ps_ret (pe_tup (pa_cons (pv 3) (pa_cons (pv 4) pa_nil)))))
      pss_nil)
    (pss_cons (ps_if (pt_cmpR op_eq (pv 2) pe_int (nomark _))
      (pss_one (ps_ret (pe_tup (pa_cons (pe_un un_neg (pv 3)) (pa_cons (pv 4) pa_nil)))))
      pss_nil)
    (pss_cons (ps_set (i := 5) sc_l_drawn.nd rfl (.inl rfl) (pe_op op_add (pe_op op_pow pe_int pe_int) (pe_call (ok_l_take T) (hr.mono (by decide)) (by rfl) T.g_l_take T.F_l_take.kp T.b_l_take .nil pass0 (pa_cons (pv 0) (pa_cons (pe_op op_pow pe_int pe_int) pa_nil)))))
    (pss_one (ps_ret (pe_call (ok_l_share T) (hr.mono (by decide)) (by rfl) T.g_l_share T.F_l_share.kp T.b_l_share .nil pass0 (pa_cons (pe_op op_add (pe_op op_mulW (pv 3) (pv 5)) (pe_ix ix_list (pe_lst (pa_cons pe_int (pa_cons (pe_un un_neg pe_int) pa_nil))) (pe_op op_sub (pv 2) pe_int) (fun _ _ => rfl))) (pa_cons (pe_op op_mulW (pv 4) (pv 5)) pa_nil)))))))))
      pss_nil)
    (pss_cons (ps_set (i := 3) sc_l_drawn.nd rfl (.inl rfl) (pe_call (ok_l_whole T) (hr.mono (by decide)) (by rfl) T.g_l_whole T.F_l_whole.kp T.b_l_whole .nil pass0 (pa_cons (pv 0) pa_nil)))
    (pss_one (ps_ret (pe_call (ok_l_share T) (hr.mono (by decide)) (by rfl) T.g_l_share T.F_l_share.kp T.b_l_share .nil pass0 (pa_cons (pv 3) (pa_cons (pe_callB (call_max2 rfl) (by rfl) T.m_max (by decide +kernel) (pa_cons pe_int (pa_cons (pe_callB call_abs (by rfl) T.m_abs (by decide +kernel) (pa_cons (pe_call (ok_l_whole T) (hr.mono (by decide)) (by rfl) T.g_l_whole T.F_l_whole.kp T.b_l_whole .nil pass0 (pa_cons (pv 0) pa_nil)) pa_nil)) pa_nil))) pa_nil)))))))), ?_⟩
    refine ⟨_, rfl, d, b, c, 6, rfl, hD, by omega, by decide, by decide, fun H1 kd D1 k1 l1 u1 => ?_⟩
    have hp1 : H1 p = some (.lst us) := k1 _ _ n1 n2 hp
    have hR1 : RowAt K H1 us xs := hR.deck hD k1
    refine ⟨_, rfl, size63 (Nat.zero_le _), fun z hz => ?_⟩
    have s1 : Same H1 (upd H1 z (.lst [])) := same_upd hz
    refine ⟨_, _, .lst (SqL.of (s1 _ _ hp1)) (hR1.keep s1).dp, .lst (SqL.of upd_same) .nil, shaped_shs xs, rfl, _, rfl, ?_⟩
    have D1' := D1.keep s1
    have k1' : Kp d b H (upd H1 z (.lst [])) := k1.trans (Kp.same s1)
    have hR1' := hR1.keep s1
    have hp1' := s1 _ _ hp1
    refine ite2 (fun e1 => ⟨_, rfl, kd, 4, rfl, rfl, _, rfl, ite2 (fun e2 => ?hit) (fun e2 => ?tail1)⟩) (fun e1 => iteF ?tail2)
    case tail1 | tail2 =>
      refine ⟨_, rfl, d, b, c + 1, rfl, D1', by omega, fun H2 r2 D2 k2 b2 => ?_⟩
      refine ⟨_, rfl, _, rfl, d, b, c + 8, rfl, D2.le (by omega), by omega, fun H3 r3 D3 k3 b3 => ?_⟩
      refine ⟨_, rfl, 1, _, rfl, ?_⟩
      obtain ⟨m, hm, hm1, hmb⟩ : ∃ m : Int, (if (if r3 < 0 then -r3 else r3) > 1 then (if r3 < 0 then -r3 else r3) else 1) = m ∧ 1 ≤ m ∧ m.natAbs ≤ big := by
        rw [abs_nat]
        refine ⟨_, rfl, ?_, ?_⟩
        · split <;> omega
        · have : (1 : Nat) ≤ big := by decide
          split <;> omega
      rw [hm]
      refine ⟨r2, m, 120, rfl, by omega, big_bd hmb, by decide, fun r t u hr0 hsh hcr ht hu => ?_⟩
      have s3 : Same H3 (upd H3 r (.tup [.int t, .int u])) := same_upd hr0
      refine q _ r (t, u) ((D3.keep s3).le (by omega)) (((k1'.trans k2).trans k3).trans (Kp.same s3)) upd_same ⟨hsh, (Bd.of_le (big_bd b2) ht).le (by omega), (Bd.of_le (big_bd hmb) hu).le (by omega), ?_⟩
      refine cross_le (by omega) hcr (Nat.le_trans b2 ?_)
      exact Nat.le_trans (Nat.le_add_right big (i + 1)) (Nat.le_mul_of_pos_right _ (by omega))
    case hit =>
      have hk : kd < 4 := of_decide_eq_true e2
      have hx0 : 0 < us.length := by
        cases hR1 with
        | nil => exact absurd e1 (by decide)
        | cons => exact Nat.succ_pos _
      refine ⟨_, rfl, _, rfl, _, rfl, p, us, rfl, .inl (SqL.of hp1'), d, b, c + 1, (us.length : Int), rfl, D1', by omega, by omega, ?_, fun H2 r2 D2 k2 l2 u2 => ?_⟩
      · exact Nat.lt_of_lt_of_le (log2_lt (k := 5) (show _ < 2 ^ 5 by omega) (by decide)) (by decide)
      · have hp2 : H2 p = some (.lst us) := k2 _ _ n1 n2 hp1'
        have hR2 : RowAt K H2 us xs := hR1'.deck D1' k2
        obtain ⟨j, rfl⟩ : ∃ j : Nat, r2 = (j : Int) := ⟨_, (Int.toNat_of_nonneg l2).symm⟩
        have hj : j < us.length := by omega
        have hv : us[j]? = some us[j] := List.getElem?_eq_getElem hj
        obtain ⟨x, hx, a, ea, hA⟩ := paired_get hR2 hv
        have hIx : Itm i x := hI x (List.mem_of_getElem? hx)
        have hk2 : Kp d b H H2 := k1'.trans k2
        refine ⟨p, us, (j : Int), us[j], rfl, rfl, SqL.of hp2, atI_nat hv, a, _, ea, hA, rfl, .int x.1, [.int x.2], rfl, .int x.2, [], rfl, rfl, ?_⟩
        refine ⟨_, rfl, rfl, _, rfl, ite2 (fun e => ?_) (fun e => ?_)⟩
        · refine ⟨_, rfl, _, rfl, size63 (show 2 ≤ 1000 by decide), fun r hr0 => ?_⟩
          exact q _ r x ((D2.keep (same_upd hr0)).le (by omega)) (hk2.trans (Kp.same (same_upd hr0))) upd_same (hIx.le (Nat.le_succ _))
        · refine ⟨_, rfl, rfl, _, rfl, ite2 (fun e' => ?_) (fun e' => ?_)⟩
          · refine ⟨_, rfl, x.1, rfl, _, rfl, size63 (show 2 ≤ 1000 by decide), fun r hr0 => ?_⟩
            refine q _ r (-x.1, x.2) ((D2.keep (same_upd hr0)).le (by omega)) (hk2.trans (Kp.same (same_upd hr0))) upd_same (Itm.le ?_ (Nat.le_succ _))
            exact ⟨⟨hIx.1.1, (gcdI_neg_l _ _).trans hIx.1.2⟩, hIx.2.1.neg, hIx.2.2.1, by rw [Int.natAbs_neg]; exact hIx.2.2.2⟩
          · have hkd : kd = 2 ∨ kd = 3 := by
              have g0 : kd ≠ 0 := fun z => e (decide_eq_true (by rw [z]))
              have g1 : kd ≠ 1 := fun z => e' (decide_eq_true (by rw [z]))
              omega
            refine ⟨10, 9, rfl, rfl, ⟨by decide, by decide, by decide⟩, _, rfl, 10, 6, rfl, rfl, ⟨by decide, by decide, by decide⟩, d, b, c + 2, 1000000, rfl, D2.le (by omega), by omega, by decide, by decide, fun H3 r3 D3 k3 l3 u3 => ?_⟩
            refine ⟨1000000000, r3, rfl, rfl, ?_⟩
            have hh : Bd 30 (1000000000 + r3) := by
              unfold Bd
              have : (2 : Nat) ^ 30 = 1073741824 := by decide
              omega
            refine ⟨_, rfl, _, rfl, x.1, 1000000000 + r3, rfl, rfl, hIx.2.1.mulW hh (by omega) (by decide), 1, rfl, size63 (show 2 ≤ 1000 by decide), fun z2 hz2 => ?_⟩
            obtain ⟨g, hg1, hg2⟩ : ∃ g : Int, g.natAbs ≤ 1 ∧ atI [V.int 1, V.int (-1)] (kd - 2) = some (.int g) := by
              rcases hkd with rfl | rfl
              · exact ⟨1, by decide, rfl⟩
              · exact ⟨-1, by decide, rfl⟩
            have s3 : Same H3 (upd H3 z2 (.lst [V.int 1, V.int (-1)])) := same_upd hz2
            refine ⟨_, rfl, kd, 2, rfl, rfl, z2, _, kd - 2, .int g, rfl, rfl, SqL.of upd_same, hg2, _, g, rfl, rfl, ?_⟩
            refine ⟨_, rfl, _, rfl, x.2, 1000000000 + r3, rfl, rfl, hIx.2.2.1.mulW hh (by omega) (by decide), ?_⟩
            have hx2 : 1 ≤ x.2 := hIx.1.1
            have hb2 : Bd (120 + 31 * i + 30) (x.2 * (1000000000 + r3)) := hIx.2.2.1.mul hh
            have hpos : 0 < x.2 * (1000000000 + r3) := Int.mul_pos (by omega) (by omega)
            refine ⟨_, _, 120 + 31 * i + 30, rfl, by omega, hb2, by omega, fun r t u hr0 hsh hcr ht hu => ?_⟩
            have s4 : Same (upd H3 z2 (.lst [V.int 1, V.int (-1)])) (upd (upd H3 z2 (.lst [V.int 1, V.int (-1)])) r (.tup [.int t, .int u])) := same_upd hr0
            have hb1 : Bd (120 + 31 * i + 30 + 1) (x.1 * (1000000000 + r3) + g) := (hIx.2.1.mul hh).add (Nat.lt_of_le_of_lt hg1 (Nat.one_lt_two_pow (by omega)))
            refine q _ r (t, u) (((D3.keep s3).keep s4).le (by omega)) (((hk2.trans k3).trans (Kp.same s3)).trans (Kp.same s4)) upd_same ⟨hsh, (hb1.of_le ht).le (by omega), (hb2.of_le hu).le (by omega), ?_⟩
            exact cross_le (by omega) hcr (hair_le hIx.2.2.2 hg1 (by omega) (by omega))
/-! CUT -/
/-! ### the law -/
def sp_law (K : PySem.W.Frag) : Sp := fun vs H Q _ => ∃ (a : Addr) (ns : List Int), vs = [.ref a] ∧ Only H ∧ SqL K H a (ns.map V.int) ∧ ns.length ≤ 63 ∧ ∀ H', Q (.bl true) H'
theorem pick {α : Type} {xs : List α} {r : Int} (h0 : 0 ≤ r) (h1 : r < (xs.length : Int)) : ∃ v, v ∈ xs ∧ atI xs r = some v := by
  obtain ⟨j, rfl⟩ : ∃ j : Nat, r = (j : Int) := ⟨_, (Int.toNat_of_nonneg h0).symm⟩
  have hj : j < xs.length := by omega
  exact ⟨xs[j], List.getElem_mem hj, atI_nat (List.getElem?_eq_getElem hj)⟩
theorem iteNE {b : Bool} {A B : Prop} (h : b = true) (g : B) : if (!b) = true then A else B := by
  rw [h]
  exact iteF g
theorem far_low {i : Nat} {x : Int × Int} (h : Itm i x) (l : i ≤ 30) : lt2 x (-10 ^ Int.toNat 60 * 10 ^ Int.toNat 20, 1) = false := by
  unfold lt2
  refine decide_eq_false fun z => ?_
  have z2 : x.1 * 1 < (-10 ^ Int.toNat 60 * 10 ^ Int.toNat 20) * x.2 := z
  have e1 : (-10 ^ Int.toNat 60 * 10 ^ Int.toNat 20 : Int) = -100000000000000000000000000000000000000000000000000000000000000000000000000000000 := by decide +kernel
  rw [e1] at z2
  have h1 := h.1.1
  have h2 := h.2.2.2
  have h3 : x.1.natAbs ≤ (big + 30) * x.2.natAbs := Nat.le_trans h2 (Nat.mul_le_mul_right _ (by omega))
  have e2 : big + 30 = 100000000000000000000000000000030 := by decide +kernel
  rw [e2] at h3
  omega
theorem ok_law (T : Tx K mg A) : FnOk P w K mg base CX0 6 A.f_law A.fd_law ["_law_script"] (sp_law K) := by
  refine T.F_law.ok sc_law (fun vs H Q E h => ?_) (fun cdv Ar outer s H vs Q E hr h => ?_)
  · obtain ⟨a, ns, rfl, _⟩ := h
    rfl
  · obtain ⟨a, ns, rfl, hO, hS, hlen, q⟩ := h
    refine ⟨_, (pss_cons (ps_set (i := 1) sc_law.nd rfl (.inl rfl) (pe_call (ok_l_deck T) (hr.mono (by decide)) (by rfl) T.g_l_deck T.F_l_deck.kp T.b_l_deck .nil pass0 (pa_cons (pv 0) pa_nil)))
    (pss_cons (ps_set (i := 2) sc_law.nd rfl (.inl rfl) (pe_ix ix_list (pe_lst (pa_cons pe_int (pa_cons pe_int (pa_cons pe_int (pa_cons pe_int (pa_cons pe_int (pa_cons (pe_call (ok_l_take T) (hr.mono (by decide)) (by rfl) T.g_l_take T.F_l_take.kp T.b_l_take .nil pass0 (pa_cons (pv 1) (pa_cons pe_int pa_nil))) pa_nil))))))) (pe_call (ok_l_take T) (hr.mono (by decide)) (by rfl) T.g_l_take T.F_l_take.kp T.b_l_take .nil pass0 (pa_cons (pv 1) (pa_cons pe_int pa_nil))) (fun _ _ => rfl)))
    (pss_cons (ps_set (i := 3) sc_law.nd rfl (.inl rfl) (pe_ix ix_list (pe_lst (pa_cons (pe_tup (pa_cons pe_int (pa_cons pe_int pa_nil))) (pa_cons (pe_tup (pa_cons (pe_un un_neg (pe_op op_pow pe_int pe_int)) (pa_cons pe_int pa_nil))) (pa_cons (pe_tup (pa_cons pe_int (pa_cons pe_int pa_nil))) (pa_cons (pe_tup (pa_cons (pe_op op_pow pe_int pe_int) (pa_cons pe_int pa_nil))) pa_nil))))) (pe_call (ok_l_take T) (hr.mono (by decide)) (by rfl) T.g_l_take T.F_l_take.kp T.b_l_take .nil pass0 (pa_cons (pv 1) (pa_cons pe_int pa_nil))) (fun _ _ => rfl)))
    (pss_cons (ps_set (i := 4) sc_law.nd rfl (.inl rfl) (pe_lst pa_nil))
    (pss_cons (ps_for PassesOwn.never rfl (pi_range1 (by rfl) T.m_range (pa_cons (pv 2) pa_nil)) (pg_name (i := 5) sc_law.nd rfl (.inl rfl))
      (pss_one (ps_expr (pe_bm PySem.F.plainAttrs_list PySem.F.slot_list_append PySem.F.type_list_append mt_append (pv 4) (pa_cons (pe_call (ok_l_drawn T) (hr.mono (by decide)) (by rfl) T.g_l_drawn T.F_l_drawn.kp T.b_l_drawn .nil pass0 (pa_cons (pv 1) (pa_cons (pv 4) pa_nil))) pa_nil)))))
    (pss_cons (ps_for PassesOwn.never rfl (pi_enum (by rfl) T.m_enumerate (pa_cons (pv 4) pa_nil)) (pg_tup rfl (pgs_cons (pg_name (i := 6) sc_law.nd rfl (.inl rfl)) (pgs_cons (pg_name (i := 7) sc_law.nd rfl (.inl rfl)) pgs_nil)))
      (pss_cons (ps_set (i := 8) sc_law.nd rfl (.inl rfl) (pe_ix ix_list (pv 4) (pe_op op_mod (pe_op op_add (pv 6) pe_int) (pv 2)) (fun _ _ => rfl)))
    (pss_one (ps_if (PW.pt (pw_or (pt_not (pt_val (pe_call (ok_l_right T) (hr.mono (by decide)) (by rfl) T.g_l_right T.F_l_right.kp T.b_l_right .nil pass0 (pa_cons (pv 7) (pa_cons (pv 8) pa_nil))))) (pw_or (pt_not (pt_val (pe_call (ok_l_right T) (hr.mono (by decide)) (by rfl) T.g_l_right T.F_l_right.kp T.b_l_right .nil pass0 (pa_cons (pv 8) (pa_cons (pv 7) pa_nil))))) (pw_or1 (pt_not (pt_val (pe_call (ok_l_right T) (hr.mono (by decide)) (by rfl) T.g_l_right T.F_l_right.kp T.b_l_right .nil pass0 (pa_cons (pv 7) (pa_cons (pv 7) pa_nil)))))))))
      (pss_one (ps_ret pe_bl))
      pss_nil))))
    (pss_cons (ps_set (i := 9) sc_law.nd rfl (.inl rfl) (pe_callTy call_list_of (by rfl) T.m_list (by decide +kernel) (pa_cons (pv 4) pa_nil)))
    (pss_cons (ps_set (i := 10) sc_law.nd rfl (.inl rfl) (pe_lst (pa_cons (pe_call (dvs := [V.ref A.n_NOUGHT]) (ok_p_least T) (hr.mono (by decide)) (by rfl) T.g_p_least T.F_p_least.kp T.b_p_least (.cons rfl .nil) pass0 (pa_cons (pv 9) pa_nil)) (pa_cons (pe_callN (ok_p_least T) (hr.mono (by decide)) (by rfl) T.g_p_least T.F_p_least.kp T.kb_p_least pass0 (pa_cons (pv 9) pa_nil) (pk_cons (pv 3) pk_nil)) (pa_cons (pe_call (dvs := [V.ref A.n_NOUGHT]) (ok_p_least T) (hr.mono (by decide)) (by rfl) T.g_p_least T.F_p_least.kp T.b_p_least (.cons rfl .nil) pass0 (pa_cons (pe_lst pa_nil) pa_nil)) (pa_cons (pe_callN (ok_p_least T) (hr.mono (by decide)) (by rfl) T.g_p_least T.F_p_least.kp T.kb_p_least pass0 (pa_cons (pe_lst pa_nil) pa_nil) (pk_cons (pv 3) pk_nil)) pa_nil))))))
    (pss_cons (ps_set (i := 11) sc_law.nd rfl (.inl rfl) (pe_lst (pa_cons (pe_tup (pa_cons pe_int (pa_cons pe_int pa_nil))) (pa_cons (pv 3) (pa_cons (pe_tup (pa_cons pe_int (pa_cons pe_int pa_nil))) (pa_cons (pv 3) pa_nil))))))
    (pss_cons (ps_if (pt_cmpR op_gt (pv 2) pe_int (nomark _))
      (pss_one (ps_set (i := 11) sc_law.nd rfl (.inl rfl) (pe_op op_cat (pe_lst (pa_cons (pe_call (ok_l_least T) (hr.mono (by decide)) (by rfl) T.g_l_least T.F_l_least.kp T.b_l_least .nil pass0 (pa_cons (pv 4) pa_nil)) (pa_cons (pe_call (ok_l_least T) (hr.mono (by decide)) (by rfl) T.g_l_least T.F_l_least.kp T.b_l_least .nil pass0 (pa_cons (pv 4) pa_nil)) pa_nil))) (pe_slice sl_list (pv 11) (po_some pe_int) po_none))))
      pss_nil)
    (pss_cons (ps_if (PW.pt (pw_or (pt_cmpR (op_neD hr.units) (pv 9) (pv 4) (nomark _)) (pw_or (pt_not (pt_val (pe_callB (cr_all rfl) (by rfl) T.m_all (by decide +kernel) (pa_cons (pe_lc (own := [("_law_one", 7)]) rfl sc_law.nd (pi_list (pv 10)) (blkOk_by (own := [("_law_one", 7)]) (N := ["_law_script", "_law_deck_here", "_law_many", "_law_spare", "_law_row", "_law_turn", "_law_k", "_law_one", "_law_other", "_law_handed", "_law_found", "_law_due", "_law_far"]) (sc := defScope s_law) (by decide +kernel)) (fun _ _ _ _ _ => (pg_name (i := 7) sc_law.nd rfl (Or.inl rfl))) (fun _ _ _ _ _ => pts_nil) (fun _ _ _ _ _ => (pe_call (ok_l_is_share T) (hr.mono (by decide)) (by rfl) T.g_l_is_share T.F_l_is_share.kp T.b_l_is_share .nil pass0 (pa_cons (pv 7) pa_nil)))) pa_nil)))) (pw_or1 (pt_cmpR (op_neD hr.units) (pv 10) (pv 11) (nomark _))))))
      (pss_one (ps_ret pe_bl))
      pss_nil)
    (pss_cons (ps_if (pt_cmpR op_eq (pv 2) pe_int (nomark _))
      (pss_one (ps_ret pe_bl))
      pss_nil)
    (pss_cons (ps_set (i := 12) sc_law.nd rfl (.inl rfl) (pe_tup (pa_cons (pe_op op_mulW (pe_un un_neg (pe_op op_pow pe_int pe_int)) (pe_op op_pow pe_int pe_int)) (pa_cons pe_int pa_nil))))
    (pss_cons (ps_asg (pv 12) (pg_sub (pv 9) pe_int set_list))
    (pss_one (ps_ret (pe_and (pe_cmpR (op_eqD hr.units) (pe_call (dvs := [V.ref A.n_NOUGHT]) (ok_p_least T) (hr.mono (by decide)) (by rfl) T.g_p_least T.F_p_least.kp T.b_p_least (.cons rfl .nil) pass0 (pa_cons (pv 9) pa_nil)) (pv 12) (nomark _)) (pe_one (pe_cmpR (op_eqD hr.units) (pe_call (dvs := [V.ref A.n_NOUGHT]) (ok_p_least T) (hr.mono (by decide)) (by rfl) T.g_p_least T.F_p_least.kp T.b_p_least (.cons rfl .nil) pass0 (pa_cons (pv 4) pa_nil)) (pe_ix ix_list (pv 11) pe_int (fun _ _ => rfl)) (nomark _)))))))))))))))))))), ?_⟩
    refine ⟨_, rfl, a, ns, rfl, .mk hO hS, hlen, fun H1 d b hd hb D1 k1 => ?_⟩
    -- many
    refine ⟨_, rfl, d, b, 0, 25, rfl, D1, by decide, by decide, by decide, fun H2 r2 D2 k2 l2 u2 => ?_⟩
    refine ⟨size63 (show 6 ≤ 1000 by decide), fun p1 hp1 => ?_⟩
    have s2 := same_upd (o := .lst [V.int 0, V.int 1, V.int 2, V.int 5, V.int 24, V.int r2]) hp1
    refine ⟨_, rfl, d, b, 1, 6, rfl, D2.keep s2, by decide, by decide, by decide, fun H3 r3 D3 k3 l3 u3 => ?_⟩
    have e3 : H3 p1 = some (.lst [V.int 0, V.int 1, V.int 2, V.int 5, V.int 24, V.int r2]) := k3 _ _ (D2.ne_d hp1) (D2.ne_b hp1) upd_same
    obtain ⟨n, hn, hat⟩ : ∃ n : Nat, n ≤ 24 ∧ atI [V.int 0, V.int 1, V.int 2, V.int 5, V.int 24, V.int r2] r3 = some (.int (n : Int)) := by
      obtain rfl | rfl | rfl | rfl | rfl | rfl : r3 = 0 ∨ r3 = 1 ∨ r3 = 2 ∨ r3 = 3 ∨ r3 = 4 ∨ r3 = 5 := by omega
      · exact ⟨0, by omega, rfl⟩
      · exact ⟨1, by omega, rfl⟩
      · exact ⟨2, by omega, rfl⟩
      · exact ⟨5, by omega, rfl⟩
      · exact ⟨24, by omega, rfl⟩
      · refine ⟨r2.toNat, by omega, ?_⟩
        rw [Int.toNat_of_nonneg l2]
        rfl
    refine ⟨p1, _, r3, _, rfl, rfl, SqL.of e3, hat, ?_⟩
    -- spare
    refine ⟨size63 (show 2 ≤ 1000 by decide), fun a1 f1 => ?_⟩
    have t1 := same_upd (o := .tup [V.int 0, V.int 1]) f1
    refine ⟨10, 60, rfl, rfl, ⟨by decide, by decide, by decide⟩, _, rfl, size63 (show 2 ≤ 1000 by decide), fun a2 f2 => ?_⟩
    have t2 := same_upd (o := .tup [V.int (-10 ^ Int.toNat 60), V.int 1]) f2
    refine ⟨size63 (show 2 ≤ 1000 by decide), fun a3 f3 => ?_⟩
    have t3 := same_upd (o := .tup [V.int 1, V.int 7]) f3
    refine ⟨10, 60, rfl, rfl, ⟨by decide, by decide, by decide⟩, size63 (show 2 ≤ 1000 by decide), fun a4 f4 => ?_⟩
    have t4 := same_upd (o := .tup [V.int (10 ^ Int.toNat 60), V.int 3]) f4
    refine ⟨size63 (show 4 ≤ 1000 by decide), fun a5 f5 => ?_⟩
    have t5 := same_upd (o := .lst [V.ref a1, V.ref a2, V.ref a3, V.ref a4]) f5
    refine ⟨_, rfl, d, b, 2, 4, rfl, ((((D3.keep t1).keep t2).keep t3).keep t4).keep t5, by decide, by decide, by decide, fun H4 r4 D4 k4 l4 u4 => ?_⟩
    have D3' := (((D3.keep t1).keep t2).keep t3).keep t4
    have e5 : H4 a5 = some (.lst [V.ref a1, V.ref a2, V.ref a3, V.ref a4]) := k4 _ _ (D3'.ne_d f5) (D3'.ne_b f5) upd_same
    obtain ⟨sp, x, hat4, hsp, hxs⟩ : ∃ (sp : V) (x : Int × Int), atI [V.ref a1, V.ref a2, V.ref a3, V.ref a4] r4 = some sp ∧ ShAt K H4 sp x ∧ IsSh x.1 x.2 := by
      have D5 := D3'.keep t5
      obtain rfl | rfl | rfl | rfl : r4 = 0 ∨ r4 = 1 ∨ r4 = 2 ∨ r4 = 3 := by omega
      · exact ⟨_, (0, 1), rfl, ⟨a1, rfl, .inl (.inl (D5.tup k4 (t5 _ _ (t4 _ _ (t3 _ _ (t2 _ _ upd_same))))))⟩, by decide⟩
      · exact ⟨_, (-10 ^ Int.toNat 60, 1), rfl, ⟨a2, rfl, .inl (.inl (D5.tup k4 (t5 _ _ (t4 _ _ (t3 _ _ upd_same)))))⟩, by decide +kernel⟩
      · exact ⟨_, (1, 7), rfl, ⟨a3, rfl, .inl (.inl (D5.tup k4 (t5 _ _ (t4 _ _ upd_same))))⟩, by decide⟩
      · exact ⟨_, (10 ^ Int.toNat 60, 3), rfl, ⟨a4, rfl, .inl (.inl (D5.tup k4 (t5 _ _ upd_same)))⟩, by decide +kernel⟩
    refine ⟨a5, _, r4, sp, rfl, rfl, SqL.of e5, hat4, ?_⟩
    -- the row
    refine ⟨size63 (Nat.zero_le _), fun p hp => ?_⟩
    have s5 := same_upd (o := .lst []) hp
    have np1 : p ≠ d := D4.ne_d hp
    have np2 : p ≠ b := D4.ne_b hp
    refine ⟨_, rfl, (n : Int), rfl, by omega, by omega, for_range (n := n) (fun i σ H' => ∃ (us : List V) (xs : List (Int × Int)) (y : Option V), σ = [some (.ref a), some (.ref d), some (.int (n : Int)), some sp, some (.ref p), y, none, none, none, none, none, none, none] ∧ Deck K H' d b (3 + 30 * i) ∧ H' p = some (.lst us) ∧ RowAt K H' us xs ∧ (∀ x ∈ xs, Itm i x) ∧ us.length = i ∧ ShAt K H' sp x) ?_ ?_ ?_⟩
    · exact ⟨[], [], none, rfl, (D4.keep s5).le (by omega), upd_same, .nil, (fun x hx => by cases hx), rfl, hsp.keep s5⟩
    · rintro i σ H' hi ⟨us, xs, y, rfl, D', hp', hR', hI', hl', hs'⟩
      refine ⟨_, rfl, .inl ⟨rfl, _, SqL.of hp'⟩, _, rfl, _, rfl, d, b, p, _, us, xs, i, rfl, D', by omega, hp', np1, np2, hR', hI', by omega, by omega, fun H6 r x6 D6 k6 hr6 hI6 => ?_⟩
      have hp6 : H6 p = some (.lst us) := k6 _ _ np1 np2 hp'
      refine ⟨p, us, _, rfl, rfl, hp6, small1000 (by omega), us ++ [.ref r], xs ++ [x6], _, rfl, (D6.upd hp6 np1 np2).le (by omega), upd_same, ?_, ?_, by rw [List.length_append, hl']; rfl, ?_⟩
      · exact Paired.snoc (RowAt.upd_lst (hR'.deck D' k6) hp6) ⟨r, rfl, SqT.upd_lst (.inl (.inl hr6)) hp6⟩
      · intro z hz
        rcases List.mem_append.mp hz with hz | hz
        · exact (hI' z hz).le (Nat.le_succ _)
        · rw [List.mem_singleton.mp hz]; exact hI6
      · obtain ⟨a6, e6, h6⟩ := hs'.deck D' k6
        exact ⟨a6, e6, SqT.upd_lst h6 hp6⟩
    · rintro σ H5 ⟨us, xs, y, rfl, D5, hp5, hR5, hI5, hl5, hs5⟩
      have hbd : ∀ z ∈ xs, BdP z := fun z hz => (hI5 z hz).bd (by omega)
      have hxl : xs.length = n := by rw [← Paired.length hR5, hl5]
      -- each two neighbours
      refine ⟨_, rfl, p, us, rfl, SqL.of hp5, for_enum (K := K) (a := p) (xs := us) (fun i σ H' => ∃ y z u v, σ = [some (.ref a), some (.ref d), some (.int (n : Int)), some sp, some (.ref p), y, z, u, v, none, none, none, none] ∧ Same H5 H') ⟨_, _, _, _, rfl, Same.refl _⟩ ?_ ?_ ?_⟩
      · rintro i σ H' _ ⟨y, z, u, v, _, k'⟩
        exact SqL.of (k' _ _ hp5)
      · rintro i v σ H' t hv ⟨y, z, u, v', rfl, k'⟩ ht
        have k7 : Same H5 (upd H' t (.tup [.int (i : Nat), v])) := k'.trans (same_upd ht)
        have hi : i < us.length := (List.getElem?_eq_some_iff.mp hv).1
        refine ⟨t, _, rfl, .inl (.inl upd_same), rfl, _, _, rfl, _, _, rfl, rfl, ?_⟩
        have hm0 : 0 ≤ ((i : Int) + 1) % (n : Int) := Int.emod_nonneg _ (by omega)
        have hm1 : ((i : Int) + 1) % (n : Int) < (n : Int) := Int.emod_lt_of_pos _ (by omega)
        obtain ⟨j, hj⟩ : ∃ j : Nat, (j : Int) = ((i : Int) + 1) % (n : Int) := ⟨_, Int.toNat_of_nonneg hm0⟩
        have hj2 : j < us.length := by omega
        have hg : us[j]? = some us[j] := List.getElem?_eq_getElem hj2
        obtain ⟨x1, hx1, hs1⟩ := paired_get (hR5.keep k7) hv
        obtain ⟨x2, hx2, hs2⟩ := paired_get (hR5.keep k7) hg
        have b1 := hbd x1 (List.mem_of_getElem? hx1)
        have b2 := hbd x2 (List.mem_of_getElem? hx2)
        refine ⟨_, rfl, _, rfl, (i : Int), 1, rfl, rfl, _, rfl, (i : Int) + 1, (n : Int), rfl, rfl, (show (0 : Int) < n by omega), p, us, _, us[j], rfl, rfl, SqL.of (k7 _ _ hp5), (by rw [← hj]; exact atI_nat hg), ?_⟩
        refine ⟨_, rfl, _, rfl, v, us[j], x1, x2, rfl, hs1, hs2, b1, b2, true, rfl, iteF ⟨_, rfl, _, rfl, us[j], v, x2, x1, rfl, hs2, hs1, b2, b1, true, rfl, iteF ⟨_, rfl, _, rfl, v, v, x1, x1, rfl, hs1, hs1, b1, b1, true, rfl, iteF ⟨_, _, _, _, rfl, k7⟩⟩⟩⟩
      · rintro σ H6 ⟨y, z, u, v', rfl, k6⟩
        have hp6 := k6 _ _ hp5
        have hR6 := hR5.keep k6
        have hs6 := hs5.keep k6
        refine ⟨_, rfl, p, us, rfl, .inl (SqL.of hp6), fun l hl => ?_⟩
        generalize hG7 : upd _ l _ = G7
        obtain ⟨s7, el⟩ := alloc hG7 hl
        have hR7 := hR6.keep s7
        have hs7 := hs6.keep s7
        refine ⟨_, rfl, l, .ref A.n_NOUGHT, (0, 1), us, xs, rfl, SqL.of el, hR7, ⟨_, rfl, T.t_NOUGHT _⟩, hbd, fun r1 g1 => ?_⟩
        refine ⟨_, rfl, _, rfl, rfl, rfl, l, sp, x, us, xs, rfl, SqL.of el, hR7, hs7, hbd, fun r2 g2 => ?_⟩
        refine ⟨size63 (Nat.zero_le _), fun z1 f1 => ?_⟩
        generalize hGa : upd _ z1 _ = Ga
        obtain ⟨sa, ea⟩ := alloc hGa f1
        refine ⟨z1, .ref A.n_NOUGHT, (0, 1), [], [], rfl, SqL.of ea, .nil, ⟨_, rfl, T.t_NOUGHT _⟩, (fun _ h => by cases h), fun r3 g3 => ?_⟩
        refine ⟨size63 (Nat.zero_le _), fun z2 f2 => ?_⟩
        generalize hGb : upd _ z2 _ = Gb
        obtain ⟨sb, eb⟩ := alloc hGb f2
        refine ⟨_, rfl, rfl, rfl, z2, sp, x, [], [], rfl, SqL.of eb, .nil, (hs7.keep sa).keep sb, (fun _ h => by cases h), fun r4 g4 => ?_⟩
        refine ⟨size63 (show 4 ≤ 1000 by decide), fun l2 f3 => ?_⟩
        generalize hGc : upd _ l2 _ = Gc
        obtain ⟨sc, ec⟩ := alloc hGc f3
        refine ⟨size63 (show 2 ≤ 1000 by decide), fun c1 f4 => ?_⟩
        generalize hGd : upd _ c1 _ = Gd
        obtain ⟨sd, ed⟩ := alloc hGd f4
        refine ⟨_, rfl, size63 (show 2 ≤ 1000 by decide), fun c2 f5 => ?_⟩
        generalize hGe : upd _ c2 _ = Ge
        obtain ⟨se, ee⟩ := alloc hGe f5
        refine ⟨_, rfl, size63 (show 4 ≤ 1000 by decide), fun l3 f6 => ?_⟩
        generalize hGf : upd _ l3 _ = Gf
        obtain ⟨sf, ef⟩ := alloc hGf f6
        have sdf := (sd.trans se).trans sf
        have hl28f := sdf _ _ ec
        have g1' := g1.keep (((sa.trans sb).trans sc).trans sdf)
        have g2' := g2.keep (((sa.trans sb).trans sc).trans sdf)
        have g3' := g3.keep ((sb.trans sc).trans sdf)
        have g4' := g4.keep (sc.trans sdf)
        have hcc1 : ShAt K Gf (.ref c1) (0, 1) := ⟨c1, rfl, .inl (.inl (sf _ _ (se _ _ ed)))⟩
        have hcc2 : ShAt K Gf (.ref c2) (0, 1) := ⟨c2, rfl, .inl (.inl (sf _ _ ee))⟩
        have kf : Same H5 Gf := (((((k6.trans s7).trans sa).trans sb).trans sc).trans sdf)
        have elf : Gf l = some (.lst us) := (((sa.trans sb).trans sc).trans sdf) _ _ el
        have hsf : ShAt K Gf sp x := hs5.keep kf
        have hmem : ∀ z ∈ xs, IsSh z.1 z.2 := fun z hz => (hI5 z hz).1
        refine ⟨_, rfl, (n : Int), 0, rfl, rfl, _, rfl, ite2 (fun e => ?_) (fun e => ?_)⟩
        · have hn0 : 0 < n := by
            have := of_decide_eq_true e
            omega
          obtain ⟨x0, xr, rfl⟩ : ∃ x0 xr, xs = x0 :: xr := by
            cases xs with
            | nil => rw [List.length_nil] at hxl; omega
            | cons x0 xr => exact ⟨x0, xr, rfl⟩
          refine ⟨_, rfl, p, us, x0, xr, rfl, SqL.of (kf _ _ hp5), hR5.keep kf, hbd, fun r5 g5 => ?_⟩
          refine ⟨_, rfl, p, us, x0, xr, rfl, SqL.of (kf _ _ hp5), hR5.keep kf, hbd, fun r6 g6 => ?_⟩
          refine ⟨size63 (show 2 ≤ 1000 by decide), fun l4 f7 => ?_⟩
          generalize hGg : upd _ l4 _ = Gg
          obtain ⟨sg, eg⟩ := alloc hGg f7
          refine ⟨_, rfl, 2, rfl, l3, _, rfl, SqL.of (sg _ _ ef), fun l5 f8 => ?_⟩
          generalize hGh : upd _ l5 _ = Gh
          obtain ⟨sh, eh⟩ := alloc hGh f8
          refine ⟨l4, l5, _, _, rfl, rfl, sh _ _ eg, eh, size63 (show 4 ≤ 1000 by decide), fun l6 f9 => ?_⟩
          generalize hG8 : upd _ l6 _ = H8
          obtain ⟨si, hdue⟩ := alloc hG8 f9
          have sgi := (sg.trans sh).trans si
          have k8 : Same H5 H8 := kf.trans sgi
          have hl28 : H8 l2 = some (.lst [r1, r2, r3, r4]) := sgi _ _ hl28f
          obtain ⟨ds8, hds8⟩ : ∃ ds8, ds8 = [leastF x0 (x0 :: xr), leastF x0 (x0 :: xr), (0, 1), x] := ⟨_, rfl⟩
          have hlm : IsSh (leastF x0 (x0 :: xr)).1 (leastF x0 (x0 :: xr)).2 := by
            rcases leastF_mem x0 (x0 :: xr) with z | z
            · rw [z]; exact hmem _ List.mem_cons_self
            · exact hmem _ z
          have hF8 : RowAt K H8 [r1, r2, r3, r4] ds8 := by rw [hds8]; exact .cons (g1'.keep sgi) (.cons (g2'.keep sgi) (.cons (g3'.keep sgi) (.cons (g4'.keep sgi) .nil)))
          have hsh8 : ∀ z ∈ ds8, IsSh z.1 z.2 := by
            rw [hds8]
            intro z hz
            simp only [List.mem_cons, List.not_mem_nil, or_false] at hz
            rcases hz with rfl | rfl | rfl | rfl
            · exact hlm
            · exact hlm
            · decide
            · exact hxs
          refine ⟨_, rfl, _, rfl, _, _, .lst (SqL.of (sgi _ _ elf)) (hR5.keep k8).dp, .lst (SqL.of (k8 _ _ hp5)) (hR5.keep k8).dp, shaped_shs _, shaped_shs _, _, rfl, iteNE (eqv_shs _) ?_⟩
          refine ⟨_, rfl, l2, rfl, ⟨_, SqL.of hl28⟩, fun Dl hDl => lc_list (K := K) (a := l2) (xs := [r1, r2, r3, r4]) (fun i H' => Same H8 H' ∧ H' Dl = some (.lst ((List.replicate i true).map V.bl))) ?_ ?_ ?_ ?_⟩
          · exact ⟨same_upd hDl, upd_same⟩
          · rintro i H' _ ⟨k', _⟩
            exact SqL.of (k' _ _ hl28)
          · rintro i v H' hv ⟨k', hD'⟩
            obtain ⟨z, hz, az, rfl, hAz⟩ := paired_get (hF8.keep k') hv
            have hzs := hsh8 z (List.mem_of_getElem? hz)
            refine ⟨rfl, _, rfl, az, z.1, z.2, rfl, hAz, _, hD', small1000 ?_, ?_, ?_⟩
            · have : i < 4 := (List.getElem?_eq_some_iff.mp hv).1
              rw [List.length_map, List.length_replicate]
              omega
            · intro b' o' h'
              rw [upd_ne (ne_of_none h' hDl)]
              exact k' _ _ h'
            · rw [upd_same, decide_eq_true hzs, List.replicate_succ', List.map_append]
              rfl
          · rintro H9 ⟨k9, hD9⟩
            refine ⟨Dl, _, rfl, SqL.of hD9, true, rfl, iteF ?_⟩
            refine ⟨_, rfl, _, rfl, _, _, .lst (SqL.of (k9 _ _ hl28)) (hF8.keep k9).dp, .lst (SqL.of (k9 _ _ hdue)) (by rw [hds8]; exact .cons (g5.keep (sgi.trans k9)).dp (.cons (g6.keep (sgi.trans k9)).dp (.cons (hcc2.keep (sgi.trans k9)).dp (.cons (hsf.keep (sgi.trans k9)).dp .nil)))), shaped_shs ds8, shaped_shs ds8, _, rfl, iteNE (eqv_shs ds8) ?_⟩
            have hnn : (n : Int) ≠ 0 := by omega
            refine ⟨_, rfl, rfl, _, rfl, ite2 (fun e => absurd (V.int.inj (of_decide_eq_true e)) hnn) (fun _ => ?_)⟩
            -- one that is far below comes in
            refine ⟨10, 60, rfl, rfl, ⟨by decide, by decide, by decide⟩, _, rfl, 10, 20, rfl, rfl, ⟨by decide, by decide, by decide⟩, _, _, rfl, rfl, Bd.mulW (n := 210) (m := 210) (by unfold Bd; decide +kernel) (by unfold Bd; decide +kernel) (by decide) (by decide), size63 (show 2 ≤ 1000 by decide), fun fr ffr => ?_⟩
            generalize hGj : upd _ fr _ = Gj
            obtain ⟨sj, ej⟩ := alloc hGj ffr
            have elj : Gj l = some (.lst us) := sj _ _ (k9 _ _ (sgi _ _ elf))
            have kj : Same H5 Gj := (k8.trans k9).trans sj
            have npl : p ≠ l := ne_of_none hp6 hl
            have n6l : l6 ≠ l := fun z => by
              rw [z] at f9
              rw [sh _ _ (sg _ _ elf)] at f9
              cases f9
            refine ⟨_, rfl, _, rfl, l, us, 0, 0, rfl, rfl, elj, ixN_nat (show 0 < us.length by omega), ?_⟩
            generalize hGk : upd _ l _ = Gk
            have elk : Gk l = some (.lst (us.set 0 (.ref fr))) := by rw [← hGk, upd_same]
            have pk : Gk p = some (.lst us) := by rw [← hGk, upd_ne npl]; exact kj _ _ hp5
            have dk : Gk l6 = some (.lst ([r5, r6] ++ cutV [V.ref c1, sp, V.ref c2, sp] (some 2) none)) := by rw [← hGk, upd_ne n6l]; exact sj _ _ (k9 _ _ hdue)
            have hfar : ShAt K Gk (.ref fr) (-10 ^ Int.toNat 60 * 10 ^ Int.toNat 20, 1) := ⟨fr, rfl, by rw [← hGk]; exact SqT.upd_lst (.inl (.inl ej)) elj⟩
            have hRk : RowAt K Gk us (x0 :: xr) := by rw [← hGk]; exact RowAt.upd_lst (hR5.keep kj) elj
            have hRf : RowAt K Gk (us.set 0 (.ref fr)) ((-10 ^ Int.toNat 60 * 10 ^ Int.toNat 20, 1) :: xr) := by
              cases hRk with
              | cons h0 hr0 => exact .cons hfar hr0
            have hlf : leastL (0, 1) ((-10 ^ Int.toNat 60 * 10 ^ Int.toNat 20, 1) :: xr) = (-10 ^ Int.toNat 60 * 10 ^ Int.toNat 20, 1) := by
              refine leastF_stay _ _ fun z hz => ?_
              rcases List.mem_cons.mp hz with rfl | hz
              · decide +kernel
              · exact far_low (hI5 z (List.mem_cons_of_mem _ hz)) (by omega)
            refine ⟨_, rfl, l, .ref A.n_NOUGHT, (0, 1), _, _, rfl, SqL.of elk, hRf, ⟨_, rfl, T.t_NOUGHT _⟩, ?_, fun r7 g7 => ?_⟩
            · intro z hz
              rcases List.mem_cons.mp hz with rfl | hz
              · exact ⟨by unfold Bd; decide +kernel, by unfold Bd; decide +kernel⟩
              · exact hbd z (List.mem_cons_of_mem _ hz)
            · rw [hlf] at g7
              refine ⟨_, rfl, _, _, g7.dp, hfar.dp, shaped_sh _, shaped_sh _, ?_⟩
              rw [eqv_sh]
              refine ⟨true, rfl, iteT ?_⟩
              refine ⟨_, rfl, p, .ref A.n_NOUGHT, (0, 1), _, _, rfl, SqL.of pk, hRk, ⟨_, rfl, T.t_NOUGHT _⟩, hbd, fun r8 g8 => ?_⟩
              have g5k : ShAt K Gk r5 (leastF x0 (x0 :: xr)) := by
                obtain ⟨a5, e5, h5⟩ := ((g5.keep sgi).keep k9).keep sj
                exact ⟨a5, e5, by rw [← hGk]; exact SqT.upd_lst h5 elj⟩
              refine ⟨_, rfl, l6, _, 0, r5, rfl, rfl, SqL.of dk, rfl, _, _, g8.dp, g5k.dp, shaped_sh _, shaped_sh _, ?_⟩
              show Q (.bl (PyData.eqv (shD (leastF x0 (x0 :: xr))) (shD (leastF x0 (x0 :: xr))))) Gk
              rw [eqv_sh]
              exact q _
        · have hn0 : n = 0 := by
            have : ¬ (0 < (n : Int)) := fun z => e (decide_eq_true z)
            omega
          obtain rfl : xs = [] := List.length_eq_zero_iff.mp (hxl.trans hn0)
          have k8 : Same H5 Gf := kf
          have hl28 : Gf l2 = some (.lst [r1, r2, r3, r4]) := hl28f
          have hdue := ef
          obtain ⟨ds8, hds8⟩ : ∃ ds8, ds8 = [((0, 1) : Int × Int), x, (0, 1), x] := ⟨_, rfl⟩
          have hF8 : RowAt K Gf [r1, r2, r3, r4] ds8 := by rw [hds8]; exact .cons g1' (.cons g2' (.cons g3' (.cons g4' .nil)))
          have hsh8 : ∀ z ∈ ds8, IsSh z.1 z.2 := by
            rw [hds8]
            intro z hz
            simp only [List.mem_cons, List.not_mem_nil, or_false] at hz
            rcases hz with rfl | rfl | rfl | rfl
            · decide
            · exact hxs
            · decide
            · exact hxs
          refine ⟨_, rfl, _, rfl, _, _, .lst (SqL.of elf) (hR5.keep k8).dp, .lst (SqL.of (k8 _ _ hp5)) (hR5.keep k8).dp, shaped_shs [], shaped_shs [], _, rfl, iteNE (eqv_shs []) ?_⟩
          refine ⟨_, rfl, l2, rfl, ⟨_, SqL.of hl28⟩, fun Dl hDl => lc_list (K := K) (a := l2) (xs := [r1, r2, r3, r4]) (fun i H' => Same Gf H' ∧ H' Dl = some (.lst ((List.replicate i true).map V.bl))) ?_ ?_ ?_ ?_⟩
          · exact ⟨same_upd hDl, upd_same⟩
          · rintro i H' _ ⟨k', _⟩
            exact SqL.of (k' _ _ hl28)
          · rintro i v H' hv ⟨k', hD'⟩
            obtain ⟨z, hz, az, rfl, hAz⟩ := paired_get (hF8.keep k') hv
            have hzs := hsh8 z (List.mem_of_getElem? hz)
            refine ⟨rfl, _, rfl, az, z.1, z.2, rfl, hAz, _, hD', small1000 ?_, ?_, ?_⟩
            · have : i < 4 := (List.getElem?_eq_some_iff.mp hv).1
              rw [List.length_map, List.length_replicate]
              omega
            · intro b' o' h'
              rw [upd_ne (ne_of_none h' hDl)]
              exact k' _ _ h'
            · rw [upd_same, decide_eq_true hzs, List.replicate_succ', List.map_append]
              rfl
          · rintro H9 ⟨k9, hD9⟩
            refine ⟨Dl, _, rfl, SqL.of hD9, true, rfl, iteF ?_⟩
            refine ⟨_, rfl, _, rfl, _, _, .lst (SqL.of (k9 _ _ hl28)) (hF8.keep k9).dp, .lst (SqL.of (k9 _ _ hdue)) (by rw [hds8]; exact .cons (hcc1.keep k9).dp (.cons (hsf.keep k9).dp (.cons (hcc2.keep k9).dp (.cons (hsf.keep k9).dp .nil)))), shaped_shs ds8, shaped_shs ds8, _, rfl, iteNE (eqv_shs ds8) ?_⟩
            refine ⟨_, rfl, rfl, _, rfl, ite2 (fun e => q _) (fun e => absurd (decide_eq_true (by rw [hn0]; rfl)) e)⟩
end
/-! ### what the top has written; the end -/
theorem all_mk {l : PySem.W.OpenLaw} {w : World} {K : PySem.W.Frag} {h : Heap} {mg : Str → Option Value} {fa : Addr} (X : K.In h) (G : h.Ns mainGlobals mg) (hfa : mg "law" = some (.ref fa))
    {od0 an0 : Option Addr} {sl0 : Array (Option Value)} {oc0 kV0 dc0 pm0 cd0 ct0 : Value} {f0 : Addr}
    {od2 an2 : Option Addr} {sl2 : Array (Option Value)} {oc2 kV2 dc2 pm2 cd2 ct2 : Value} {f2 : Addr}
    {od3 an3 : Option Addr} {sl3 : Array (Option Value)} {oc3 kV3 dc3 pm3 cd3 ct3 : Value} {f3 : Addr}
    {od4 an4 : Option Addr} {sl4 : Array (Option Value)} {oc4 kV4 dc4 pm4 cd4 ct4 : Value} {f4 : Addr}
    {od5 an5 : Option Addr} {sl5 : Array (Option Value)} {oc5 kV5 dc5 pm5 cd5 ct5 : Value} {f5 : Addr}
    {od6 an6 : Option Addr} {sl6 : Array (Option Value)} {oc6 kV6 dc6 pm6 cd6 ct6 : Value} {f6 : Addr}
    {od7 an7 : Option Addr} {sl7 : Array (Option Value)} {oc7 kV7 dc7 pm7 cd7 ct7 : Value} {f7 : Addr}
    {od8 an8 : Option Addr} {sl8 : Array (Option Value)} {oc8 kV8 dc8 pm8 cd8 ct8 : Value} {f8 : Addr}
    {od9 an9 : Option Addr} {sl9 : Array (Option Value)} {oc9 kV9 dc9 pm9 cd9 ct9 : Value} {f9 : Addr}
    {od10 an10 : Option Addr} {sl10 : Array (Option Value)} {oc10 kV10 dc10 pm10 cd10 ct10 : Value} {f10 : Addr}
    {od11 an11 : Option Addr} {sl11 : Array (Option Value)} {oc11 kV11 dc11 pm11 cd11 ct11 : Value} {f11 : Addr}
    {od12 an12 : Option Addr} {sl12 : Array (Option Value)} {oc12 kV12 dc12 pm12 cd12 ct12 : Value} {f12 : Addr}
    {od13 an13 : Option Addr} {sl13 : Array (Option Value)} {oc13 kV13 dc13 pm13 cd13 ct13 : Value} {f13 : Addr}
    {od14 an14 : Option Addr} {sl14 : Array (Option Value)} {oc14 kV14 dc14 pm14 cd14 ct14 : Value} {f14 : Addr}
    {odN odL anL : Option Addr} {slN slL : Array (Option Value)} {ocL dcL pmL cdL ctL : Value} {fL dL nA : Addr} {nN : Nat} {t0 t1 : Tok}
    (a0 : PySem.W.nsIn K mainGlobals "order" = some (some (.ref f0))) (l0 : K.lookup f0 = some ⟨oc0, od0, .func (PySem.W.fnOf "order" "order" (defArgs s_p_order) (defBody s_p_order) (defScope s_p_order) .none kV0 dc0 pm0 an0 cd0 ct0), sl0⟩) (c0 : PySem.W.codeIn K cd0 "order" = true) (k0 : PySem.W.keepIn K (.ref f0) = true)
    (a2 : PySem.W.nsIn K mainGlobals "_law_cell" = some (some (.ref f2))) (l2 : K.lookup f2 = some ⟨oc2, od2, .func (PySem.W.fnOf "_law_cell" "_law_cell" (defArgs s_l_cell) (defBody s_l_cell) (defScope s_l_cell) .none kV2 dc2 pm2 an2 cd2 ct2), sl2⟩) (c2 : PySem.W.codeIn K cd2 "_law_cell" = true) (k2 : PySem.W.keepIn K (.ref f2) = true)
    (a3 : PySem.W.nsIn K mainGlobals "_law_mixed" = some (some (.ref f3))) (l3 : K.lookup f3 = some ⟨oc3, od3, .func (PySem.W.fnOf "_law_mixed" "_law_mixed" (defArgs s_l_mixed) (defBody s_l_mixed) (defScope s_l_mixed) .none kV3 dc3 pm3 an3 cd3 ct3), sl3⟩) (c3 : PySem.W.codeIn K cd3 "_law_mixed" = true) (k3 : PySem.W.keepIn K (.ref f3) = true)
    (a4 : PySem.W.nsIn K mainGlobals "_law_deck" = some (some (.ref f4))) (l4 : K.lookup f4 = some ⟨oc4, od4, .func (PySem.W.fnOf "_law_deck" "_law_deck" (defArgs s_l_deck) (defBody s_l_deck) (defScope s_l_deck) .none kV4 dc4 pm4 an4 cd4 ct4), sl4⟩) (c4 : PySem.W.codeIn K cd4 "_law_deck" = true) (k4 : PySem.W.keepIn K (.ref f4) = true)
    (a5 : PySem.W.nsIn K mainGlobals "_law_take" = some (some (.ref f5))) (l5 : K.lookup f5 = some ⟨oc5, od5, .func (PySem.W.fnOf "_law_take" "_law_take" (defArgs s_l_take) (defBody s_l_take) (defScope s_l_take) .none kV5 dc5 pm5 an5 cd5 ct5), sl5⟩) (c5 : PySem.W.codeIn K cd5 "_law_take" = true) (k5 : PySem.W.keepIn K (.ref f5) = true)
    (a6 : PySem.W.nsIn K mainGlobals "_law_gcd" = some (some (.ref f6))) (l6 : K.lookup f6 = some ⟨oc6, od6, .func (PySem.W.fnOf "_law_gcd" "_law_gcd" (defArgs s_l_gcd) (defBody s_l_gcd) (defScope s_l_gcd) .none kV6 dc6 pm6 an6 cd6 ct6), sl6⟩) (c6 : PySem.W.codeIn K cd6 "_law_gcd" = true) (k6 : PySem.W.keepIn K (.ref f6) = true)
    (a7 : PySem.W.nsIn K mainGlobals "_law_share" = some (some (.ref f7))) (l7 : K.lookup f7 = some ⟨oc7, od7, .func (PySem.W.fnOf "_law_share" "_law_share" (defArgs s_l_share) (defBody s_l_share) (defScope s_l_share) .none kV7 dc7 pm7 an7 cd7 ct7), sl7⟩) (c7 : PySem.W.codeIn K cd7 "_law_share" = true) (k7 : PySem.W.keepIn K (.ref f7) = true)
    (a8 : PySem.W.nsIn K mainGlobals "_law_whole" = some (some (.ref f8))) (l8 : K.lookup f8 = some ⟨oc8, od8, .func (PySem.W.fnOf "_law_whole" "_law_whole" (defArgs s_l_whole) (defBody s_l_whole) (defScope s_l_whole) .none kV8 dc8 pm8 an8 cd8 ct8), sl8⟩) (c8 : PySem.W.codeIn K cd8 "_law_whole" = true) (k8 : PySem.W.keepIn K (.ref f8) = true)
    (a9 : PySem.W.nsIn K mainGlobals "_law_is_share" = some (some (.ref f9))) (l9 : K.lookup f9 = some ⟨oc9, od9, .func (PySem.W.fnOf "_law_is_share" "_law_is_share" (defArgs s_l_is_share) (defBody s_l_is_share) (defScope s_l_is_share) .none kV9 dc9 pm9 an9 cd9 ct9), sl9⟩) (c9 : PySem.W.codeIn K cd9 "_law_is_share" = true) (k9 : PySem.W.keepIn K (.ref f9) = true)
    (a10 : PySem.W.nsIn K mainGlobals "_law_drawn" = some (some (.ref f10))) (l10 : K.lookup f10 = some ⟨oc10, od10, .func (PySem.W.fnOf "_law_drawn" "_law_drawn" (defArgs s_l_drawn) (defBody s_l_drawn) (defScope s_l_drawn) .none kV10 dc10 pm10 an10 cd10 ct10), sl10⟩) (c10 : PySem.W.codeIn K cd10 "_law_drawn" = true) (k10 : PySem.W.keepIn K (.ref f10) = true)
    (a11 : PySem.W.nsIn K mainGlobals "_law_order" = some (some (.ref f11))) (l11 : K.lookup f11 = some ⟨oc11, od11, .func (PySem.W.fnOf "_law_order" "_law_order" (defArgs s_l_order) (defBody s_l_order) (defScope s_l_order) .none kV11 dc11 pm11 an11 cd11 ct11), sl11⟩) (c11 : PySem.W.codeIn K cd11 "_law_order" = true) (k11 : PySem.W.keepIn K (.ref f11) = true)
    (a12 : PySem.W.nsIn K mainGlobals "_law_right" = some (some (.ref f12))) (l12 : K.lookup f12 = some ⟨oc12, od12, .func (PySem.W.fnOf "_law_right" "_law_right" (defArgs s_l_right) (defBody s_l_right) (defScope s_l_right) .none kV12 dc12 pm12 an12 cd12 ct12), sl12⟩) (c12 : PySem.W.codeIn K cd12 "_law_right" = true) (k12 : PySem.W.keepIn K (.ref f12) = true)
    (a13 : PySem.W.nsIn K mainGlobals "_law_least" = some (some (.ref f13))) (l13 : K.lookup f13 = some ⟨oc13, od13, .func (PySem.W.fnOf "_law_least" "_law_least" (defArgs s_l_least) (defBody s_l_least) (defScope s_l_least) .none kV13 dc13 pm13 an13 cd13 ct13), sl13⟩) (c13 : PySem.W.codeIn K cd13 "_law_least" = true) (k13 : PySem.W.keepIn K (.ref f13) = true)
    (a14 : PySem.W.nsIn K mainGlobals "law" = some (some (.ref f14))) (l14 : K.lookup f14 = some ⟨oc14, od14, .func (PySem.W.fnOf "law" "law" (defArgs s_law) (defBody s_law) (defScope s_law) .none kV14 dc14 pm14 an14 cd14 ct14), sl14⟩) (c14 : PySem.W.codeIn K cd14 "law" = true) (k14 : PySem.W.keepIn K (.ref f14) = true)
    (z_abs : PySem.W.nsIn K mainGlobals "abs" = some none)
    (z_all : PySem.W.nsIn K mainGlobals "all" = some none)
    (z_bool : PySem.W.nsIn K mainGlobals "bool" = some none)
    (z_enumerate : PySem.W.nsIn K mainGlobals "enumerate" = some none)
    (z_int : PySem.W.nsIn K mainGlobals "int" = some none)
    (z_isinstance : PySem.W.nsIn K mainGlobals "isinstance" = some none)
    (z_len : PySem.W.nsIn K mainGlobals "len" = some none)
    (z_list : PySem.W.nsIn K mainGlobals "list" = some none)
    (z_max : PySem.W.nsIn K mainGlobals "max" = some none)
    (z_range : PySem.W.nsIn K mainGlobals "range" = some none)
    (z_tuple : PySem.W.nsIn K mainGlobals "tuple" = some none)
    (aL : PySem.W.nsIn K mainGlobals "least" = some (some (.ref fL)))
    (lL : K.lookup fL = some ⟨ocL, odL, .func (PySem.W.fnOf "least" "least" (defArgs s_p_least) (defBody s_p_least) (defScope s_p_least) .none (.ref dL) dcL pmL anL cdL ctL), slL⟩)
    (cL : PySem.W.codeIn K cdL "least" = true)
    (kL : PySem.W.keepIn K (.ref fL) = true)
    (nL : PySem.W.nsIn K dL "default" = some (some (.ref nA)))
    (lN : K.lookup nA = some ⟨.type "tuple", odN, .seq #[.int 0 t0, .int 1 t1] nN, slN⟩)
    (aN : PySem.W.nsIn K mainGlobals "NOUGHT" = some (some (.ref nA)))
    : ∃ fd : FuncData, (∀ (s : Shared) (v : Value), BindsTo s fd ⟨[v], []⟩ [("_law_script", v)]) ∧ ∀ base : Heap, K.In base → base.Ns mainGlobals mg → FnOk l.prog w K mg base CX0 6 fa fd ["_law_script"] (sp_law K) := by
  have e := hfa.symm.trans (PySem.W.mg_of X G a14)
  cases e
  have FL : FunD K "least" "least" (defArgs s_p_least) (defBody s_p_least) (defScope s_p_least) [] [("default", .ref nA)] fL (PySem.W.fnOf "least" "least" (defArgs s_p_least) (defBody s_p_least) (defScope s_p_least) .none (.ref dL) dcL pmL anL cdL ctL) := ⟨⟨ocL, odL, .none, .ref dL, dcL, pmL, anL, cdL, ctL, slL, rfl, lL, cL, .inl ⟨rfl, rfl⟩, .inr ⟨dL, rfl, fun q hq => by cases List.mem_singleton.mp hq; exact ⟨_, nL, rfl⟩⟩⟩, kL⟩
  obtain ⟨ds, hv, hbL⟩ := FL.binds0 (ps := ["shares", "default"]) 1 (by simp) rfl (fun D doc pm an cdv ct us ks hu hk => match us, ks, hu, hk with | [_], [_], _, _ => ⟨_, _, _, _, _, _, rfl, rfl, rfl⟩)
  obtain rfl : ds = [Value.ref nA] := by cases hv with | cons h1 h2 => cases h2; cases h1; rfl
  have T : Tx K mg { f_p_order := f0, fd_p_order := PySem.W.fnOf "order" "order" (defArgs s_p_order) (defBody s_p_order) (defScope s_p_order) .none kV0 dc0 pm0 an0 cd0 ct0, f_l_cell := f2, fd_l_cell := PySem.W.fnOf "_law_cell" "_law_cell" (defArgs s_l_cell) (defBody s_l_cell) (defScope s_l_cell) .none kV2 dc2 pm2 an2 cd2 ct2, f_l_mixed := f3, fd_l_mixed := PySem.W.fnOf "_law_mixed" "_law_mixed" (defArgs s_l_mixed) (defBody s_l_mixed) (defScope s_l_mixed) .none kV3 dc3 pm3 an3 cd3 ct3, f_l_deck := f4, fd_l_deck := PySem.W.fnOf "_law_deck" "_law_deck" (defArgs s_l_deck) (defBody s_l_deck) (defScope s_l_deck) .none kV4 dc4 pm4 an4 cd4 ct4, f_l_take := f5, fd_l_take := PySem.W.fnOf "_law_take" "_law_take" (defArgs s_l_take) (defBody s_l_take) (defScope s_l_take) .none kV5 dc5 pm5 an5 cd5 ct5, f_l_gcd := f6, fd_l_gcd := PySem.W.fnOf "_law_gcd" "_law_gcd" (defArgs s_l_gcd) (defBody s_l_gcd) (defScope s_l_gcd) .none kV6 dc6 pm6 an6 cd6 ct6, f_l_share := f7, fd_l_share := PySem.W.fnOf "_law_share" "_law_share" (defArgs s_l_share) (defBody s_l_share) (defScope s_l_share) .none kV7 dc7 pm7 an7 cd7 ct7, f_l_whole := f8, fd_l_whole := PySem.W.fnOf "_law_whole" "_law_whole" (defArgs s_l_whole) (defBody s_l_whole) (defScope s_l_whole) .none kV8 dc8 pm8 an8 cd8 ct8, f_l_is_share := f9, fd_l_is_share := PySem.W.fnOf "_law_is_share" "_law_is_share" (defArgs s_l_is_share) (defBody s_l_is_share) (defScope s_l_is_share) .none kV9 dc9 pm9 an9 cd9 ct9, f_l_drawn := f10, fd_l_drawn := PySem.W.fnOf "_law_drawn" "_law_drawn" (defArgs s_l_drawn) (defBody s_l_drawn) (defScope s_l_drawn) .none kV10 dc10 pm10 an10 cd10 ct10, f_l_order := f11, fd_l_order := PySem.W.fnOf "_law_order" "_law_order" (defArgs s_l_order) (defBody s_l_order) (defScope s_l_order) .none kV11 dc11 pm11 an11 cd11 ct11, f_l_right := f12, fd_l_right := PySem.W.fnOf "_law_right" "_law_right" (defArgs s_l_right) (defBody s_l_right) (defScope s_l_right) .none kV12 dc12 pm12 an12 cd12 ct12, f_l_least := f13, fd_l_least := PySem.W.fnOf "_law_least" "_law_least" (defArgs s_l_least) (defBody s_l_least) (defScope s_l_least) .none kV13 dc13 pm13 an13 cd13 ct13, f_law := fa, fd_law := PySem.W.fnOf "law" "law" (defArgs s_law) (defBody s_law) (defScope s_law) .none kV14 dc14 pm14 an14 cd14 ct14, f_p_least := fL, fd_p_least := PySem.W.fnOf "least" "least" (defArgs s_p_least) (defBody s_p_least) (defScope s_p_least) .none (.ref dL) dcL pmL anL cdL ctL, n_NOUGHT := nA } := { F_p_order := fun_mk (st := s_p_order) l0 c0 k0, b_p_order := (fun_mk (st := s_p_order) l0 c0 k0).binds (ps := ["one", "other"]) fun _ _ _ _ _ _ us hl => match us, hl with | [_, _], _ => rfl, g_p_order := PySem.W.mg_of X G a0, F_l_cell := fun_mk (st := s_l_cell) l2 c2 k2, b_l_cell := (fun_mk (st := s_l_cell) l2 c2 k2).binds (ps := ["_law_script", "_law_k"]) fun _ _ _ _ _ _ us hl => match us, hl with | [_, _], _ => rfl, g_l_cell := PySem.W.mg_of X G a2, F_l_mixed := fun_mk (st := s_l_mixed) l3 c3 k3, b_l_mixed := (fun_mk (st := s_l_mixed) l3 c3 k3).binds (ps := ["_law_script", "_law_k", "_law_many"]) fun _ _ _ _ _ _ us hl => match us, hl with | [_, _, _], _ => rfl, g_l_mixed := PySem.W.mg_of X G a3, F_l_deck := fun_mk (st := s_l_deck) l4 c4 k4, b_l_deck := (fun_mk (st := s_l_deck) l4 c4 k4).binds (ps := ["_law_script"]) fun _ _ _ _ _ _ us hl => match us, hl with | [_], _ => rfl, g_l_deck := PySem.W.mg_of X G a4, F_l_take := fun_mk (st := s_l_take) l5 c5 k5, b_l_take := (fun_mk (st := s_l_take) l5 c5 k5).binds (ps := ["_law_deck_here", "_law_many"]) fun _ _ _ _ _ _ us hl => match us, hl with | [_, _], _ => rfl, g_l_take := PySem.W.mg_of X G a5, F_l_gcd := fun_mk (st := s_l_gcd) l6 c6 k6, b_l_gcd := (fun_mk (st := s_l_gcd) l6 c6 k6).binds (ps := ["_law_one", "_law_other"]) fun _ _ _ _ _ _ us hl => match us, hl with | [_, _], _ => rfl, g_l_gcd := PySem.W.mg_of X G a6, F_l_share := fun_mk (st := s_l_share) l7 c7 k7, b_l_share := (fun_mk (st := s_l_share) l7 c7 k7).binds (ps := ["_law_top", "_law_bottom"]) fun _ _ _ _ _ _ us hl => match us, hl with | [_, _], _ => rfl, g_l_share := PySem.W.mg_of X G a7, F_l_whole := fun_mk (st := s_l_whole) l8 c8 k8, b_l_whole := (fun_mk (st := s_l_whole) l8 c8 k8).binds (ps := ["_law_deck_here"]) fun _ _ _ _ _ _ us hl => match us, hl with | [_], _ => rfl, g_l_whole := PySem.W.mg_of X G a8, F_l_is_share := fun_mk (st := s_l_is_share) l9 c9 k9, b_l_is_share := (fun_mk (st := s_l_is_share) l9 c9 k9).binds (ps := ["_law_thing"]) fun _ _ _ _ _ _ us hl => match us, hl with | [_], _ => rfl, g_l_is_share := PySem.W.mg_of X G a9, F_l_drawn := fun_mk (st := s_l_drawn) l10 c10 k10, b_l_drawn := (fun_mk (st := s_l_drawn) l10 c10 k10).binds (ps := ["_law_deck_here", "_law_row"]) fun _ _ _ _ _ _ us hl => match us, hl with | [_, _], _ => rfl, g_l_drawn := PySem.W.mg_of X G a10, F_l_order := fun_mk (st := s_l_order) l11 c11 k11, b_l_order := (fun_mk (st := s_l_order) l11 c11 k11).binds (ps := ["_law_one", "_law_other"]) fun _ _ _ _ _ _ us hl => match us, hl with | [_, _], _ => rfl, g_l_order := PySem.W.mg_of X G a11, F_l_right := fun_mk (st := s_l_right) l12 c12 k12, b_l_right := (fun_mk (st := s_l_right) l12 c12 k12).binds (ps := ["_law_one", "_law_other"]) fun _ _ _ _ _ _ us hl => match us, hl with | [_, _], _ => rfl, g_l_right := PySem.W.mg_of X G a12, F_l_least := fun_mk (st := s_l_least) l13 c13 k13, b_l_least := (fun_mk (st := s_l_least) l13 c13 k13).binds (ps := ["_law_row"]) fun _ _ _ _ _ _ us hl => match us, hl with | [_], _ => rfl, g_l_least := PySem.W.mg_of X G a13, F_law := fun_mk (st := s_law) l14 c14 k14, b_law := (fun_mk (st := s_law) l14 c14 k14).binds (ps := ["_law_script"]) fun _ _ _ _ _ _ us hl => match us, hl with | [_], _ => rfl, g_law := PySem.W.mg_of X G a14, m_abs := PySem.W.mg_none_of X G z_abs, m_all := PySem.W.mg_none_of X G z_all, m_bool := PySem.W.mg_none_of X G z_bool, m_enumerate := PySem.W.mg_none_of X G z_enumerate, m_int := PySem.W.mg_none_of X G z_int, m_isinstance := PySem.W.mg_none_of X G z_isinstance, m_len := PySem.W.mg_none_of X G z_len, m_list := PySem.W.mg_none_of X G z_list, m_max := PySem.W.mg_none_of X G z_max, m_range := PySem.W.mg_none_of X G z_range, m_tuple := PySem.W.mg_none_of X G z_tuple, g_p_least := PySem.W.mg_of X G aL, g_NOUGHT := PySem.W.mg_of X G aN, F_p_least := FL, b_p_least := hbL, kb_p_least := ⟨fun s us ws X hu hw => match us, ws, hu, hw with | [_], [_], _, _ => .of_eq rfl, fun r1 r2 => r1.append r2⟩, t_NOUGHT := fun H => .inr ⟨_, _, _, lN, rfl, rfl, size63 (show 2 ≤ 1000 by decide), .cons ⟨_, rfl⟩ (.cons ⟨_, rfl⟩ .nil)⟩ }
  exact ⟨PySem.W.fnOf "law" "law" (defArgs s_law) (defBody s_law) (defScope s_law) .none kV14 dc14 pm14 an14 cd14 ct14, fun s v => .of_eq rfl, fun base _ _ => ok_law T⟩
end R
open PySem PySem.W PyProof.Rows
set_option maxRecDepth 100000 in
set_option maxHeartbeats 0 in
theorem PySem.Challenge.cw_restbodies_k03_shares_ordered_holds : PySem.Challenge.rw_restbodies_k03_shares_ordered.Holds := by
  w_on; o_law; k_head; (case hw => w_witness2)
  k_fill
  refine L2.walk_of (l := PySem.Challenge.rw_restbodies_k03_shares_ordered) (n := 63) (k := 6) (x := "_law_script") (CX := fun _ => L2.CX0) (sp := fun w => R.sp_law _) rfl (by decide) rfl ⟨rfl, by decide, by decide⟩ (fun w h Y => PySem.W.kIn_of Y) ?F (fun _ _ a ns hl hO hS => ⟨a, ns, rfl, hO, hS, hl, fun _ => rfl⟩) (fun _ _ _ _ _ h => h)
  case F =>
    intro w mg fa h KX G hmg
    refine' R.all_mk KX G hmg ?a0 ?l0 ?c0 ?k0 ?a2 ?l2 ?c2 ?k2 ?a3 ?l3 ?c3 ?k3 ?a4 ?l4 ?c4 ?k4 ?a5 ?l5 ?c5 ?k5 ?a6 ?l6 ?c6 ?k6 ?a7 ?l7 ?c7 ?k7 ?a8 ?l8 ?c8 ?k8 ?a9 ?l9 ?c9 ?k9 ?a10 ?l10 ?c10 ?k10 ?a11 ?l11 ?c11 ?k11 ?a12 ?l12 ?c12 ?k12 ?a13 ?l13 ?c13 ?k13 ?a14 ?l14 ?c14 ?k14 ?z_abs ?z_all ?z_bool ?z_enumerate ?z_int ?z_isinstance ?z_len ?z_list ?z_max ?z_range ?z_tuple ?aL ?lL ?cL ?kL ?nL ?lN ?aN
    (case a0 => k_is)
    (case l0 => k_is)
    (case c0 => k_is)
    (case k0 => k_is)
    (case a2 => k_is)
    (case l2 => k_is)
    (case c2 => k_is)
    (case k2 => k_is)
    (case a3 => k_is)
    (case l3 => k_is)
    (case c3 => k_is)
    (case k3 => k_is)
    (case a4 => k_is)
    (case l4 => k_is)
    (case c4 => k_is)
    (case k4 => k_is)
    (case a5 => k_is)
    (case l5 => k_is)
    (case c5 => k_is)
    (case k5 => k_is)
    (case a6 => k_is)
    (case l6 => k_is)
    (case c6 => k_is)
    (case k6 => k_is)
    (case a7 => k_is)
    (case l7 => k_is)
    (case c7 => k_is)
    (case k7 => k_is)
    (case a8 => k_is)
    (case l8 => k_is)
    (case c8 => k_is)
    (case k8 => k_is)
    (case a9 => k_is)
    (case l9 => k_is)
    (case c9 => k_is)
    (case k9 => k_is)
    (case a10 => k_is)
    (case l10 => k_is)
    (case c10 => k_is)
    (case k10 => k_is)
    (case a11 => k_is)
    (case l11 => k_is)
    (case c11 => k_is)
    (case k11 => k_is)
    (case a12 => k_is)
    (case l12 => k_is)
    (case c12 => k_is)
    (case k12 => k_is)
    (case a13 => k_is)
    (case l13 => k_is)
    (case c13 => k_is)
    (case k13 => k_is)
    (case a14 => k_is)
    (case l14 => k_is)
    (case c14 => k_is)
    (case k14 => k_is)
    (case z_abs => k_is)
    (case z_all => k_is)
    (case z_bool => k_is)
    (case z_enumerate => k_is)
    (case z_int => k_is)
    (case z_isinstance => k_is)
    (case z_len => k_is)
    (case z_list => k_is)
    (case z_max => k_is)
    (case z_range => k_is)
    (case z_tuple => k_is)
    (case aL => k_is)
    (case lL => k_is)
    (case cL => k_is)
    (case kL => k_is)
    (case nL => k_is)
    (case lN => k_is)
    (case aN => k_is)
