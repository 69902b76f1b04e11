import PyProof.Rows.All
import Wide.All
import OpenK.AllK
import Wide.FinOn
import HandS.ForMost
import HandS.Wide
import HandS.IsInst
import HandS.Defaults
import HandS.WideBits

import HandS.ForExc
import HandS.ExcIs
import PyProof.StrOps2
import KE.KIntText
import KE.IntTextLaws
import PySem.Challenge.RW_restbodies_k01_shares_made
set_option maxRecDepth 100000
set_option maxHeartbeats 4000000
namespace RB
open PySem PySem.Spec PyProof.Rows L2 PySem.Calls PySem.NumText PySem.W
theorem wp_big {M : Model} {A : Around} {E : Value → Shared → Prop} {s : Shared} {Q : Value → Shared → Prop} {v : Value} {text : List Nat} {n : Int}
    (hs : ¬ (text.takeWhile (· != 0)).length ≤ 640) (hk : ∀ (A : Around) (Q : Option Value → Shared → Prop) (E : Value → Shared → Prop), Q none s → wpAny M A (nsGet cStatics "sys.int_max_str_digits") Q E s)
    (hr : (int_private% "readNumeral") 4300 10 (text.takeWhile (· != 0)) = (int_private% "Numeral.value") n)
    (ha : ((text.takeWhile (· != 0)).length == text.length) = true) (h : Q (.int n s.toks) { s with toks := s.toks + 1 }) :
    wpAny M A ((int_private% "intFromText") v text 10) Q E s := by
  obtain ⟨hp, g, d, tk, os⟩ := s
  repeat (any_goals (first
    | assumption
    | (with_reducible refine wpAny_ite_false (decide_eq_false hs) ?_)
    | (with_reducible refine wpAny_ite_true (decide_eq_true ha) ?_)
    | (with_reducible refine hk _ _ _ ?_)
    | wp_step))
  all_goals (try rw [hr])
  all_goals (try dsimp only)
  repeat (any_goals (first
    | assumption
    | (with_reducible refine wpAny_ite_false (decide_eq_false hs) ?_)
    | (with_reducible refine wpAny_ite_true (decide_eq_true ha) ?_)
    | (with_reducible refine hk _ _ _ ?_)
    | wp_step))
theorem big_new {M : Model} {A : Around} {E : Value → Shared → Prop} {s : Shared} {Q : Value → Shared → Prop} {x : PySem.Str} {u : Tok} {n : Int} (hl : ¬ (numSeenOf x).length ≤ 640) (hx : x.length ≤ sizeLine) (hn : PySem.intText? x = some n)
    (hk : ∀ (A : Around) (Q : Option Value → Shared → Prop) (E : Value → Shared → Prop), Q none s → wpAny M A (nsGet cStatics "sys.int_max_str_digits") Q E s) (h : (Made.int n).post Q s) :
    wpAny M A (Builtin.«int.__new__» ⟨[.type "int", .str x u], []⟩) (fun fin s' => ∃ v, fin = .done (.ret v) ∧ Q v s') E s := by
  obtain ⟨hp, g, d, tk, os⟩ := s
  have f1 := F.conv_sub_int
  have f2 := F.madeHere_int
  have f3 := KIN.str_int
  have f4 := KIN.str_idx
  have f5 := KIN.str_trunc
  have f6 : typeOf (.str x u) = pure (.type "str") := rfl
  have hr : (int_private% "readNumeral") 4300 10 (numSeenOf x) = (int_private% "Numeral.value") n ∧ ((numSeenOf x).length == (numTextOf x).length) = true := by
    rcases read4300 x hx with ⟨m, h1, h2, h3⟩ | ⟨h1, _⟩
    · rw [hn] at h1
      injection h1 with h1
      subst h1
      exact ⟨h3, h2⟩
    · rw [hn] at h1
      cases h1
  have hkk := KIN.Hid.mk (And.intro hl (And.intro hk hr))
  clear hl hr hk hn hx
  repeat (any_goals (first
    | assumption
    | ((with_reducible show wpAny _ _ ((int_private% "intFromText") _ _ _) _ _ _); refine wp_big hkk.out.1 hkk.out.2.1 hkk.out.2.2.1 hkk.out.2.2.2 ?_)
    | wp_step))
  all_goals first | exact ⟨_, rfl, h⟩ | skip
def nsNone (s : Shared) : Prop := ∀ (M : Model) (A : Around) (Q : Option Value → Shared → Prop) (E : Value → Shared → Prop), Q none s → wpAny M A (nsGet cStatics "sys.int_max_str_digits") Q E s
theorem meets_big {x : PySem.Str} {u : Tok} {n : Int} (hl : ¬ (numSeenOf x).length ≤ 640) (hx : x.length ≤ sizeLine) (hn : PySem.intText? x = some n) :
    Meets (Builtin.«int.__new__» ⟨[.type "int", .str x u], []⟩) (fun _ R s => nsNone s ∧ (Made.int n).post (fun v s' => R (.ok (.ret v)) s') s) := fun prog w A R s h =>
  wpAny_mono (big_new hl hx hn (h.1 _) h.2) (fun fin s' h' => by obtain ⟨v, rfl, hv⟩ := h'; exact hv) fun _ _ z => z
theorem call_big {prog : Program} {w : World} {A : Around} {E : Value → Shared → Prop} {s : Shared} {Q : Value → Shared → Prop} {x : PySem.Str} {t : Tok} {n : Int} (hl : ¬ (numSeenOf x).length ≤ 640) (hx : x.length ≤ sizeLine) (hn : PySem.intText? x = some n) (hk : nsNone s)
    (h : Q (.int n s.toks) { s with toks := s.toks + 1 }) : wpAny (model prog w) A (call (.type "int") [.str x t]) Q E s :=
  call_int_1 (meets_big hl hx hn) ⟨hk, show (Made.int n).post _ s from ⟨rfl, h⟩⟩
section
variable {X : Cx}
theorem call_int_big (hz : PySem.W.nsIn X.K cStatics "sys.int_max_str_digits" = some none) : CallR X (.type "int") (fun xs H Q => ∃ a n, xs = [.str a] ∧ PySem.intText? a = some n ∧ ¬ (numSeenOf a).length ≤ 640 ∧ a.length ≤ sizeLine ∧ Q (.int n) H) := by
  intro pins s σ H xs us Q I rs h
  obtain ⟨a, n, rfl, hn, hl, hx, h⟩ := h
  cases rs with
  | cons r1 rs =>
    cases rs
    obtain ⟨t, rfl⟩ := r1
    exact call_big hl hx hn (fun M A Q E q => (PySem.W.looks_nsIn I.kIn hz).here q) ⟨.int n, H, I.tok _, ⟨_, rfl⟩, h⟩
theorem rep_size (z : Array Nat) : ∀ (n : Nat) (acc : Array Nat), ((List.replicate n z).foldl (· ++ ·) acc).size = acc.size + n * z.size
  | 0, acc => by
    rw [Nat.zero_mul]
    rfl
  | n + 1, acc => by
    rw [List.replicate_succ, List.foldl_cons, rep_size z n (acc ++ z), Array.size_append, Nat.add_mul, Nat.one_mul]
    omega
theorem op_mul_str : OpR X (binaryOp .Mult) (fun x y H Q => ∃ (z : Str) (n : Nat), x = .str z ∧ y = .int (n : Int) ∧ z.length = 1 ∧ 2 ≤ n ∧ n ≤ 4000 ∧ Q (.str ⟨(List.replicate n z.cps).foldl (· ++ ·) #[]⟩) H) := by
  intro pins s σ H x y v u Q I rx ry h
  obtain ⟨z, n, rfl, rfl, hz, h2, h4, q⟩ := h
  obtain ⟨t, rfl⟩ := rx
  obtain ⟨t', rfl⟩ := ry
  have hn1 : ¬ ((n : Int) < 1) := by omega
  have hb : (((n : Int) == 1) || z.length == 0) = false := by
    rw [hz]
    have : ((n : Int) == 1) = false := beq_eq_false_iff_ne.mpr (by omega)
    rw [this]
    rfl
  refine P.mul_str ?_ ?_ ?_ ?_
  · rw [decide_eq_false (by omega), decide_eq_false (by omega)]
    rfl
  · intro _ _
    rw [hz]
    have : (1 : Int) ≤ (2 ^ 63 - 1) / (n : Int) := by
      refine (Int.le_ediv_iff_mul_le (by omega)).mpr ?_
      omega
    omega
  · intro _ _
    rw [hz]
    refine decide_eq_false ?_
    rw [sizeLine_eq]
    have e : (n : Int).toNat = n := rfl
    omega
  · rw [if_neg hn1, if_neg (by rw [hb]; exact Bool.false_ne_true)]
    refine ⟨?_, ⟨.str _, H, I.tok _, ⟨_, rfl⟩, q⟩⟩
    have e := rep_size z.cps n #[]
    have hz' : z.cps.size = 1 := hz
    show ((List.replicate n z.cps).foldl (· ++ ·) #[]).size ≤ sizeLine
    rw [e, hz', sizeLine_eq]
    show 0 + n * 1 ≤ 16777216
    omega
end
def great : Str := ⟨(List.replicate 900 (PySem.Str.ofString "9").cps).foldl (· ++ ·) #[]⟩
theorem great_list : great.cps.toList = List.replicate 900 57 := by decide +kernel
theorem great_val : PySem.intText? great = some ((digitsVal great.cps.toList : Nat) : Int) := by
  refine intText_digits ?_ ?_ ?_
  · intro c hc
    rw [great_list] at hc
    have := List.eq_of_mem_replicate hc
    omega
  · rw [great_list]
    exact fun z => nomatch z
  · have e : great.length = great.cps.toList.length := rfl
    rw [e, great_list, List.length_replicate]
    decide
theorem great_bd : digitsVal great.cps.toList < 2 ^ 3000 := by
  rw [great_list]
  decide +kernel
theorem great_sz : great.length ≤ 1000 := by
  have e : great.length = great.cps.toList.length := rfl
  rw [e, great_list, List.length_replicate]
  decide
theorem great_len : ¬ (PySem.numSeenOf great).length ≤ 640 := by
  have h1 : great.cps.all (· < 128) = true := by
    rw [← Array.all_toList, great_list]
    decide +kernel
  have h2 : PySem.numTextOf great = List.replicate 900 57 := (if_pos h1).trans great_list
  show ¬ ((PySem.numTextOf great).takeWhile (· != 0)).length ≤ 640
  rw [h2]
  decide +kernel
end RB

set_option Elab.async false
set_option linter.all false
set_option maxRecDepth 100000
set_option maxHeartbeats 2000000
set_option synthInstance.maxSize 100000
set_option synthInstance.maxHeartbeats 2000000
namespace R
open PySem PySem.Spec PyProof.Rows L2
/-! ### the text -/
def topS (i : Nat) : Stmt := PySem.Challenge.pw_restbodies_k01_shares_made.main.body.getD i (.Pass ⟨0, 0, 0, 0⟩)
abbrev s_p_is_whole : Stmt := topS 8
theorem sc_p_is_whole : FnScope ["thing"] ["thing"] (defScope s_p_is_whole) := ⟨rfl, rfl, rfl, by decide +kernel, rfl, by decide +kernel, by decide +kernel⟩
abbrev s_p_common_divisor : Stmt := topS 11
theorem sc_p_common_divisor : FnScope ["one", "other"] ["one", "other"] (defScope s_p_common_divisor) := ⟨rfl, rfl, rfl, by decide +kernel, rfl, by decide +kernel, by decide +kernel⟩
abbrev s_p_is_share : Stmt := topS 13
theorem sc_p_is_share : FnScope ["thing", "top", "bottom"] ["thing"] (defScope s_p_is_share) := ⟨rfl, rfl, rfl, by decide +kernel, rfl, by decide +kernel, by decide +kernel⟩
abbrev s_p_share : Stmt := topS 14
theorem sc_p_share : FnScope ["top", "bottom", "divisor"] ["top", "bottom"] (defScope s_p_share) := ⟨rfl, rfl, rfl, by decide +kernel, rfl, by decide +kernel, by decide +kernel⟩
abbrev s_l_cell : Stmt := topS 16
theorem sc_l_cell : FnScope ["_law_script", "_law_k"] ["_law_script", "_law_k"] (defScope s_l_cell) := ⟨rfl, rfl, rfl, by decide +kernel, rfl, by decide +kernel, by decide +kernel⟩
abbrev s_l_mixed : Stmt := topS 17
theorem sc_l_mixed : FnScope ["_law_script", "_law_k", "_law_many", "_law_number"] ["_law_script", "_law_k", "_law_many"] (defScope s_l_mixed) := ⟨rfl, rfl, rfl, by decide +kernel, rfl, by decide +kernel, by decide +kernel⟩
abbrev s_l_deck : Stmt := topS 18
theorem sc_l_deck : FnScope ["_law_script", "_law_cell_here"] ["_law_script"] (defScope s_l_deck) := ⟨rfl, rfl, rfl, by decide +kernel, rfl, by decide +kernel, by decide +kernel⟩
abbrev s_l_take : Stmt := topS 19
theorem sc_l_take : FnScope ["_law_deck_here", "_law_many", "_law_cell_here"] ["_law_deck_here", "_law_many"] (defScope s_l_take) := ⟨rfl, rfl, rfl, by decide +kernel, rfl, by decide +kernel, by decide +kernel⟩
abbrev s_l_gcd : Stmt := topS 20
theorem sc_l_gcd : FnScope ["_law_one", "_law_other", "_law_rest"] ["_law_one", "_law_other"] (defScope s_l_gcd) := ⟨rfl, rfl, rfl, by decide +kernel, rfl, by decide +kernel, by decide +kernel⟩
abbrev s_l_whole : Stmt := topS 21
theorem sc_l_whole : FnScope ["_law_deck_here", "_law_kind", "_law_number", "_law_turn"] ["_law_deck_here"] (defScope s_l_whole) := ⟨rfl, rfl, rfl, by decide +kernel, rfl, by decide +kernel, by decide +kernel⟩
abbrev s_l_is_whole : Stmt := topS 22
theorem sc_l_is_whole : FnScope ["_law_thing"] ["_law_thing"] (defScope s_l_is_whole) := ⟨rfl, rfl, rfl, by decide +kernel, rfl, by decide +kernel, by decide +kernel⟩
abbrev s_l_is_share : Stmt := topS 23
theorem sc_l_is_share : FnScope ["_law_thing"] ["_law_thing"] (defScope s_l_is_share) := ⟨rfl, rfl, rfl, by decide +kernel, rfl, by decide +kernel, by decide +kernel⟩
abbrev s_l_truth : Stmt := topS 24
theorem sc_l_truth : FnScope ["_law_found", "_law_due"] ["_law_found", "_law_due"] (defScope s_l_truth) := ⟨rfl, rfl, rfl, by decide +kernel, rfl, by decide +kernel, by decide +kernel⟩
abbrev s_l_refused : Stmt := topS 25
theorem sc_l_refused : FnScope ["_law_top", "_law_found", "e"] ["_law_top"] (defScope s_l_refused) := ⟨rfl, rfl, rfl, by decide +kernel, rfl, by decide +kernel, by decide +kernel⟩
abbrev s_l_things : Stmt := topS 26
theorem sc_l_things : FnScope ["_law_top", "_law_bottom", "_law_part", "_law_great", "_law_some"] ["_law_top", "_law_bottom", "_law_part"] (defScope s_l_things) := ⟨rfl, rfl, rfl, by decide +kernel, rfl, by decide +kernel, by decide +kernel⟩
abbrev s_l_right : Stmt := topS 27
theorem sc_l_right : FnScope ["_law_top", "_law_bottom", "_law_found", "_law_told"] ["_law_top", "_law_bottom"] (defScope s_l_right) := ⟨rfl, rfl, rfl, by decide +kernel, rfl, by decide +kernel, by decide +kernel⟩
abbrev s_law : Stmt := topS 28
theorem sc_law : FnScope ["_law_script", "_law_deck_here", "_law_turn", "_law_part", "_law_at", "_law_top", "_law_bottom", "_law_found", "_law_things_here", "_law_thing"] ["_law_script"] (defScope s_law) := ⟨rfl, rfl, rfl, by decide +kernel, rfl, by decide +kernel, by decide +kernel⟩
/-! ### heaps -/
theorem upd_some {H : Hp} {p x : Addr} {o u : HO} (hp : H p = none) (h : H x = some u) : (upd H p o) x = some u := by
  rw [upd_ne (ne_of_none h hp)]
  exact h
theorem same_upd {H : Hp} {p : Addr} {o : HO} (h : H p = none) : Same H (upd H p o) := fun b x e => upd_some h e
theorem alloc {H G : Hp} {p : Addr} {o : HO} (e : upd H p o = G) (hp : H p = none) : Same H G ∧ G p = some o := by
  subst e
  exact ⟨same_upd hp, upd_same⟩
theorem Same.seqT {K : PySem.W.Frag} {H H' : Hp} {a : Addr} {xs : List V} (e : Same H H') (h : SqT K H a xs) : SqT K H' a xs := by
  rcases h with (h | ⟨o, h⟩) | h
  · exact .inl (.inl (e _ _ h))
  · exact .inl (.inr ⟨o, e _ _ h⟩)
  · exact .inr h
/-- all but what stands at d and b is as it was -/
def Kp (d b : Addr) (H H' : Hp) : Prop := ∀ x o, x ≠ d → x ≠ b → H x = some o → H' x = some o
theorem Kp.refl {d b : Addr} {H : Hp} : Kp d b H H := fun _ _ _ _ h => h
theorem Kp.trans {d b : Addr} {H H1 H2 : Hp} (u : Kp d b H H1) (v : Kp d b H1 H2) : Kp d b H H2 := fun x o h1 h2 h => v x o h1 h2 (u x o h1 h2 h)
theorem Kp.same {d b : Addr} {H H' : Hp} (s : Same H H') : Kp d b H H' := fun x o _ _ h => s x o h
theorem Kp.free {d b : Addr} {H H' : Hp} (u : Kp d b H H') {x : Addr} (hd : H d ≠ none) (hb : H b ≠ none) (h : H' x = none) (h1 : H' d ≠ none) (h2 : H' b ≠ none) : H x = none := by
  cases e : H x with
  | none => rfl
  | some o =>
    by_cases e1 : x = d
    · subst e1; exact absurd h h1
    by_cases e2 : x = b
    · subst e2; exact absurd h h2
    rw [u x o e1 e2 e] at h
    cases h
/-- the law's script -/
def Sc (K : PySem.W.Frag) (H : Hp) (s : Addr) (ns : List Int) : Prop := (∃ o, H s = some (.frz o (.lst (ns.map V.int)))) ∨ ∀ H', SqL K H' s (ns.map V.int)
theorem Sc.seq {K : PySem.W.Frag} {H : Hp} {s : Addr} {ns : List Int} (h : Sc K H s ns) : SqL K H s (ns.map V.int) := by
  rcases h with ⟨o, h⟩ | h
  · exact .inl (.inr ⟨o, h⟩)
  · exact h H
theorem Sc.mk {K : PySem.W.Frag} {H : Hp} {s : Addr} {ns : List Int} (hO : Only H) (h : SqL K H s (ns.map V.int)) : Sc K H s ns := by
  rcases h with (h | ⟨o, h⟩) | h
  · rcases hO s with e | ⟨o, xs, e⟩
    · rw [e] at h; cases h
    · rw [e] at h; cases h
  · exact .inl ⟨o, h⟩
  · exact .inr fun H' => .inr h
theorem Sc.upd {K : PySem.W.Frag} {H : Hp} {s b : Addr} {ns : List Int} {u : HO} (h : Sc K H s ns) (hb : H b = none ∨ ∃ xs, H b = some (.lst xs)) : Sc K (upd H b u) s ns := by
  rcases h with ⟨o, h⟩ | h
  · refine .inl ⟨o, ?_⟩
    have n : s ≠ b := fun e => by
      subst e
      rcases hb with e | ⟨xs, e⟩ <;> rw [e] at h <;> cases h
    rw [upd_ne n]
    exact h
  · exact .inr h
theorem Sc.keep {K : PySem.W.Frag} {H H' : Hp} {s : Addr} {ns : List Int} (h : Sc K H s ns) (k : Same H H') : Sc K H' s ns := by
  rcases h with ⟨o, h⟩ | h
  · exact .inl ⟨o, k _ _ h⟩
  · exact .inr h
/-- the deck at d, its cells at b, drawn at most c times -/
structure Deck (K : PySem.W.Frag) (H : Hp) (d b : Addr) (c : Int) : Prop where
  ex : ∃ (s : Addr) (ns cs : List Int) (i k : Int), H d = some (.lst [.ref s, .ref b, .int i, .int k]) ∧ H b = some (.lst (cs.map V.int)) ∧ Sc K H s ns ∧ 0 ≤ i ∧ 0 ≤ k ∧ k ≤ c
  ne : b ≠ d
theorem Deck.keep {K : PySem.W.Frag} {H H' : Hp} {d b : Addr} {c : Int} (D : Deck K H d b c) (k : Same H H') : Deck K H' d b c := by
  obtain ⟨⟨s, ns, cs, i, j, h1, h2, h3, h4⟩, n⟩ := D
  exact ⟨⟨s, ns, cs, i, j, k _ _ h1, k _ _ h2, h3.keep k, h4⟩, n⟩
theorem Deck.le {K : PySem.W.Frag} {H : Hp} {d b : Addr} {c c' : Int} (D : Deck K H d b c) (h : c ≤ c') : Deck K H d b c' := by
  obtain ⟨⟨s, ns, cs, i, j, h1, h2, h3, h4, h5, h6⟩, n⟩ := D
  exact ⟨⟨s, ns, cs, i, j, h1, h2, h3, h4, h5, by omega⟩, n⟩
/-- an object beside the deck stands -/
theorem Deck.tup {K : PySem.W.Frag} {H H' : Hp} {d b x : Addr} {c : Int} {xs : List V} (D : Deck K H d b c) (k : Kp d b H H') (h : H x = some (.tup xs)) : H' x = some (.tup xs) := by
  obtain ⟨⟨s, ns, cs, i, j, h1, h2, _⟩, n⟩ := D
  exact k x _ (fun e => by rw [e, h1] at h; cases h) (fun e => by rw [e, h2] at h; cases h) h
theorem Deck.seqT {K : PySem.W.Frag} {H H' : Hp} {d b x : Addr} {c : Int} {xs : List V} (D : Deck K H d b c) (k : Kp d b H H') (h : SqT K H x xs) : SqT K H' x xs := by
  obtain ⟨⟨s, ns, cs, i, j, h1, h2, _⟩, n⟩ := D
  rcases h with (h | ⟨o, h⟩) | h
  · exact .inl (.inl (k x _ (fun e => by rw [e, h1] at h; cases h) (fun e => by rw [e, h2] at h; cases h) h))
  · exact .inl (.inr ⟨o, k x _ (fun e => by rw [e, h1] at h; cases h) (fun e => by rw [e, h2] at h; cases h) h⟩)
  · exact .inr h
theorem Deck.hd {K : PySem.W.Frag} {H : Hp} {d b : Addr} {c : Int} (D : Deck K H d b c) : H d ≠ none := by
  obtain ⟨⟨s, ns, cs, i, j, h1, _⟩, n⟩ := D
  rw [h1]; exact fun e => nomatch e
theorem Deck.hb {K : PySem.W.Frag} {H : Hp} {d b : Addr} {c : Int} (D : Deck K H d b c) : H b ≠ none := by
  obtain ⟨⟨s, ns, cs, i, j, _, h1, _⟩, n⟩ := D
  rw [h1]; exact fun e => nomatch e
theorem Deck.free {K : PySem.W.Frag} {H H' : Hp} {d b x : Addr} {c c' : Int} (D : Deck K H d b c) (D' : Deck K H' d b c') (k : Kp d b H H') (h : H' x = none) : H x = none := k.free D.hd D.hb h D'.hd D'.hb
theorem Deck.ne_d {K : PySem.W.Frag} {H : Hp} {d b x : Addr} {c : Int} (D : Deck K H d b c) (h : H x = none) : x ≠ d := fun e => D.hd (e ▸ h)
theorem Deck.ne_b {K : PySem.W.Frag} {H : Hp} {d b x : Addr} {c : Int} (D : Deck K H d b c) (h : H x = none) : x ≠ b := fun e => D.hb (e ▸ h)
/-! ### numbers -/
theorem log2_lt {n k : Nat} (h : n < 2 ^ k) (h0 : 0 < k) : n.log2 < k := PySem.Flt.log2_lt_of h0 h
theorem size63 {n : Nat} (h : n ≤ 1000) : n ≤ sizeLine := Nat.le_of_lt (small1000 h)
theorem abs_nn (i : Int) : 0 ≤ (if i < 0 then -i else i) := by
  split <;> omega
theorem abs_nat (i : Int) : (if i < 0 then -i else i) = (i.natAbs : Int) := by
  split <;> omega
/-! ### the facts of the text -/
structure Ad where
  f_p_is_whole : Addr
  fd_p_is_whole : FuncData
  f_p_common_divisor : Addr
  fd_p_common_divisor : FuncData
  f_p_is_share : Addr
  fd_p_is_share : FuncData
  f_p_share : Addr
  fd_p_share : FuncData
  f_l_cell : Addr
  fd_l_cell : FuncData
  f_l_mixed : Addr
  fd_l_mixed : FuncData
  f_l_deck : Addr
  fd_l_deck : FuncData
  f_l_take : Addr
  fd_l_take : FuncData
  f_l_gcd : Addr
  fd_l_gcd : FuncData
  f_l_whole : Addr
  fd_l_whole : FuncData
  f_l_is_whole : Addr
  fd_l_is_whole : FuncData
  f_l_is_share : Addr
  fd_l_is_share : FuncData
  f_l_truth : Addr
  fd_l_truth : FuncData
  f_l_refused : Addr
  fd_l_refused : FuncData
  f_l_things : Addr
  fd_l_things : FuncData
  f_l_right : Addr
  fd_l_right : FuncData
  f_law : Addr
  fd_law : FuncData
  c_BodyError : Addr
  c_NoShare : Addr
  c_NoWay : Addr
  c_BadShape : Addr
  k_LENGTHY : Tok
structure Tx (K : PySem.W.Frag) (mg : Str → Option Value) (A : Ad) : Prop where
  F_p_is_whole : Fun K "is_whole" "is_whole" s_p_is_whole A.f_p_is_whole A.fd_p_is_whole
  b_p_is_whole : Binds K A.fd_p_is_whole ["thing"] []
  g_p_is_whole : mg "is_whole" = some (.ref A.f_p_is_whole)
  F_p_common_divisor : Fun K "common_divisor" "common_divisor" s_p_common_divisor A.f_p_common_divisor A.fd_p_common_divisor
  b_p_common_divisor : Binds K A.fd_p_common_divisor ["one", "other"] []
  g_p_common_divisor : mg "common_divisor" = some (.ref A.f_p_common_divisor)
  F_p_is_share : Fun K "is_share" "is_share" s_p_is_share A.f_p_is_share A.fd_p_is_share
  b_p_is_share : Binds K A.fd_p_is_share ["thing"] []
  g_p_is_share : mg "is_share" = some (.ref A.f_p_is_share)
  g_p_share : mg "share" = some (.ref A.f_p_share)
  F_l_cell : Fun K "_law_cell" "_law_cell" s_l_cell A.f_l_cell A.fd_l_cell
  b_l_cell : Binds K A.fd_l_cell ["_law_script", "_law_k"] []
  g_l_cell : mg "_law_cell" = some (.ref A.f_l_cell)
  F_l_mixed : Fun K "_law_mixed" "_law_mixed" s_l_mixed A.f_l_mixed A.fd_l_mixed
  b_l_mixed : Binds K A.fd_l_mixed ["_law_script", "_law_k", "_law_many"] []
  g_l_mixed : mg "_law_mixed" = some (.ref A.f_l_mixed)
  F_l_deck : Fun K "_law_deck" "_law_deck" s_l_deck A.f_l_deck A.fd_l_deck
  b_l_deck : Binds K A.fd_l_deck ["_law_script"] []
  g_l_deck : mg "_law_deck" = some (.ref A.f_l_deck)
  F_l_take : Fun K "_law_take" "_law_take" s_l_take A.f_l_take A.fd_l_take
  b_l_take : Binds K A.fd_l_take ["_law_deck_here", "_law_many"] []
  g_l_take : mg "_law_take" = some (.ref A.f_l_take)
  F_l_gcd : Fun K "_law_gcd" "_law_gcd" s_l_gcd A.f_l_gcd A.fd_l_gcd
  b_l_gcd : Binds K A.fd_l_gcd ["_law_one", "_law_other"] []
  g_l_gcd : mg "_law_gcd" = some (.ref A.f_l_gcd)
  F_l_whole : Fun K "_law_whole" "_law_whole" s_l_whole A.f_l_whole A.fd_l_whole
  b_l_whole : Binds K A.fd_l_whole ["_law_deck_here"] []
  g_l_whole : mg "_law_whole" = some (.ref A.f_l_whole)
  F_l_is_whole : Fun K "_law_is_whole" "_law_is_whole" s_l_is_whole A.f_l_is_whole A.fd_l_is_whole
  b_l_is_whole : Binds K A.fd_l_is_whole ["_law_thing"] []
  g_l_is_whole : mg "_law_is_whole" = some (.ref A.f_l_is_whole)
  F_l_is_share : Fun K "_law_is_share" "_law_is_share" s_l_is_share A.f_l_is_share A.fd_l_is_share
  b_l_is_share : Binds K A.fd_l_is_share ["_law_thing"] []
  g_l_is_share : mg "_law_is_share" = some (.ref A.f_l_is_share)
  F_l_truth : Fun K "_law_truth" "_law_truth" s_l_truth A.f_l_truth A.fd_l_truth
  b_l_truth : Binds K A.fd_l_truth ["_law_found", "_law_due"] []
  g_l_truth : mg "_law_truth" = some (.ref A.f_l_truth)
  F_l_refused : Fun K "_law_refused" "_law_refused" s_l_refused A.f_l_refused A.fd_l_refused
  b_l_refused : Binds K A.fd_l_refused ["_law_top"] []
  g_l_refused : mg "_law_refused" = some (.ref A.f_l_refused)
  F_l_things : Fun K "_law_things" "_law_things" s_l_things A.f_l_things A.fd_l_things
  b_l_things : Binds K A.fd_l_things ["_law_top", "_law_bottom", "_law_part"] []
  g_l_things : mg "_law_things" = some (.ref A.f_l_things)
  F_l_right : Fun K "_law_right" "_law_right" s_l_right A.f_l_right A.fd_l_right
  b_l_right : Binds K A.fd_l_right ["_law_top", "_law_bottom"] []
  g_l_right : mg "_law_right" = some (.ref A.f_l_right)
  F_law : Fun K "law" "law" s_law A.f_law A.fd_law
  b_law : Binds K A.fd_law ["_law_script"] []
  g_law : mg "law" = some (.ref A.f_law)
  m_ValueError : mg "ValueError" = none
  m_abs : mg "abs" = none
  m_bool : mg "bool" = none
  m_int : mg "int" = none
  m_isinstance : mg "isinstance" = none
  m_len : mg "len" = none
  m_max : mg "max" = none
  m_min : mg "min" = none
  m_range : mg "range" = none
  m_str : mg "str" = none
  m_tuple : mg "tuple" = none
  g_LENGTHY : mg "LENGTHY" = some (.int 4000 A.k_LENGTHY)
  g_BodyError : mg "BodyError" = some (.ref A.c_BodyError)
  g_NoShare : mg "NoShare" = some (.ref A.c_NoShare)
  g_NoWay : mg "NoWay" = some (.ref A.c_NoWay)
  g_BadShape : mg "BadShape" = some (.ref A.c_BadShape)
  x_NoShare : PySem.W.excIn K A.c_NoShare [.type "ValueError", .type "Exception", .type "BaseException", .type "object"] "ValueError.__new__" = true
  k_NoShare : PySem.W.keepIn K (.ref A.c_NoShare) = true
  b_NoShare : PySem.W.subIn K (.ref A.c_NoShare) (.type "BaseException") = some true
  t_NoShare : PySem.W.typeIn K (.ref A.c_NoShare) = some (.type "type")
  e_NoShare : PySem.W.exmOne K (.ref A.c_NoShare) (.ref A.c_NoShare) = some true
  E_NoShare : ExcC K A.c_NoShare
  i_NoShare_BodyError : PySem.W.kitOne K (.ref A.c_NoShare) (.ref A.c_BodyError) = some true
  i_NoShare_ValueError : PySem.W.kitOne K (.ref A.c_NoShare) (.type "ValueError") = some true
  i_NoShare_NoWay : PySem.W.kitOne K (.ref A.c_NoShare) (.ref A.c_NoWay) = some false
  i_NoShare_BadShape : PySem.W.kitOne K (.ref A.c_NoShare) (.ref A.c_BadShape) = some false
  F_p_share : FunD K "share" "share" (defArgs s_p_share) (defBody s_p_share) (defScope s_p_share) [.int 1] [] A.f_p_share A.fd_p_share
  b_p_share : Binds K A.fd_p_share ["top", "bottom"] []
  b1_p_share : ∃ t, Binds K A.fd_p_share ["top", "bottom"] [Value.int 1 t]
  zz : PySem.W.nsIn K cStatics "sys.int_max_str_digits" = some none
section
variable {P : Program} {w : World} {K : PySem.W.Frag} {mg : Str → Option Value} {base : Heap} {A : Ad}
theorem ixN_nat {n j : Nat} (h : j < n) : ixN n (j : Int) = some j := by
  unfold ixN
  rw [if_pos (by omega), if_pos (by omega)]
  rfl
theorem ty_tup {H : Hp} {a : Addr} {xs : List V} (h : SqT K H a xs) : TyX K H (.ref a) (.type "tuple") := by
  rcases h with (h | ⟨o, h⟩) | ⟨o, its, n, h, hc, _⟩
  · exact .base (.tup h)
  · exact .fTuple h
  · exact .kTuple h hc

/-! ### an except suite whose error is of a known class -/
def tOwn (D : Addr) (cls : Value) (d : Option Addr) (t : TS) : TS := fun e σ H => cls = .ref D ∧ d = none ∧ t e σ H
theorem suite_own {X : Cx} {ss : List Stmt} {t : TS} {D : Addr} {oe : Obj} {cls : Value} {d : Option Addr} (hz : Zc cls d oe) (h : Zc (.ref D) none oe → PSs X ss t) : PSs X ss (tOwn D cls d t) := ⟨fun pins s σ H E I q => by
  obtain ⟨rfl, rfl, q⟩ := q
  exact (h hz).run pins s σ H E I q⟩
theorem kit_ref {K : PySem.W.Frag} {D C : Addr} {b : Bool} (hc : PySem.W.isClsIn K C = true) (ht : PySem.W.typeIn K (.ref C) = some (.type "type")) (hs : PySem.W.subIn K (.ref D) (.ref C) = some b) (hd : PySem.W.subIn K (.ref D) (.ref D) = some true) : PySem.W.kitOne K (.ref D) (.ref C) = some b := by
  unfold PySem.W.kitOne
  by_cases e : D = C
  · subst e
    rw [hd] at hs
    cases hs
    rw [if_pos (beq_self_eq_true _)]
  · have hne : ¬ ((Value.ref D == Value.ref C) = true) := fun z => e (Value.ref.inj (beq_iff_eq.mp z))
    rw [if_neg hne]
    have h2 : ((PySem.W.clsIn K C).isSome && PySem.W.typeIn K (.ref C) == some (.type "type")) = true := by
      have h2' : (PySem.W.clsIn K C).isSome = true := hc
      rw [h2', ht] <;> rfl
    show (if ((PySem.W.clsIn K C).isSome && PySem.W.typeIn K (.ref C) == some (.type "type")) = true then PySem.W.subIn K (.ref D) (.ref C) else none) = some b
    rw [if_pos h2]
    exact hs
theorem kit_type {K : PySem.W.Frag} {D : Addr} {n : String} {b : Bool} (hm : PySem.W.kitMeta n = true) (hs : PySem.W.subIn K (.ref D) (.type n) = some b) : PySem.W.kitOne K (.ref D) (.type n) = some b := by
  unfold PySem.W.kitOne
  have hne : ¬ ((Value.ref D == Value.type n) = true) := fun z => nomatch (beq_iff_eq.mp z)
  rw [if_neg hne]
  show (if PySem.W.kitMeta n = true then PySem.W.subIn K (.ref D) (.type n) else none) = some b
  rw [if_pos hm]
  exact hs

/-! ### a cell of the script -/
def sp_l_cell (K : PySem.W.Frag) : Sp := fun vs H Q _ => ∃ (s : Addr) (ns : List Int) (k : Int), vs = [.ref s, .int k] ∧ SqL K H s (ns.map V.int) ∧ 0 ≤ k ∧ k ≤ 1000000 ∧ ∀ r, 0 ≤ r → Q (.int r) H
theorem ok_l_cell (T : Tx K mg A) : FnOk P w K mg base CX0 1 A.f_l_cell A.fd_l_cell ["_law_script", "_law_k"] (sp_l_cell K) := by
  refine T.F_l_cell.ok sc_l_cell (fun vs H Q E h => ?_) (fun cdv Ar outer s H vs Q E hr h => ?_)
  · obtain ⟨s, ns, k, rfl, _⟩ := h
    rfl
  · obtain ⟨s, ns, k, rfl, hS, h0, h1, q⟩ := h
    refine ⟨_, (pss_cons (ps_if (pt_cmpR op_eq (pe_callB call_len_seq (by rfl) T.m_len (by decide +kernel) (pa_cons (pv 0) pa_nil)) pe_int (nomark _))
      (pss_one (ps_ret (pe_op op_add (pe_op op_mul pe_int (pv 1)) pe_int)))
      pss_nil)
    (pss_one (ps_ret (pe_callB call_abs (by rfl) T.m_abs (by decide +kernel) (pa_cons (pe_ix ix_list (pv 0) (pe_op op_mod (pv 1) (pe_callB call_len_seq (by rfl) T.m_len (by decide +kernel) (pa_cons (pv 0) pa_nil))) (fun _ _ => rfl)) pa_nil))))), ?_⟩
    refine ⟨.ref s, rfl, s, ns.map V.int, rfl, .inl hS, rfl, _, rfl, ite2 (fun e => ?_) (fun e => ?_)⟩
    · exact ⟨_, rfl, 7, k, rfl, rfl, .inl (by decide), _, _, rfl, rfl, q _ (by omega)⟩
    · have hl : ns.length ≠ 0 := fun z => e (decide_eq_true (by rw [List.length_map, z]; rfl))
      have hp : (0 : Int) < ((ns.map V.int).length : Int) := by
        rw [List.length_map]
        omega
      have hm0 : 0 ≤ k % ((ns.map V.int).length : Int) := Int.emod_nonneg _ (by omega)
      have hm1 : k % ((ns.map V.int).length : Int) < ((ns.map V.int).length : Int) := Int.emod_lt_of_pos _ hp
      obtain ⟨j, hj⟩ : ∃ j : Nat, (j : Int) = k % ((ns.map V.int).length : Int) := ⟨_, Int.toNat_of_nonneg hm0⟩
      have hj2 : j < ns.length := by
        rw [List.length_map] at hj hm1
        omega
      have ha : atI (ns.map V.int) (k % ((ns.map V.int).length : Int)) = some (.int ns[j]) := by
        rw [← hj]
        exact atI_nat (by rw [List.getElem?_map, List.getElem?_eq_getElem hj2]; rfl)
      exact ⟨_, rfl, _, rfl, _, rfl, s, _, rfl, .inl hS, k, _, rfl, rfl, hp, s, _, _, _, rfl, rfl, hS, ha, _, rfl, q _ (abs_nn _)⟩
/-! ### a mixed number -/
def sp_l_mixed (K : PySem.W.Frag) : Sp := fun vs H Q _ => ∃ (s : Addr) (ns : List Int) (k m : Int), vs = [.ref s, .int k, .int m] ∧ SqL K H s (ns.map V.int) ∧ 0 ≤ k ∧ k ≤ 1000000 ∧ 0 < m ∧ ∀ r, 0 ≤ r → r < m → Q (.int r) H
theorem mixed_bound {r k : Int} (h0 : 0 ≤ r) (h1 : r < 1000003) (k0 : 0 ≤ k) (k1 : k ≤ 1000000) : ((r + 5) * (k + 2) + 7919 * k).natAbs < 2 ^ 64 := by
  have e1 : (r + 5) * (k + 2) ≤ 1000008 * 1000002 := Int.mul_le_mul (by omega) (by omega) (by omega) (by omega)
  have e0 : 0 ≤ (r + 5) * (k + 2) := Int.mul_nonneg (by omega) (by omega)
  omega
theorem ok_l_mixed (T : Tx K mg A) : FnOk P w K mg base CX0 2 A.f_l_mixed A.fd_l_mixed ["_law_script", "_law_k", "_law_many"] (sp_l_mixed K) := by
  refine T.F_l_mixed.ok sc_l_mixed (fun vs H Q E h => ?_) (fun cdv Ar outer s H vs Q E hr h => ?_)
  · obtain ⟨s, ns, k, m, rfl, _⟩ := h
    rfl
  · obtain ⟨s, ns, k, m, rfl, hS, h0, h1, hm, q⟩ := h
    refine ⟨_, (pss_cons (ps_set (i := 3) sc_l_mixed.nd rfl (.inl rfl) (pe_op op_mod (pe_op op_pow (pe_op op_add (pe_op op_mul (pe_op op_add (pe_op op_mod (pe_call (ok_l_cell T) (hr.mono (by decide)) (by rfl) T.g_l_cell T.F_l_cell.kp T.b_l_cell .nil pass0 (pa_cons (pv 0) (pa_cons (pv 1) pa_nil))) pe_int) pe_int) (pe_op op_add (pv 1) pe_int)) (pe_op op_mul pe_int (pv 1))) pe_int) pe_int))
    (pss_one (ps_ret (pe_op op_mod (pe_op op_fdivW (pv 3) pe_int) (pv 2))))), ?_⟩
    refine ⟨_, rfl, _, rfl, s, ns, k, rfl, hS, h0, h1, fun r hr0 => ?_⟩
    have c0 : 0 ≤ r % 1000003 := Int.emod_nonneg _ (by decide)
    have c1 : r % 1000003 < 1000003 := Int.emod_lt_of_pos _ (by decide)
    refine ⟨r, 1000003, rfl, rfl, (show (0 : Int) < 1000003 by decide), _, _, rfl, rfl, _, rfl, _, _, rfl, rfl, _, _, rfl, rfl, ?_, _, rfl, _, _, rfl, rfl, .inl (by decide), _, _, rfl, rfl, _, _, rfl, rfl, ⟨by decide, by decide, ?_⟩, _, _, rfl, rfl, (show (0 : Int) < 2147483647 by decide), ?_⟩
    · exact .inl ⟨by omega, by omega⟩
    · exact mixed_bound c0 c1 h0 h1
    · refine ⟨_, rfl, _, _, rfl, rfl, ⟨by decide, by decide⟩, _, rfl, _, _, rfl, rfl, hm, ?_⟩
      exact q _ (Int.emod_nonneg _ (by omega)) (Int.emod_lt_of_pos _ hm)
/-! ### the deck is made -/
def sp_l_deck (K : PySem.W.Frag) : Sp := fun vs H Q _ => ∃ (s : Addr) (ns : List Int), vs = [.ref s] ∧ Sc K H s ns ∧ ns.length ≤ 63 ∧ ∀ H' d b, H d = none → H b = none → Deck K H' d b 0 → Same H H' → Q (.ref d) H'
theorem ok_l_deck (T : Tx K mg A) : FnOk P w K mg base CX0 1 A.f_l_deck A.fd_l_deck ["_law_script"] (sp_l_deck K) := by
  refine T.F_l_deck.ok sc_l_deck (fun vs H Q E h => ?_) (fun cdv Ar outer s H vs Q E hr h => ?_)
  · obtain ⟨s, ns, rfl, _⟩ := h
    rfl
  · obtain ⟨s, ns, rfl, hS, hlen, q⟩ := h
    refine ⟨_, (pss_one (ps_ret (pe_lst (pa_cons (pv 0) (pa_cons (pe_lc (own := [("_law_cell_here", 1)]) rfl sc_l_deck.nd (pi_list (pv 0)) (blkOk_by (own := [("_law_cell_here", 1)]) (N := ["_law_script", "_law_cell_here"]) (sc := defScope s_l_deck) (by decide +kernel)) (fun _ _ _ _ _ => (pg_name (i := 1) sc_l_deck.nd rfl (Or.inl rfl))) (fun _ _ _ _ _ => (pts_one (pt_cmpR op_ge (pe_callB call_abs (by rfl) T.m_abs (by decide +kernel) (pa_cons (pv 1) pa_nil)) (pe_op op_pow pe_int pe_int) (nomark _)))) (fun _ _ _ _ _ => (pe_callB call_abs (by rfl) T.m_abs (by decide +kernel) (pa_cons (pv 1) pa_nil)))) (pa_cons pe_int (pa_cons pe_int pa_nil))))))), ?_⟩
    refine ⟨_, rfl, _, rfl, s, rfl, ⟨_, hS.seq⟩, fun D hD => lc_list (K := K) (a := s) (xs := ns.map V.int) (fun i H' => ∃ cs : List Int, Same H H' ∧ Sc K H' s ns ∧ H' D = some (.lst (cs.map V.int)) ∧ cs.length ≤ i) ?_ ?_ ?_ ?_⟩
    · exact ⟨[], same_upd hD, hS.upd (.inl hD), upd_same, Nat.le_refl _⟩
    · rintro i H' _ ⟨cs, _, h, _⟩
      exact h.seq
    · rintro i x H' hx ⟨cs, sm, hs, hd, hc⟩
      obtain ⟨n, rfl⟩ : ∃ n : Int, x = .int n := by
        rw [List.getElem?_map] at hx
        cases e : ns[i]? with
        | none => rw [e] at hx; cases hx
        | some n => rw [e] at hx; exact ⟨n, (Option.some.inj hx).symm⟩
      have hi : i < ns.length := by
        have := (List.getElem?_eq_some_iff.mp hx).1
        rw [List.length_map] at this
        exact this
      refine ⟨rfl, _, rfl, n, rfl, 10, 18, rfl, rfl, ⟨by decide, by decide, by decide⟩, _, _, rfl, rfl, _, rfl, ite2 (fun e => ?_) (fun e => ?_)⟩
      · refine ⟨_, rfl, n, rfl, cs.map V.int, hd, small1000 (by rw [List.length_map]; omega), cs ++ [(if n < 0 then -n else n)], ?_, ?_, ?_, ?_⟩
        · exact fun x o h => by
            rw [upd_ne (ne_of_none h hD)]
            exact sm _ _ h
        · exact hs.upd (.inr ⟨_, hd⟩)
        · rw [upd_same, List.map_append]
          rfl
        · rw [List.length_append]
          exact Nat.succ_le_succ hc
      · exact ⟨cs, sm, hs, hd, Nat.le_succ_of_le hc⟩
    · rintro H' ⟨cs, sm, hs, hd, hc⟩
      refine ⟨size63 (show 4 ≤ 1000 by decide), fun d hn => ?_⟩
      have ne : D ≠ d := ne_of_none hd hn
      refine q _ d D (sm.free hn) hD ⟨⟨s, ns, cs, 0, 0, upd_same, ?_, hs.upd (.inl hn), by omega, by omega, by omega⟩, ne⟩ (sm.trans (same_upd hn))
      rw [upd_ne ne]
      exact hd
/-! ### a number is taken -/
def sp_l_take (K : PySem.W.Frag) : Sp := fun vs H Q _ => ∃ (d b : Addr) (c m : Int), vs = [.ref d, .int m] ∧ Deck K H d b c ∧ c < 1000000 ∧ 0 < m ∧ m.natAbs.log2 < 9000 ∧ ∀ H' r, Deck K H' d b (c + 1) → Kp d b H H' → 0 ≤ r → r < m → Q (.int r) H'
theorem ok_l_take (T : Tx K mg A) : FnOk P w K mg base CX0 3 A.f_l_take A.fd_l_take ["_law_deck_here", "_law_many"] (sp_l_take K) := by
  refine T.F_l_take.ok sc_l_take (fun vs H Q E h => ?_) (fun cdv Ar outer s H vs Q E hr h => ?_)
  · obtain ⟨d, b, c, m, rfl, _⟩ := h
    rfl
  · obtain ⟨d, b, c, m, rfl, ⟨⟨s, ns, cs, i0, k, hd, hb, hS, hi0, hk0, hk1⟩, ne⟩, hc, hm, hm2, q⟩ := h
    refine ⟨_, (pss_cons (ps_while PassesOwn.never (pt_cmpR op_lt (pe_ix ix_list (pv 0) pe_int (fun _ _ => rfl)) (pe_callB call_len_seq (by rfl) T.m_len (by decide +kernel) (pa_cons (pe_ix ix_list (pv 0) pe_int (fun _ _ => rfl)) pa_nil)) (nomark _))
      (pss_cons (ps_set (i := 2) sc_l_take.nd rfl (.inl rfl) (pe_ix ix_list (pe_ix ix_list (pv 0) pe_int (fun _ _ => rfl)) (pe_ix ix_list (pv 0) pe_int (fun _ _ => rfl)) (fun _ _ => rfl)))
    (pss_cons (ps_if (pt_cmpR op_gt (pv 2) pe_int (nomark _))
      (pss_cons (ps_asg (pe_op op_fdivW (pv 2) (pv 1)) (pg_sub (pe_ix ix_list (pv 0) pe_int (fun _ _ => rfl)) (pe_ix ix_list (pv 0) pe_int (fun _ _ => rfl)) set_list))
    (pss_one (ps_ret (pe_op op_mod (pv 2) (pv 1)))))
      pss_nil)
    (pss_one (ps_asg (pe_op op_add (pe_ix ix_list (pv 0) pe_int (fun _ _ => rfl)) pe_int) (pg_sub (pv 0) pe_int set_list))))))
    (pss_cons (ps_asg (pe_op op_add (pe_ix ix_list (pv 0) pe_int (fun _ _ => rfl)) pe_int) (pg_sub (pv 0) pe_int set_list))
    (pss_one (ps_ret (pe_call (ok_l_mixed T) (hr.mono (by decide)) (by rfl) T.g_l_mixed T.F_l_mixed.kp T.b_l_mixed .nil pass0 (pa_cons (pe_ix ix_list (pv 0) pe_int (fun _ _ => rfl)) (pa_cons (pe_ix ix_list (pv 0) pe_int (fun _ _ => rfl)) (pa_cons (pv 1) pa_nil)))))))), ?_⟩
    refine ⟨fun n σ H' => ∃ (y : Option V) (i : Int), σ = [some (.ref d), some (.int m), y] ∧ 0 ≤ i ∧ n = cs.length - i.toNat ∧ H' d = some (.lst [.ref s, .ref b, .int i, .int k]) ∧ H' b = some (.lst (cs.map V.int)) ∧ Sc K H' s ns ∧ Kp d b H H', ⟨_, none, i0, rfl, hi0, rfl, hd, hb, hS, Kp.refl⟩, fun n σ H' hW => ?_⟩
    obtain ⟨y, i, rfl, hi, hn, hd', hb', hS', kp⟩ := hW
    refine ⟨_, rfl, d, _, 2, .int i, rfl, rfl, SqL.of hd', rfl, _, rfl, d, _, 1, .ref b, rfl, rfl, SqL.of hd', rfl, b, _, rfl, .inl (SqL.of hb'), i, _, rfl, rfl, _, rfl, ite2 (fun e => ?_) (fun e => ?_)⟩
    · -- a turn
      have hlt : i < ((cs.map V.int).length : Int) := of_decide_eq_true e
      rw [List.length_map] at hlt
      obtain ⟨j, rfl⟩ : ∃ j : Nat, i = (j : Int) := ⟨_, (Int.toNat_of_nonneg hi).symm⟩
      have hj : j < cs.length := by omega
      have ha : atI (cs.map V.int) (j : Int) = some (.int cs[j]) := atI_nat (by rw [List.getElem?_map, List.getElem?_eq_getElem hj]; rfl)
      refine ⟨fun σ' H'' => ∃ (y : Option V), σ' = [some (.ref d), some (.int m), y] ∧ H'' d = some (.lst [.ref s, .ref b, .int ((j : Int) + 1), .int k]) ∧ H'' b = some (.lst (cs.map V.int)) ∧ Sc K H'' s ns ∧ Kp d b H H'', ?_, ?_⟩
      · rintro σ' H'' ⟨y, e1, e2, e3, e4, e5⟩
        exact ⟨cs.length - ((j : Int) + 1).toNat, by omega, y, _, e1, by omega, rfl, e2, e3, e4, e5⟩
      · refine ⟨_, rfl, d, _, 1, .ref b, rfl, rfl, SqL.of hd', rfl, _, rfl, d, _, 2, .int (j : Int), rfl, rfl, SqL.of hd', rfl, b, _, (j : Int), .int cs[j], rfl, rfl, SqL.of hb', ha, ?_⟩
        refine ⟨_, rfl, cs[j], 0, rfl, rfl, _, rfl, ite2 (fun e2 => ?_) (fun e2 => ?_)⟩
        · -- the cell is drawn from
          refine ⟨_, rfl, _, rfl, cs[j], m, rfl, rfl, ⟨hm, hm2⟩, _, rfl, d, _, 1, .ref b, rfl, rfl, SqL.of hd', rfl, _, rfl, d, _, 2, .int (j : Int), rfl, rfl, SqL.of hd', rfl, b, _, (j : Int), j, rfl, rfl, hb', ?_, ?_⟩
          · exact ixN_nat (by rw [List.length_map]; exact hj)
          · refine ⟨_, rfl, _, rfl, cs[j], m, rfl, rfl, hm, ?_⟩
            refine q _ _ ⟨⟨s, ns, cs.set j (cs[j] / m), (j : Int), k, ?_, ?_, hS'.upd (.inr ⟨_, hb'⟩), by omega, hk0, by omega⟩, ne⟩ ?_ (Int.emod_nonneg _ (by omega)) (Int.emod_lt_of_pos _ hm)
            · rw [upd_ne (Ne.symm ne)]
              exact hd'
            · rw [upd_same, List.map_set]
            · intro x o h1 h2 h
              rw [upd_ne h2]
              exact kp x o h1 h2 h
        · -- the next cell
          refine ⟨_, rfl, d, _, 2, .int (j : Int), rfl, rfl, SqL.of hd', rfl, _, _, rfl, rfl, _, rfl, d, _, 2, 2, rfl, rfl, hd', rfl, ?_⟩
          refine ⟨_, rfl, ?_, ?_, hS'.upd (.inr ⟨_, hd'⟩), ?_⟩
          · rw [upd_same]; rfl
          · rw [upd_ne ne]; exact hb'
          · intro x o h1 h2 h
            rw [upd_ne h1]
            exact kp x o h1 h2 h
    · -- no cell is left
      refine ⟨_, rfl, d, _, 3, .int k, rfl, rfl, SqL.of hd', rfl, _, _, rfl, rfl, _, rfl, d, _, 3, 3, rfl, rfl, hd', rfl, ?_⟩
      have hd2 : (upd H' d (.lst ([V.ref s, V.ref b, V.int i, V.int k].set 3 (V.int (k + 1))))) d = some (.lst [.ref s, .ref b, .int i, .int (k + 1)]) := upd_same
      have hS2 : Sc K (upd H' d (.lst ([V.ref s, V.ref b, V.int i, V.int k].set 3 (V.int (k + 1))))) s ns := hS'.upd (.inr ⟨_, hd'⟩)
      refine ⟨_, rfl, d, _, 0, .ref s, rfl, rfl, SqL.of hd2, rfl, _, rfl, d, _, 3, .int (k + 1), rfl, rfl, SqL.of hd2, rfl, _, rfl, s, ns, k + 1, m, rfl, hS2.seq, by omega, by omega, hm, fun r h0 h1 => ?_⟩
      refine q _ r ⟨⟨s, ns, cs, i, k + 1, hd2, ?_, hS2, hi, by omega, by omega⟩, ne⟩ ?_ h0 h1
      · rw [upd_ne ne]; exact hb'
      · intro x o h1 h2 h
        rw [upd_ne h1]
        exact kp x o h1 h2 h

/-! ### divisors -/
def gcdI (a b : Int) : Int := ((Nat.gcd a.natAbs b.natAbs : Nat) : Int)
/-- a share's two numbers -/
def IsSh (t u : Int) : Prop := 1 ≤ u ∧ gcdI t u = 1
instance (t u : Int) : Decidable (IsSh t u) := inferInstanceAs (Decidable (_ ∧ _))
theorem gcdI_nn (a b : Int) : 0 ≤ gcdI a b := Int.natCast_nonneg _
theorem gcdI_pos {a b : Int} (h : b ≠ 0) : 0 < gcdI a b := by
  have : 0 < Nat.gcd a.natAbs b.natAbs := Nat.gcd_pos_of_pos_right _ (by omega)
  unfold gcdI
  omega
theorem gcdI_neg_l (a b : Int) : gcdI (-a) b = gcdI a b := by
  unfold gcdI
  rw [Int.natAbs_neg]
theorem gcdI_neg_r (a b : Int) : gcdI a (-b) = gcdI a b := by
  unfold gcdI
  rw [Int.natAbs_neg]
theorem gcdI_dvd_l (a b : Int) : gcdI a b ∣ a := by
  unfold gcdI
  exact Int.ofNat_dvd_left.mpr (Nat.gcd_dvd_left _ _)
theorem gcdI_dvd_r (a b : Int) : gcdI a b ∣ b := by
  unfold gcdI
  exact Int.ofNat_dvd_left.mpr (Nat.gcd_dvd_right _ _)
/-- a share is told by what it is worth -/
theorem share_uniq {t u t' u' : Int} (h : IsSh t u) (h' : IsSh t' u') (e : t * u' = t' * u) : t = t' ∧ u = u' := by
  obtain ⟨u1, g1⟩ := h
  obtain ⟨u2, g2⟩ := h'
  have c1 : Nat.gcd t.natAbs u.natAbs = 1 := by unfold gcdI at g1; omega
  have c2 : Nat.gcd t'.natAbs u'.natAbs = 1 := by unfold gcdI at g2; omega
  have en : t.natAbs * u'.natAbs = t'.natAbs * u.natAbs := by
    rw [← Int.natAbs_mul, ← Int.natAbs_mul, e]
  have d1 : u.natAbs ∣ u'.natAbs := (Nat.Coprime.symm c1).dvd_of_dvd_mul_left (by rw [en]; exact Nat.dvd_mul_left _ _)
  have d2 : u'.natAbs ∣ u.natAbs := (Nat.Coprime.symm c2).dvd_of_dvd_mul_left (by rw [← en]; exact Nat.dvd_mul_left _ _)
  have eu : u = u' := by
    have := Nat.dvd_antisymm d1 d2
    omega
  subst eu
  exact ⟨Int.eq_of_mul_eq_mul_right (by omega) e, rfl⟩
theorem dvd_le_natAbs {g a : Int} (h : g ∣ a) (ha : a ≠ 0) : g.natAbs ≤ a.natAbs := Nat.le_of_dvd (by omega) (Int.natAbs_dvd_natAbs.mpr h)
theorem div_natAbs_le {a g : Int} (hg : 0 < g) (h : g ∣ a) : (a / g).natAbs ≤ a.natAbs := by
  obtain ⟨q, rfl⟩ := h
  rw [Int.mul_ediv_cancel_left _ (by omega), Int.natAbs_mul]
  exact Nat.le_mul_of_pos_left _ (by omega)
/-- a over b (b above nought) in lowest terms -/
theorem low_is {a b : Int} (hb : 0 < b) : IsSh (a / gcdI a b) (b / gcdI a b) ∧ (a / gcdI a b) * b = (b / gcdI a b) * a ∧ (a / gcdI a b).natAbs ≤ a.natAbs ∧ (b / gcdI a b).natAbs ≤ b.natAbs := by
  have hg : 0 < gcdI a b := gcdI_pos (by omega)
  have d1 := gcdI_dvd_l a b
  have d2 := gcdI_dvd_r a b
  refine ⟨⟨?_, ?_⟩, ?_, div_natAbs_le hg d1, div_natAbs_le hg d2⟩
  · have : 0 < b / gcdI a b := Int.ediv_pos_of_pos_of_dvd hb (by omega) d2
    omega
  · unfold gcdI at hg d1 d2 ⊢
    have e1 : (a / ((Nat.gcd a.natAbs b.natAbs : Nat) : Int)).natAbs = a.natAbs / Nat.gcd a.natAbs b.natAbs := by
      rw [Int.natAbs_ediv_of_dvd d1]
      rfl
    have e2 : (b / ((Nat.gcd a.natAbs b.natAbs : Nat) : Int)).natAbs = b.natAbs / Nat.gcd a.natAbs b.natAbs := by
      rw [Int.natAbs_ediv_of_dvd d2]
      rfl
    rw [e1, e2, Nat.gcd_div_gcd_div_gcd_of_pos_right (by omega)]
    rfl
  · obtain ⟨x, hx⟩ := d1
    obtain ⟨y, hy⟩ := d2
    have q1 : a / gcdI a b = x := (Int.eq_ediv_of_mul_eq_right (by omega) hx.symm).symm
    have q2 : b / gcdI a b = y := (Int.eq_ediv_of_mul_eq_right (by omega) hy.symm).symm
    rw [q1, q2]
    conv => lhs; rw [hy]
    conv => rhs; rw [hx]
    rw [Int.mul_left_comm, Int.mul_left_comm y, Int.mul_comm x y]
theorem log_le {m n k : Nat} (h : m ≤ n) (hn : n < 2 ^ k) (h0 : 0 < k) : m.log2 < k := log2_lt (Nat.lt_of_le_of_lt h hn) h0
/-! ### the law's gcd -/
def sp_gcd : Sp := fun vs H Q _ => ∃ a b : Int, vs = [.int a, .int b] ∧ Q (.int (gcdI a b)) H
theorem ok_l_gcd (T : Tx K mg A) : FnOk P w K mg base CX0 1 A.f_l_gcd A.fd_l_gcd ["_law_one", "_law_other"] sp_gcd := by
  refine T.F_l_gcd.ok sc_l_gcd (fun vs H Q E h => ?_) (fun cdv Ar outer s H vs Q E hr h => ?_)
  · obtain ⟨a, b, rfl, _⟩ := h
    rfl
  · obtain ⟨a, b, rfl, q⟩ := h
    refine ⟨_, (pss_cons (ps_set (i := 0) sc_l_gcd.nd rfl (.inl rfl) (pe_callB call_abs (by rfl) T.m_abs (by decide +kernel) (pa_cons (pv 0) pa_nil)))
    (pss_cons (ps_set (i := 1) sc_l_gcd.nd rfl (.inl rfl) (pe_callB call_abs (by rfl) T.m_abs (by decide +kernel) (pa_cons (pv 1) pa_nil)))
    (pss_cons (ps_while PassesOwn.never (pt_cmpR op_gt (pv 1) pe_int (nomark _))
      (pss_cons (ps_set (i := 2) sc_l_gcd.nd rfl (.inl rfl) (pe_op op_mod (pv 0) (pv 1)))
    (pss_cons (ps_set (i := 0) sc_l_gcd.nd rfl (.inl rfl) (pv 1))
    (pss_one (ps_set (i := 1) sc_l_gcd.nd rfl (.inl rfl) (pv 2))))))
    (pss_one (ps_ret (pv 0)))))), ?_⟩
    refine ⟨_, rfl, a, rfl, _, rfl, b, rfl, ?_⟩
    refine ⟨fun n σ H' => ∃ (x y : Nat) (r : Option V), σ = [some (.int (x : Int)), some (.int (y : Int)), r] ∧ n = y ∧ H' = H ∧ Nat.gcd x y = Nat.gcd a.natAbs b.natAbs, ⟨_, a.natAbs, b.natAbs, none, ?_, rfl, rfl, rfl⟩, fun n σ H' hW => ?_⟩
    · rw [abs_nat, abs_nat]
      rfl
    · obtain ⟨x, y, r, rfl, rfl, rfl, g⟩ := hW
      refine ⟨_, rfl, (n : Int), 0, rfl, rfl, _, rfl, ite2 (fun e => ?_) (fun e => ?_)⟩
      · have hy : 0 < n := by
          have := of_decide_eq_true e
          omega
        refine ⟨fun σ' H'' => ∃ r, σ' = [some (.int (n : Int)), some (.int ((x % n : Nat) : Int)), r] ∧ H'' = H', ?_, ?_⟩
        · rintro σ' H'' ⟨r, e1, rfl⟩
          exact ⟨x % n, Nat.mod_lt _ hy, n, x % n, r, e1, rfl, rfl, by rw [← g, Nat.gcd_comm x n, Nat.gcd_rec n x, Nat.gcd_comm]⟩
        · refine ⟨_, rfl, _, rfl, (x : Int), (n : Int), rfl, rfl, by omega, _, rfl, _, rfl, _, rfl, rfl⟩
      · have hy : n = 0 := by
          have : ¬ (0 < (n : Int)) := fun z => e (decide_eq_true z)
          omega
        subst hy
        refine ⟨_, rfl, ?_⟩
        have : (x : Int) = gcdI a b := by
          unfold gcdI
          rw [← g, Nat.gcd_zero_right]
        rw [this]
        exact q

/-! ### the law's own share -/
def Bd (n : Nat) (x : Int) : Prop := x.natAbs < 2 ^ n
theorem Bd.le {n m : Nat} {x : Int} (h : Bd n x) (l : n ≤ m) : Bd m x := Nat.lt_of_lt_of_le h (Nat.pow_le_pow_right (by decide) l)
theorem Bd.mul {n m : Nat} {x y : Int} (h : Bd n x) (g : Bd m y) : Bd (n + m) (x * y) := wide_lt h g
theorem Bd.of_le {n : Nat} {x y : Int} (h : Bd n x) (l : y.natAbs ≤ x.natAbs) : Bd n y := Nat.lt_of_le_of_lt l h
theorem Bd.neg {n : Nat} {x : Int} (h : Bd n x) : Bd n (-x) := by
  unfold Bd
  rw [Int.natAbs_neg]
  exact h
theorem Bd.add {n : Nat} {x y : Int} (h : Bd n x) (g : Bd n y) : Bd (n + 1) (x + y) := by
  unfold Bd at *
  rw [Nat.pow_succ]
  omega
theorem Bd.mulW {n m : Nat} {x y : Int} (h : Bd n x) (g : Bd m y) (hn : n ≤ 400000) (hm : m ≤ 400000) : CMulW x y := wide_mul (a := n + 1) (b := m + 1) (h.le (Nat.le_succ _)) (g.le (Nat.le_succ _)) (by omega) (by omega) (by omega)
theorem Bd.divW {n : Nat} {x y : Int} (h : Bd n y) (h0 : 0 < y) (hn : n < 9000) : CDivW x y := wide_div (b := n + 1) h0 (h.le (Nat.le_succ _)) (by omega) (by omega)
theorem gcdI_bd {n : Nat} {a b : Int} (h : Bd n b) (hb : b ≠ 0) : Bd n (gcdI a b) := h.of_le (by
  unfold gcdI
  exact Nat.le_of_dvd (by omega) (Nat.gcd_dvd_right _ _))
/-! ### a whole number is drawn -/
def big : Nat := 100000000 ^ 4
def sp_l_whole (K : PySem.W.Frag) : Sp := fun vs H Q _ => ∃ (d b : Addr) (c : Int), vs = [.ref d] ∧ Deck K H d b c ∧ c < 900000 ∧ ∀ H' r, Deck K H' d b (c + 7) → Kp d b H H' → r.natAbs ≤ big → Q (.int r) H'
theorem whole_step {n r : Nat} {i : Nat} (h : n < 100000000 ^ i) (h2 : r < 100000000) : n * 100000000 + r < 100000000 ^ (i + 1) := by
  rw [Nat.pow_succ]
  omega
theorem ok_l_whole (T : Tx K mg A) : FnOk P w K mg base CX0 4 A.f_l_whole A.fd_l_whole ["_law_deck_here"] (sp_l_whole K) := by
  refine T.F_l_whole.ok sc_l_whole (fun vs H Q E h => ?_) (fun cdv Ar outer s H vs Q E hr h => ?_)
  · obtain ⟨d, b, c, rfl, _⟩ := h
    rfl
  · obtain ⟨d, b, c, rfl, hD, hc, q⟩ := h
    refine ⟨_, (pss_cons (ps_set (i := 1) sc_l_whole.nd rfl (.inl rfl) (pe_call (ok_l_take T) (hr.mono (by decide)) (by rfl) T.g_l_take T.F_l_take.kp T.b_l_take .nil pass0 (pa_cons (pv 0) (pa_cons pe_int pa_nil))))
    (pss_cons (ps_if (pt_cmpR op_eq (pv 1) pe_int (nomark _))
      (pss_one (ps_ret (pe_op op_sub (pe_call (ok_l_take T) (hr.mono (by decide)) (by rfl) T.g_l_take T.F_l_take.kp T.b_l_take .nil pass0 (pa_cons (pv 0) (pa_cons pe_int pa_nil))) pe_int)))
      pss_nil)
    (pss_cons (ps_set (i := 2) sc_l_whole.nd rfl (.inl rfl) pe_int)
    (pss_cons (ps_for PassesOwn.never rfl (pi_range1 (by rfl) T.m_range (pa_cons (pe_ix ix_list (pe_lst (pa_cons pe_int (pa_cons pe_int (pa_cons pe_int (pa_cons (pe_op op_add pe_int (pe_call (ok_l_take T) (hr.mono (by decide)) (by rfl) T.g_l_take T.F_l_take.kp T.b_l_take .nil pass0 (pa_cons (pv 0) (pa_cons pe_int pa_nil)))) pa_nil))))) (pv 1) (fun _ _ => rfl)) pa_nil)) (pg_name (i := 3) sc_l_whole.nd rfl (.inl rfl))
      (pss_one (ps_set (i := 2) sc_l_whole.nd rfl (.inl rfl) (pe_op op_add (pe_op op_mul (pv 2) (pe_op op_pow pe_int pe_int)) (pe_call (ok_l_take T) (hr.mono (by decide)) (by rfl) T.g_l_take T.F_l_take.kp T.b_l_take .nil pass0 (pa_cons (pv 0) (pa_cons (pe_op op_pow pe_int pe_int) pa_nil)))))))
    (pss_one (ps_ret (pe_op op_mul (pv 2) (pe_op op_sub pe_int (pe_op op_mul pe_int (pe_call (ok_l_take T) (hr.mono (by decide)) (by rfl) T.g_l_take T.F_l_take.kp T.b_l_take .nil pass0 (pa_cons (pv 0) (pa_cons pe_int pa_nil)))))))))))), ?_⟩
    refine ⟨_, rfl, d, b, c, 4, rfl, hD, by omega, by decide, by decide, fun H1 r1 D1 k1 l1 u1 => ?_⟩
    refine ⟨_, rfl, rfl, _, rfl, ite2 (fun e => ?_) (fun e => ?_)⟩
    · refine ⟨_, rfl, d, b, c + 1, 5, rfl, D1, by omega, by decide, by decide, fun H2 r2 D2 k2 l2 u2 => ?_⟩
      refine ⟨r2, 2, rfl, rfl, q _ _ (D2.le (by omega)) (k1.trans k2) ?_⟩
      have : (5 : Nat) ≤ big := by decide
      omega
    · have hk : r1 ≠ 0 := fun z => e (decide_eq_true (by rw [z]))
      refine ⟨_, rfl, d, b, c + 1, 4, rfl, D1, by omega, by decide, by decide, fun H2 r2 D2 k2 l2 u2 => ?_⟩
      refine ⟨1, r2, rfl, rfl, size63 (show 4 ≤ 1000 by decide), fun p hp => ?_⟩
      obtain ⟨n, hn4, hat⟩ : ∃ n : Nat, n ≤ 4 ∧ atI [V.int 0, V.int 1, V.int 2, V.int (1 + r2)] r1 = some (V.int (n : Int)) := by
        obtain rfl | rfl | rfl : r1 = 1 ∨ r1 = 2 ∨ r1 = 3 := by omega
        · exact ⟨1, by omega, rfl⟩
        · exact ⟨2, by omega, rfl⟩
        · refine ⟨(1 + r2).toNat, by omega, ?_⟩
          rw [Int.toNat_of_nonneg (by omega)]
          rfl
      have s2 : Same H2 (upd H2 p (.lst [V.int 0, V.int 1, V.int 2, V.int (1 + r2)])) := same_upd hp
      refine ⟨_, rfl, p, _, r1, V.int (n : Int), rfl, rfl, SqL.of upd_same, hat, n, rfl, by omega, by omega, ?_⟩
      refine for_range (n := n) (fun i σ H' => ∃ (x : Nat) (y : Option V), σ = [some (.ref d), some (.int r1), some (.int (x : Int)), y] ∧ x < 100000000 ^ i ∧ Deck K H' d b (c + 2 + i) ∧ Kp d b H H') ?_ ?_ ?_
      · exact ⟨0, none, rfl, by decide, (D2.keep s2).le (by omega), (k1.trans k2).trans (Kp.same s2)⟩
      · rintro i σ H' hi ⟨x, y, rfl, hx, D', k'⟩
        refine ⟨_, rfl, 10, 8, rfl, rfl, ⟨by decide, by decide, by decide⟩, (x : Int), _, rfl, rfl, .inr (by decide), _, rfl, 10, 8, rfl, rfl, ⟨by decide, by decide, by decide⟩, d, b, c + 2 + i, 100000000, rfl, D', by omega, by decide, by decide, fun H3 r3 D3 k3 l3 u3 => ?_⟩
        obtain ⟨m, rfl⟩ : ∃ m : Nat, r3 = (m : Int) := ⟨_, (Int.toNat_of_nonneg l3).symm⟩
        refine ⟨(x : Int) * 100000000, (m : Int), rfl, rfl, x * 100000000 + m, _, rfl, whole_step hx (by omega), D3.le (by omega), k'.trans k3⟩
      · rintro σ H' ⟨x, y, rfl, hx, D', k'⟩
        have hx4 : x ≤ big := Nat.le_of_lt (Nat.lt_of_lt_of_le hx (Nat.pow_le_pow_right (by decide) hn4))
        refine ⟨_, rfl, _, rfl, d, b, c + 2 + n, 2, rfl, D', by omega, by decide, by decide, fun H3 r3 D3 k3 l3 u3 => ?_⟩
        refine ⟨2, r3, rfl, rfl, .inl (by decide), 1, _, rfl, rfl, (x : Int), _, rfl, rfl, .inr (by omega), ?_⟩
        refine q _ _ (D3.le (by omega)) (k'.trans k3) ?_
        obtain rfl | rfl : r3 = 0 ∨ r3 = 1 := by omega
        · omega
        · omega

/-! ### data -/
def shD (x : Int × Int) : PyData := .tuple [.int x.1, .int x.2]
theorem lay_shs : ∀ xs : List (Int × Int), PyData.canLayAll0 (xs.map shD) = true
  | [] => rfl
  | x :: r => by
    rw [List.map_cons, PyData.canLayAll0, lay_shs r]
    rfl
theorem depth_shs : ∀ xs : List (Int × Int), PyData.depthAll (xs.map shD) ≤ 1
  | [] => Nat.zero_le _
  | x :: r => by
    rw [List.map_cons, PyData.depthAll]
    exact Nat.max_le.mpr ⟨Nat.le_refl 1, depth_shs r⟩
theorem shaped_shs (xs : List (Int × Int)) : SeqAt.shaped (.list (xs.map shD)) = true := by
  unfold SeqAt.shaped
  rw [PyData.canLay0, lay_shs, PyData.depth, Bool.true_and]
  have := depth_shs xs
  exact decide_eq_true (by omega)
theorem shaped_sh (x : Int × Int) : SeqAt.shaped (shD x) = true := rfl
theorem eqv_shs (xs : List (Int × Int)) : PyData.eqv (.list (xs.map shD)) (.list (xs.map shD)) = true := SeqAt.eqv_refl _ (by rw [PyData.canLay0, lay_shs])
theorem eqv_sh (x : Int × Int) : PyData.eqv (shD x) (shD x) = true := SeqAt.eqv_refl _ rfl
/-- a share lies at v -/
def ShAt (K : PySem.W.Frag) (H : Hp) (v : V) (x : Int × Int) : Prop := ∃ a, v = .ref a ∧ SqT K H a [.int x.1, .int x.2]
theorem ShAt.keep {K : PySem.W.Frag} {H H' : Hp} {v : V} {x : Int × Int} (h : ShAt K H v x) (k : Same H H') : ShAt K H' v x := by
  obtain ⟨a, e, h⟩ := h
  exact ⟨a, e, Same.seqT k h⟩
theorem ShAt.deck {K : PySem.W.Frag} {H H' : Hp} {v : V} {x : Int × Int} {d b : Addr} {c : Int} (h : ShAt K H v x) (D : Deck K H d b c) (k : Kp d b H H') : ShAt K H' v x := by
  obtain ⟨a, e, h⟩ := h
  exact ⟨a, e, D.seqT k h⟩
theorem ShAt.dp {K : PySem.W.Frag} {H : Hp} {v : V} {x : Int × Int} (h : ShAt K H v x) : Dp K H v (shD x) := by
  obtain ⟨a, rfl, h⟩ := h
  exact .tup h (.cons (.int _) (.cons (.int _) .nil))
abbrev RowAt (K : PySem.W.Frag) (H : Hp) : List V → List (Int × Int) → Prop := Paired (ShAt K H)
theorem paired_imp {α β : Type} {F G : α → β → Prop} (h : ∀ a b, F a b → G a b) : ∀ {l : List α} {m : List β}, Paired F l m → Paired G l m
  | _, _, .nil => .nil
  | _, _, .cons a r => .cons (h _ _ a) (paired_imp h r)
theorem paired_get {α β : Type} {F : α → β → Prop} : ∀ {l : List α} {m : List β} {i : Nat} {a : α}, Paired F l m → l[i]? = some a → ∃ b, m[i]? = some b ∧ F a b
  | _, _, _, _, .nil, e => by cases e
  | _, _, 0, _, .cons a _, e => by
    cases e
    exact ⟨_, rfl, a⟩
  | _, _, i + 1, _, .cons _ r, e => paired_get (i := i) r e
theorem paired_get' {α β : Type} {F : α → β → Prop} : ∀ {l : List α} {m : List β} {i : Nat} {b : β}, Paired F l m → m[i]? = some b → ∃ a, l[i]? = some a ∧ F a b
  | _, _, _, _, .nil, e => by cases e
  | _, _, 0, _, .cons a _, e => by
    cases e
    exact ⟨_, rfl, a⟩
  | _, _, i + 1, _, .cons _ r, e => paired_get' (i := i) r e
theorem RowAt.keep {K : PySem.W.Frag} {H H' : Hp} {vs : List V} {xs : List (Int × Int)} (h : RowAt K H vs xs) (k : Same H H') : RowAt K H' vs xs := paired_imp (fun _ _ s => s.keep k) h
theorem RowAt.deck {K : PySem.W.Frag} {H H' : Hp} {vs : List V} {xs : List (Int × Int)} {d b : Addr} {c : Int} (h : RowAt K H vs xs) (D : Deck K H d b c) (k : Kp d b H H') : RowAt K H' vs xs := paired_imp (fun _ _ s => s.deck D k) h
theorem RowAt.dp {K : PySem.W.Frag} {H : Hp} : ∀ {vs : List V} {xs : List (Int × Int)}, RowAt K H vs xs → DpAll K H vs (xs.map shD)
  | _, _, .nil => .nil
  | _, _, .cons a r => .cons a.dp (RowAt.dp r)
/-- what changes an object other than a tuple leaves the tuples -/
theorem SqT.upd_lst {K : PySem.W.Frag} {H : Hp} {a p : Addr} {xs ys : List V} {o : HO} (h : SqT K H a xs) (hp : H p = some (.lst ys)) : SqT K (upd H p o) a xs := by
  rcases h with (h | ⟨o', h⟩) | h
  · refine .inl (.inl ?_)
    rw [upd_ne (fun e => by rw [e, hp] at h; cases h)]
    exact h
  · refine .inl (.inr ⟨o', ?_⟩)
    rw [upd_ne (fun e => by rw [e, hp] at h; cases h)]
    exact h
  · exact .inr h
theorem RowAt.upd_lst {K : PySem.W.Frag} {H : Hp} {p : Addr} {vs ys : List V} {xs : List (Int × Int)} {o : HO} (h : RowAt K H vs xs) (hp : H p = some (.lst ys)) : RowAt K (upd H p o) vs xs := paired_imp (fun _ _ ⟨a, e, s⟩ => ⟨a, e, SqT.upd_lst s hp⟩) h
theorem Deck.upd {K : PySem.W.Frag} {H : Hp} {d b p : Addr} {c : Int} {ys : List V} {o : HO} (D : Deck K H d b c) (hp : H p = some (.lst ys)) (n1 : p ≠ d) (n2 : p ≠ b) : Deck K (upd H p o) d b c := by
  obtain ⟨⟨s, ns, cs, i, k, h1, h2, h3, h4⟩, n⟩ := D
  refine ⟨⟨s, ns, cs, i, k, ?_, ?_, h3.upd (.inr ⟨_, hp⟩), h4⟩, n⟩
  · rw [upd_ne (Ne.symm n1)]; exact h1
  · rw [upd_ne (Ne.symm n2)]; exact h2
theorem for_enum {K : PySem.W.Frag} {a : Addr} {xs : List V} {g : TG} {tb : TS} {D : Ends} {σ : L2.St} {H : Hp} (Pv : Nat → L2.St → Hp → Prop) (h0 : Pv 0 σ H) (hl : ∀ i σ H, i ≤ xs.length → Pv i σ H → SqL K H a xs)
    (hs : ∀ i x σ H p, xs[i]? = some x → Pv i σ H → H p = none → g (.ref p) σ (upd H p (.tup [.int (i : Nat), x])) fun σ2 H2 => tb { D with nx := Pv (i + 1), ct := Pv (i + 1), bk := D.nx } σ2 H2) (hd : ∀ σ H, Pv xs.length σ H → D.nx σ H) :
    ∃ W : Nat → Nat → L2.St → Hp → Prop, (∃ m, W 0 m σ H) ∧ ∀ i m σ H, W i m σ H →
      ((Ite K a).stop i H ∧ D.nx σ H) ∨ ((Ite K a).go i H ∧ ∃ N : L2.St → Hp → Prop, (∀ σ' H', N σ' H' → ∃ m', m' < m ∧ W (i + 1) m' σ' H') ∧ ∀ x H', (Ite K a).yld i H x H' → g x σ H' fun σ2 H2 => tb { D with nx := N, ct := N, bk := D.nx } σ2 H2) := by
  refine ⟨fun i m σ H => m = xs.length - i ∧ i ≤ xs.length ∧ Pv i σ H, ⟨xs.length, by simp, Nat.zero_le _, h0⟩, ?_⟩
  rintro i m σ H ⟨rfl, hi, p⟩
  have q := hl i σ H hi p
  by_cases hlt : i < xs.length
  · refine .inr ⟨⟨xs, xs[i], q, by simp [hlt]⟩, Pv (i + 1), fun σ' H' p' => ⟨xs.length - (i + 1), by omega, rfl, hlt, p'⟩, fun x H' y => ?_⟩
    obtain ⟨t, z, rfl, ht, rfl, y⟩ := y
    exact hs i z σ H t (y xs q) p ht
  · have e : i = xs.length := by omega
    subst e
    exact .inl ⟨⟨xs, q, Nat.le_refl _⟩, hd σ H p⟩

/-! ### fractions -/
theorem isSh_q (q : Rat) : IsSh q.num q.den := by
  refine ⟨by have := q.den_pos; omega, ?_⟩
  unfold gcdI
  rw [Int.natAbs_natCast]
  exact congrArg Int.ofNat q.reduced
theorem divInt_cross {a b : Int} (hb : b ≠ 0) : a * ((Rat.divInt a b).den : Int) = (Rat.divInt a b).num * b := by
  have h : Rat.divInt a b = Rat.divInt (Rat.divInt a b).num ((Rat.divInt a b).den : Int) := (Rat.num_divInt_den _).symm
  exact (Rat.divInt_eq_divInt_iff hb (by have := (Rat.divInt a b).den_pos; omega)).mp h
theorem rep_of {t u : Int} {q : Rat} (h : IsSh t u) (e : t * (q.den : Int) = q.num * u) : t = q.num ∧ u = (q.den : Int) := share_uniq h (isSh_q q) e
theorem rep_divInt {t u a b : Int} (h : IsSh t u) (hb : b ≠ 0) (e : t * b = u * a) : t = (Rat.divInt a b).num ∧ u = ((Rat.divInt a b).den : Int) := by
  have hu : u ≠ 0 := by have := h.1; omega
  have eq : Rat.divInt t u = Rat.divInt a b := (Rat.divInt_eq_divInt_iff hu hb).mpr (by rw [e, Int.mul_comm])
  rw [← eq]
  exact rep_of h (divInt_cross hu)
theorem low_bd {t u a b : Int} (h : IsSh t u) (hb : 0 < b) (e : t * b = u * a) : t.natAbs ≤ a.natAbs ∧ u.natAbs ≤ b.natAbs := by
  obtain ⟨h1, h2, h3, h4⟩ := low_is (a := a) (b := b) hb
  have hu : u ≠ 0 := by have := h.1; omega
  have e1 := rep_divInt h (by omega) e
  have e2 := rep_divInt h1 (by omega) h2
  rw [e1.1, e1.2, ← e2.1, ← e2.2]
  exact ⟨h3, h4⟩
def BdQ (n : Nat) (q : Rat) : Prop := Bd n q.num ∧ Bd n (q.den : Int)
theorem BdQ.le {n m : Nat} {q : Rat} (h : BdQ n q) (l : n ≤ m) : BdQ m q := ⟨h.1.le l, h.2.le l⟩
theorem divInt_bd {a b : Int} {n : Nat} (hb : 0 < b) (ha : Bd n a) (hn : Bd n b) : BdQ n (Rat.divInt a b) := by
  have h := low_bd (isSh_q (Rat.divInt a b)) hb (by rw [← divInt_cross (by omega), Int.mul_comm])
  exact ⟨ha.of_le h.1, hn.of_le h.2⟩
theorem den_pos (q : Rat) : (0 : Int) < (q.den : Int) := by have := q.den_pos; omega
theorem add_divInt (p q : Rat) : p + q = Rat.divInt (p.num * q.den + q.num * p.den) (p.den * q.den) := by
  have h := Rat.divInt_add_divInt p.num q.num (d₁ := p.den) (d₂ := q.den) (by have := den_pos p; omega) (by have := den_pos q; omega)
  rw [Rat.num_divInt_den, Rat.num_divInt_den] at h
  exact h
theorem mul_divInt (p q : Rat) : p * q = Rat.divInt (p.num * q.num) (p.den * q.den) := by
  have h := Rat.divInt_mul_divInt p.num q.num (d₁ := p.den) (d₂ := q.den)
  rw [Rat.num_divInt_den, Rat.num_divInt_den] at h
  exact h
theorem BdQ.add {n m : Nat} {p q : Rat} (h : BdQ n p) (g : BdQ m q) : BdQ (n + m + 1) (p + q) := by
  rw [add_divInt]
  refine divInt_bd (Int.mul_pos (den_pos p) (den_pos q)) ?_ ((h.2.mul g.2).le (Nat.le_succ _))
  exact (h.1.mul g.2).add ((g.1.mul h.2).le (by omega))
theorem BdQ.mul {n m : Nat} {p q : Rat} (h : BdQ n p) (g : BdQ m q) : BdQ (n + m) (p * q) := by
  rw [mul_divInt]
  exact divInt_bd (Int.mul_pos (den_pos p) (den_pos q)) (h.1.mul g.1) (h.2.mul g.2)
theorem BdQ.neg {n : Nat} {q : Rat} (h : BdQ n q) : BdQ n (-q) := by
  refine ⟨?_, h.2⟩
  rw [Rat.neg_num]
  exact h.1.neg
theorem BdQ.sub {n m : Nat} {p q : Rat} (h : BdQ n p) (g : BdQ m q) : BdQ (n + m + 1) (p - q) := by
  rw [Rat.sub_eq_add_neg]
  exact h.add g.neg
theorem neg_num (q : Rat) : (-q).num = -q.num := Rat.neg_num q
theorem neg_den (q : Rat) : (-q).den = q.den := rfl
/-- one over a fraction -/
theorem inv_rep {q : Rat} (h : 0 < q.num) : (q⁻¹).num = q.den ∧ ((q⁻¹).den : Int) = q.num := by
  have hs := isSh_q q
  have e := rep_divInt (t := (q.den : Int)) (u := q.num) (a := (q.den : Int)) (b := q.num) ⟨by omega, by
    have := hs.2
    unfold gcdI at this ⊢
    rw [Nat.gcd_comm]
    exact this⟩ (by omega) (Int.mul_comm _ _)
  rw [Rat.inv_def]
  exact ⟨e.1.symm, e.2.symm⟩
theorem inv_rep_neg {q : Rat} (h : q.num < 0) : (q⁻¹).num = -(q.den : Int) ∧ ((q⁻¹).den : Int) = -q.num := by
  have hs := isSh_q q
  have e := rep_divInt (t := -(q.den : Int)) (u := -q.num) (a := (q.den : Int)) (b := q.num) ⟨by omega, by
    rw [gcdI_neg_l, gcdI_neg_r]
    have := hs.2
    unfold gcdI at this ⊢
    rw [Nat.gcd_comm]
    exact this⟩ (by omega) (by rw [Int.neg_mul, Int.neg_mul, Int.mul_comm])
  rw [Rat.inv_def]
  exact ⟨e.1.symm, e.2.symm⟩
/-! ### divisors, further -/
theorem cop_iff {a b : Int} : gcdI a b = 1 ↔ ∀ k : Nat, (k : Int) ∣ a → (k : Int) ∣ b → k = 1 := by
  constructor
  · intro h k h1 h2
    have h3 : k ∣ Nat.gcd a.natAbs b.natAbs := Nat.dvd_gcd (Int.ofNat_dvd_left.mp h1) (Int.ofNat_dvd_left.mp h2)
    have h4 : Nat.gcd a.natAbs b.natAbs = 1 := by unfold gcdI at h; omega
    rw [h4] at h3
    exact Nat.dvd_one.mp h3
  · intro h
    have := h (Nat.gcd a.natAbs b.natAbs) (gcdI_dvd_l a b) (gcdI_dvd_r a b)
    unfold gcdI
    rw [this]
    rfl
theorem cop_comm {a b : Int} (h : gcdI a b = 1) : gcdI b a = 1 := cop_iff.mpr fun k h1 h2 => cop_iff.mp h k h2 h1
theorem cop_dvd_l {a a' b : Int} (h : gcdI a b = 1) (d : a' ∣ a) : gcdI a' b = 1 := cop_iff.mpr fun k h1 h2 => cop_iff.mp h k (Int.dvd_trans h1 d) h2
theorem cop_dvd_r {a b b' : Int} (h : gcdI a b = 1) (d : b' ∣ b) : gcdI a b' = 1 := cop_iff.mpr fun k h1 h2 => cop_iff.mp h k h1 (Int.dvd_trans h2 d)
theorem cop_mul_r {a b c : Int} (h : gcdI a b = 1) (g : gcdI a c = 1) : gcdI a (b * c) = 1 := by
  unfold gcdI at *
  rw [Int.natAbs_mul]
  have h1 : Nat.Coprime a.natAbs b.natAbs := by unfold Nat.Coprime; omega
  have h2 : Nat.Coprime a.natAbs c.natAbs := by unfold Nat.Coprime; omega
  have h3 : Nat.Coprime a.natAbs (b.natAbs * c.natAbs) := Nat.Coprime.mul_right h1 h2
  unfold Nat.Coprime at h3
  omega
theorem cop_mul_l {a b c : Int} (h : gcdI a c = 1) (g : gcdI b c = 1) : gcdI (a * b) c = 1 := cop_comm (cop_mul_r (cop_comm h) (cop_comm g))
theorem cop_add {x y a : Int} (h : gcdI x a = 1) (d : a ∣ y) : gcdI (x + y) a = 1 := cop_iff.mpr fun k h1 h2 => cop_iff.mp h k ((Int.dvd_add_left (Int.dvd_trans h2 d)).mp h1) h2
theorem cop_div {a b : Int} (h : b ≠ 0) : gcdI (a / gcdI a b) (b / gcdI a b) = 1 := by
  rcases Int.lt_or_gt_of_ne h with h | h
  · have := (low_is (a := a) (b := -b) (by omega)).1.2
    rw [gcdI_neg_r, Int.neg_ediv_of_dvd (gcdI_dvd_r a b), gcdI_neg_r] at this
    exact this
  · exact (low_is h).1.2
theorem div_mul {g a : Int} (h : g ∣ a) : g * (a / g) = a := Int.mul_ediv_cancel' h
theorem div_dvd {g a : Int} (h : g ∣ a) : a / g ∣ a := ⟨g, by rw [Int.mul_comm]; exact (div_mul h).symm⟩
/-! ### sums and products of shares, as the program reckons them -/
theorem plus_one {t u t' u' : Int} (h : IsSh t u) (h' : IsSh t' u') (e : gcdI u u' = 1) : IsSh (t * u' + t' * u) (u * u') := by
  have hu : 0 < u * u' := Int.mul_pos (by have := h.1; omega) (by have := h'.1; omega)
  refine ⟨by omega, cop_mul_r ?_ ?_⟩
  · exact cop_add (cop_mul_l h.2 (cop_comm e)) (Int.dvd_mul_left ..)
  · rw [Int.add_comm]
    exact cop_add (cop_mul_l h'.2 e) (Int.dvd_mul_left ..)
theorem plus_two {t u t' u' d tot g : Int} (h : IsSh t u) (h' : IsSh t' u') (ed : gcdI u u' = d) (et : t * (u' / d) + t' * (u / d) = tot) (eg : gcdI tot d = g) :
    IsSh (tot / g) (u / d * (u' / g)) ∧ (tot / g) * (u * u') = (u / d * (u' / g)) * (t * u' + t' * u) := by
  have hu1 := h.1
  have hu2 := h'.1
  have d0 : 0 < d := by rw [← ed]; exact gcdI_pos (by omega)
  have g0 : 0 < g := by rw [← eg]; exact gcdI_pos (by omega)
  have da : d ∣ u := by rw [← ed]; exact gcdI_dvd_l _ _
  have db : d ∣ u' := by rw [← ed]; exact gcdI_dvd_r _ _
  have gt : g ∣ tot := by rw [← eg]; exact gcdI_dvd_l _ _
  have gd : g ∣ d := by rw [← eg]; exact gcdI_dvd_r _ _
  have hab : gcdI (u / d) (u' / d) = 1 := by rw [← ed]; exact cop_div (by omega)
  have hgd : gcdI (tot / g) (d / g) = 1 := by rw [← eg]; exact cop_div (by omega)
  obtain ⟨a, rfl⟩ := da
  obtain ⟨b, rfl⟩ := db
  obtain ⟨e, rfl⟩ := gd
  obtain ⟨f, rfl⟩ := gt
  have g1 : g ≠ 0 := by omega
  have d1 : g * e ≠ 0 := by omega
  rw [Int.mul_ediv_cancel_left _ d1] at et hab ⊢
  rw [Int.mul_ediv_cancel_left _ d1] at et hab
  rw [Int.mul_ediv_cancel_left _ g1] at hgd ⊢
  rw [Int.mul_ediv_cancel_left _ g1] at hgd
  have eb : g * e * b / g = e * b := by rw [Int.mul_assoc, Int.mul_ediv_cancel_left _ g1]
  rw [eb]
  have e0 : 0 < e := by
    rcases Int.lt_trichotomy e 0 with z | z | z
    · have := Int.mul_neg_of_pos_of_neg g0 z
      omega
    · rw [z] at d0; simp at d0
    · exact z
  have a0 : 0 < a := Int.pos_of_mul_pos_right (a := g * e) (by omega) d0
  have b0 : 0 < b := Int.pos_of_mul_pos_right (a := g * e) (by omega) d0
  have c1 : gcdI f a = 1 := by
    refine cop_dvd_l (a := g * f) ?_ (Int.dvd_mul_left ..)
    rw [← et]
    exact cop_add (cop_mul_l (cop_dvd_r h.2 (Int.dvd_mul_left ..)) (cop_comm hab)) (Int.dvd_mul_left ..)
  have c2 : gcdI f b = 1 := by
    refine cop_dvd_l (a := g * f) ?_ (Int.dvd_mul_left ..)
    rw [← et, Int.add_comm]
    exact cop_add (cop_mul_l (cop_dvd_r h'.2 (Int.dvd_mul_left ..)) hab) (Int.dvd_mul_left ..)
  refine ⟨⟨?_, cop_mul_r c1 (cop_mul_r hgd c2)⟩, ?_⟩
  · have := Int.mul_pos a0 (Int.mul_pos e0 b0)
    omega
  · have : a * (e * b) * (t * (g * e * b) + t' * (g * e * a)) = a * (e * b) * (g * e) * (t * b + t' * a) := by grind
    rw [this, et]
    grind
theorem times_one {t u t' u' d e : Int} (h : IsSh t u) (h' : IsSh t' u') (ed : gcdI t u' = d) (ee : gcdI t' u = e) :
    IsSh ((t / d) * (t' / e)) ((u / e) * (u' / d)) ∧ ((t / d) * (t' / e)) * (u * u') = ((u / e) * (u' / d)) * (t * t') := by
  have hu1 := h.1
  have hu2 := h'.1
  have d0 : 0 < d := by rw [← ed]; exact gcdI_pos (by omega)
  have e0 : 0 < e := by rw [← ee]; exact gcdI_pos (by omega)
  have d1 : d ∣ t := by rw [← ed]; exact gcdI_dvd_l _ _
  have d2 : d ∣ u' := by rw [← ed]; exact gcdI_dvd_r _ _
  have d3 : e ∣ t' := by rw [← ee]; exact gcdI_dvd_l _ _
  have d4 : e ∣ u := by rw [← ee]; exact gcdI_dvd_r _ _
  have c1 : gcdI (t / d) (u' / d) = 1 := by rw [← ed]; exact cop_div (by omega)
  have c2 : gcdI (t' / e) (u / e) = 1 := by rw [← ee]; exact cop_div (by omega)
  have c3 : gcdI (t / d) (u / e) = 1 := cop_dvd_l (cop_dvd_r h.2 (div_dvd d4)) (div_dvd d1)
  have c4 : gcdI (t' / e) (u' / d) = 1 := cop_dvd_l (cop_dvd_r h'.2 (div_dvd d2)) (div_dvd d3)
  refine ⟨⟨?_, cop_mul_l (cop_mul_r c3 c1) (cop_mul_r c2 c4)⟩, ?_⟩
  · have := Int.mul_pos (Int.ediv_pos_of_pos_of_dvd (show 0 < u by omega) (by omega) d4) (Int.ediv_pos_of_pos_of_dvd (show 0 < u' by omega) (by omega) d2)
    omega
  · have m1 := div_mul d1
    have m2 := div_mul d2
    have m3 := div_mul d3
    have m4 := div_mul d4
    generalize t / d = x at *
    generalize u' / d = y at *
    generalize t' / e = v at *
    generalize u / e = z at *
    subst m1 m2 m3 m4
    grind
theorem gcdI_bd2 {n : Nat} {p q : Int} (h : Bd n p) (g : Bd n q) (h0 : ¬ (p = 0 ∧ q = 0)) : Bd n (gcdI p q) := by
  by_cases hq : q = 0
  · have hp : p ≠ 0 := fun z => h0 ⟨z, hq⟩
    refine h.of_le ?_
    unfold gcdI
    exact Nat.le_of_dvd (by omega) (Nat.gcd_dvd_left _ _)
  · exact gcdI_bd g hq
theorem gcdI_comm (p q : Int) : gcdI p q = gcdI q p := by
  unfold gcdI
  rw [Nat.gcd_comm]
theorem gcdI_pos2 {p q : Int} (h0 : ¬ (p = 0 ∧ q = 0)) : 0 < gcdI p q := by
  by_cases hq : q = 0
  · rw [gcdI_comm]
    exact gcdI_pos fun z => h0 ⟨z, hq⟩
  · exact gcdI_pos hq
theorem cop_div2 {p q : Int} (h0 : ¬ (p = 0 ∧ q = 0)) : gcdI (p / gcdI p q) (q / gcdI p q) = 1 := by
  by_cases hq : q = 0
  · have hp : p ≠ 0 := fun z => h0 ⟨z, hq⟩
    rw [gcdI_comm p q]
    exact cop_comm (cop_div hp)
  · exact cop_div hq
/-- a fraction by what it is worth -/
theorem eq_divInt {q : Rat} {a b : Int} (hb : b ≠ 0) (h : q * (b : Rat) = (a : Rat)) : q = Rat.divInt a b := by
  rw [Rat.divInt_eq_div, ← h]
  have : (b : Rat) ≠ 0 := fun z => hb (by exact_mod_cast z)
  grind
theorem num_eq (x : Rat) : (x.num : Rat) = x * ((x.den : Int) : Rat) := by
  have h : (((x.den : Int)) : Rat) ≠ 0 := fun z => by
    have hp := den_pos x
    have : ((x.den : Int)) = 0 := by exact_mod_cast z
    omega
  have e := Rat.num_divInt_den x
  rw [Rat.divInt_eq_div] at e
  have e2 := Rat.div_mul_cancel (a := (x.num : Rat)) h
  rw [e] at e2
  exact e2.symm

/-! ### a fraction's share lies at v -/
abbrev qp (q : Rat) : Int × Int := (q.num, (q.den : Int))
abbrev ShQ (K : PySem.W.Frag) (H : Hp) (v : V) (q : Rat) : Prop := ShAt K H v (qp q)
theorem shq_new {K : PySem.W.Frag} {H' : Hp} {p : Addr} {t u a b : Int} (e : H' p = some (.tup [.int t, .int u])) (h : IsSh t u) (hb : b ≠ 0) (c : t * b = u * a) : ShQ K H' (.ref p) (Rat.divInt a b) := by
  obtain ⟨h1, h2⟩ := rep_divInt h hb c
  refine ⟨p, rfl, .inl (.inl ?_)⟩
  rw [e, h1, h2]
theorem shq_int {K : PySem.W.Frag} {H : Hp} {v : V} {n : Int} (h : ShAt K H v (n, 1)) : ShQ K H v (n : Rat) := h
theorem eqv_q (q : Rat) : PyData.eqv (shD (qp q)) (shD (qp q)) = true := eqv_sh _

/-! ### the program's divisor -/
theorem bits_le {b : Int} (h : Bd 4000 b) : ¬ (((Builtin.Int.intBits (if b < 0 then -b else b) : Nat) : Int) > 4000) := by
  have := PyProof.Rows.intBits_le (a := (if b < 0 then -b else b)) (k := 4000) (by rw [abs_nat]; exact h)
  omega
def sp_pgcd : Sp := fun vs H Q _ => ∃ a b : Int, vs = [.int a, .int b] ∧ Bd 4000 b ∧ Q (.int (gcdI a b)) H
theorem ok_p_common_divisor (T : Tx K mg A) : FnOk P w K mg base CX0 1 A.f_p_common_divisor A.fd_p_common_divisor ["one", "other"] sp_pgcd := by
  refine T.F_p_common_divisor.ok sc_p_common_divisor (fun vs H Q E h => ?_) (fun cdv Ar outer s H vs Q E hr h => ?_)
  · obtain ⟨a, b, rfl, _⟩ := h
    rfl
  · obtain ⟨a, b, rfl, hb, q⟩ := h
    refine ⟨_, (pss_cons (ps_set (i := 0) sc_p_common_divisor.nd rfl (.inl rfl) (pe_callB call_abs (by rfl) T.m_abs (by decide +kernel) (pa_cons (pv 0) pa_nil)))
    (pss_cons (ps_set (i := 1) sc_p_common_divisor.nd rfl (.inl rfl) (pe_callB call_abs (by rfl) T.m_abs (by decide +kernel) (pa_cons (pv 1) pa_nil)))
    (pss_cons (ps_if (PW.pt (pw_and (pt_cmpR op_gt (pe_bits (pv 0)) (pe_glob (v := .int 4000) (by rfl) T.g_LENGTHY ⟨_, rfl⟩) (nomark _)) (pw_and1 (pt_cmpR op_gt (pe_bits (pv 1)) (pe_glob (v := .int 4000) (by rfl) T.g_LENGTHY ⟨_, rfl⟩) (nomark _)))))
      (pss_one ps_never)
      pss_nil)
    (pss_cons (ps_while PassesOwn.never (pt_cmpR op_ne (pv 1) pe_int (nomark _))
      (pss_one (ps_par (i := 0) (j := 1) (by rfl) sc_p_common_divisor.nd rfl rfl (by decide) rfl rfl (pa_cons (pv 1) (pa_cons (pe_op op_mod (pv 0) (pv 1)) pa_nil)) (by rfl))))
    (pss_one (ps_ret (pv 0))))))), ?_⟩
    refine ⟨_, rfl, a, rfl, _, rfl, b, rfl, ?_⟩
    refine ⟨_, rfl, _, rfl, _, _, rfl, rfl, _, rfl, ite2 (fun _ => ⟨_, rfl, _, rfl, _, _, rfl, rfl, _, rfl, ite2 (fun e => absurd (of_decide_eq_true e) (bits_le hb)) (fun _ => ?_)⟩) (fun _ => iteF ?_)⟩
    all_goals
      refine ⟨fun n σ H' => ∃ (x y : Nat), σ = [some (.int (x : Int)), some (.int (y : Int))] ∧ n = y ∧ H' = H ∧ Nat.gcd x y = Nat.gcd a.natAbs b.natAbs, ⟨_, a.natAbs, b.natAbs, ?_, rfl, rfl, rfl⟩, fun n σ H' hW => ?_⟩
      · rw [abs_nat, abs_nat]
        rfl
      · obtain ⟨x, y, rfl, rfl, rfl, g⟩ := hW
        refine ⟨_, rfl, rfl, _, rfl, ?_⟩
        by_cases hy : n = 0
        · subst hy
          refine iteNS rfl ⟨_, rfl, ?_⟩
          have : (x : Int) = gcdI a b := by
            unfold gcdI
            rw [← g, Nat.gcd_zero_right]
          rw [this]
          exact q
        · have hne : ¬ (V.int (n : Int) = V.int 0) := fun z => hy (by have := V.int.inj z; omega)
          rw [decide_eq_false hne]
          refine iteT ⟨fun σ' H'' => σ' = [some (.int (n : Int)), some (.int ((x % n : Nat) : Int))] ∧ H'' = H', ?_, ?_⟩
          · rintro σ' H'' ⟨e1, rfl⟩
            exact ⟨x % n, Nat.mod_lt _ (by omega), n, x % n, e1, rfl, rfl, by rw [← g, Nat.gcd_comm x n, Nat.gcd_rec n x, Nat.gcd_comm]⟩
          · exact ⟨_, rfl, _, rfl, _, rfl, (x : Int), (n : Int), rfl, rfl, (show (0 : Int) < n by omega), _, _, rfl, rfl, rfl⟩

/-! ### things of any kind -/
inductive Tg (K : PySem.W.Frag) (H : Hp) : V → Prop
  | int (i : Int) (h : Bd 4000 i) : Tg K H (.int i)
  | bl (b : Bool) : Tg K H (.bl b)
  | tup {a : Addr} {xs : List V} : SqT K H a xs → (∀ x ∈ xs, Tg K H x) → Tg K H (.ref a)
  | other {v : V} (t : String) : TyX K H v (.type t) → kitB t "tuple" = some false → kitB t "int" = some false → Tg K H v
theorem TyX.keep {K : PySem.W.Frag} {H H' : Hp} {v : V} {t : Value} (h : TyX K H v t) (k : Same H H') : TyX K H' v t := by
  cases h with
  | base b =>
    cases b with
    | non => exact .base .non
    | bl x => exact .base (.bl x)
    | int i => exact .base (.int i)
    | str x => exact .base (.str x)
    | flt x => exact .base (.flt x)
    | lst e => exact .base (.lst (k _ _ e))
    | frz e => exact .base (.frz (k _ _ e))
    | tup e => exact .base (.tup (k _ _ e))
    | dK e => exact .base (.dK (k _ _ e))
    | dT e => exact .base (.dT (k _ _ e))
    | ins e cl ha hn htk hm => exact .base (.ins (k _ _ e) cl ha hn htk hm)
  | byt b => exact .byt b
  | set e => exact .set (k _ _ e)
  | kList e c => exact .kList e c
  | kTuple e c => exact .kTuple e c
  | kDict e c => exact .kDict e c
  | fTuple e => exact .fTuple (k _ _ e)
  | fDict e => exact .fDict (k _ _ e)
theorem Tg.keep {K : PySem.W.Frag} {H H' : Hp} {v : V} (h : Tg K H v) (k : Same H H') : Tg K H' v := by
  induction h with
  | int i h => exact .int i h
  | bl b => exact .bl b
  | tup s _ ih => exact .tup (Same.seqT k s) ih
  | other t h1 h2 h3 => exact .other t (TyX.keep h1 k) h2 h3
theorem Tg.str {K : PySem.W.Frag} {H : Hp} (x : Str) : Tg K H (.str x) := .other "str" (.base (.str x)) (by decide +kernel) (by decide +kernel)
theorem Tg.non {K : PySem.W.Frag} {H : Hp} : Tg K H .non := .other "NoneType" (.base .non) (by decide +kernel) (by decide +kernel)
theorem Tg.lst {K : PySem.W.Frag} {H : Hp} {a : Addr} {xs : List V} (e : H a = some (.lst xs)) : Tg K H (.ref a) := .other "list" (.base (.lst e)) (by decide +kernel) (by decide +kernel)
theorem Tg.dK {K : PySem.W.Frag} {H : Hp} {a : Addr} {kvs : List (Key × V)} (e : H a = some (.dK kvs)) : Tg K H (.ref a) := .other "dict" (.base (.dK e)) (by decide +kernel) (by decide +kernel)
theorem Tg.shq {K : PySem.W.Frag} {H : Hp} {v : V} {x : Int × Int} (h : ShAt K H v x) (b1 : Bd 4000 x.1) (b2 : Bd 4000 x.2) : Tg K H v := by
  obtain ⟨a, rfl, h⟩ := h
  refine .tup h fun y hy => ?_
  simp only [List.mem_cons, List.not_mem_nil, or_false] at hy
  rcases hy with rfl | rfl
  · exact .int _ b1
  · exact .int _ b2
theorem Tg.bd {K : PySem.W.Frag} {H : Hp} {i : Int} (h : Tg K H (.int i)) : Bd 4000 i := by
  cases h with
  | int _ h => exact h
  | other t h1 h2 h3 =>
    cases h1 with
    | base b => cases b; exact absurd h3 (by decide +kernel)
/-- an expression that gives a thing, and lets all that stood stand -/
def Thg (K : PySem.W.Frag) (H0 : Hp) (σ : L2.St) (t : TE) : Prop := ∀ H Q, Same H0 H → (∀ v H', Same H H' → Tg K H' v → Q v H') → t σ H Q
def ThgA (K : PySem.W.Frag) (H0 : Hp) (σ : L2.St) (t : TA) (n : Nat) : Prop := ∀ H Q, Same H0 H → (∀ vs H', Same H H' → vs.length = n → (∀ v ∈ vs, Tg K H' v) → Q vs H') → t σ H Q
def IntE (H0 : Hp) (σ : L2.St) (t : TE) (n : Nat) : Prop := ∀ H Q, Same H0 H → (∀ i, Bd n i → Q (.int i) H) → t σ H Q
section
variable {K : PySem.W.Frag} {H0 : Hp} {σ : L2.St} {t t' : TE} {ta : TA} {n m : Nat}
theorem tg_var {i : Nat} {v : V} (g : Tg K H0 v) (h : σ[i]? = some (some v) := by rfl) : Thg K H0 σ (tVar i) := fun H _ s q => ⟨v, h, q v H (Same.refl _) (g.keep s)⟩
theorem tg_c {v : V} (g : ∀ H, Tg K H v) : Thg K H0 σ (tC v) := fun H _ _ q => q v H (Same.refl _) (g H)
theorem tgA_nil : ThgA K H0 σ tNil 0 := fun H _ _ q => q [] H (Same.refl _) rfl (fun _ h => by cases h)
theorem tgA_cons (h : Thg K H0 σ t) (r : ThgA K H0 σ ta n) : ThgA K H0 σ (tCons t ta) (n + 1) := fun H Q s q => h H _ s fun v H1 s1 g1 => r H1 _ (s.trans s1) fun vs H2 s2 hl g2 => q (v :: vs) H2 (s1.trans s2) (by rw [List.length_cons, hl]) (fun x hx => by
  rcases List.mem_cons.mp hx with rfl | hx
  · exact g1.keep s2
  · exact g2 x hx)
theorem tg_tup (h : ThgA K H0 σ ta n) (hn : n ≤ 1000) : Thg K H0 σ (tTup ta) := fun H Q s q => h H _ s fun vs H1 s1 hl g => ⟨size63 (by omega), fun p hp => q _ _ (s1.trans (same_upd hp)) (.tup (.inl (.inl upd_same)) fun x hx => (g x hx).keep (same_upd hp))⟩
theorem tg_lst (h : ThgA K H0 σ ta n) (hn : n ≤ 1000) : Thg K H0 σ (tLst ta) := fun H Q s q => h H _ s fun vs H1 s1 hl g => ⟨size63 (by omega), fun p hp => q _ _ (s1.trans (same_upd hp)) (.lst upd_same)⟩
theorem tg_int (h : IntE H0 σ t n) (hn : n ≤ 4000 := by decide) : Thg K H0 σ t := fun H Q s q => h H _ s fun i hi => q _ _ (Same.refl _) (.int i (hi.le hn))
theorem tg_str {c : List V → Hp → VK → Prop} (hc : ∀ i H Q, i.natAbs.log2 < 1920 → (∀ x, Q (.str x) H) → c [.int i] H Q) (h : IntE H0 σ t n) (hn : n < 1900) : Thg K H0 σ (tCB c (tCons t tNil)) := fun H Q s q => h H _ s fun i hi => hc i H _ (Nat.lt_of_lt_of_le (log2_lt (k := n + 1) (hi.le (Nat.le_succ _)) (by omega)) (by omega)) fun x => q _ _ (Same.refl _) (.str x)
theorem tg_list {c : List V → Hp → VK → Prop} {i : Nat} {a : Addr} {xs : List V} (hc : ∀ H Q, SqT K H a xs → (∀ l, H l = none → Q (.ref l) (upd H l (.lst xs))) → c [.ref a] H Q) (g : SqT K H0 a xs) (h : σ[i]? = some (some (.ref a)) := by rfl) : Thg K H0 σ (tCB c (tCons (tVar i) tNil)) := fun H Q s q => ⟨_, h, hc H _ (Same.seqT s g) fun l hl => q _ _ (same_upd hl) (.lst upd_same)⟩
theorem tg_dnew : Thg K H0 σ tDNewK := fun H Q _ q d hd => q _ _ (same_upd hd) (.dK upd_same)
theorem tg_disp {trs : List (TE × TE)} (h : ∀ H Q, Same H0 H → (∀ (kvs : List (Key × V)) H', kvs.length ≤ 15 → Same H H' → Q (kvs.map fun kv => (kV kv.1, kv.2)) H') → tPairs trs σ H Q) : Thg K H0 σ (tDisp trs) := fun H Q s q p hp => h _ _ (s.trans (same_upd hp)) fun kvs H' hl s' => ⟨s' _ _ upd_same, kvs, rfl, hl, q _ _ (fun b o e => by
  rw [upd_ne (ne_of_none e hp)]
  exact s' _ _ (same_upd hp _ _ e)) (.dK upd_same)⟩
theorem tg_cat1 {i : Nat} {a : Addr} {xs : List V} {k : Int} (g : SqT K H0 a xs) (hg : ∀ x ∈ xs, Tg K H0 x) (hx : xs ≠ []) (hl : xs.length ≤ 100) (hk : Bd 4000 k := by unfold Bd; decide +kernel) (h : σ[i]? = some (some (.ref a)) := by rfl) : Thg K H0 σ (tOp (rCatT K) (tVar i) (tTup (tCons (tC (.int k)) tNil))) := fun H Q s q => ⟨_, h, size63 (show 1 ≤ 1000 by decide), fun p hp => ⟨a, p, xs, [.int k], rfl, rfl, Same.seqT (s.trans (same_upd hp)) g, .inl (.inl upd_same), hx, size63 (by show xs.length + 1 ≤ 1000; omega), (fun z => by cases z), fun _ p2 hp2 => q _ _ ((same_upd hp).trans (same_upd hp2)) (.tup (.inl (.inl upd_same)) fun x hx => by
  rcases List.mem_append.mp hx with hx | hx
  · exact (hg x hx).keep ((s.trans (same_upd hp)).trans (same_upd hp2))
  · rw [List.mem_singleton.mp hx]; exact .int _ hk)⟩⟩
theorem tg_cut1 {i : Nat} {a : Addr} {x y : V} (g : SqT K H0 a [x, y]) (hx : Tg K H0 x) (h : σ[i]? = some (some (.ref a)) := by rfl) : Thg K H0 σ (tSl (rSlT K) (tVar i) tNoPart (tPart (tC (.int 1)))) := fun H Q s q => ⟨_, h, 1, rfl, a, [x, y], rfl, Same.seqT s g, (fun z => by cases z.2), fun p hp => q _ _ (same_upd hp) (.tup (xs := [x]) (.inl (.inl upd_same)) fun z hz => by
  rw [List.mem_singleton.mp hz]
  exact hx.keep (s.trans (same_upd hp)))⟩
theorem int_var {i : Nat} {k : Int} (hb : Bd n k) (h : σ[i]? = some (some (.int k)) := by rfl) : IntE H0 σ (tVar i) n := fun H Q _ q => ⟨_, h, q k hb⟩
theorem int_c {k : Int} (hb : Bd n k) : IntE H0 σ (tC (.int k)) n := fun H Q _ q => q k hb
theorem int_neg (h : IntE H0 σ t n) : IntE H0 σ (tUn (rU fun i => .int (-i)) t) n := fun H Q s q => h H _ s fun i hi => ⟨i, rfl, q _ hi.neg⟩
theorem int_mul (h : IntE H0 σ t n) (g : IntE H0 σ t' m) (hn : n ≤ 400000 := by decide) (hm : m ≤ 400000 := by decide) : IntE H0 σ (tOp (rI CMulW fun i j => .int (i * j)) t t') (n + m) := fun H Q s q => h H _ s fun i hi => g H _ s fun j hj => ⟨i, j, rfl, rfl, hi.mulW hj hn hm, q _ (hi.mul hj)⟩
theorem int_add (h : IntE H0 σ t n) (g : IntE H0 σ t' n) : IntE H0 σ (tOp (rI0 fun i j => .int (i + j)) t t') (n + 1) := fun H Q s q => h H _ s fun i hi => g H _ s fun j hj => ⟨i, j, rfl, rfl, q _ (hi.add hj)⟩
theorem int_sub (h : IntE H0 σ t n) (g : IntE H0 σ t' n) : IntE H0 σ (tOp (rI0 fun i j => .int (i - j)) t t') (n + 1) := fun H Q s q => h H _ s fun i hi => g H _ s fun j hj => ⟨i, j, rfl, rfl, q _ (by rw [Int.sub_eq_add_neg]; exact hi.add hj.neg)⟩
theorem int_le (h : IntE H0 σ t n) (l : n ≤ m) : IntE H0 σ t m := fun H Q s q => h H _ s fun i hi => q i (hi.le l)
theorem int_ix {i : Nat} {a : Addr} {xs : List V} {j k : Int} (g : SqT K H0 a xs) (e : atI xs j = some (.int k)) (hb : Bd n k) (h : σ[i]? = some (some (.ref a)) := by rfl) : IntE H0 σ (tOp (rIxT K) (tVar i) (tC (.int j))) n := fun H Q s q => ⟨_, h, a, xs, j, _, rfl, rfl, Same.seqT s g, e, q k hb⟩
end
section
variable {K : PySem.W.Frag} {H0 H : Hp} {σ : L2.St} {ta : TA} {n : Nat} {g : TG} {D : Ends}
theorem asg_lst (hn : n ≤ 100) (s : Same H0 H) (q : ∀ us p H', Same H H' → H' p = some (.lst us) → us.length = n → (∀ v ∈ us, Tg K H' v) → g (.ref p) σ H' D.nx) (h : ThgA K H0 σ ta n) : tAsg (tLst ta) g D σ H :=
  h H _ s fun us H1 s1 hl gs => ⟨size63 (by omega), fun p hp => q us p _ (s1.trans (same_upd hp)) upd_same hl fun v hv => (gs v hv).keep (same_upd hp)⟩
theorem asg_cat {j : Nat} {l : Addr} {xs : List V} (hn : n ≤ 100) (s : Same H0 H) (hl : H l = some (.lst xs)) (hx : xs.length ≤ 500) (q : ∀ us p H', Same H H' → H' p = some (.lst (xs ++ us)) → us.length = n → (∀ v ∈ us, Tg K H' v) → g (.ref p) σ H' D.nx) (h : ThgA K H0 σ ta n) (hj : σ[j]? = some (some (.ref l)) := by rfl) : tAsg (tOp rCat (tVar j) (tLst ta)) g D σ H :=
  ⟨_, hj, h H _ s fun us H1 s1 hl1 gs => ⟨size63 (by omega), fun p hp => ⟨l, p, xs, us, rfl, rfl, same_upd hp _ _ (s1 _ _ hl), upd_same, size63 (by omega), fun p2 hp2 => q us p2 _ ((s1.trans (same_upd hp)).trans (same_upd hp2)) upd_same hl1 fun v hv => (gs v hv).keep ((same_upd hp).trans (same_upd hp2))⟩⟩⟩
theorem ret_cat {j : Nat} {l : Addr} {xs : List V} (hn : n ≤ 100) (s : Same H0 H) (hl : H l = some (.lst xs)) (hx : xs.length ≤ 500) (q : ∀ us p H', Same H H' → H' p = some (.lst (xs ++ us)) → us.length = n → (∀ v ∈ us, Tg K H' v) → D.rt (.ref p) H') (h : ThgA K H0 σ ta n) (hj : σ[j]? = some (some (.ref l)) := by rfl) : tRet (tOp rCat (tVar j) (tLst ta)) D σ H :=
  ⟨_, hj, h H _ s fun us H1 s1 hl1 gs => ⟨size63 (by omega), fun p hp => ⟨l, p, xs, us, rfl, rfl, same_upd hp _ _ (s1 _ _ hl), upd_same, size63 (by omega), fun p2 hp2 => q us p2 _ ((s1.trans (same_upd hp)).trans (same_upd hp2)) upd_same hl1 fun v hv => (gs v hv).keep ((same_upd hp).trans (same_upd hp2))⟩⟩⟩
end
theorem all_app {K : PySem.W.Frag} {H : Hp} {xs ys : List V} (h : ∀ u ∈ xs, Tg K H u) (g : ∀ u ∈ ys, Tg K H u) : ∀ u ∈ xs ++ ys, Tg K H u := fun u hu => by
  rcases List.mem_append.mp hu with hu | hu
  · exact h u hu
  · exact g u hu
theorem all_keep {K : PySem.W.Frag} {H H' : Hp} {xs : List V} (h : ∀ u ∈ xs, Tg K H u) (k : Same H H') : ∀ u ∈ xs, Tg K H' u := fun u hu => (h u hu).keep k
/-- whole numbers among the things -/
def isW : V → Bool
  | .int _ => true
  | _ => false
def sp_p_is_whole (K : PySem.W.Frag) : Sp := fun vs H Q _ => ∃ v, vs = [v] ∧ Tg K H v ∧ Q (.bl (isW v)) H
theorem ok_p_is_whole (T : Tx K mg A) : FnOk P w K mg base CX0 1 A.f_p_is_whole A.fd_p_is_whole ["thing"] (sp_p_is_whole K) := by
  refine T.F_p_is_whole.ok sc_p_is_whole (fun vs H Q E h => ?_) (fun cdv Ar outer s H vs Q E hr h => ?_)
  · obtain ⟨v, rfl, _⟩ := h
    rfl
  · obtain ⟨v, rfl, hv, q⟩ := h
    refine ⟨_, (pss_one (ps_ret (pe_and (pe_callB call_isi (by rfl) T.m_isinstance (by decide +kernel) (pa_cons (pv 0) (pa_cons (pe_bltn (v := .ty "int") (by rfl) T.m_int (by decide +kernel) rfl) pa_nil))) (pe_one (pe_not (pe_callB call_isi (by rfl) T.m_isinstance (by decide +kernel) (pa_cons (pv 0) (pa_cons (pe_bltn (v := .ty "bool") (by rfl) T.m_bool (by decide +kernel) rfl) pa_nil)))))))), ?_⟩
    cases hv with
    | int i _ => exact ⟨_, rfl, _, _, _, _, true, rfl, .ty _, .base (.int i), kit_ty (by decide +kernel), true, rfl, iteT ⟨_, rfl, _, _, _, _, false, rfl, .ty _, .base (.int i), kit_ty (by decide +kernel), false, rfl, q⟩⟩
    | bl b => exact ⟨_, rfl, _, _, _, _, true, rfl, .ty _, .base (.bl b), kit_ty (by decide +kernel), true, rfl, iteT ⟨_, rfl, _, _, _, _, true, rfl, .ty _, .base (.bl b), kit_ty (by decide +kernel), true, rfl, q⟩⟩
    | tup s _ => exact ⟨_, rfl, _, _, _, _, false, rfl, .ty _, ty_tup s, kit_ty (by decide +kernel), false, rfl, iteF q⟩
    | other t h1 h2 h3 =>
      have e : isW v = false := by
        cases v with
        | int i =>
          cases h1 with
          | base b => cases b; exact absurd h3 (by decide +kernel)
        | _ => rfl
      rw [e] at q
      exact ⟨_, rfl, _, _, _, _, false, rfl, .ty _, h1, kit_ty h3, false, rfl, iteF q⟩
/-- whether a thing is a share -/
inductive ShB (K : PySem.W.Frag) (H : Hp) : V → Bool → Prop
  | notup {v : V} {t : String} : TyX K H v (.type t) → kitB t "tuple" = some false → ShB K H v false
  | count {a : Addr} {xs : List V} : SqT K H a xs → xs.length ≠ 2 → ShB K H (.ref a) false
  | parts {a : Addr} {x y : V} : SqT K H a [x, y] → Tg K H x → Tg K H y → (isW x && isW y) = false → ShB K H (.ref a) false
  | nums {a : Addr} {t u : Int} : SqT K H a [.int t, .int u] → Bd 4000 t → Bd 4000 u → ShB K H (.ref a) (decide (IsSh t u))
theorem isW_int {v : V} (h : isW v = true) : ∃ i, v = .int i := by
  cases v with
  | int i => exact ⟨i, rfl⟩
  | _ => cases h
theorem Tg.pair {K : PySem.W.Frag} {H : Hp} {xs : List V} (h : ∀ x ∈ xs, Tg K H x) (hl : xs.length = 2) : ∃ x y, xs = [x, y] ∧ Tg K H x ∧ Tg K H y := by
  match xs, hl with
  | [x, y], _ => exact ⟨x, y, rfl, h x List.mem_cons_self, h y (List.mem_cons_of_mem _ List.mem_cons_self)⟩
theorem Tg.shB {K : PySem.W.Frag} {H : Hp} {v : V} (h : Tg K H v) : ∃ r, ShB K H v r := by
  cases h with
  | int i _ => exact ⟨_, .notup (.base (.int i)) (by decide +kernel)⟩
  | bl b => exact ⟨_, .notup (.base (.bl b)) (by decide +kernel)⟩
  | other t h1 h2 h3 => exact ⟨_, .notup h1 h2⟩
  | @tup a xs s g =>
    by_cases hl : xs.length = 2
    · obtain ⟨x, y, rfl, hx, hy⟩ := Tg.pair g hl
      by_cases hw : (isW x && isW y) = true
      · obtain ⟨h1, h2⟩ := Bool.and_eq_true_iff.mp hw
        obtain ⟨i, rfl⟩ := isW_int h1
        obtain ⟨j, rfl⟩ := isW_int h2
        exact ⟨_, .nums s hx.bd hy.bd⟩
      · exact ⟨_, .parts s hx hy (Bool.eq_false_iff.mpr hw)⟩
    · exact ⟨_, .count s hl⟩
theorem ne_two {n : Nat} (h : n ≠ 2) : (!decide (V.int (n : Int) = V.int 2)) = true := by
  rw [decide_eq_false (fun z => h (by have := V.int.inj z; omega))]
  rfl
def sp_shB (K : PySem.W.Frag) : Sp := fun vs H Q _ => ∃ v r, vs = [v] ∧ ShB K H v r ∧ Q (.bl r) H
theorem ok_p_is_share (T : Tx K mg A) : FnOk P w K mg base CX0 2 A.f_p_is_share A.fd_p_is_share ["thing"] (sp_shB K) := by
  refine T.F_p_is_share.ok sc_p_is_share (fun vs H Q E h => ?_) (fun cdv Ar outer s H vs Q E hr h => ?_)
  · obtain ⟨v, r, rfl, _⟩ := h
    rfl
  · obtain ⟨v, r, rfl, hv, q⟩ := h
    refine ⟨_, (pss_cons (ps_if (PW.pt (pw_or (pt_not (pt_val (pe_callB call_isi (by rfl) T.m_isinstance (by decide +kernel) (pa_cons (pv 0) (pa_cons (pe_bltn (v := .ty "tuple") (by rfl) T.m_tuple (by decide +kernel) rfl) pa_nil))))) (pw_or1 (pt_cmpR op_ne (pe_callB call_len_seq (by rfl) T.m_len (by decide +kernel) (pa_cons (pv 0) pa_nil)) pe_int (nomark _)))))
      (pss_one (ps_ret pe_bl))
      pss_nil)
    (pss_cons (ps_asg (pv 0) (pg_tup rfl (pgs_cons (pg_name (i := 1) sc_p_is_share.nd rfl (.inl rfl)) (pgs_cons (pg_name (i := 2) sc_p_is_share.nd rfl (.inl rfl)) pgs_nil))))
    (pss_cons (ps_if (PW.pt (pw_or (pt_not (pt_val (pe_call (ok_p_is_whole T) (hr.mono (by decide)) (by rfl) T.g_p_is_whole T.F_p_is_whole.kp T.b_p_is_whole .nil pass0 (pa_cons (pv 1) pa_nil)))) (pw_or1 (pt_not (pt_val (pe_call (ok_p_is_whole T) (hr.mono (by decide)) (by rfl) T.g_p_is_whole T.F_p_is_whole.kp T.b_p_is_whole .nil pass0 (pa_cons (pv 2) pa_nil)))))))
      (pss_one (ps_ret pe_bl))
      pss_nil)
    (pss_one (ps_ret (pe_and (pe_cmpR op_ge (pv 2) pe_int (nomark _)) (pe_one (pe_cmpR op_eq (pe_call (ok_p_common_divisor T) (hr.mono (by decide)) (by rfl) T.g_p_common_divisor T.F_p_common_divisor.kp T.b_p_common_divisor .nil pass0 (pa_cons (pv 1) (pa_cons (pv 2) pa_nil))) pe_int (nomark _))))))))), ?_⟩
    cases hv with
    | notup h1 h2 => exact ⟨_, rfl, _, _, _, _, false, rfl, .ty _, h1, kit_ty h2, false, rfl, iteT q⟩
    | count hs hl =>
      refine ⟨_, rfl, _, _, _, _, true, rfl, .ty _, ty_tup hs, kit_ty (by decide +kernel), true, rfl, iteF ⟨_, rfl, _, _, rfl, .inr hs, rfl, _, rfl, ?_⟩⟩
      rw [ne_two hl]
      exact q
    | parts hs hx hy hw =>
      refine ⟨_, rfl, _, _, _, _, true, rfl, .ty _, ty_tup hs, kit_ty (by decide +kernel), true, rfl, iteF ⟨_, rfl, _, _, rfl, .inr hs, rfl, _, rfl, iteF ⟨_, rfl, _, _, rfl, hs, rfl, _, _, rfl, _, _, rfl, rfl, ?_⟩⟩⟩
      refine ⟨_, rfl, _, rfl, hx, _, rfl, ?_⟩
      rename_i a x y
      cases e : isW x with
      | false => exact iteT q
      | true =>
        rw [e] at hw
        refine iteF ⟨_, rfl, _, rfl, hy, _, rfl, ?_⟩
        rw [show isW y = false from hw]
        exact iteT q
    | nums hs bt bu =>
      rename_i a t u
      refine ⟨_, rfl, _, _, _, _, true, rfl, .ty _, ty_tup hs, kit_ty (by decide +kernel), true, rfl, iteF ⟨_, rfl, _, _, rfl, .inr hs, rfl, _, rfl, iteF ⟨_, rfl, _, _, rfl, hs, rfl, _, _, rfl, _, _, rfl, rfl, ?_⟩⟩⟩
      refine ⟨_, rfl, _, rfl, .int t bt, _, rfl, iteF ⟨_, rfl, _, rfl, .int u bu, _, rfl, iteF ?_⟩⟩
      refine ⟨_, rfl, u, 1, rfl, rfl, _, rfl, ite2 (fun e => ?_) (fun e => ?_)⟩
      · refine ⟨_, rfl, _, rfl, t, u, rfl, bu, rfl, ?_⟩
        have e1 : 1 ≤ u := of_decide_eq_true e
        have : decide (V.int (gcdI t u) = V.int 1) = decide (IsSh t u) := decide_eq_decide.mpr ⟨fun z => ⟨e1, V.int.inj z⟩, fun z => congrArg V.int z.2⟩
        rw [this]
        exact q
      · have : decide (IsSh t u) = false := decide_eq_false fun z => e (decide_eq_true z.1)
        rw [this] at q
        exact q
theorem Tg.ty {K : PySem.W.Frag} {H : Hp} {v : V} (h : Tg K H v) : (∃ t, TyX K H v (.type t) ∧ kitB t "int" = some false ∧ isW v = false) ∨ ∃ t b, TyX K H v (.type t) ∧ kitB t "int" = some true ∧ kitB t "bool" = some b ∧ isW v = !b := by
  cases h with
  | int i _ => exact .inr ⟨"int", false, .base (.int i), by decide +kernel, by decide +kernel, rfl⟩
  | bl b => exact .inr ⟨"bool", true, .base (.bl b), by decide +kernel, by decide +kernel, rfl⟩
  | tup s _ => exact .inl ⟨"tuple", ty_tup s, by decide +kernel, rfl⟩
  | other t h1 h2 h3 =>
    refine .inl ⟨t, h1, h3, ?_⟩
    cases v with
    | int i =>
      cases h1 with
      | base b => cases b; exact absurd h3 (by decide +kernel)
    | _ => rfl

def sp_l_truth : Sp := fun vs H Q _ => ∃ a b : Bool, vs = [.bl a, .bl b] ∧ Q (.bl (decide (V.bl a = V.bl b))) H
theorem ok_l_truth (T : Tx K mg A) : FnOk P w K mg base CX0 1 A.f_l_truth A.fd_l_truth ["_law_found", "_law_due"] sp_l_truth := by
  refine T.F_l_truth.ok sc_l_truth (fun vs H Q E h => ?_) (fun cdv Ar outer s H vs Q E hr h => ?_)
  · obtain ⟨a, b, rfl, _⟩ := h
    rfl
  · obtain ⟨a, b, rfl, q⟩ := h
    refine ⟨_, (pss_one (ps_ret (pe_and (pe_callB call_isi (by rfl) T.m_isinstance (by decide +kernel) (pa_cons (pv 0) (pa_cons (pe_bltn (v := .ty "bool") (by rfl) T.m_bool (by decide +kernel) rfl) pa_nil))) (pe_one (pe_cmpR op_eq (pv 0) (pv 1) (nomark _)))))), ?_⟩
    exact ⟨_, rfl, _, _, _, _, true, rfl, .ty _, .base (.bl a), kit_ty (by decide +kernel), true, rfl, iteT ⟨_, rfl, _, rfl, rfl, q⟩⟩

/-! ### the program's share -/
def sp_p_share (K : PySem.W.Frag) (cN : Addr) : Sp := fun vs H Q E => ∃ (a b : Int) (n : Nat), vs = [.int a, .int b] ∧ Bd n b ∧ n ≤ 4000 ∧ (b = 0 → E (.ref cN) none H) ∧ (b ≠ 0 → ∀ H' r, Same H H' → ShQ K H' r (Rat.divInt a b) → Q r H')
theorem ok_p_share (T : Tx K mg A) : FnOk P w K mg base (L2.CX P w) 2 A.f_p_share A.fd_p_share ["top", "bottom"] (sp_p_share K A.c_NoShare) := by
  refine T.F_p_share.ok (CX := L2.CX P w) sc_p_share (fun vs H Q E h => ?_) (fun cdv Ar outer s H vs Q E hr h => ?_)
  · obtain ⟨a, b, n, rfl, _⟩ := h
    rfl
  · obtain ⟨a, b, n, rfl, hb, hn, qe, q⟩ := h
    refine ⟨_, (pss_cons (ps_if (pt_cmpR op_eq (pv 1) pe_int (nomark _))
      (pss_one (ps_raise rfl (takes_of rfl rfl rfl rfl) (pmk_own PySem.F.excBase_ValueError T.x_NoShare T.g_NoShare T.k_NoShare (raises_own T.b_NoShare T.t_NoShare) rfl)))
      pss_nil)
    (pss_cons (ps_if (pt_cmpR op_lt (pv 1) pe_int (nomark _))
      (pss_cons (ps_set (i := 0) sc_p_share.nd rfl (.inl rfl) (pe_un un_neg (pv 0)))
    (pss_one (ps_set (i := 1) sc_p_share.nd rfl (.inl rfl) (pe_un un_neg (pv 1)))))
      pss_nil)
    (pss_cons (ps_set (i := 2) sc_p_share.nd rfl (.inl rfl) (pe_call (ok_p_common_divisor T) (hr.mono (by decide)) (by rfl) T.g_p_common_divisor T.F_p_common_divisor.kp T.b_p_common_divisor .nil pass0 (pa_cons (pv 0) (pa_cons (pv 1) pa_nil))))
    (pss_one (ps_ret (pe_tup (pa_cons (pe_op op_fdivW (pv 0) (pv 2)) (pa_cons (pe_op op_fdivW (pv 1) (pv 2)) pa_nil)))))))), ?_⟩
    refine ⟨_, rfl, rfl, _, rfl, ite2 (fun e => qe (V.int.inj (of_decide_eq_true e))) (fun e => ?_)⟩
    have h0 : b ≠ 0 := fun z => e (decide_eq_true (congrArg V.int z))
    refine ⟨_, rfl, b, 0, rfl, rfl, _, rfl, ite2 (fun e => ?_) (fun e => ?_)⟩
    · have hb0 : b < 0 := of_decide_eq_true e
      obtain ⟨h1, h2, _, _⟩ := low_is (a := -a) (b := -b) (by omega)
      have hg : Bd n (gcdI (-a) (-b)) := gcdI_bd hb.neg (by omega)
      have hg0 : 0 < gcdI (-a) (-b) := gcdI_pos (by omega)
      refine ⟨_, rfl, a, rfl, _, rfl, b, rfl, ?_⟩
      refine ⟨_, rfl, _, rfl, -a, -b, rfl, hb.neg.le hn, ?_⟩
      refine ⟨_, rfl, _, rfl, _, _, rfl, rfl, hg.divW hg0 (by omega), _, rfl, _, rfl, _, _, rfl, rfl, hg.divW hg0 (by omega), size63 (show 2 ≤ 1000 by decide), fun p hp => ?_⟩
      generalize hG : upd _ p _ = G
      obtain ⟨s, e⟩ := alloc hG hp
      refine q h0 _ _ s (shq_new e h1 h0 ?_)
      rw [Int.mul_neg, Int.mul_neg] at h2
      omega
    · have hb0 : 0 < b := by
        have : ¬ b < 0 := fun z => e (decide_eq_true z)
        omega
      obtain ⟨h1, h2, _, _⟩ := low_is (a := a) (b := b) hb0
      have hg : Bd n (gcdI a b) := gcdI_bd hb (by omega)
      have hg0 : 0 < gcdI a b := gcdI_pos (by omega)
      refine ⟨_, rfl, _, rfl, a, b, rfl, hb.le hn, ?_⟩
      refine ⟨_, rfl, _, rfl, _, _, rfl, rfl, hg.divW hg0 (by omega), _, rfl, _, rfl, _, _, rfl, rfl, hg.divW hg0 (by omega), size63 (show 2 ≤ 1000 by decide), fun p hp => ?_⟩
      generalize hG : upd _ p _ = G
      obtain ⟨s, e⟩ := alloc hG hp
      exact q h0 _ _ s (shq_new e h1 h0 h2)
/-! ### the law's looks -/
theorem ok_l_is_whole (T : Tx K mg A) : FnOk P w K mg base CX0 1 A.f_l_is_whole A.fd_l_is_whole ["_law_thing"] (sp_p_is_whole K) := by
  refine T.F_l_is_whole.ok sc_l_is_whole (fun vs H Q E h => ?_) (fun cdv Ar outer s H vs Q E hr h => ?_)
  · obtain ⟨v, rfl, _⟩ := h
    rfl
  · obtain ⟨v, rfl, hv, q⟩ := h
    refine ⟨_, (pss_one (ps_ret (pe_and (pe_callB call_isi (by rfl) T.m_isinstance (by decide +kernel) (pa_cons (pv 0) (pa_cons (pe_bltn (v := .ty "int") (by rfl) T.m_int (by decide +kernel) rfl) pa_nil))) (pe_one (pe_not (pe_callB call_isi (by rfl) T.m_isinstance (by decide +kernel) (pa_cons (pv 0) (pa_cons (pe_bltn (v := .ty "bool") (by rfl) T.m_bool (by decide +kernel) rfl) pa_nil)))))))), ?_⟩
    rcases hv.ty with ⟨t, h1, h2, h3⟩ | ⟨t, b, h1, h2, h3, h4⟩
    · rw [h3] at q
      exact ⟨_, rfl, _, _, _, _, false, rfl, .ty _, h1, kit_ty h2, false, rfl, iteF q⟩
    · rw [h4] at q
      exact ⟨_, rfl, _, _, _, _, true, rfl, .ty _, h1, kit_ty h2, true, rfl, iteT ⟨_, rfl, _, _, _, _, b, rfl, .ty _, h1, kit_ty h3, b, rfl, q⟩⟩
theorem ok_l_is_share (T : Tx K mg A) : FnOk P w K mg base CX0 2 A.f_l_is_share A.fd_l_is_share ["_law_thing"] (sp_shB K) := by
  refine T.F_l_is_share.ok sc_l_is_share (fun vs H Q E h => ?_) (fun cdv Ar outer s H vs Q E hr h => ?_)
  · obtain ⟨v, r, rfl, _⟩ := h
    rfl
  · obtain ⟨v, r, rfl, hv, q⟩ := h
    refine ⟨_, (pss_cons (ps_if (PW.pt (pw_or (pt_not (pt_val (pe_callB call_isi (by rfl) T.m_isinstance (by decide +kernel) (pa_cons (pv 0) (pa_cons (pe_bltn (v := .ty "tuple") (by rfl) T.m_tuple (by decide +kernel) rfl) pa_nil))))) (pw_or1 (pt_cmpR op_ne (pe_callB call_len_seq (by rfl) T.m_len (by decide +kernel) (pa_cons (pv 0) pa_nil)) pe_int (nomark _)))))
      (pss_one (ps_ret pe_bl))
      pss_nil)
    (pss_cons (ps_if (PW.pt (pw_or (pt_not (pt_val (pe_call (ok_l_is_whole T) (hr.mono (by decide)) (by rfl) T.g_l_is_whole T.F_l_is_whole.kp T.b_l_is_whole .nil pass0 (pa_cons (pe_ix ix_tup (pv 0) pe_int (fun _ _ => rfl)) pa_nil)))) (pw_or (pt_not (pt_val (pe_call (ok_l_is_whole T) (hr.mono (by decide)) (by rfl) T.g_l_is_whole T.F_l_is_whole.kp T.b_l_is_whole .nil pass0 (pa_cons (pe_ix ix_tup (pv 0) pe_int (fun _ _ => rfl)) pa_nil)))) (pw_or1 (pt_cmpR op_lt (pe_ix ix_tup (pv 0) pe_int (fun _ _ => rfl)) pe_int (nomark _))))))
      (pss_one (ps_ret pe_bl))
      pss_nil)
    (pss_one (ps_ret (pe_cmpR op_eq (pe_call (ok_l_gcd T) (hr.mono (by decide)) (by rfl) T.g_l_gcd T.F_l_gcd.kp T.b_l_gcd .nil pass0 (pa_cons (pe_ix ix_tup (pv 0) pe_int (fun _ _ => rfl)) (pa_cons (pe_ix ix_tup (pv 0) pe_int (fun _ _ => rfl)) pa_nil))) pe_int (nomark _)))))), ?_⟩
    cases hv with
    | notup h1 h2 => exact ⟨_, rfl, _, _, _, _, false, rfl, .ty _, h1, kit_ty h2, false, rfl, iteT q⟩
    | count hs hl =>
      refine ⟨_, rfl, _, _, _, _, true, rfl, .ty _, ty_tup hs, kit_ty (by decide +kernel), true, rfl, iteF ⟨_, rfl, _, _, rfl, .inr hs, rfl, _, rfl, ?_⟩⟩
      rw [ne_two hl]
      exact q
    | @parts a x y hs hx hy hw =>
      refine ⟨_, rfl, _, _, _, _, true, rfl, .ty _, ty_tup hs, kit_ty (by decide +kernel), true, rfl, iteF ⟨_, rfl, _, _, rfl, .inr hs, rfl, _, rfl, iteF ?_⟩⟩
      refine ⟨_, rfl, a, _, 0, x, rfl, rfl, hs, rfl, x, rfl, hx, _, rfl, ?_⟩
      cases e : isW x with
      | false => exact iteT q
      | true =>
        rw [e] at hw
        refine iteF ⟨_, rfl, a, _, 1, y, rfl, rfl, hs, rfl, y, rfl, hy, _, rfl, ?_⟩
        rw [show isW y = false from hw]
        exact iteT q
    | @nums a t u hs bt bu =>
      refine ⟨_, rfl, _, _, _, _, true, rfl, .ty _, ty_tup hs, kit_ty (by decide +kernel), true, rfl, iteF ⟨_, rfl, _, _, rfl, .inr hs, rfl, _, rfl, iteF ?_⟩⟩
      refine ⟨_, rfl, a, _, 0, _, rfl, rfl, hs, rfl, _, rfl, .int t bt, true, rfl, iteF ⟨_, rfl, a, _, 1, _, rfl, rfl, hs, rfl, _, rfl, .int u bu, true, rfl, iteF ?_⟩⟩
      refine ⟨_, rfl, a, _, 1, _, rfl, rfl, hs, rfl, u, 1, rfl, rfl, _, rfl, ite2 (fun e => ?_) (fun e => ?_)⟩
      · have h1 : u < 1 := of_decide_eq_true e
        have : decide (IsSh t u) = false := decide_eq_false fun z => by have := z.1; omega
        rw [this] at q
        exact q
      · have h1 : 1 ≤ u := by
          have : ¬ u < 1 := fun z => e (decide_eq_true z)
          omega
        refine ⟨_, rfl, a, _, 0, _, rfl, rfl, hs, rfl, _, rfl, a, _, 1, _, rfl, rfl, hs, rfl, t, u, rfl, rfl, ?_⟩
        have : decide (V.int (gcdI t u) = V.int 1) = decide (IsSh t u) := decide_eq_decide.mpr ⟨fun z => ⟨h1, V.int.inj z⟩, fun z => congrArg V.int z.2⟩
        rw [this]
        exact q
theorem shB_q {K : PySem.W.Frag} {H : Hp} {v : V} {q : Rat} (h : ShQ K H v q) (b : BdQ 4000 q) : ShB K H v true := by
  obtain ⟨a, rfl, h⟩ := h
  have := ShB.nums (K := K) (H := H) h b.1 b.2
  rw [decide_eq_true (isSh_q q)] at this
  exact this
/-! CUT -/
def sp_l_refused : Sp := fun vs H Q _ => ∃ a : Int, vs = [.int a] ∧ ∀ H', Same H H' → Q (.bl true) H'
theorem ok_l_refused (T : Tx K mg A) : FnOk P w K mg base CX0 3 A.f_l_refused A.fd_l_refused ["_law_top"] sp_l_refused := by
  refine T.F_l_refused.ok sc_l_refused (fun vs H Q E h => ?_) (fun cdv Ar outer s H vs Q E hr h => ?_)
  · obtain ⟨a, rfl, _⟩ := h
    rfl
  · obtain ⟨a, rfl, q⟩ := h
    refine ⟨_, (pss_cons (ps_set (i := 1) sc_l_refused.nd rfl (.inl rfl) (pe_lst pa_nil))
    (pss_cons (ps_try_as (i := 2) (Wout := fun _ _ _ _ => False) rfl rfl sc_l_refused.nd rfl rfl ⟨rfl, by decide, Or.inl T.g_NoShare⟩ takes0
      (fun W pn xe tk _ => (pss_one (ps_expr (pe_callS (ok_p_share T) (hr.mono (by decide)) (by rfl) T.g_p_share T.F_p_share.kp T.b_p_share (fun σ => passAt tk σ) (pa_cons (pv 0) (pa_cons pe_int pa_nil))))))
      (fun a oe cls d pn hz hf => suite_own (D := A.c_NoShare) hz fun hz => (pss_one (ps_set (i := 1) sc_l_refused.nd rfl (.inl rfl) (pe_lst (pa_cons (pe_callB (call_isE T.E_NoShare hz hf) (by rfl) T.m_isinstance (by decide +kernel) (pa_cons (pv 2) (pa_cons (pe_glob (v := .ref A.c_BodyError) (by rfl) T.g_BodyError rfl) pa_nil))) (pa_cons (pe_callB (call_isE T.E_NoShare hz hf) (by rfl) T.m_isinstance (by decide +kernel) (pa_cons (pv 2) (pa_cons (pe_bltn (v := .ty "ValueError") (by rfl) T.m_ValueError (by decide +kernel) rfl) pa_nil))) (pa_cons (pe_callB (call_isE T.E_NoShare hz hf) (by rfl) T.m_isinstance (by decide +kernel) (pa_cons (pv 2) (pa_cons (pe_glob (v := .ref A.c_NoWay) (by rfl) T.g_NoWay rfl) pa_nil))) (pa_cons (pe_callB (call_isE T.E_NoShare hz hf) (by rfl) T.m_isinstance (by decide +kernel) (pa_cons (pv 2) (pa_cons (pe_glob (v := .ref A.c_BadShape) (by rfl) T.g_BadShape rfl) pa_nil))) pa_nil)))))))))
    (pss_one (ps_ret (pe_cmpR (op_eqD hr.units) (pv 1) (pe_lst (pa_cons pe_bl (pa_cons pe_bl (pa_cons pe_bl (pa_cons pe_bl pa_nil))))) (nomark _)))))), ?_⟩
    refine ⟨size63 (Nat.zero_le _), fun z hz => ?_⟩
    generalize hG : upd _ z _ = G
    obtain ⟨s1, e1⟩ := alloc hG hz
    refine ⟨_, rfl, a, 0, 1, rfl, by unfold Bd; decide, by decide, fun _ => ?_, fun z => absurd rfl z⟩
    refine ⟨true, T.e_NoShare, fun _ a ha => ?_, fun z => nomatch z⟩
    refine ⟨rfl, rfl, ?_⟩
    refine ⟨_, rfl, _, _, true, rfl, (fun _ h => h), T.i_NoShare_BodyError, _, rfl, _, _, true, rfl, (fun _ h => h), T.i_NoShare_ValueError, _, rfl, _, _, false, rfl, (fun _ h => h), T.i_NoShare_NoWay, _, rfl, _, _, false, rfl, (fun _ h => h), T.i_NoShare_BadShape, size63 (show 4 ≤ 1000 by decide), fun l hl => ?_⟩
    generalize hG3 : upd _ l _ = G3
    obtain ⟨s3, e3⟩ := alloc hG3 hl
    refine ⟨_, rfl, size63 (show 4 ≤ 1000 by decide), fun l2 hl2 => ?_⟩
    generalize hG4 : upd _ l2 _ = G4
    obtain ⟨s4, e4⟩ := alloc hG4 hl2
    refine ⟨_, _, .lst (SqL.of (s4 _ _ e3)) (.cons (.bl true) (.cons (.bl true) (.cons (.bl false) (.cons (.bl false) .nil)))), .lst (SqL.of e4) (.cons (.bl true) (.cons (.bl true) (.cons (.bl false) (.cons (.bl false) .nil)))), rfl, rfl, ?_⟩
    exact q _ ((s1.trans s3).trans s4)
def sp_l_right (K : PySem.W.Frag) : Sp := fun vs H Q _ => ∃ a b : Int, vs = [.int a, .int b] ∧ b ≠ 0 ∧ Bd 112 a ∧ Bd 112 b ∧ ∀ H', Same H H' → Q (.bl true) H'
theorem divInt_bd' {a b : Int} {n : Nat} (hb : b ≠ 0) (ha : Bd n a) (hn : Bd n b) : BdQ n (Rat.divInt a b) := by
  rcases Int.lt_or_gt_of_ne hb with h | h
  · have e : Rat.divInt a b = Rat.divInt (-a) (-b) := (Rat.divInt_eq_divInt_iff hb (by omega)).mpr (by rw [Int.mul_neg, Int.neg_mul])
    rw [e]
    exact divInt_bd (by omega) ha.neg hn.neg
  · exact divInt_bd h ha hn
theorem ok_l_right (T : Tx K mg A) : FnOk P w K mg base CX0 3 A.f_l_right A.fd_l_right ["_law_top", "_law_bottom"] (sp_l_right K) := by
  obtain ⟨tk1, hb1⟩ := T.b1_p_share
  refine T.F_l_right.ok sc_l_right (fun vs H Q E h => ?_) (fun cdv Ar outer s H vs Q E hr h => ?_)
  · obtain ⟨a, b, rfl, _⟩ := h
    rfl
  · obtain ⟨a, b, rfl, h0, ba, bb, q⟩ := h
    refine ⟨_, (pss_cons (ps_set (i := 2) sc_l_right.nd rfl (.inl rfl) (pe_call (ok_p_share T) (hr.mono (by decide)) (by rfl) T.g_p_share T.F_p_share.kp T.b_p_share .nil passL (pa_cons (pv 0) (pa_cons (pv 1) pa_nil))))
    (pss_cons (ps_if (PW.pt (pw_or (pt_not (pt_val (pe_call (ok_l_is_share T) (hr.mono (by decide)) (by rfl) T.g_l_is_share T.F_l_is_share.kp T.b_l_is_share .nil pass0 (pa_cons (pv 2) pa_nil)))) (pw_or1 (pt_cmpR op_ne (pe_op op_mulW (pe_ix ix_tup (pv 2) pe_int (fun _ _ => rfl)) (pv 1)) (pe_op op_mulW (pe_ix ix_tup (pv 2) pe_int (fun _ _ => rfl)) (pv 0)) (nomark _)))))
      (pss_one (ps_ret pe_bl))
      pss_nil)
    (pss_cons (ps_set (i := 3) sc_l_right.nd rfl (.inl rfl) (pe_call (dvs := [V.int 1]) (ok_p_share T) (hr.mono (by decide)) (by rfl) T.g_p_share T.F_p_share.kp hb1 (.cons ⟨_, rfl⟩ .nil) passL (pa_cons (pv 0) pa_nil)))
    (pss_one (ps_ret (pe_and (pe_call (ok_l_is_share T) (hr.mono (by decide)) (by rfl) T.g_l_is_share T.F_l_is_share.kp T.b_l_is_share .nil pass0 (pa_cons (pv 3) pa_nil)) (pe_and (pe_cmpR (op_eqD hr.units) (pv 3) (pe_tup (pa_cons (pv 0) (pa_cons pe_int pa_nil))) (nomark _)) (pe_one (pe_cmpR (op_eqD hr.units) (pe_call (ok_p_share T) (hr.mono (by decide)) (by rfl) T.g_p_share T.F_p_share.kp T.b_p_share .nil passL (pa_cons (pv 0) (pa_cons (pv 1) pa_nil))) (pv 2) (nomark _)))))))))), ?_⟩
    have hq := divInt_bd' h0 ba bb
    refine ⟨_, rfl, _, rfl, a, b, 112, rfl, bb, by decide, (fun z => absurd z h0), fun _ H1 r1 s1 g1 => ?_⟩
    have g1' := g1
    obtain ⟨af, rfl, hf⟩ := g1
    refine ⟨_, rfl, _, true, rfl, shB_q g1' ⟨hq.1.le (by decide), hq.2.le (by decide)⟩, true, rfl, iteF ?_⟩
    refine ⟨_, rfl, af, _, 0, _, rfl, rfl, hf, rfl, _, rfl, (Rat.divInt a b).num, b, rfl, rfl, hq.1.mulW bb (by decide) (by decide), _, rfl, af, _, 1, _, rfl, rfl, hf, rfl, _, rfl, ((Rat.divInt a b).den : Int), a, rfl, rfl, hq.2.mulW ba (by decide) (by decide), rfl, false, ?_, iteF ?_⟩
    · have := divInt_cross (a := a) (b := b) h0
      rw [decide_eq_true (congrArg V.int (show (Rat.divInt a b).num * b = ((Rat.divInt a b).den : Int) * a by rw [← this, Int.mul_comm]))]
      rfl
    · refine ⟨_, rfl, a, 1, 2, rfl, by unfold Bd; decide, by decide, (fun z => by cases z), fun _ H2 r2 s2 g2 => ?_⟩
      refine ⟨_, rfl, _, true, rfl, shB_q g2 (have h2 := divInt_bd' (show (1 : Int) ≠ 0 by decide) ba (show Bd 112 1 by unfold Bd; decide); ⟨h2.1.le (by decide), h2.2.le (by decide)⟩), true, rfl, iteT ?_⟩
      refine ⟨_, rfl, _, rfl, size63 (show 2 ≤ 1000 by decide), fun p3 hp3 => ?_⟩
      generalize hG3 : upd _ p3 _ = G3
      obtain ⟨s3, e3⟩ := alloc hG3 hp3
      have hone : IsSh a 1 := ⟨by decide, by unfold gcdI; rw [show (1 : Int).natAbs = 1 from rfl, Nat.gcd_one_right]; rfl⟩
      have h3 : ShQ K G3 (.ref p3) (Rat.divInt a 1) := shq_new e3 hone (by decide) (Int.mul_comm _ _)
      refine ⟨_, _, (g2.keep s3).dp, h3.dp, shaped_sh _, shaped_sh _, true, congrArg V.bl (eqv_sh _), iteT ?_⟩
      refine ⟨_, rfl, _, rfl, a, b, 112, rfl, bb, by decide, (fun z => absurd z h0), fun _ H4 r4 s4 g4 => ?_⟩
      refine ⟨_, rfl, _, _, g4.dp, (((g1'.keep s2).keep s3).keep s4).dp, shaped_sh _, shaped_sh _, ?_⟩
      rw [eqv_sh]
      exact q _ (((s1.trans s2).trans s3).trans s4)
def sp_l_things (K : PySem.W.Frag) : Sp := fun vs H Q _ => ∃ t b m : Int, vs = [.int t, .int b, .int m] ∧ Bd 112 t ∧ Bd 112 b ∧ Bd 4 m ∧ ∀ H' l us, Same H H' → H' l = some (.lst us) → us.length ≤ 40 → (∀ u ∈ us, Tg K H' u) → Q (.ref l) H'
theorem ok_l_things (T : Tx K mg A) : FnOk P w K mg base CX0 1 A.f_l_things A.fd_l_things ["_law_top", "_law_bottom", "_law_part"] (sp_l_things K) := by
  refine T.F_l_things.ok sc_l_things (fun vs H Q E h => ?_) (fun cdv Ar outer s H vs Q E hr h => ?_)
  · obtain ⟨t, b, m, rfl, _⟩ := h
    rfl
  · obtain ⟨t, b, m, rfl, bt, bb, bm, Qk⟩ := h
    obtain ⟨g, hg, bg⟩ : ∃ g, PySem.intText? RB.great = some g ∧ Bd 3000 g := ⟨_, RB.great_val, RB.great_bd⟩
    refine ⟨_, (pss_cons (ps_set (i := 3) sc_l_things.nd rfl (.inl rfl) (pe_callTy (RB.call_int_big T.zz) (by rfl) T.m_int (by decide +kernel) (pa_cons (pe_op RB.op_mul_str pe_str pe_int) pa_nil)))
    (pss_cons (ps_set (i := 4) sc_l_things.nd rfl (.inl rfl) (pe_lst (pa_cons (pe_tup (pa_cons (pv 0) (pa_cons (pv 1) pa_nil))) (pa_cons (pe_lst (pa_cons (pv 0) (pa_cons (pv 1) pa_nil))) (pa_cons (pe_tup (pa_cons (pv 0) (pa_cons (pv 1) (pa_cons pe_int pa_nil)))) (pa_cons (pe_tup (pa_cons (pv 0) pa_nil)) (pa_cons (pe_tup pa_nil) (pa_cons (pe_tup (pa_cons (pe_op op_mulW (pv 2) (pv 0)) (pa_cons (pe_op op_mulW (pv 2) (pv 1)) pa_nil))) (pa_cons (pe_tup (pa_cons (pe_un un_neg (pv 0)) (pa_cons (pe_un un_neg (pv 1)) pa_nil))) pa_nil)))))))))
    (pss_cons (ps_set (i := 4) sc_l_things.nd rfl (.inl rfl) (pe_op op_cat (pv 4) (pe_lst (pa_cons (pe_tup (pa_cons (pv 0) (pa_cons (pe_un un_neg (pv 1)) pa_nil))) (pa_cons (pe_tup (pa_cons (pv 0) (pa_cons pe_int pa_nil))) (pa_cons (pe_tup (pa_cons pe_int (pa_cons (pv 1) pa_nil))) (pa_cons (pe_tup (pa_cons (pv 0) (pa_cons (pe_op op_mulW (pv 1) (pv 2)) pa_nil))) (pa_cons (pe_tup (pa_cons (pe_op op_add (pv 0) (pv 2)) (pa_cons (pv 1) pa_nil))) (pa_cons (pe_tup (pa_cons pe_bl (pa_cons pe_int pa_nil))) pa_nil)))))))))
    (pss_cons (ps_set (i := 4) sc_l_things.nd rfl (.inl rfl) (pe_op op_cat (pv 4) (pe_lst (pa_cons (pe_tup (pa_cons (pv 0) (pa_cons pe_bl pa_nil))) (pa_cons (pe_tup (pa_cons pe_bl (pa_cons pe_int pa_nil))) (pa_cons (pe_tup (pa_cons (pe_callTy call_str_int (by rfl) T.m_str (by decide +kernel) (pa_cons (pv 0) pa_nil)) (pa_cons (pv 1) pa_nil))) (pa_cons (pe_tup (pa_cons (pv 0) (pa_cons (pe_callTy call_str_int (by rfl) T.m_str (by decide +kernel) (pa_cons (pv 1) pa_nil)) pa_nil))) (pa_cons (pe_tup (pa_cons pe_non (pa_cons (pv 1) pa_nil))) (pa_cons (pe_tup (pa_cons (pe_tup (pa_cons (pv 0) pa_nil)) (pa_cons (pv 1) pa_nil))) pa_nil)))))))))
    (pss_cons (ps_set (i := 4) sc_l_things.nd rfl (.inl rfl) (pe_op op_cat (pv 4) (pe_lst (pa_cons (pe_tup (pa_cons (pe_tup (pa_cons (pv 0) (pa_cons (pv 1) pa_nil))) (pa_cons (pe_tup (pa_cons pe_int (pa_cons pe_int pa_nil))) pa_nil))) (pa_cons pe_non (pa_cons (pv 0) (pa_cons (pv 1) (pa_cons pe_str (pa_cons pe_str (pa_cons pe_dnewK (pa_cons (pe_disp (pps_cons pe_str (pv 0) pps_nil) (by rfl) (by rfl) (fun z => by cases z) (by decide)) (pa_cons (pe_lst pa_nil) (pa_cons pe_bl (pa_cons (pe_tup (pa_cons pe_int (pa_cons pe_int pa_nil))) (pa_cons pe_int pa_nil)))))))))))))))
    (pss_cons (ps_set (i := 4) sc_l_things.nd rfl (.inl rfl) (pe_op op_cat (pv 4) (pe_lst (pa_cons (pe_tup (pa_cons (pe_lst (pa_cons (pv 0) pa_nil)) (pa_cons (pv 1) pa_nil))) (pa_cons (pe_tup (pa_cons (pv 0) (pa_cons (pe_lst (pa_cons (pv 1) pa_nil)) pa_nil))) (pa_cons (pe_tup (pa_cons pe_dnewK (pa_cons (pv 1) pa_nil))) (pa_cons (pe_tup (pa_cons (pv 0) (pa_cons (pe_disp (pps_cons (pv 2) pe_int pps_nil) (by rfl) (by rfl) (fun z => by cases z) (by decide)) pa_nil))) pa_nil)))))))
    (pss_one (ps_ret (pe_op op_cat (pv 4) (pe_lst (pa_cons (pe_tup (pa_cons (pv 3) (pa_cons (pe_op op_sub (pv 3) pe_int) pa_nil))) (pa_cons (pe_tup (pa_cons (pe_op op_mulW pe_int (pv 3)) (pa_cons (pe_op op_sub (pe_op op_mulW pe_int (pv 3)) pe_int) pa_nil))) (pa_cons (pe_tup (pa_cons (pv 0) (pa_cons (pv 3) pa_nil))) (pa_cons (pe_tup (pa_cons (pv 3) (pa_cons (pv 2) pa_nil))) (pa_cons (pe_tup (pa_cons (pe_op op_sub pe_int (pv 3)) (pa_cons (pv 3) pa_nil))) pa_nil))))))))))))))), ?_⟩
    refine ⟨PySem.Str.ofString "9", 900, rfl, rfl, rfl, by decide, by decide, RB.great, g, rfl, hg, RB.great_len, size63 RB.great_sz, ?_⟩
    dsimp only [gName, tSeq]
    refine asg_lst (n := 7) (K := K) (H0 := H) (by decide) (Same.refl _) (fun us1 p1 G1 s2 e2 l1 g1 => ?_) ?_
    · dsimp only [gName, tSeq]
      refine asg_cat (n := 6) (K := K) (H0 := H) (by decide) s2 e2 (by omega) (fun us2 p2 G2 s3 e3 l2 g2 => ?_) ?_
      · have s23 := s2.trans s3
        have g12 := all_app (all_keep g1 s3) g2
        have l12 : (us1 ++ us2).length = 13 := by rw [List.length_append, l1, l2]
        dsimp only [gName, tSeq]
        refine asg_cat (n := 6) (K := K) (H0 := H) (by decide) s23 e3 (by omega) (fun us3 p3 G3 s4 e4 l3 g3 => ?_) ?_
        · have s24 := s23.trans s4
          have g13 := all_app (all_keep g12 s4) g3
          have l13 : (us1 ++ us2 ++ us3).length = 19 := by rw [List.length_append, l12, l3]
          dsimp only [gName, tSeq]
          refine asg_cat (n := 12) (K := K) (H0 := H) (by decide) s24 e4 (by omega) (fun us4 p4 G4 s5 e5 l4 g4 => ?_) ?_
          · have s25 := s24.trans s5
            have g14 := all_app (all_keep g13 s5) g4
            have l14 : (us1 ++ us2 ++ us3 ++ us4).length = 31 := by rw [List.length_append, l13, l4]
            dsimp only [gName, tSeq]
            refine asg_cat (n := 4) (K := K) (H0 := H) (by decide) s25 e5 (by omega) (fun us5 p5 G5 s6 e6 l5 g5 => ?_) ?_
            · have s26 := s25.trans s6
              have g15 := all_app (all_keep g14 s6) g5
              have l15 : (us1 ++ us2 ++ us3 ++ us4 ++ us5).length = 35 := by rw [List.length_append, l14, l5]
              dsimp only [gName, tSeq]
              refine ret_cat (n := 5) (K := K) (H0 := H) (by decide) s26 e6 (by omega) (fun us6 p6 G6 s7 e7 l6 g6 => ?_) ?_
              · exact Qk _ p6 _ (s26.trans s7) e7 (by rw [List.length_append]; omega) (all_app (all_keep g15 s7) g6)
              · exact (tgA_cons (tg_tup (tgA_cons (tg_int (int_var bg)) (tgA_cons (tg_int (int_sub (int_var bg) (int_c (by unfold Bd; decide +kernel)))) tgA_nil)) (by decide)) (tgA_cons (tg_tup (tgA_cons (tg_int (int_mul (int_c (n := 64) (by unfold Bd; decide +kernel)) (int_var bg))) (tgA_cons (tg_int (int_sub (int_mul (int_c (n := 64) (by unfold Bd; decide +kernel)) (int_var bg)) (int_c (by unfold Bd; decide +kernel)))) tgA_nil)) (by decide)) (tgA_cons (tg_tup (tgA_cons (tg_int (int_var bt)) (tgA_cons (tg_int (int_var bg)) tgA_nil)) (by decide)) (tgA_cons (tg_tup (tgA_cons (tg_int (int_var bg)) (tgA_cons (tg_int (int_var bm)) tgA_nil)) (by decide)) (tgA_cons (tg_tup (tgA_cons (tg_int (int_sub (int_c (by unfold Bd; decide +kernel)) (int_var bg))) (tgA_cons (tg_int (int_var bg)) tgA_nil)) (by decide)) tgA_nil)))))
            · exact (tgA_cons (tg_tup (tgA_cons (tg_lst (tgA_cons (tg_int (int_var bt)) tgA_nil) (by decide)) (tgA_cons (tg_int (int_var bb)) tgA_nil)) (by decide)) (tgA_cons (tg_tup (tgA_cons (tg_int (int_var bt)) (tgA_cons (tg_lst (tgA_cons (tg_int (int_var bb)) tgA_nil) (by decide)) tgA_nil)) (by decide)) (tgA_cons (tg_tup (tgA_cons tg_dnew (tgA_cons (tg_int (int_var bb)) tgA_nil)) (by decide)) (tgA_cons (tg_tup (tgA_cons (tg_int (int_var bt)) (tgA_cons (tg_disp (fun H Q s q => ⟨_, rfl, q [(.inl m, .int 1)] H (show 1 ≤ 15 by decide) (Same.refl _)⟩)) tgA_nil)) (by decide)) tgA_nil))))
          · exact (tgA_cons (tg_tup (tgA_cons (tg_tup (tgA_cons (tg_int (int_var bt)) (tgA_cons (tg_int (int_var bb)) tgA_nil)) (by decide)) (tgA_cons (tg_tup (tgA_cons (tg_c fun _ => .int _ (by unfold Bd; decide +kernel)) (tgA_cons (tg_c fun _ => .int _ (by unfold Bd; decide +kernel)) tgA_nil)) (by decide)) tgA_nil)) (by decide)) (tgA_cons (tg_c fun _ => .non) (tgA_cons (tg_int (int_var bt)) (tgA_cons (tg_int (int_var bb)) (tgA_cons (tg_c fun _ => .str _) (tgA_cons (tg_c fun _ => .str _) (tgA_cons tg_dnew (tgA_cons (tg_disp (fun H Q s q => ⟨_, rfl, q [(.inr "top", .int t)] H (show 1 ≤ 15 by decide) (Same.refl _)⟩)) (tgA_cons (tg_lst tgA_nil (by decide)) (tgA_cons (tg_c fun _ => .bl _) (tgA_cons (tg_tup (tgA_cons (tg_c fun _ => .int _ (by unfold Bd; decide +kernel)) (tgA_cons (tg_c fun _ => .int _ (by unfold Bd; decide +kernel)) tgA_nil)) (by decide)) (tgA_cons (tg_c fun _ => .int _ (by unfold Bd; decide +kernel)) tgA_nil))))))))))))
        · exact (tgA_cons (tg_tup (tgA_cons (tg_int (int_var bt)) (tgA_cons (tg_c fun _ => .bl _) tgA_nil)) (by decide)) (tgA_cons (tg_tup (tgA_cons (tg_c fun _ => .bl _) (tgA_cons (tg_c fun _ => .int _ (by unfold Bd; decide +kernel)) tgA_nil)) (by decide)) (tgA_cons (tg_tup (tgA_cons (tg_str (fun i H Q h q => ⟨i, rfl, h, q _⟩) (int_var bt) (by decide)) (tgA_cons (tg_int (int_var bb)) tgA_nil)) (by decide)) (tgA_cons (tg_tup (tgA_cons (tg_int (int_var bt)) (tgA_cons (tg_str (fun i H Q h q => ⟨i, rfl, h, q _⟩) (int_var bb) (by decide)) tgA_nil)) (by decide)) (tgA_cons (tg_tup (tgA_cons (tg_c fun _ => .non) (tgA_cons (tg_int (int_var bb)) tgA_nil)) (by decide)) (tgA_cons (tg_tup (tgA_cons (tg_tup (tgA_cons (tg_int (int_var bt)) tgA_nil) (by decide)) (tgA_cons (tg_int (int_var bb)) tgA_nil)) (by decide)) tgA_nil))))))
      · exact (tgA_cons (tg_tup (tgA_cons (tg_int (int_var bt)) (tgA_cons (tg_int (int_neg (int_var bb))) tgA_nil)) (by decide)) (tgA_cons (tg_tup (tgA_cons (tg_int (int_var bt)) (tgA_cons (tg_c fun _ => .int _ (by unfold Bd; decide +kernel)) tgA_nil)) (by decide)) (tgA_cons (tg_tup (tgA_cons (tg_c fun _ => .int _ (by unfold Bd; decide +kernel)) (tgA_cons (tg_int (int_var bb)) tgA_nil)) (by decide)) (tgA_cons (tg_tup (tgA_cons (tg_int (int_var bt)) (tgA_cons (tg_int (int_mul (int_var bb) (int_var bm))) tgA_nil)) (by decide)) (tgA_cons (tg_tup (tgA_cons (tg_int (int_add (int_var bt) (int_var (bm.le (by decide))))) (tgA_cons (tg_int (int_var bb)) tgA_nil)) (by decide)) (tgA_cons (tg_tup (tgA_cons (tg_c fun _ => .bl _) (tgA_cons (tg_c fun _ => .int _ (by unfold Bd; decide +kernel)) tgA_nil)) (by decide)) tgA_nil))))))
    · exact (tgA_cons (tg_tup (tgA_cons (tg_int (int_var bt)) (tgA_cons (tg_int (int_var bb)) tgA_nil)) (by decide)) (tgA_cons (tg_lst (tgA_cons (tg_int (int_var bt)) (tgA_cons (tg_int (int_var bb)) tgA_nil)) (by decide)) (tgA_cons (tg_tup (tgA_cons (tg_int (int_var bt)) (tgA_cons (tg_int (int_var bb)) (tgA_cons (tg_c fun _ => .int _ (by unfold Bd; decide +kernel)) tgA_nil))) (by decide)) (tgA_cons (tg_tup (tgA_cons (tg_int (int_var bt)) tgA_nil) (by decide)) (tgA_cons (tg_tup tgA_nil (by decide)) (tgA_cons (tg_tup (tgA_cons (tg_int (int_mul (int_var bm) (int_var bt))) (tgA_cons (tg_int (int_mul (int_var bm) (int_var bb))) tgA_nil)) (by decide)) (tgA_cons (tg_tup (tgA_cons (tg_int (int_neg (int_var bt))) (tgA_cons (tg_int (int_neg (int_var bb))) tgA_nil)) (by decide)) tgA_nil)))))))
theorem cutV_mem {xs : List V} {lo hi : Option Int} {v : V} (h : v ∈ cutV xs lo hi) : v ∈ xs := by
  unfold cutV at h
  exact List.mem_of_mem_drop (List.mem_of_mem_take h)
theorem big_bd {r : Int} (h : r.natAbs ≤ big) : Bd 108 r := Nat.lt_of_le_of_lt h (by decide)
def sp_law (K : PySem.W.Frag) : Sp := fun vs H Q _ => ∃ (a : Addr) (ns : List Int), vs = [.ref a] ∧ Only H ∧ SqL K H a (ns.map V.int) ∧ ns.length ≤ 63 ∧ ∀ H', Q (.bl true) H'
theorem ok_law (T : Tx K mg A) : FnOk P w K mg base CX0 5 A.f_law A.fd_law ["_law_script"] (sp_law K) := by
  refine T.F_law.ok sc_law (fun vs H Q E h => ?_) (fun cdv Ar outer s H vs Q E hr h => ?_)
  · obtain ⟨a, ns, rfl, _⟩ := h
    rfl
  · obtain ⟨a, ns, rfl, hO, hS, hlen, q⟩ := h
    refine ⟨_, (pss_cons (ps_set (i := 1) sc_law.nd rfl (.inl rfl) (pe_call (ok_l_deck T) (hr.mono (by decide)) (by rfl) T.g_l_deck T.F_l_deck.kp T.b_l_deck .nil pass0 (pa_cons (pv 0) pa_nil)))
    (pss_cons (ps_for PassesOwn.never rfl (pi_range1 (by rfl) T.m_range (pa_cons pe_int pa_nil)) (pg_name (i := 2) sc_law.nd rfl (.inl rfl))
      (pss_cons (ps_set (i := 3) sc_law.nd rfl (.inl rfl) (pe_op op_add pe_int (pe_op op_mul (pe_call (ok_l_take T) (hr.mono (by decide)) (by rfl) T.g_l_take T.F_l_take.kp T.b_l_take .nil pass0 (pa_cons (pv 1) (pa_cons pe_int pa_nil))) (pe_call (ok_l_take T) (hr.mono (by decide)) (by rfl) T.g_l_take T.F_l_take.kp T.b_l_take .nil pass0 (pa_cons (pv 1) (pa_cons pe_int pa_nil))))))
    (pss_cons (ps_set (i := 4) sc_law.nd rfl (.inl rfl) (pe_call (ok_l_take T) (hr.mono (by decide)) (by rfl) T.g_l_take T.F_l_take.kp T.b_l_take .nil pass0 (pa_cons (pv 1) (pa_cons pe_int pa_nil))))
    (pss_cons (ps_set (i := 5) sc_law.nd rfl (.inl rfl) (pe_op op_mul (pe_call (ok_l_whole T) (hr.mono (by decide)) (by rfl) T.g_l_whole T.F_l_whole.kp T.b_l_whole .nil pass0 (pa_cons (pv 1) pa_nil)) (pv 3)))
    (pss_cons (ps_set (i := 6) sc_law.nd rfl (.inl rfl) (pe_op op_mul (pe_call (ok_l_whole T) (hr.mono (by decide)) (by rfl) T.g_l_whole T.F_l_whole.kp T.b_l_whole .nil pass0 (pa_cons (pv 1) pa_nil)) (pv 3)))
    (pss_cons (ps_if (pt_not (pt_val (pe_call (ok_l_refused T) (hr.mono (by decide)) (by rfl) T.g_l_refused T.F_l_refused.kp T.b_l_refused .nil pass0 (pa_cons (pv 5) pa_nil))))
      (pss_one (ps_ret pe_bl))
      pss_nil)
    (pss_cons (ps_if (pt_cmpR op_eq (pv 6) pe_int (nomark _))
      (pss_one (ps_set (i := 6) sc_law.nd rfl (.inl rfl) (pe_op op_sub pe_int (pe_op op_mul pe_int (pe_call (ok_l_take T) (hr.mono (by decide)) (by rfl) T.g_l_take T.F_l_take.kp T.b_l_take .nil pass0 (pa_cons (pv 1) (pa_cons pe_int pa_nil)))))))
      pss_nil)
    (pss_cons (ps_if (pt_not (pt_val (pe_call (ok_l_right T) (hr.mono (by decide)) (by rfl) T.g_l_right T.F_l_right.kp T.b_l_right .nil pass0 (pa_cons (pv 5) (pa_cons (pv 6) pa_nil)))))
      (pss_one (ps_ret pe_bl))
      pss_nil)
    (pss_cons (ps_set (i := 7) sc_law.nd rfl (.inl rfl) (pe_call (ok_l_gcd T) (hr.mono (by decide)) (by rfl) T.g_l_gcd T.F_l_gcd.kp T.b_l_gcd .nil pass0 (pa_cons (pv 5) (pa_cons (pv 6) pa_nil))))
    (pss_cons (ps_set (i := 8) sc_law.nd rfl (.inl rfl) (pe_call (ok_l_things T) (hr.mono (by decide)) (by rfl) T.g_l_things T.F_l_things.kp T.b_l_things .nil pass0 (pa_cons (pe_op op_fdivW (pv 5) (pv 7)) (pa_cons (pe_op op_fdivW (pe_callB call_abs (by rfl) T.m_abs (by decide +kernel) (pa_cons (pv 6) pa_nil)) (pv 7)) (pa_cons (pv 3) pa_nil)))))
    (pss_one (ps_for PassesOwn.never rfl (pi_list (pe_slice sl_list (pe_op op_cat (pe_slice sl_list (pv 8) (po_some (pv 4)) po_none) (pe_slice sl_list (pv 8) po_none (po_some (pv 4)))) po_none (po_some pe_int))) (pg_name (i := 9) sc_law.nd rfl (.inl rfl))
      (pss_one (ps_if (pt_not (pt_val (pe_call (ok_l_truth T) (hr.mono (by decide)) (by rfl) T.g_l_truth T.F_l_truth.kp T.b_l_truth .nil pass0 (pa_cons (pe_call (ok_p_is_share T) (hr.mono (by decide)) (by rfl) T.g_p_is_share T.F_p_is_share.kp T.b_p_is_share .nil pass0 (pa_cons (pv 9) pa_nil)) (pa_cons (pe_call (ok_l_is_share T) (hr.mono (by decide)) (by rfl) T.g_l_is_share T.F_l_is_share.kp T.b_l_is_share .nil pass0 (pa_cons (pv 9) pa_nil)) pa_nil)))))
      (pss_one (ps_ret pe_bl))
      pss_nil))))))))))))))
    (pss_one (ps_ret pe_bl)))), ?_⟩
    refine ⟨_, rfl, a, ns, rfl, .mk hO hS, hlen, fun H1 d b hd hb D1 k1 => ?_⟩
    refine ⟨4, rfl, by decide, by decide, for_range (n := 4) (fun i σ H' => ∃ z2 z3 z4 z5 z6 z7 z8 z9, σ = [some (.ref a), some (.ref d), z2, z3, z4, z5, z6, z7, z8, z9] ∧ Deck K H' d b (30 * i)) ?_ ?_ ?_⟩
    · exact ⟨_, _, _, _, _, _, _, _, rfl, D1.le (by omega)⟩
    · rintro i σ H' hi ⟨z2, z3, z4, z5, z6, z7, z8, z9, rfl, D'⟩
      refine ⟨_, rfl, d, b, _, 9, rfl, D', by omega, by decide, by decide, fun H2 r2 D2 k2 l2 u2 => ?_⟩
      refine ⟨_, rfl, d, b, _, 2, rfl, D2, by omega, by decide, by decide, fun H3 r3 D3 k3 l3 u3 => ?_⟩
      refine ⟨r2, r3, rfl, rfl, .inl ⟨by omega, by omega⟩, 1, _, rfl, rfl, ?_⟩
      have hm0 : 1 ≤ 1 + r2 * r3 := by
        have := Int.mul_nonneg l2 l3
        omega
      have hm1 : 1 + r2 * r3 ≤ 9 := by
        obtain rfl | rfl : r3 = 0 ∨ r3 = 1 := by omega
        · omega
        · omega
      have bm : Bd 4 (1 + r2 * r3) := by
        unfold Bd
        have : (2 : Nat) ^ 4 = 16 := by decide
        omega
      refine ⟨_, rfl, d, b, _, 40, rfl, D3, by omega, by decide, by decide, fun H4 r4 D4 k4 l4 u4 => ?_⟩
      refine ⟨_, rfl, d, b, _, rfl, D4, by omega, fun H5 r5 D5 k5 b5 => ?_⟩
      have b5' := big_bd b5
      refine ⟨_, rfl, r5, 1 + r2 * r3, rfl, rfl, .inr ⟨by omega, by omega⟩, ?_⟩
      refine ⟨_, rfl, d, b, _, rfl, D5, by omega, fun H6 r6 D6 k6 b6 => ?_⟩
      have b6' := big_bd b6
      refine ⟨_, rfl, r6, 1 + r2 * r3, rfl, rfl, .inr ⟨by omega, by omega⟩, ?_⟩
      have bt : Bd 112 (r5 * (1 + r2 * r3)) := b5'.mul bm
      have bb : Bd 112 (r6 * (1 + r2 * r3)) := b6'.mul bm
      refine ⟨_, rfl, _, rfl, fun H7 s7 => ⟨true, rfl, iteF ?_⟩⟩
      have D7 := D6.keep s7
      refine ⟨_, rfl, rfl, _, rfl, ite2 (fun e => ?_) (fun e => ?_)⟩
      · refine ⟨_, rfl, d, b, _, 2, rfl, D7, by omega, by decide, by decide, fun H8 r8 D8 k8 l8 u8 => ?_⟩
        refine ⟨2, r8, rfl, rfl, .inl (by decide), 1, _, rfl, rfl, ?_⟩
        have hnz : 1 - 2 * r8 ≠ 0 := by omega
        have bb8 : Bd 112 (1 - 2 * r8) := by
          unfold Bd
          have : (2 : Nat) ≤ 2 ^ 112 := by decide
          omega
        refine ⟨_, rfl, _, rfl, r5 * (1 + r2 * r3), 1 - 2 * r8, rfl, hnz, bt, bb8, fun Hc sc => ⟨true, rfl, iteF ?_⟩⟩
        have Dc := D8.keep sc
        refine ⟨_, rfl, _, rfl, r5 * (1 + r2 * r3), 1 - 2 * r8, rfl, ?_⟩
        have gp := gcdI_pos (a := r5 * (1 + r2 * r3)) hnz
        have gb := gcdI_bd (a := r5 * (1 + r2 * r3)) bb8 hnz
        refine ⟨_, rfl, _, rfl, r5 * (1 + r2 * r3), gcdI (r5 * (1 + r2 * r3)) (1 - 2 * r8), rfl, rfl, gb.divW gp (by decide), _, rfl, 1 - 2 * r8, rfl, _, rfl, _, _, rfl, rfl, gb.divW gp (by decide), _, rfl, ?_⟩
        have b1 : Bd 112 (r5 * (1 + r2 * r3) / gcdI (r5 * (1 + r2 * r3)) (1 - 2 * r8)) := bt.of_le (div_natAbs_le gp (gcdI_dvd_l _ _))
        have babs : Bd 112 (if (1 - 2 * r8) < 0 then -(1 - 2 * r8) else 1 - 2 * r8) := by
          rw [abs_nat]
          exact bb8
        have hdv : gcdI (r5 * (1 + r2 * r3)) (1 - 2 * r8) ∣ (if (1 - 2 * r8) < 0 then -(1 - 2 * r8) else 1 - 2 * r8) := by
          split
          · exact Int.dvd_neg.mpr (gcdI_dvd_r _ _)
          · exact gcdI_dvd_r _ _
        have b2 : Bd 112 ((if (1 - 2 * r8) < 0 then -(1 - 2 * r8) else 1 - 2 * r8) / gcdI (r5 * (1 + r2 * r3)) (1 - 2 * r8)) := babs.of_le (div_natAbs_le gp hdv)
        refine ⟨_, _, 1 + r2 * r3, rfl, b1, b2, bm, fun He le us se ee hlu hgu => ?_⟩
        have De := Dc.keep se
        refine ⟨_, rfl, _, rfl, r4, rfl, le, us, rfl, SqL.of ee, fun lf ff => ?_⟩
        generalize hGf : upd _ lf _ = Gf
        obtain ⟨sf, ef⟩ := alloc hGf ff
        refine ⟨_, rfl, _, rfl, r4, rfl, le, us, rfl, SqL.of (sf _ _ ee), fun lg fg => ?_⟩
        generalize hGg : upd _ lg _ = Gg
        obtain ⟨sg, eg⟩ := alloc hGg fg
        refine ⟨lf, lg, _, _, rfl, rfl, sg _ _ ef, eg, size63 (by have h1 := cutV_length us (some r4) none; have h2 := cutV_length us none (some r4); omega), fun lh fh => ?_⟩
        generalize hGh : upd _ lh _ = Gh
        obtain ⟨sh, eh⟩ := alloc hGh fh
        refine ⟨12, rfl, lh, _, rfl, SqL.of eh, fun li fi => ?_⟩
        generalize hGi : upd _ li _ = Gi
        obtain ⟨si, ei⟩ := alloc hGi fi
        have sfi := ((sf.trans sg).trans sh).trans si
        refine ⟨li, rfl, ⟨_, SqL.of ei⟩, for_list (K := K) (a := li) (xs := cutV (cutV us (some r4) none ++ cutV us none (some r4)) none (some 12)) (fun j σ H' => ∃ z2 z3 z4 z5 z6 z7 z8 z9, σ = [some (.ref a), some (.ref d), z2, z3, z4, z5, z6, z7, z8, z9] ∧ Same Gi H') ⟨_, _, _, _, _, _, _, _, rfl, Same.refl _⟩ ?_ ?_ ?_⟩
        · rintro j σ H' _ ⟨_, _, _, _, _, _, _, _, _, k'⟩
          exact SqL.of (k' _ _ ei)
        · rintro j v σ H' hv ⟨y2, y3, y4, y5, y6, y7, y8, y9, rfl, k'⟩
          have hvu : v ∈ us := by
            have h1 := cutV_mem (List.mem_of_getElem? hv)
            rcases List.mem_append.mp h1 with h1 | h1
            · exact cutV_mem h1
            · exact cutV_mem h1
          have hvt : Tg K H' v := (hgu v hvu).keep (sfi.trans k')
          obtain ⟨r1, hB1⟩ := hvt.shB
          refine ⟨_, rfl, v, r1, rfl, hB1, _, rfl, v, r1, rfl, hB1, r1, r1, rfl, true, congrArg V.bl (decide_eq_true rfl), iteF ?_⟩
          exact ⟨_, _, _, _, _, _, _, _, rfl, k'⟩
        · rintro σ Hj ⟨y2, y3, y4, y5, y6, y7, y8, y9, rfl, kj⟩
          exact ⟨_, _, _, _, _, _, _, _, rfl, (De.keep (sfi.trans kj)).le (by omega)⟩
      · have hnz : r6 * (1 + r2 * r3) ≠ 0 := fun z => e (decide_eq_true (congrArg V.int z))
        refine ⟨_, rfl, _, rfl, r5 * (1 + r2 * r3), r6 * (1 + r2 * r3), rfl, hnz, bt, bb, fun Hc sc => ⟨true, rfl, iteF ?_⟩⟩
        have Dc := D7.keep sc
        refine ⟨_, rfl, _, rfl, r5 * (1 + r2 * r3), r6 * (1 + r2 * r3), rfl, ?_⟩
        have gp := gcdI_pos (a := r5 * (1 + r2 * r3)) hnz
        have gb := gcdI_bd (a := r5 * (1 + r2 * r3)) bb hnz
        refine ⟨_, rfl, _, rfl, r5 * (1 + r2 * r3), gcdI (r5 * (1 + r2 * r3)) (r6 * (1 + r2 * r3)), rfl, rfl, gb.divW gp (by decide), _, rfl, r6 * (1 + r2 * r3), rfl, _, rfl, _, _, rfl, rfl, gb.divW gp (by decide), _, rfl, ?_⟩
        have b1 : Bd 112 (r5 * (1 + r2 * r3) / gcdI (r5 * (1 + r2 * r3)) (r6 * (1 + r2 * r3))) := bt.of_le (div_natAbs_le gp (gcdI_dvd_l _ _))
        have babs : Bd 112 (if (r6 * (1 + r2 * r3)) < 0 then -(r6 * (1 + r2 * r3)) else r6 * (1 + r2 * r3)) := by
          rw [abs_nat]
          exact bb
        have hdv : gcdI (r5 * (1 + r2 * r3)) (r6 * (1 + r2 * r3)) ∣ (if (r6 * (1 + r2 * r3)) < 0 then -(r6 * (1 + r2 * r3)) else r6 * (1 + r2 * r3)) := by
          split
          · exact Int.dvd_neg.mpr (gcdI_dvd_r _ _)
          · exact gcdI_dvd_r _ _
        have b2 : Bd 112 ((if (r6 * (1 + r2 * r3)) < 0 then -(r6 * (1 + r2 * r3)) else r6 * (1 + r2 * r3)) / gcdI (r5 * (1 + r2 * r3)) (r6 * (1 + r2 * r3))) := babs.of_le (div_natAbs_le gp hdv)
        refine ⟨_, _, 1 + r2 * r3, rfl, b1, b2, bm, fun He le us se ee hlu hgu => ?_⟩
        have De := Dc.keep se
        refine ⟨_, rfl, _, rfl, r4, rfl, le, us, rfl, SqL.of ee, fun lf ff => ?_⟩
        generalize hGf : upd _ lf _ = Gf
        obtain ⟨sf, ef⟩ := alloc hGf ff
        refine ⟨_, rfl, _, rfl, r4, rfl, le, us, rfl, SqL.of (sf _ _ ee), fun lg fg => ?_⟩
        generalize hGg : upd _ lg _ = Gg
        obtain ⟨sg, eg⟩ := alloc hGg fg
        refine ⟨lf, lg, _, _, rfl, rfl, sg _ _ ef, eg, size63 (by have h1 := cutV_length us (some r4) none; have h2 := cutV_length us none (some r4); omega), fun lh fh => ?_⟩
        generalize hGh : upd _ lh _ = Gh
        obtain ⟨sh, eh⟩ := alloc hGh fh
        refine ⟨12, rfl, lh, _, rfl, SqL.of eh, fun li fi => ?_⟩
        generalize hGi : upd _ li _ = Gi
        obtain ⟨si, ei⟩ := alloc hGi fi
        have sfi := ((sf.trans sg).trans sh).trans si
        refine ⟨li, rfl, ⟨_, SqL.of ei⟩, for_list (K := K) (a := li) (xs := cutV (cutV us (some r4) none ++ cutV us none (some r4)) none (some 12)) (fun j σ H' => ∃ z2 z3 z4 z5 z6 z7 z8 z9, σ = [some (.ref a), some (.ref d), z2, z3, z4, z5, z6, z7, z8, z9] ∧ Same Gi H') ⟨_, _, _, _, _, _, _, _, rfl, Same.refl _⟩ ?_ ?_ ?_⟩
        · rintro j σ H' _ ⟨_, _, _, _, _, _, _, _, _, k'⟩
          exact SqL.of (k' _ _ ei)
        · rintro j v σ H' hv ⟨y2, y3, y4, y5, y6, y7, y8, y9, rfl, k'⟩
          have hvu : v ∈ us := by
            have h1 := cutV_mem (List.mem_of_getElem? hv)
            rcases List.mem_append.mp h1 with h1 | h1
            · exact cutV_mem h1
            · exact cutV_mem h1
          have hvt : Tg K H' v := (hgu v hvu).keep (sfi.trans k')
          obtain ⟨r1, hB1⟩ := hvt.shB
          refine ⟨_, rfl, v, r1, rfl, hB1, _, rfl, v, r1, rfl, hB1, r1, r1, rfl, true, congrArg V.bl (decide_eq_true rfl), iteF ?_⟩
          exact ⟨_, _, _, _, _, _, _, _, rfl, k'⟩
        · rintro σ Hj ⟨y2, y3, y4, y5, y6, y7, y8, y9, rfl, kj⟩
          exact ⟨_, _, _, _, _, _, _, _, rfl, (De.keep (sfi.trans kj)).le (by omega)⟩
    · rintro σ H' _
      exact q _
end
theorem all_mk {l : PySem.W.OpenLaw} {w : World} {K : PySem.W.Frag} {h : Heap} {mg : Str → Option Value} {fa : Addr} (X : K.In h) (G : h.Ns mainGlobals mg) (hfa : mg "law" = some (.ref fa))
    {od0 an0 : Option Addr} {sl0 : Array (Option Value)} {oc0 kV0 dc0 pm0 cd0 ct0 : Value} {f0 : Addr}
    {od1 an1 : Option Addr} {sl1 : Array (Option Value)} {oc1 kV1 dc1 pm1 cd1 ct1 : Value} {f1 : Addr}
    {od2 an2 : Option Addr} {sl2 : Array (Option Value)} {oc2 kV2 dc2 pm2 cd2 ct2 : Value} {f2 : Addr}
    {od4 an4 : Option Addr} {sl4 : Array (Option Value)} {oc4 kV4 dc4 pm4 cd4 ct4 : Value} {f4 : Addr}
    {od5 an5 : Option Addr} {sl5 : Array (Option Value)} {oc5 kV5 dc5 pm5 cd5 ct5 : Value} {f5 : Addr}
    {od6 an6 : Option Addr} {sl6 : Array (Option Value)} {oc6 kV6 dc6 pm6 cd6 ct6 : Value} {f6 : Addr}
    {od7 an7 : Option Addr} {sl7 : Array (Option Value)} {oc7 kV7 dc7 pm7 cd7 ct7 : Value} {f7 : Addr}
    {od8 an8 : Option Addr} {sl8 : Array (Option Value)} {oc8 kV8 dc8 pm8 cd8 ct8 : Value} {f8 : Addr}
    {od9 an9 : Option Addr} {sl9 : Array (Option Value)} {oc9 kV9 dc9 pm9 cd9 ct9 : Value} {f9 : Addr}
    {od10 an10 : Option Addr} {sl10 : Array (Option Value)} {oc10 kV10 dc10 pm10 cd10 ct10 : Value} {f10 : Addr}
    {od11 an11 : Option Addr} {sl11 : Array (Option Value)} {oc11 kV11 dc11 pm11 cd11 ct11 : Value} {f11 : Addr}
    {od12 an12 : Option Addr} {sl12 : Array (Option Value)} {oc12 kV12 dc12 pm12 cd12 ct12 : Value} {f12 : Addr}
    {od13 an13 : Option Addr} {sl13 : Array (Option Value)} {oc13 kV13 dc13 pm13 cd13 ct13 : Value} {f13 : Addr}
    {od14 an14 : Option Addr} {sl14 : Array (Option Value)} {oc14 kV14 dc14 pm14 cd14 ct14 : Value} {f14 : Addr}
    {od15 an15 : Option Addr} {sl15 : Array (Option Value)} {oc15 kV15 dc15 pm15 cd15 ct15 : Value} {f15 : Addr}
    {od16 an16 : Option Addr} {sl16 : Array (Option Value)} {oc16 kV16 dc16 pm16 cd16 ct16 : Value} {f16 : Addr}
    {c_BodyError : Addr}
    {c_NoShare : Addr}
    {c_NoWay : Addr}
    {c_BadShape : Addr}
    {k_LENGTHY : Tok}
    {odL anL odT : Option Addr} {slL slT : Array (Option Value)} {ocL kvL dcL pmL cdL ctL : Value} {fL dL : Addr} {nT : Nat} {t1 : Tok}
    (a0 : PySem.W.nsIn K mainGlobals "is_whole" = some (some (.ref f0))) (l0 : K.lookup f0 = some ⟨oc0, od0, .func (PySem.W.fnOf "is_whole" "is_whole" (defArgs s_p_is_whole) (defBody s_p_is_whole) (defScope s_p_is_whole) .none kV0 dc0 pm0 an0 cd0 ct0), sl0⟩) (c0 : PySem.W.codeIn K cd0 "is_whole" = true) (k0 : PySem.W.keepIn K (.ref f0) = true)
    (a1 : PySem.W.nsIn K mainGlobals "common_divisor" = some (some (.ref f1))) (l1 : K.lookup f1 = some ⟨oc1, od1, .func (PySem.W.fnOf "common_divisor" "common_divisor" (defArgs s_p_common_divisor) (defBody s_p_common_divisor) (defScope s_p_common_divisor) .none kV1 dc1 pm1 an1 cd1 ct1), sl1⟩) (c1 : PySem.W.codeIn K cd1 "common_divisor" = true) (k1 : PySem.W.keepIn K (.ref f1) = true)
    (a2 : PySem.W.nsIn K mainGlobals "is_share" = some (some (.ref f2))) (l2 : K.lookup f2 = some ⟨oc2, od2, .func (PySem.W.fnOf "is_share" "is_share" (defArgs s_p_is_share) (defBody s_p_is_share) (defScope s_p_is_share) .none kV2 dc2 pm2 an2 cd2 ct2), sl2⟩) (c2 : PySem.W.codeIn K cd2 "is_share" = true) (k2 : PySem.W.keepIn K (.ref f2) = true)
    (a4 : PySem.W.nsIn K mainGlobals "_law_cell" = some (some (.ref f4))) (l4 : K.lookup f4 = some ⟨oc4, od4, .func (PySem.W.fnOf "_law_cell" "_law_cell" (defArgs s_l_cell) (defBody s_l_cell) (defScope s_l_cell) .none kV4 dc4 pm4 an4 cd4 ct4), sl4⟩) (c4 : PySem.W.codeIn K cd4 "_law_cell" = true) (k4 : PySem.W.keepIn K (.ref f4) = true)
    (a5 : PySem.W.nsIn K mainGlobals "_law_mixed" = some (some (.ref f5))) (l5 : K.lookup f5 = some ⟨oc5, od5, .func (PySem.W.fnOf "_law_mixed" "_law_mixed" (defArgs s_l_mixed) (defBody s_l_mixed) (defScope s_l_mixed) .none kV5 dc5 pm5 an5 cd5 ct5), sl5⟩) (c5 : PySem.W.codeIn K cd5 "_law_mixed" = true) (k5 : PySem.W.keepIn K (.ref f5) = true)
    (a6 : PySem.W.nsIn K mainGlobals "_law_deck" = some (some (.ref f6))) (l6 : K.lookup f6 = some ⟨oc6, od6, .func (PySem.W.fnOf "_law_deck" "_law_deck" (defArgs s_l_deck) (defBody s_l_deck) (defScope s_l_deck) .none kV6 dc6 pm6 an6 cd6 ct6), sl6⟩) (c6 : PySem.W.codeIn K cd6 "_law_deck" = true) (k6 : PySem.W.keepIn K (.ref f6) = true)
    (a7 : PySem.W.nsIn K mainGlobals "_law_take" = some (some (.ref f7))) (l7 : K.lookup f7 = some ⟨oc7, od7, .func (PySem.W.fnOf "_law_take" "_law_take" (defArgs s_l_take) (defBody s_l_take) (defScope s_l_take) .none kV7 dc7 pm7 an7 cd7 ct7), sl7⟩) (c7 : PySem.W.codeIn K cd7 "_law_take" = true) (k7 : PySem.W.keepIn K (.ref f7) = true)
    (a8 : PySem.W.nsIn K mainGlobals "_law_gcd" = some (some (.ref f8))) (l8 : K.lookup f8 = some ⟨oc8, od8, .func (PySem.W.fnOf "_law_gcd" "_law_gcd" (defArgs s_l_gcd) (defBody s_l_gcd) (defScope s_l_gcd) .none kV8 dc8 pm8 an8 cd8 ct8), sl8⟩) (c8 : PySem.W.codeIn K cd8 "_law_gcd" = true) (k8 : PySem.W.keepIn K (.ref f8) = true)
    (a9 : PySem.W.nsIn K mainGlobals "_law_whole" = some (some (.ref f9))) (l9 : K.lookup f9 = some ⟨oc9, od9, .func (PySem.W.fnOf "_law_whole" "_law_whole" (defArgs s_l_whole) (defBody s_l_whole) (defScope s_l_whole) .none kV9 dc9 pm9 an9 cd9 ct9), sl9⟩) (c9 : PySem.W.codeIn K cd9 "_law_whole" = true) (k9 : PySem.W.keepIn K (.ref f9) = true)
    (a10 : PySem.W.nsIn K mainGlobals "_law_is_whole" = some (some (.ref f10))) (l10 : K.lookup f10 = some ⟨oc10, od10, .func (PySem.W.fnOf "_law_is_whole" "_law_is_whole" (defArgs s_l_is_whole) (defBody s_l_is_whole) (defScope s_l_is_whole) .none kV10 dc10 pm10 an10 cd10 ct10), sl10⟩) (c10 : PySem.W.codeIn K cd10 "_law_is_whole" = true) (k10 : PySem.W.keepIn K (.ref f10) = true)
    (a11 : PySem.W.nsIn K mainGlobals "_law_is_share" = some (some (.ref f11))) (l11 : K.lookup f11 = some ⟨oc11, od11, .func (PySem.W.fnOf "_law_is_share" "_law_is_share" (defArgs s_l_is_share) (defBody s_l_is_share) (defScope s_l_is_share) .none kV11 dc11 pm11 an11 cd11 ct11), sl11⟩) (c11 : PySem.W.codeIn K cd11 "_law_is_share" = true) (k11 : PySem.W.keepIn K (.ref f11) = true)
    (a12 : PySem.W.nsIn K mainGlobals "_law_truth" = some (some (.ref f12))) (l12 : K.lookup f12 = some ⟨oc12, od12, .func (PySem.W.fnOf "_law_truth" "_law_truth" (defArgs s_l_truth) (defBody s_l_truth) (defScope s_l_truth) .none kV12 dc12 pm12 an12 cd12 ct12), sl12⟩) (c12 : PySem.W.codeIn K cd12 "_law_truth" = true) (k12 : PySem.W.keepIn K (.ref f12) = true)
    (a13 : PySem.W.nsIn K mainGlobals "_law_refused" = some (some (.ref f13))) (l13 : K.lookup f13 = some ⟨oc13, od13, .func (PySem.W.fnOf "_law_refused" "_law_refused" (defArgs s_l_refused) (defBody s_l_refused) (defScope s_l_refused) .none kV13 dc13 pm13 an13 cd13 ct13), sl13⟩) (c13 : PySem.W.codeIn K cd13 "_law_refused" = true) (k13 : PySem.W.keepIn K (.ref f13) = true)
    (a14 : PySem.W.nsIn K mainGlobals "_law_things" = some (some (.ref f14))) (l14 : K.lookup f14 = some ⟨oc14, od14, .func (PySem.W.fnOf "_law_things" "_law_things" (defArgs s_l_things) (defBody s_l_things) (defScope s_l_things) .none kV14 dc14 pm14 an14 cd14 ct14), sl14⟩) (c14 : PySem.W.codeIn K cd14 "_law_things" = true) (k14 : PySem.W.keepIn K (.ref f14) = true)
    (a15 : PySem.W.nsIn K mainGlobals "_law_right" = some (some (.ref f15))) (l15 : K.lookup f15 = some ⟨oc15, od15, .func (PySem.W.fnOf "_law_right" "_law_right" (defArgs s_l_right) (defBody s_l_right) (defScope s_l_right) .none kV15 dc15 pm15 an15 cd15 ct15), sl15⟩) (c15 : PySem.W.codeIn K cd15 "_law_right" = true) (k15 : PySem.W.keepIn K (.ref f15) = true)
    (a16 : PySem.W.nsIn K mainGlobals "law" = some (some (.ref f16))) (l16 : K.lookup f16 = some ⟨oc16, od16, .func (PySem.W.fnOf "law" "law" (defArgs s_law) (defBody s_law) (defScope s_law) .none kV16 dc16 pm16 an16 cd16 ct16), sl16⟩) (c16 : PySem.W.codeIn K cd16 "law" = true) (k16 : PySem.W.keepIn K (.ref f16) = true)
    (z_ValueError : PySem.W.nsIn K mainGlobals "ValueError" = some none)
    (z_abs : PySem.W.nsIn K mainGlobals "abs" = some none)
    (z_bool : PySem.W.nsIn K mainGlobals "bool" = some none)
    (z_int : PySem.W.nsIn K mainGlobals "int" = some none)
    (z_isinstance : PySem.W.nsIn K mainGlobals "isinstance" = some none)
    (z_len : PySem.W.nsIn K mainGlobals "len" = some none)
    (z_max : PySem.W.nsIn K mainGlobals "max" = some none)
    (z_min : PySem.W.nsIn K mainGlobals "min" = some none)
    (z_range : PySem.W.nsIn K mainGlobals "range" = some none)
    (z_str : PySem.W.nsIn K mainGlobals "str" = some none)
    (z_tuple : PySem.W.nsIn K mainGlobals "tuple" = some none)
    (ac_BodyError : PySem.W.nsIn K mainGlobals "BodyError" = some (some (.ref c_BodyError)))
    (ac_NoShare : PySem.W.nsIn K mainGlobals "NoShare" = some (some (.ref c_NoShare)))
    (ac_NoWay : PySem.W.nsIn K mainGlobals "NoWay" = some (some (.ref c_NoWay)))
    (ac_BadShape : PySem.W.nsIn K mainGlobals "BadShape" = some (some (.ref c_BadShape)))
    (x_NoShare : PySem.W.excIn K c_NoShare [.type "ValueError", .type "Exception", .type "BaseException", .type "object"] "ValueError.__new__" = true)
    (kc_NoShare : PySem.W.keepIn K (.ref c_NoShare) = true)
    (bc_NoShare : PySem.W.subIn K (.ref c_NoShare) (.type "BaseException") = some true)
    (tc_NoShare : PySem.W.typeIn K (.ref c_NoShare) = some (.type "type"))
    (sc_NoShare : PySem.W.subIn K (.ref c_NoShare) (.ref c_NoShare) = some true)
    (hg_NoShare : PySem.W.findIn K (.ref c_NoShare) "__getattribute__" = some (some (.builtin "BaseException.__getattribute__")))
    (hk_NoShare : PySem.W.findIn K (.ref c_NoShare) "__getattr__" = some none)
    (hd_NoShare : PySem.W.hasDictIn K c_NoShare = true)
    (ha_NoShare : PySem.W.findIn K (.ref c_NoShare) "__class__" = some (some (.builtin "object.__class__")))
    (hn_NoShare : PySem.W.specialIn K (.builtin "object.__class__") "__get__" = some (some (.builtin "getset_descriptor.__get__")))
    (ht_NoShare : PySem.W.takesIn K (.builtin "object.__class__") = some true)
    (hm_NoShare : PySem.W.mroIn K c_NoShare (.type "object") = some true)
    (ic_BodyError : PySem.W.isClsIn K c_BodyError = true)
    (it_BodyError : PySem.W.typeIn K (.ref c_BodyError) = some (.type "type"))
    (is_NoShare_BodyError : PySem.W.subIn K (.ref c_NoShare) (.ref c_BodyError) = some true)
    (is_NoShare_ValueError : PySem.W.subIn K (.ref c_NoShare) (.type "ValueError") = some true)
    (ic_NoWay : PySem.W.isClsIn K c_NoWay = true)
    (it_NoWay : PySem.W.typeIn K (.ref c_NoWay) = some (.type "type"))
    (is_NoShare_NoWay : PySem.W.subIn K (.ref c_NoShare) (.ref c_NoWay) = some false)
    (ic_BadShape : PySem.W.isClsIn K c_BadShape = true)
    (it_BadShape : PySem.W.typeIn K (.ref c_BadShape) = some (.type "type"))
    (is_NoShare_BadShape : PySem.W.subIn K (.ref c_NoShare) (.ref c_BadShape) = some false)
    (an_LENGTHY : PySem.W.nsIn K mainGlobals "LENGTHY" = some (some (.int 4000 k_LENGTHY)))
    (aL : PySem.W.nsIn K mainGlobals "share" = some (some (.ref fL)))
    (lL : K.lookup fL = some ⟨ocL, odL, .func (PySem.W.fnOf "share" "share" (defArgs s_p_share) (defBody s_p_share) (defScope s_p_share) (.ref dL) kvL dcL pmL anL cdL ctL), slL⟩)
    (cL : PySem.W.codeIn K cdL "share" = true)
    (kL : PySem.W.keepIn K (.ref fL) = true)
    (lT : K.lookup dL = some ⟨.type "tuple", odT, .seq #[.int 1 t1] nT, slT⟩)
    (zz : PySem.W.nsIn K cStatics "sys.int_max_str_digits" = some none)
    : ∃ fd : FuncData, (∀ (s : Shared) (v : Value), BindsTo s fd ⟨[v], []⟩ [("_law_script", v)]) ∧ ∀ base : Heap, K.In base → base.Ns mainGlobals mg → FnOk l.prog w K mg base CX0 5 fa fd ["_law_script"] (sp_law K) := by
  have e := hfa.symm.trans (PySem.W.mg_of X G a16)
  cases e
  have FL : FunD K "share" "share" (defArgs s_p_share) (defBody s_p_share) (defScope s_p_share) [.int 1] [] fL (PySem.W.fnOf "share" "share" (defArgs s_p_share) (defBody s_p_share) (defScope s_p_share) (.ref dL) kvL dcL pmL anL cdL ctL) := ⟨⟨ocL, odL, .ref dL, kvL, dcL, pmL, anL, cdL, ctL, slL, rfl, lL, cL, .inr ⟨(fun z => nomatch z), dL, _, [.int 1 t1], nT, rfl, lT, rfl, .cons ⟨_, rfl⟩ .nil⟩, .inl rfl⟩, kL⟩
  obtain ⟨ds1, hv1, hb1⟩ := FL.binds1 (ps := ["top", "bottom"]) 1 0 (fun z => nomatch z) rfl (fun T kV doc pm an cdv ct us its hu hi => match us, its, hu, hi with | [_], [_], _, _ => ⟨_, rfl, rfl⟩)
  have hb2 : Binds K (PySem.W.fnOf "share" "share" (defArgs s_p_share) (defBody s_p_share) (defScope s_p_share) (.ref dL) kvL dcL pmL anL cdL ctL) ["top", "bottom"] [] := by obtain ⟨ds2, hv2, hb2⟩ := FL.binds1 (ps := ["top", "bottom"]) 2 1 (fun z => nomatch z) rfl (fun T kV doc pm an cdv ct us its hu hi => match us, its, hu, hi with | [_, _], [_], _, _ => ⟨_, rfl, rfl⟩); cases hv2; exact hb2
  have hb3 : ∃ t, Binds K (PySem.W.fnOf "share" "share" (defArgs s_p_share) (defBody s_p_share) (defScope s_p_share) (.ref dL) kvL dcL pmL anL cdL ctL) ["top", "bottom"] [Value.int 1 t] := by cases hv1 with | cons h1 h2 => cases h2; obtain ⟨t, rfl⟩ := h1; exact ⟨t, hb1⟩
  have T : Tx K mg { f_p_is_whole := f0, fd_p_is_whole := PySem.W.fnOf "is_whole" "is_whole" (defArgs s_p_is_whole) (defBody s_p_is_whole) (defScope s_p_is_whole) .none kV0 dc0 pm0 an0 cd0 ct0, f_p_common_divisor := f1, fd_p_common_divisor := PySem.W.fnOf "common_divisor" "common_divisor" (defArgs s_p_common_divisor) (defBody s_p_common_divisor) (defScope s_p_common_divisor) .none kV1 dc1 pm1 an1 cd1 ct1, f_p_is_share := f2, fd_p_is_share := PySem.W.fnOf "is_share" "is_share" (defArgs s_p_is_share) (defBody s_p_is_share) (defScope s_p_is_share) .none kV2 dc2 pm2 an2 cd2 ct2, f_l_cell := f4, fd_l_cell := PySem.W.fnOf "_law_cell" "_law_cell" (defArgs s_l_cell) (defBody s_l_cell) (defScope s_l_cell) .none kV4 dc4 pm4 an4 cd4 ct4, f_l_mixed := f5, fd_l_mixed := PySem.W.fnOf "_law_mixed" "_law_mixed" (defArgs s_l_mixed) (defBody s_l_mixed) (defScope s_l_mixed) .none kV5 dc5 pm5 an5 cd5 ct5, f_l_deck := f6, fd_l_deck := PySem.W.fnOf "_law_deck" "_law_deck" (defArgs s_l_deck) (defBody s_l_deck) (defScope s_l_deck) .none kV6 dc6 pm6 an6 cd6 ct6, f_l_take := f7, fd_l_take := PySem.W.fnOf "_law_take" "_law_take" (defArgs s_l_take) (defBody s_l_take) (defScope s_l_take) .none kV7 dc7 pm7 an7 cd7 ct7, f_l_gcd := f8, fd_l_gcd := PySem.W.fnOf "_law_gcd" "_law_gcd" (defArgs s_l_gcd) (defBody s_l_gcd) (defScope s_l_gcd) .none kV8 dc8 pm8 an8 cd8 ct8, f_l_whole := f9, fd_l_whole := PySem.W.fnOf "_law_whole" "_law_whole" (defArgs s_l_whole) (defBody s_l_whole) (defScope s_l_whole) .none kV9 dc9 pm9 an9 cd9 ct9, f_l_is_whole := f10, fd_l_is_whole := PySem.W.fnOf "_law_is_whole" "_law_is_whole" (defArgs s_l_is_whole) (defBody s_l_is_whole) (defScope s_l_is_whole) .none kV10 dc10 pm10 an10 cd10 ct10, f_l_is_share := f11, fd_l_is_share := PySem.W.fnOf "_law_is_share" "_law_is_share" (defArgs s_l_is_share) (defBody s_l_is_share) (defScope s_l_is_share) .none kV11 dc11 pm11 an11 cd11 ct11, f_l_truth := f12, fd_l_truth := PySem.W.fnOf "_law_truth" "_law_truth" (defArgs s_l_truth) (defBody s_l_truth) (defScope s_l_truth) .none kV12 dc12 pm12 an12 cd12 ct12, f_l_refused := f13, fd_l_refused := PySem.W.fnOf "_law_refused" "_law_refused" (defArgs s_l_refused) (defBody s_l_refused) (defScope s_l_refused) .none kV13 dc13 pm13 an13 cd13 ct13, f_l_things := f14, fd_l_things := PySem.W.fnOf "_law_things" "_law_things" (defArgs s_l_things) (defBody s_l_things) (defScope s_l_things) .none kV14 dc14 pm14 an14 cd14 ct14, f_l_right := f15, fd_l_right := PySem.W.fnOf "_law_right" "_law_right" (defArgs s_l_right) (defBody s_l_right) (defScope s_l_right) .none kV15 dc15 pm15 an15 cd15 ct15, f_law := fa, fd_law := PySem.W.fnOf "law" "law" (defArgs s_law) (defBody s_law) (defScope s_law) .none kV16 dc16 pm16 an16 cd16 ct16, c_BodyError := c_BodyError, c_NoShare := c_NoShare, c_NoWay := c_NoWay, c_BadShape := c_BadShape, k_LENGTHY := k_LENGTHY, f_p_share := fL, fd_p_share := PySem.W.fnOf "share" "share" (defArgs s_p_share) (defBody s_p_share) (defScope s_p_share) (.ref dL) kvL dcL pmL anL cdL ctL } := { F_p_is_whole := fun_mk (st := s_p_is_whole) l0 c0 k0, b_p_is_whole := (fun_mk (st := s_p_is_whole) l0 c0 k0).binds (ps := ["thing"]) fun _ _ _ _ _ _ us hl => match us, hl with | [_], _ => rfl, g_p_is_whole := PySem.W.mg_of X G a0, F_p_common_divisor := fun_mk (st := s_p_common_divisor) l1 c1 k1, b_p_common_divisor := (fun_mk (st := s_p_common_divisor) l1 c1 k1).binds (ps := ["one", "other"]) fun _ _ _ _ _ _ us hl => match us, hl with | [_, _], _ => rfl, g_p_common_divisor := PySem.W.mg_of X G a1, F_p_is_share := fun_mk (st := s_p_is_share) l2 c2 k2, b_p_is_share := (fun_mk (st := s_p_is_share) l2 c2 k2).binds (ps := ["thing"]) fun _ _ _ _ _ _ us hl => match us, hl with | [_], _ => rfl, g_p_is_share := PySem.W.mg_of X G a2, F_l_cell := fun_mk (st := s_l_cell) l4 c4 k4, b_l_cell := (fun_mk (st := s_l_cell) l4 c4 k4).binds (ps := ["_law_script", "_law_k"]) fun _ _ _ _ _ _ us hl => match us, hl with | [_, _], _ => rfl, g_l_cell := PySem.W.mg_of X G a4, F_l_mixed := fun_mk (st := s_l_mixed) l5 c5 k5, b_l_mixed := (fun_mk (st := s_l_mixed) l5 c5 k5).binds (ps := ["_law_script", "_law_k", "_law_many"]) fun _ _ _ _ _ _ us hl => match us, hl with | [_, _, _], _ => rfl, g_l_mixed := PySem.W.mg_of X G a5, F_l_deck := fun_mk (st := s_l_deck) l6 c6 k6, b_l_deck := (fun_mk (st := s_l_deck) l6 c6 k6).binds (ps := ["_law_script"]) fun _ _ _ _ _ _ us hl => match us, hl with | [_], _ => rfl, g_l_deck := PySem.W.mg_of X G a6, F_l_take := fun_mk (st := s_l_take) l7 c7 k7, b_l_take := (fun_mk (st := s_l_take) l7 c7 k7).binds (ps := ["_law_deck_here", "_law_many"]) fun _ _ _ _ _ _ us hl => match us, hl with | [_, _], _ => rfl, g_l_take := PySem.W.mg_of X G a7, F_l_gcd := fun_mk (st := s_l_gcd) l8 c8 k8, b_l_gcd := (fun_mk (st := s_l_gcd) l8 c8 k8).binds (ps := ["_law_one", "_law_other"]) fun _ _ _ _ _ _ us hl => match us, hl with | [_, _], _ => rfl, g_l_gcd := PySem.W.mg_of X G a8, F_l_whole := fun_mk (st := s_l_whole) l9 c9 k9, b_l_whole := (fun_mk (st := s_l_whole) l9 c9 k9).binds (ps := ["_law_deck_here"]) fun _ _ _ _ _ _ us hl => match us, hl with | [_], _ => rfl, g_l_whole := PySem.W.mg_of X G a9, F_l_is_whole := fun_mk (st := s_l_is_whole) l10 c10 k10, b_l_is_whole := (fun_mk (st := s_l_is_whole) l10 c10 k10).binds (ps := ["_law_thing"]) fun _ _ _ _ _ _ us hl => match us, hl with | [_], _ => rfl, g_l_is_whole := PySem.W.mg_of X G a10, F_l_is_share := fun_mk (st := s_l_is_share) l11 c11 k11, b_l_is_share := (fun_mk (st := s_l_is_share) l11 c11 k11).binds (ps := ["_law_thing"]) fun _ _ _ _ _ _ us hl => match us, hl with | [_], _ => rfl, g_l_is_share := PySem.W.mg_of X G a11, F_l_truth := fun_mk (st := s_l_truth) l12 c12 k12, b_l_truth := (fun_mk (st := s_l_truth) l12 c12 k12).binds (ps := ["_law_found", "_law_due"]) fun _ _ _ _ _ _ us hl => match us, hl with | [_, _], _ => rfl, g_l_truth := PySem.W.mg_of X G a12, F_l_refused := fun_mk (st := s_l_refused) l13 c13 k13, b_l_refused := (fun_mk (st := s_l_refused) l13 c13 k13).binds (ps := ["_law_top"]) fun _ _ _ _ _ _ us hl => match us, hl with | [_], _ => rfl, g_l_refused := PySem.W.mg_of X G a13, F_l_things := fun_mk (st := s_l_things) l14 c14 k14, b_l_things := (fun_mk (st := s_l_things) l14 c14 k14).binds (ps := ["_law_top", "_law_bottom", "_law_part"]) fun _ _ _ _ _ _ us hl => match us, hl with | [_, _, _], _ => rfl, g_l_things := PySem.W.mg_of X G a14, F_l_right := fun_mk (st := s_l_right) l15 c15 k15, b_l_right := (fun_mk (st := s_l_right) l15 c15 k15).binds (ps := ["_law_top", "_law_bottom"]) fun _ _ _ _ _ _ us hl => match us, hl with | [_, _], _ => rfl, g_l_right := PySem.W.mg_of X G a15, F_law := fun_mk (st := s_law) l16 c16 k16, b_law := (fun_mk (st := s_law) l16 c16 k16).binds (ps := ["_law_script"]) fun _ _ _ _ _ _ us hl => match us, hl with | [_], _ => rfl, g_law := PySem.W.mg_of X G a16, m_ValueError := PySem.W.mg_none_of X G z_ValueError, m_abs := PySem.W.mg_none_of X G z_abs, m_bool := PySem.W.mg_none_of X G z_bool, m_int := PySem.W.mg_none_of X G z_int, m_isinstance := PySem.W.mg_none_of X G z_isinstance, m_len := PySem.W.mg_none_of X G z_len, m_max := PySem.W.mg_none_of X G z_max, m_min := PySem.W.mg_none_of X G z_min, m_range := PySem.W.mg_none_of X G z_range, m_str := PySem.W.mg_none_of X G z_str, m_tuple := PySem.W.mg_none_of X G z_tuple, g_BodyError := PySem.W.mg_of X G ac_BodyError, g_NoShare := PySem.W.mg_of X G ac_NoShare, g_NoWay := PySem.W.mg_of X G ac_NoWay, g_BadShape := PySem.W.mg_of X G ac_BadShape, x_NoShare := x_NoShare, k_NoShare := kc_NoShare, b_NoShare := bc_NoShare, t_NoShare := tc_NoShare, e_NoShare := PySem.W.exm_ref bc_NoShare hd_NoShare tc_NoShare sc_NoShare, E_NoShare := ⟨hg_NoShare, hk_NoShare, bc_NoShare, hd_NoShare, ha_NoShare, hn_NoShare, ht_NoShare, hm_NoShare⟩, i_NoShare_BodyError := kit_ref ic_BodyError it_BodyError is_NoShare_BodyError sc_NoShare, i_NoShare_ValueError := kit_type (by decide +kernel) is_NoShare_ValueError, i_NoShare_NoWay := kit_ref ic_NoWay it_NoWay is_NoShare_NoWay sc_NoShare, i_NoShare_BadShape := kit_ref ic_BadShape it_BadShape is_NoShare_BadShape sc_NoShare, g_LENGTHY := PySem.W.mg_of X G an_LENGTHY, g_p_share := PySem.W.mg_of X G aL, F_p_share := FL, b_p_share := hb2, b1_p_share := hb3, zz := zz }
  exact ⟨PySem.W.fnOf "law" "law" (defArgs s_law) (defBody s_law) (defScope s_law) .none kV16 dc16 pm16 an16 cd16 ct16, fun s v => .of_eq rfl, fun base _ _ => ok_law T⟩
end R
open PySem PySem.W PyProof.Rows
set_option maxRecDepth 100000 in
set_option maxHeartbeats 0 in
theorem PySem.Challenge.cw_restbodies_k01_shares_made_holds : PySem.Challenge.rw_restbodies_k01_shares_made.Holds := by
  w_on; o_law; k_head; (case hw => w_witness2)
  k_fill
  refine L2.walk_of (l := PySem.Challenge.rw_restbodies_k01_shares_made) (n := 63) (k := 5) (x := "_law_script") (CX := fun _ => L2.CX0) (sp := fun w => R.sp_law _) rfl (by decide) rfl ⟨rfl, by decide, by decide⟩ (fun w h Y => PySem.W.kIn_of Y) ?F (fun _ _ a ns hl hO hS => ⟨a, ns, rfl, hO, hS, hl, fun _ => rfl⟩) (fun _ _ _ _ _ h => h)
  case F =>
    intro w mg fa h KX G hmg
    refine' R.all_mk KX G hmg ?a0 ?l0 ?c0 ?k0 ?a1 ?l1 ?c1 ?k1 ?a2 ?l2 ?c2 ?k2 ?a4 ?l4 ?c4 ?k4 ?a5 ?l5 ?c5 ?k5 ?a6 ?l6 ?c6 ?k6 ?a7 ?l7 ?c7 ?k7 ?a8 ?l8 ?c8 ?k8 ?a9 ?l9 ?c9 ?k9 ?a10 ?l10 ?c10 ?k10 ?a11 ?l11 ?c11 ?k11 ?a12 ?l12 ?c12 ?k12 ?a13 ?l13 ?c13 ?k13 ?a14 ?l14 ?c14 ?k14 ?a15 ?l15 ?c15 ?k15 ?a16 ?l16 ?c16 ?k16 ?z_ValueError ?z_abs ?z_bool ?z_int ?z_isinstance ?z_len ?z_max ?z_min ?z_range ?z_str ?z_tuple ?ac_BodyError ?ac_NoShare ?ac_NoWay ?ac_BadShape ?x_NoShare ?kc_NoShare ?bc_NoShare ?tc_NoShare ?sc_NoShare ?hg_NoShare ?hk_NoShare ?hd_NoShare ?ha_NoShare ?hn_NoShare ?ht_NoShare ?hm_NoShare ?ic_BodyError ?it_BodyError ?is_NoShare_BodyError ?is_NoShare_ValueError ?ic_NoWay ?it_NoWay ?is_NoShare_NoWay ?ic_BadShape ?it_BadShape ?is_NoShare_BadShape ?an_LENGTHY ?aL ?lL ?cL ?kL ?lT ?zz
    (case a0 => k_is)
    (case l0 => k_is)
    (case c0 => k_is)
    (case k0 => k_is)
    (case a1 => k_is)
    (case l1 => k_is)
    (case c1 => k_is)
    (case k1 => k_is)
    (case a2 => k_is)
    (case l2 => k_is)
    (case c2 => k_is)
    (case k2 => k_is)
    (case a4 => k_is)
    (case l4 => k_is)
    (case c4 => k_is)
    (case k4 => k_is)
    (case a5 => k_is)
    (case l5 => k_is)
    (case c5 => k_is)
    (case k5 => k_is)
    (case a6 => k_is)
    (case l6 => k_is)
    (case c6 => k_is)
    (case k6 => k_is)
    (case a7 => k_is)
    (case l7 => k_is)
    (case c7 => k_is)
    (case k7 => k_is)
    (case a8 => k_is)
    (case l8 => k_is)
    (case c8 => k_is)
    (case k8 => k_is)
    (case a9 => k_is)
    (case l9 => k_is)
    (case c9 => k_is)
    (case k9 => k_is)
    (case a10 => k_is)
    (case l10 => k_is)
    (case c10 => k_is)
    (case k10 => k_is)
    (case a11 => k_is)
    (case l11 => k_is)
    (case c11 => k_is)
    (case k11 => k_is)
    (case a12 => k_is)
    (case l12 => k_is)
    (case c12 => k_is)
    (case k12 => k_is)
    (case a13 => k_is)
    (case l13 => k_is)
    (case c13 => k_is)
    (case k13 => k_is)
    (case a14 => k_is)
    (case l14 => k_is)
    (case c14 => k_is)
    (case k14 => k_is)
    (case a15 => k_is)
    (case l15 => k_is)
    (case c15 => k_is)
    (case k15 => k_is)
    (case a16 => k_is)
    (case l16 => k_is)
    (case c16 => k_is)
    (case k16 => k_is)
    (case z_ValueError => k_is)
    (case z_abs => k_is)
    (case z_bool => k_is)
    (case z_int => k_is)
    (case z_isinstance => k_is)
    (case z_len => k_is)
    (case z_max => k_is)
    (case z_min => k_is)
    (case z_range => k_is)
    (case z_str => k_is)
    (case z_tuple => k_is)
    (case ac_BodyError => k_is)
    (case ac_NoShare => k_is)
    (case ac_NoWay => k_is)
    (case ac_BadShape => k_is)
    (case x_NoShare => k_exc)
    (case kc_NoShare => k_is)
    (case bc_NoShare => k_is)
    (case tc_NoShare => k_is)
    (case sc_NoShare => k_is)
    (case hg_NoShare => k_is)
    (case hk_NoShare => k_is)
    (case hd_NoShare => k_is)
    (case ha_NoShare => k_is)
    (case hn_NoShare => k_is)
    (case ht_NoShare => k_is)
    (case hm_NoShare => k_is)
    (case ic_BodyError => k_is)
    (case it_BodyError => k_is)
    (case is_NoShare_BodyError => k_is)
    (case is_NoShare_ValueError => k_is)
    (case ic_NoWay => k_is)
    (case it_NoWay => k_is)
    (case is_NoShare_NoWay => k_is)
    (case ic_BadShape => k_is)
    (case it_BadShape => k_is)
    (case is_NoShare_BadShape => k_is)
    (case an_LENGTHY => k_is)
    (case aL => k_is)
    (case lL => k_is)
    (case cL => k_is)
    (case kL => k_is)
    (case lT => k_is)
    (case zz => k_is)
