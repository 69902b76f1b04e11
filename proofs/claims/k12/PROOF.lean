import PyProof.Rows.All
import Wide.All
import OpenK.AllK
import Wide.FinOn
import HandS.ForMost
import HandS.Wide
import HandS.IsInst
import HandS.Defaults
import HandS.WideBits
import PyProof.P3Eq
import HandS.ForExc
import HandS.ExcIs
import HandS.Style
import HandS.Sort
import HandS.SortRule
import HandS.Zip
import HandS.FStr
import HandS.Text
import HandS.TupAny
import HandS.OwnEq
import HandS.Deep
import KE.KCallOwn
import KE.IntTextLaws
import KE.IntTextText
import HandS.Head0
import HandS.Head1
import HandS.Head2
import HandS.HeadEnd
import HandS.HeadHook1
import HandS.HeadHook2
import PySem.Challenge.RW_restbodies_k12_bodies_alike
set_option Elab.async false
set_option linter.all false
set_option maxRecDepth 100000
set_option maxHeartbeats 2000000
set_option synthInstance.maxSize 100000
set_option synthInstance.maxHeartbeats 2000000
namespace R
open PySem PySem.Spec PyProof.Rows L2
def topS (i : Nat) : Stmt := PySem.Challenge.pw_restbodies_k12_bodies_alike.main.body.getD i (.Pass ⟨0, 0, 0, 0⟩)
abbrev s_p_share_text : Stmt := topS 2
theorem sc_p_share_text : FnScope ["one", "top", "bottom"] ["one"] (defScope s_p_share_text) := ⟨rfl, rfl, rfl, by decide +kernel, rfl, by decide +kernel, by decide +kernel⟩
abbrev s_p_spot_words : Stmt := topS 4
theorem sc_p_spot_words : FnScope ["spot", "part"] ["spot"] (defScope s_p_spot_words) := ⟨rfl, rfl, rfl, by decide +kernel, rfl, by decide +kernel, by decide +kernel⟩
abbrev s_p_corner_words : Stmt := topS 5
theorem sc_p_corner_words : FnScope ["shape", "x", "y"] ["shape"] (defScope s_p_corner_words) := ⟨rfl, rfl, rfl, by decide +kernel, rfl, by decide +kernel, by decide +kernel⟩
abbrev s_p_wall_words : Stmt := topS 6
theorem sc_p_wall_words : FnScope ["row", "name", "shape", "mass", "rail", "place", "speed"] ["row"] (defScope s_p_wall_words) := ⟨rfl, rfl, rfl, by decide +kernel, rfl, by decide +kernel, by decide +kernel⟩
abbrev s_p_free_words : Stmt := topS 7
theorem sc_p_free_words : FnScope ["row", "name", "shape", "mass", "rail", "place", "speed"] ["row"] (defScope s_p_free_words) := ⟨rfl, rfl, rfl, by decide +kernel, rfl, by decide +kernel, by decide +kernel⟩
abbrev s_p_rail_words : Stmt := topS 8
theorem sc_p_rail_words : FnScope ["row", "name", "shape", "mass", "rail", "place", "speed", "ahead"] ["row"] (defScope s_p_rail_words) := ⟨rfl, rfl, rfl, by decide +kernel, rfl, by decide +kernel, by decide +kernel⟩
abbrev s_p_body_of : Stmt := topS 13
theorem sc_p_body_of : FnScope ["row", "name", "shape", "mass", "rail", "place", "speed"] ["row"] (defScope s_p_body_of) := ⟨rfl, rfl, rfl, by decide +kernel, rfl, by decide +kernel, by decide +kernel⟩
abbrev s_l_cell : Stmt := topS 15
theorem sc_l_cell : FnScope ["_law_script", "_law_k"] ["_law_script", "_law_k"] (defScope s_l_cell) := ⟨rfl, rfl, rfl, by decide +kernel, rfl, by decide +kernel, by decide +kernel⟩
abbrev s_l_mixed : Stmt := topS 16
theorem sc_l_mixed : FnScope ["_law_script", "_law_k", "_law_many", "_law_number_here"] ["_law_script", "_law_k", "_law_many"] (defScope s_l_mixed) := ⟨rfl, rfl, rfl, by decide +kernel, rfl, by decide +kernel, by decide +kernel⟩
abbrev s_l_deck : Stmt := topS 17
theorem sc_l_deck : FnScope ["_law_script", "_law_cell_here"] ["_law_script"] (defScope s_l_deck) := ⟨rfl, rfl, rfl, by decide +kernel, rfl, by decide +kernel, by decide +kernel⟩
abbrev s_l_take : Stmt := topS 18
theorem sc_l_take : FnScope ["_law_deck_here", "_law_many", "_law_cell_here"] ["_law_deck_here", "_law_many"] (defScope s_l_take) := ⟨rfl, rfl, rfl, by decide +kernel, rfl, by decide +kernel, by decide +kernel⟩
abbrev s_l_gcd : Stmt := topS 19
theorem sc_l_gcd : FnScope ["_law_one", "_law_other_here", "_law_rest"] ["_law_one", "_law_other_here"] (defScope s_l_gcd) := ⟨rfl, rfl, rfl, by decide +kernel, rfl, by decide +kernel, by decide +kernel⟩
abbrev s_l_left : Stmt := topS 20
theorem sc_l_left : FnScope ["_law_a", "_law_b", "_law_c"] ["_law_a", "_law_b", "_law_c"] (defScope s_l_left) := ⟨rfl, rfl, rfl, by decide +kernel, rfl, by decide +kernel, by decide +kernel⟩
abbrev s_l_half : Stmt := topS 21
theorem sc_l_half : FnScope ["_law_points", "_law_found", "_law_point"] ["_law_points"] (defScope s_l_half) := ⟨rfl, rfl, rfl, by decide +kernel, rfl, by decide +kernel, by decide +kernel⟩
abbrev s_l_hull : Stmt := topS 22
theorem sc_l_hull : FnScope ["_law_points", "_law_rows", "_law_found"] ["_law_points"] (defScope s_l_hull) := ⟨rfl, rfl, rfl, by decide +kernel, rfl, by decide +kernel, by decide +kernel⟩
abbrev s_l_number : Stmt := topS 23
theorem sc_l_number : FnScope ["_law_deck_here", "_law_span"] ["_law_deck_here", "_law_span"] (defScope s_l_number) := ⟨rfl, rfl, rfl, by decide +kernel, rfl, by decide +kernel, by decide +kernel⟩
abbrev s_l_whole : Stmt := topS 24
abbrev s_l_part : Stmt := topS 25
theorem sc_l_part : FnScope ["_law_top", "_law_bottom", "_law_by"] ["_law_top", "_law_bottom"] (defScope s_l_part) := ⟨rfl, rfl, rfl, by decide +kernel, rfl, by decide +kernel, by decide +kernel⟩
abbrev s_l_drawn : Stmt := topS 26
theorem sc_l_drawn : FnScope ["_law_deck_here", "_law_far", "_law_number_here"] ["_law_deck_here"] (defScope s_l_drawn) := ⟨rfl, rfl, rfl, by decide +kernel, rfl, by decide +kernel, by decide +kernel⟩
abbrev s_l_row : Stmt := topS 27
theorem sc_l_row : FnScope ["_law_deck_here", "_law_kind", "_law_letters", "_law_long", "_law_name", "_law_span", "_law_many", "_law_shape", "_law_place", "_law_heavy", "_law_one", "_law_p", "_law_q", "_law_by", "_law_going", "_law_k"] ["_law_deck_here", "_law_kind"] (defScope s_l_row) := ⟨rfl, rfl, rfl, by decide +kernel, rfl, by decide +kernel, by decide +kernel⟩
abbrev s_l_added : Stmt := topS 28
theorem sc_l_added : FnScope ["_law_one"] ["_law_one"] (defScope s_l_added) := ⟨rfl, rfl, rfl, by decide +kernel, rfl, by decide +kernel, by decide +kernel⟩
abbrev s_l_other_rail : Stmt := topS 29
theorem sc_l_other_rail : FnScope ["_law_row_here"] ["_law_row_here"] (defScope s_l_other_rail) := ⟨rfl, rfl, rfl, by decide +kernel, rfl, by decide +kernel, by decide +kernel⟩
abbrev s_l_other : Stmt := topS 30
theorem sc_l_other : FnScope ["_law_deck_here", "_law_row_here", "_law_part_here", "_law_x", "_law_y"] ["_law_deck_here", "_law_row_here"] (defScope s_l_other) := ⟨rfl, rfl, rfl, by decide +kernel, rfl, by decide +kernel, by decide +kernel⟩
abbrev s_l_word : Stmt := topS 31
theorem sc_l_word : FnScope ["_law_one"] ["_law_one"] (defScope s_l_word) := ⟨rfl, rfl, rfl, by decide +kernel, rfl, by decide +kernel, by decide +kernel⟩
abbrev s_l_line : Stmt := topS 32
theorem sc_l_line : FnScope ["_law_row_here", "_law_words", "_law_corners", "_law_x", "_law_y"] ["_law_row_here"] (defScope s_l_line) := ⟨rfl, rfl, rfl, by decide +kernel, rfl, by decide +kernel, by decide +kernel⟩
abbrev s_l_made : Stmt := topS 33
theorem sc_l_made : FnScope ["_law_row_here"] ["_law_row_here"] (defScope s_l_made) := ⟨rfl, rfl, rfl, by decide +kernel, rfl, by decide +kernel, by decide +kernel⟩
abbrev s_l_is_one : Stmt := topS 34
theorem sc_l_is_one : FnScope ["_law_body", "_law_row_here", "_law_text", "_law_kinds"] ["_law_body", "_law_row_here"] (defScope s_l_is_one) := ⟨rfl, rfl, rfl, by decide +kernel, rfl, by decide +kernel, by decide +kernel⟩
abbrev s_l_nothing_else : Stmt := topS 35
theorem sc_l_nothing_else : FnScope ["_law_body", "_law_row_here", "_law_thing"] ["_law_body", "_law_row_here"] (defScope s_l_nothing_else) := ⟨rfl, rfl, rfl, by decide +kernel, rfl, by decide +kernel, by decide +kernel⟩
abbrev s_law : Stmt := topS 36
theorem sc_law : FnScope ["_law_script", "_law_deck_here", "_law_kind", "_law_other_way", "_law_row_here", "_law_third", "_law_other_here", "_law_bodies", "_law_rows", "_law_k", "_law_j", "_law_alike"] ["_law_script"] (defScope s_law) := ⟨rfl, rfl, rfl, by decide +kernel, rfl, by decide +kernel, by decide +kernel⟩
abbrev s_m_Body___init__ : Stmt := inClass (topS 9) 0
theorem sc_m_Body___init__ : FnScope ["self", "row"] ["self", "row"] (defScope s_m_Body___init__) := ⟨rfl, rfl, rfl, by decide +kernel, rfl, by decide +kernel, by decide +kernel⟩
abbrev s_m_Body___eq__ : Stmt := inClass (topS 9) 4
theorem sc_m_Body___eq__ : FnScope ["self", "other"] ["self", "other"] (defScope s_m_Body___eq__) := ⟨rfl, rfl, rfl, by decide +kernel, rfl, by decide +kernel, by decide +kernel⟩
abbrev s_m_Wall___str__ : Stmt := inClass (topS 10) 3
theorem sc_m_Wall___str__ : FnScope ["self"] ["self"] (defScope s_m_Wall___str__) := ⟨rfl, rfl, rfl, by decide +kernel, rfl, by decide +kernel, by decide +kernel⟩
abbrev s_m_Free___str__ : Stmt := inClass (topS 11) 3
theorem sc_m_Free___str__ : FnScope ["self"] ["self"] (defScope s_m_Free___str__) := ⟨rfl, rfl, rfl, by decide +kernel, rfl, by decide +kernel, by decide +kernel⟩
abbrev s_m_Railed___str__ : Stmt := inClass (topS 12) 3
theorem sc_m_Railed___str__ : FnScope ["self"] ["self"] (defScope s_m_Railed___str__) := ⟨rfl, rfl, rfl, by decide +kernel, rfl, by decide +kernel, by decide +kernel⟩
namespace HF
open PySem PySem.Spec PyProof.Rows L2
theorem ba {a b : Bool} (h : (a && b) = true) : a = true ∧ b = true := Bool.and_eq_true_iff.mp h
def eqV (a b : Option Value) : Bool := decide (a = b)
theorem eqV_ok {a b : Option Value} (h : eqV a b = true) : a = b := of_decide_eq_true h
def eqB (a b : Option Bool) : Bool := decide (a = b)
theorem eqB_ok {a b : Option Bool} (h : eqB a b = true) : a = b := of_decide_eq_true h
theorem get {l : List Bool} (h : (l.all fun b => b) = true) (i : Nat) {b : Bool} (e : l[i]? = some b) : b = true := List.all_eq_true.mp h b (List.mem_of_getElem? e)
def inA (K : PySem.W.Frag) (C : Str) : Addr := He.ma K (He.ga K C) "__init__"
abbrev InV : Type := Option (Str × Str × Arguments × FuncBody × Scope × Addr × List Str × Value × Addr)
def inObs (K : PySem.W.Frag) (C : Str) : InV := match K.lookup (inA K C) with
  | some ⟨_, _, .func fd, _⟩ => some (fd.name, fd.qualname, fd.params, fd.body, fd.scope, fd.globals, fd.closure.map (fun p => p.1), fd.defaults, fd.builtins)
  | _ => none
structure InD where
  cls : Str
  qual : Str
  params : Arguments
  body : List Stmt
  scope : Scope
def InD.val (d : InD) : InV := some ("__init__", d.qual, d.params, .stmts d.body, d.scope, mainGlobals, ["__class__"], .none, builtinsNs)
theorem fun_of {K : PySem.W.Frag} {x qual : Str} {st : Stmt} {f : Addr} {fd : FuncData} (F : FunD K x qual (defArgs st) (defBody st) (defScope st) [] [] f fd) : Fun K x qual st f fd := by
  obtain ⟨⟨oc, od, dV, kV, doc, pm, an, cdv, ct, osl, rfl, lk, hcd, hD, _⟩, kp⟩ := F
  rcases hD with ⟨_, rfl⟩ | ⟨e, _⟩
  · exact ⟨⟨oc, od, kV, doc, pm, an, cdv, ct, osl, rfl, lk, hcd⟩, kp⟩
  · exact absurd rfl e
def span : Nat → Nat → List Addr
  | _, 0 => []
  | a, n + 1 => a :: span (a + 1) n
structure Hd where
  lo : Nat
  chk : PySem.W.Frag → List (List Bool)
  fn : List He.DefD
  ini : List InD
abbrev AlH : Type := Bool × List He.FnW × List InV
def kOf (D : Hd) (g : Addr → Option Obj) (n : Nat) : PySem.W.Frag := He.frG g (mainGlobals :: cStatics :: span D.lo (n - D.lo))
def obsK (D : Hd) (K : PySem.W.Frag) : AlH := ((D.chk K).all (fun l => l.all fun b => b) && D.fn.all fun d => d.ok K, D.fn.map (fun d => He.fnW K d.at_), D.ini.map (fun d => inObs K d.cls))
def valK (D : Hd) : AlH := (true, D.fn.map He.DefD.val, D.ini.map InD.val)
def Says (D : Hd) (K : PySem.W.Frag) : Prop := obsK D K = valK D
def hook (D : Hd) : PySem.W.Hook where
  α := AlH
  obs := fun s => obsK D (kOf D s.heap.get? s.heap.objs.size)
  val := fun _ => valK D
  says := fun _ h => ∃ K : PySem.W.Frag, K.In h ∧ Says D K
  of := fun _ _ e => ⟨_, He.frG_in, e⟩
  keeps := fun _ _ _ ⟨K, hK, c⟩ k => ⟨K, PySem.W.Frag.In.keeps hK k, c⟩
def ob (D : Hd) (s : PySem.W.SharedT) : AlH := obsK D (kOf D (HandSHeadRun.getT s) s.n)
theorem ob_eq (D : Hd) (s : PySem.W.SharedT) : ob D s = (hook D).obs s.abs := by
  have e : HandSHeadRun.getT s = s.abs.heap.get? := funext (HandSHeadRun.getT_eq s)
  have n : s.abs.heap.objs.size = s.n := PySem.W.absHeap_size _ _ _
  show obsK D (kOf D (HandSHeadRun.getT s) s.n) = obsK D (kOf D s.abs.heap.get? s.abs.heap.objs.size)
  rw [e, n]
section
variable {D : Hd} {K : PySem.W.Frag}
theorem Says.look (c : Says D K) (j : Nat) {l : List Bool} (e : (D.chk K)[j]? = some l) : (l.all fun b => b) = true := by
  have c1 := (ba (show ((D.chk K).all (fun l => l.all fun b => b) && D.fn.all fun d => d.ok K) = true from congrArg (fun z : AlH => z.1) c)).1
  exact List.all_eq_true.mp c1 l (List.mem_of_getElem? e)
theorem Says.def_ (c : Says D K) (i : Nat) {d : He.DefD} (h : D.fn[i]? = some d) : ∃ fd, FunD K d.name d.qual d.params d.body d.scope (d.dvs K) (d.kws K) (He.fAd K d.at_) fd := by
  have c2 := (ba (show ((D.chk K).all (fun l => l.all fun b => b) && D.fn.all fun d => d.ok K) = true from congrArg (fun z : AlH => z.1) c)).2
  have e : D.fn.map (fun d => He.fnW K d.at_) = D.fn.map He.DefD.val := congrArg (fun z : AlH => z.2.1) c
  have e2 : (D.fn.map fun d => He.fnW K d.at_)[i]? = (D.fn.map He.DefD.val)[i]? := by rw [e]
  rw [List.getElem?_map, List.getElem?_map, h] at e2
  exact He.DefD.funD (Option.some.inj e2) (List.all_eq_true.mp c2 d (List.mem_of_getElem? h))
end
theorem map_some {α β : Type} {x : Option α} {f : α → β} {b : β} (h : x.map f = some b) : ∃ a, x = some a ∧ f a = b := Option.map_eq_some_iff.mp h
end HF
def dd_p_share_text : He.DefD := ⟨("share_text", none), "share_text", "share_text", defArgs s_p_share_text, defBody s_p_share_text, defScope s_p_share_text, [], []⟩
def dd_p_spot_words : He.DefD := ⟨("spot_words", none), "spot_words", "spot_words", defArgs s_p_spot_words, defBody s_p_spot_words, defScope s_p_spot_words, [], []⟩
def dd_p_corner_words : He.DefD := ⟨("corner_words", none), "corner_words", "corner_words", defArgs s_p_corner_words, defBody s_p_corner_words, defScope s_p_corner_words, [], []⟩
def dd_p_wall_words : He.DefD := ⟨("wall_words", none), "wall_words", "wall_words", defArgs s_p_wall_words, defBody s_p_wall_words, defScope s_p_wall_words, [], []⟩
def dd_p_free_words : He.DefD := ⟨("free_words", none), "free_words", "free_words", defArgs s_p_free_words, defBody s_p_free_words, defScope s_p_free_words, [], []⟩
def dd_p_rail_words : He.DefD := ⟨("rail_words", none), "rail_words", "rail_words", defArgs s_p_rail_words, defBody s_p_rail_words, defScope s_p_rail_words, [], []⟩
def dd_p_body_of : He.DefD := ⟨("body_of", none), "body_of", "body_of", defArgs s_p_body_of, defBody s_p_body_of, defScope s_p_body_of, [], []⟩
def dd_l_cell : He.DefD := ⟨("_law_cell", none), "_law_cell", "_law_cell", defArgs s_l_cell, defBody s_l_cell, defScope s_l_cell, [], []⟩
def dd_l_mixed : He.DefD := ⟨("_law_mixed", none), "_law_mixed", "_law_mixed", defArgs s_l_mixed, defBody s_l_mixed, defScope s_l_mixed, [], []⟩
def dd_l_deck : He.DefD := ⟨("_law_deck", none), "_law_deck", "_law_deck", defArgs s_l_deck, defBody s_l_deck, defScope s_l_deck, [], []⟩
def dd_l_take : He.DefD := ⟨("_law_take", none), "_law_take", "_law_take", defArgs s_l_take, defBody s_l_take, defScope s_l_take, [], []⟩
def dd_l_gcd : He.DefD := ⟨("_law_gcd", none), "_law_gcd", "_law_gcd", defArgs s_l_gcd, defBody s_l_gcd, defScope s_l_gcd, [], []⟩
def dd_l_left : He.DefD := ⟨("_law_left", none), "_law_left", "_law_left", defArgs s_l_left, defBody s_l_left, defScope s_l_left, [], []⟩
def dd_l_half : He.DefD := ⟨("_law_half", none), "_law_half", "_law_half", defArgs s_l_half, defBody s_l_half, defScope s_l_half, [], []⟩
def dd_l_hull : He.DefD := ⟨("_law_hull", none), "_law_hull", "_law_hull", defArgs s_l_hull, defBody s_l_hull, defScope s_l_hull, [], []⟩
def dd_l_number : He.DefD := ⟨("_law_number", none), "_law_number", "_law_number", defArgs s_l_number, defBody s_l_number, defScope s_l_number, [], []⟩
def dd_l_whole : He.DefD := ⟨("_law_whole", none), "_law_whole", "_law_whole", defArgs s_l_whole, defBody s_l_whole, defScope s_l_whole, [], []⟩
def dd_l_part : He.DefD := ⟨("_law_part", none), "_law_part", "_law_part", defArgs s_l_part, defBody s_l_part, defScope s_l_part, [], []⟩
def dd_l_drawn : He.DefD := ⟨("_law_drawn", none), "_law_drawn", "_law_drawn", defArgs s_l_drawn, defBody s_l_drawn, defScope s_l_drawn, [], []⟩
def dd_l_row : He.DefD := ⟨("_law_row", none), "_law_row", "_law_row", defArgs s_l_row, defBody s_l_row, defScope s_l_row, [], []⟩
def dd_l_added : He.DefD := ⟨("_law_added", none), "_law_added", "_law_added", defArgs s_l_added, defBody s_l_added, defScope s_l_added, [], []⟩
def dd_l_other_rail : He.DefD := ⟨("_law_other_rail", none), "_law_other_rail", "_law_other_rail", defArgs s_l_other_rail, defBody s_l_other_rail, defScope s_l_other_rail, [], []⟩
def dd_l_other : He.DefD := ⟨("_law_other", none), "_law_other", "_law_other", defArgs s_l_other, defBody s_l_other, defScope s_l_other, [], []⟩
def dd_l_word : He.DefD := ⟨("_law_word", none), "_law_word", "_law_word", defArgs s_l_word, defBody s_l_word, defScope s_l_word, [], []⟩
def dd_l_line : He.DefD := ⟨("_law_line", none), "_law_line", "_law_line", defArgs s_l_line, defBody s_l_line, defScope s_l_line, [], []⟩
def dd_l_made : He.DefD := ⟨("_law_made", none), "_law_made", "_law_made", defArgs s_l_made, defBody s_l_made, defScope s_l_made, [], []⟩
def dd_l_is_one : He.DefD := ⟨("_law_is_one", none), "_law_is_one", "_law_is_one", defArgs s_l_is_one, defBody s_l_is_one, defScope s_l_is_one, [], []⟩
def dd_l_nothing_else : He.DefD := ⟨("_law_nothing_else", none), "_law_nothing_else", "_law_nothing_else", defArgs s_l_nothing_else, defBody s_l_nothing_else, defScope s_l_nothing_else, [], []⟩
def dd_law : He.DefD := ⟨("law", none), "law", "law", defArgs s_law, defBody s_law, defScope s_law, [], []⟩
def dd_m_Body___init__ : He.DefD := ⟨("Wall", some "__init__"), "__init__", "Body.__init__", defArgs s_m_Body___init__, defBody s_m_Body___init__, defScope s_m_Body___init__, [], []⟩
def dd_m_Body___eq__ : He.DefD := ⟨("Body", some "__eq__"), "__eq__", "Body.__eq__", defArgs s_m_Body___eq__, defBody s_m_Body___eq__, defScope s_m_Body___eq__, [], []⟩
def dd_m_Wall___str__ : He.DefD := ⟨("Wall", some "__str__"), "__str__", "Wall.__str__", defArgs s_m_Wall___str__, defBody s_m_Wall___str__, defScope s_m_Wall___str__, [], []⟩
def dd_m_Free___str__ : He.DefD := ⟨("Free", some "__str__"), "__str__", "Free.__str__", defArgs s_m_Free___str__, defBody s_m_Free___str__, defScope s_m_Free___str__, [], []⟩
def dd_m_Railed___str__ : He.DefD := ⟨("Railed", some "__str__"), "__str__", "Railed.__str__", defArgs s_m_Railed___str__, defBody s_m_Railed___str__, defScope s_m_Railed___str__, [], []⟩
abbrev LW : PySem.W.OpenLaw := PySem.Challenge.rw_restbodies_k12_bodies_alike
def ck0 (K : PySem.W.Frag) : List Bool := [(He.Fa.glo "share_text").ok K,
  (He.Fa.glo "spot_words").ok K,
  (He.Fa.glo "corner_words").ok K,
  (He.Fa.glo "wall_words").ok K,
  (He.Fa.glo "free_words").ok K,
  (He.Fa.glo "rail_words").ok K,
  (He.Fa.glo "body_of").ok K,
  (He.Fa.glo "_law_cell").ok K,
  (He.Fa.glo "_law_mixed").ok K,
  (He.Fa.glo "_law_deck").ok K,
  (He.Fa.glo "_law_take").ok K,
  (He.Fa.glo "_law_gcd").ok K]
def ck1 (K : PySem.W.Frag) : List Bool := [(He.Fa.glo "_law_left").ok K,
  (He.Fa.glo "_law_half").ok K,
  (He.Fa.glo "_law_hull").ok K,
  (He.Fa.glo "_law_number").ok K,
  (He.Fa.glo "_law_whole").ok K,
  (He.Fa.glo "_law_part").ok K,
  (He.Fa.glo "_law_drawn").ok K,
  (He.Fa.glo "_law_row").ok K,
  (He.Fa.glo "_law_added").ok K,
  (He.Fa.glo "_law_other_rail").ok K,
  (He.Fa.glo "_law_other").ok K,
  (He.Fa.glo "_law_word").ok K]
def ck2 (K : PySem.W.Frag) : List Bool := [(He.Fa.glo "_law_line").ok K,
  (He.Fa.glo "_law_made").ok K,
  (He.Fa.glo "_law_is_one").ok K,
  (He.Fa.glo "_law_nothing_else").ok K,
  (He.Fa.glo "law").ok K,
  (He.Fa.free "abs").ok K,
  (He.Fa.free "bool").ok K,
  (He.Fa.free "int").ok K,
  (He.Fa.free "isinstance").ok K,
  (He.Fa.free "len").ok K,
  (He.Fa.free "range").ok K,
  (He.Fa.free "sorted").ok K]
def ck3 (K : PySem.W.Frag) : List Bool := [(He.Fa.free "str").ok K,
  (He.Fa.free "tuple").ok K,
  (He.Fa.glo "Body").ok K,
  (He.Fa.glo "Wall").ok K,
  (He.Fa.glo "Free").ok K,
  (He.Fa.glo "Railed").ok K,
  He.eqO (PySem.W.findIn K (.ref (He.ga K "Body")) "__eq__") (some (some (.ref (He.ma K (He.ga K "Body") "__eq__")))),
  PySem.W.isFn K (.ref (He.ma K (He.ga K "Body") "__eq__")),
  PySem.W.keepIn K (.ref (He.ma K (He.ga K "Body") "__eq__")),
  He.eqO (PySem.W.findIn K (.ref (He.ga K "Wall")) "__str__") (some (some (.ref (He.ma K (He.ga K "Wall") "__str__")))),
  PySem.W.isFn K (.ref (He.ma K (He.ga K "Wall") "__str__")),
  PySem.W.keepIn K (.ref (He.ma K (He.ga K "Wall") "__str__"))]
def ck4 (K : PySem.W.Frag) : List Bool := [He.eqO (PySem.W.findIn K (.ref (He.ga K "Free")) "__str__") (some (some (.ref (He.ma K (He.ga K "Free") "__str__")))),
  PySem.W.isFn K (.ref (He.ma K (He.ga K "Free") "__str__")),
  PySem.W.keepIn K (.ref (He.ma K (He.ga K "Free") "__str__")),
  He.eqO (PySem.W.findIn K (.ref (He.ga K "Railed")) "__str__") (some (some (.ref (He.ma K (He.ga K "Railed") "__str__")))),
  PySem.W.isFn K (.ref (He.ma K (He.ga K "Railed") "__str__")),
  PySem.W.keepIn K (.ref (He.ma K (He.ga K "Railed") "__str__")),
  He.eqO (PySem.W.findIn K (.ref (He.ga K "Wall")) "row") (some none),
  He.eqO (PySem.W.findIn K (.ref (He.ga K "Wall")) "name") (some none),
  He.eqO (PySem.W.findIn K (.ref (He.ga K "Wall")) "mass") (some none),
  PySem.W.plainGet K (He.ga K "Wall") Str.empty,
  PySem.W.hasDictIn K (He.ga K "Wall"),
  PySem.W.plainOver K (He.ga K "Wall")]
def ck5 (K : PySem.W.Frag) : List Bool := [He.eqO (PySem.W.findIn K (.ref (He.ga K "Wall")) "__setattr__") (some (some (.builtin "object.__setattr__"))),
  PySem.W.makesIn K (He.ga K "Wall"),
  He.eqO (PySem.W.findIn K (.ref (He.ga K "Wall")) "__init__") (some (some (.ref (He.ma K (He.ga K "Wall") "__init__")))),
  PySem.W.isFn K (.ref (He.ma K (He.ga K "Wall") "__init__")),
  PySem.W.keepIn K (.ref (He.ga K "Wall")),
  He.eqO (PySem.W.findIn K (.ref (He.ga K "Free")) "row") (some none),
  He.eqO (PySem.W.findIn K (.ref (He.ga K "Free")) "name") (some none),
  He.eqO (PySem.W.findIn K (.ref (He.ga K "Free")) "mass") (some none),
  PySem.W.plainGet K (He.ga K "Free") Str.empty,
  PySem.W.hasDictIn K (He.ga K "Free"),
  PySem.W.plainOver K (He.ga K "Free"),
  He.eqO (PySem.W.findIn K (.ref (He.ga K "Free")) "__setattr__") (some (some (.builtin "object.__setattr__")))]
def ck6 (K : PySem.W.Frag) : List Bool := [PySem.W.makesIn K (He.ga K "Free"),
  He.eqO (PySem.W.findIn K (.ref (He.ga K "Free")) "__init__") (some (some (.ref (He.ma K (He.ga K "Wall") "__init__")))),
  PySem.W.keepIn K (.ref (He.ga K "Free")),
  He.eqO (PySem.W.findIn K (.ref (He.ga K "Railed")) "row") (some none),
  He.eqO (PySem.W.findIn K (.ref (He.ga K "Railed")) "name") (some none),
  He.eqO (PySem.W.findIn K (.ref (He.ga K "Railed")) "mass") (some none),
  PySem.W.plainGet K (He.ga K "Railed") Str.empty,
  PySem.W.hasDictIn K (He.ga K "Railed"),
  PySem.W.plainOver K (He.ga K "Railed"),
  He.eqO (PySem.W.findIn K (.ref (He.ga K "Railed")) "__setattr__") (some (some (.builtin "object.__setattr__"))),
  PySem.W.makesIn K (He.ga K "Railed"),
  He.eqO (PySem.W.findIn K (.ref (He.ga K "Railed")) "__init__") (some (some (.ref (He.ma K (He.ga K "Wall") "__init__"))))]
def ck7 (K : PySem.W.Frag) : List Bool := [PySem.W.keepIn K (.ref (He.ga K "Railed")),
  PySem.W.isClsIn K (He.ga K "Body"),
  HF.eqV (PySem.W.typeIn K (.ref (He.ga K "Body"))) (some (.type "type")),
  He.eqO (PySem.W.findIn K (.ref (He.ga K "Wall")) "__eq__") (some (some (.ref (He.ma K (He.ga K "Body") "__eq__")))),
  He.eqO (PySem.W.findIn K (.ref (He.ga K "Wall")) "__ne__") (some (some (.builtin "object.__ne__"))),
  HF.eqB (PySem.W.subIn K (.ref (He.ga K "Wall")) (.type "object")) (some true),
  HF.eqB (PySem.W.subIn K (.ref (He.ga K "Wall")) (.type "tuple")) (some false),
  HF.eqB (PySem.W.subIn K (.ref (He.ga K "Wall")) (.type "list")) (some false),
  HF.eqB (PySem.W.subIn K (.ref (He.ga K "Wall")) (.type "str")) (some false),
  HF.eqB (PySem.W.subIn K (.ref (He.ga K "Wall")) (.type "int")) (some false),
  HF.eqB (PySem.W.subIn K (.ref (He.ga K "Wall")) (.type "bool")) (some false),
  HF.eqB (PySem.W.subIn K (.ref (He.ga K "Wall")) (.type "NoneType")) (some false)]
def ck8 (K : PySem.W.Frag) : List Bool := [PySem.W.notFirst K (He.ga K "Wall") (.ref (He.ga K "Wall")),
  PySem.W.notFirst K (He.ga K "Wall") (.ref (He.ga K "Free")),
  PySem.W.notFirst K (He.ga K "Wall") (.ref (He.ga K "Railed")),
  He.eqO (PySem.W.findIn K (.ref (He.ga K "Free")) "__eq__") (some (some (.ref (He.ma K (He.ga K "Body") "__eq__")))),
  He.eqO (PySem.W.findIn K (.ref (He.ga K "Free")) "__ne__") (some (some (.builtin "object.__ne__"))),
  HF.eqB (PySem.W.subIn K (.ref (He.ga K "Free")) (.type "object")) (some true),
  HF.eqB (PySem.W.subIn K (.ref (He.ga K "Free")) (.type "tuple")) (some false),
  HF.eqB (PySem.W.subIn K (.ref (He.ga K "Free")) (.type "list")) (some false),
  HF.eqB (PySem.W.subIn K (.ref (He.ga K "Free")) (.type "str")) (some false),
  HF.eqB (PySem.W.subIn K (.ref (He.ga K "Free")) (.type "int")) (some false),
  HF.eqB (PySem.W.subIn K (.ref (He.ga K "Free")) (.type "bool")) (some false),
  HF.eqB (PySem.W.subIn K (.ref (He.ga K "Free")) (.type "NoneType")) (some false)]
def ck9 (K : PySem.W.Frag) : List Bool := [PySem.W.notFirst K (He.ga K "Free") (.ref (He.ga K "Wall")),
  PySem.W.notFirst K (He.ga K "Free") (.ref (He.ga K "Free")),
  PySem.W.notFirst K (He.ga K "Free") (.ref (He.ga K "Railed")),
  He.eqO (PySem.W.findIn K (.ref (He.ga K "Railed")) "__eq__") (some (some (.ref (He.ma K (He.ga K "Body") "__eq__")))),
  He.eqO (PySem.W.findIn K (.ref (He.ga K "Railed")) "__ne__") (some (some (.builtin "object.__ne__"))),
  HF.eqB (PySem.W.subIn K (.ref (He.ga K "Railed")) (.type "object")) (some true),
  HF.eqB (PySem.W.subIn K (.ref (He.ga K "Railed")) (.type "tuple")) (some false),
  HF.eqB (PySem.W.subIn K (.ref (He.ga K "Railed")) (.type "list")) (some false),
  HF.eqB (PySem.W.subIn K (.ref (He.ga K "Railed")) (.type "str")) (some false),
  HF.eqB (PySem.W.subIn K (.ref (He.ga K "Railed")) (.type "int")) (some false),
  HF.eqB (PySem.W.subIn K (.ref (He.ga K "Railed")) (.type "bool")) (some false),
  HF.eqB (PySem.W.subIn K (.ref (He.ga K "Railed")) (.type "NoneType")) (some false)]
def ck10 (K : PySem.W.Frag) : List Bool := [PySem.W.notFirst K (He.ga K "Railed") (.ref (He.ga K "Wall")),
  PySem.W.notFirst K (He.ga K "Railed") (.ref (He.ga K "Free")),
  PySem.W.notFirst K (He.ga K "Railed") (.ref (He.ga K "Railed")),
  He.eqO (PySem.W.findIn K (.ref (He.ga K "Wall")) "__class__") (some (some (.builtin "object.__class__"))),
  He.eqO (PySem.W.specialIn K (.builtin "object.__class__") "__get__") (some (some (.builtin "getset_descriptor.__get__"))),
  HF.eqB (PySem.W.takesIn K (.builtin "object.__class__")) (some true),
  HF.eqB (PySem.W.mroIn K (He.ga K "Wall") (.type "object")) (some true),
  He.eqO (PySem.W.findIn K (.ref (He.ga K "Free")) "__class__") (some (some (.builtin "object.__class__"))),
  HF.eqB (PySem.W.mroIn K (He.ga K "Free") (.type "object")) (some true),
  He.eqO (PySem.W.findIn K (.ref (He.ga K "Railed")) "__class__") (some (some (.builtin "object.__class__"))),
  HF.eqB (PySem.W.mroIn K (He.ga K "Railed") (.type "object")) (some true),
  HF.eqB (PySem.W.subIn K (.ref (He.ga K "Wall")) (.ref (He.ga K "Wall"))) (some true)]
def ck11 (K : PySem.W.Frag) : List Bool := [PySem.W.isClsIn K (He.ga K "Wall"),
  HF.eqV (PySem.W.typeIn K (.ref (He.ga K "Wall"))) (some (.type "type")),
  PySem.W.isClsIn K (He.ga K "Free"),
  HF.eqV (PySem.W.typeIn K (.ref (He.ga K "Free"))) (some (.type "type")),
  HF.eqB (PySem.W.subIn K (.ref (He.ga K "Wall")) (.ref (He.ga K "Free"))) (some false),
  PySem.W.isClsIn K (He.ga K "Railed"),
  HF.eqV (PySem.W.typeIn K (.ref (He.ga K "Railed"))) (some (.type "type")),
  HF.eqB (PySem.W.subIn K (.ref (He.ga K "Wall")) (.ref (He.ga K "Railed"))) (some false),
  HF.eqB (PySem.W.subIn K (.ref (He.ga K "Wall")) (.ref (He.ga K "Body"))) (some true),
  HF.eqB (PySem.W.subIn K (.ref (He.ga K "Free")) (.ref (He.ga K "Free"))) (some true),
  HF.eqB (PySem.W.subIn K (.ref (He.ga K "Free")) (.ref (He.ga K "Wall"))) (some false),
  HF.eqB (PySem.W.subIn K (.ref (He.ga K "Free")) (.ref (He.ga K "Railed"))) (some false)]
def ck12 (K : PySem.W.Frag) : List Bool := [HF.eqB (PySem.W.subIn K (.ref (He.ga K "Free")) (.ref (He.ga K "Body"))) (some true),
  HF.eqB (PySem.W.subIn K (.ref (He.ga K "Railed")) (.ref (He.ga K "Railed"))) (some true),
  HF.eqB (PySem.W.subIn K (.ref (He.ga K "Railed")) (.ref (He.ga K "Wall"))) (some false),
  HF.eqB (PySem.W.subIn K (.ref (He.ga K "Railed")) (.ref (He.ga K "Free"))) (some false),
  HF.eqB (PySem.W.subIn K (.ref (He.ga K "Railed")) (.ref (He.ga K "Body"))) (some true)]
def ckAll (K : PySem.W.Frag) : List (List Bool) := ([ck0 K, ck1 K, ck2 K, ck3 K, ck4 K, ck5 K, ck6 K, ck7 K, ck8 K, ck9 K, ck10 K, ck11 K, ck12 K] : List (List Bool))
def fnAll : List He.DefD := ([dd_p_share_text, dd_p_spot_words, dd_p_corner_words, dd_p_wall_words, dd_p_free_words, dd_p_rail_words, dd_p_body_of, dd_l_cell, dd_l_mixed, dd_l_deck, dd_l_take, dd_l_gcd, dd_l_left, dd_l_half, dd_l_hull, dd_l_number, dd_l_whole, dd_l_part, dd_l_drawn, dd_l_row, dd_l_added, dd_l_other_rail, dd_l_other, dd_l_word, dd_l_line, dd_l_made, dd_l_is_one, dd_l_nothing_else, dd_law, dd_m_Body___init__] : List He.DefD) ++ ([dd_m_Body___eq__, dd_m_Wall___str__, dd_m_Free___str__, dd_m_Railed___str__] : List He.DefD)
def inAll : List HF.InD := ([] : List HF.InD)
def hdD : HF.Hd := ⟨0, ckAll, fnAll, inAll⟩
def loose : List Str := (["_wall", "__name__", "share_text", "spot_words", "corner_words", "wall_words", "free_words", "rail_words", "Body", "Wall", "Free", "Railed", "body_of", "_law_cell", "_law_mixed", "_law_deck", "_law_take", "_law_gcd", "_law_left", "_law_half", "_law_hull", "_law_number", "_law_whole", "_law_part", "_law_drawn", "_law_row", "_law_added", "_law_other_rail", "_law_other", "_law_word"] : List Str) ++ (["_law_line", "_law_made", "_law_is_one", "_law_nothing_else"] : List Str)
abbrev RR : PySem.W.OpenRow := PySem.W.OpenLaw.row LW
set_option maxHeartbeats 0 in
theorem topRun (w : World) : HandSHeadRun.RunEq RR (PySem.W.view RR.prog [36]) (HF.hook hdD) (HF.ob hdD) 40000 loose w := by
  intro os
  kernel_rfl
theorem upd_some {H : Hp} {p x : Addr} {o u : HO} (hp : H p = none) (h : H x = some u) : (upd H p o) x = some u := by
  rw [upd_ne (ne_of_none h hp)]
  exact h
theorem same_upd {H : Hp} {p : Addr} {o : HO} (h : H p = none) : Same H (upd H p o) := fun b x e => upd_some h e
theorem Same.seqT {K : PySem.W.Frag} {H H' : Hp} {a : Addr} {xs : List V} (e : Same H H') (h : SqT K H a xs) : SqT K H' a xs := by
  rcases h with (h | ⟨o, h⟩) | h
  · exact .inl (.inl (e _ _ h))
  · exact .inl (.inr ⟨o, e _ _ h⟩)
  · exact .inr h
def Kp (d b : Addr) (H H' : Hp) : Prop := ∀ x o, x ≠ d → x ≠ b → H x = some o → H' x = some o
theorem Kp.refl {d b : Addr} {H : Hp} : Kp d b H H := fun _ _ _ _ h => h
theorem Kp.trans {d b : Addr} {H H1 H2 : Hp} (u : Kp d b H H1) (v : Kp d b H1 H2) : Kp d b H H2 := fun x o h1 h2 h => v x o h1 h2 (u x o h1 h2 h)
theorem Kp.same {d b : Addr} {H H' : Hp} (s : Same H H') : Kp d b H H' := fun x o _ _ h => s x o h
theorem Kp.free {d b : Addr} {H H' : Hp} (u : Kp d b H H') {x : Addr} (hd : H d ≠ none) (hb : H b ≠ none) (h : H' x = none) (h1 : H' d ≠ none) (h2 : H' b ≠ none) : H x = none := by
  cases e : H x with
  | none => rfl
  | some o =>
    by_cases e1 : x = d
    · subst e1; exact absurd h h1
    by_cases e2 : x = b
    · subst e2; exact absurd h h2
    rw [u x o e1 e2 e] at h
    cases h
def Sc (K : PySem.W.Frag) (H : Hp) (s : Addr) (ns : List Int) : Prop := (∃ o, H s = some (.frz o (.lst (ns.map V.int)))) ∨ ∀ H', SqL K H' s (ns.map V.int)
theorem Sc.seq {K : PySem.W.Frag} {H : Hp} {s : Addr} {ns : List Int} (h : Sc K H s ns) : SqL K H s (ns.map V.int) := by
  rcases h with ⟨o, h⟩ | h
  · exact .inl (.inr ⟨o, h⟩)
  · exact h H
theorem Sc.mk {K : PySem.W.Frag} {H : Hp} {s : Addr} {ns : List Int} (hO : Only H) (h : SqL K H s (ns.map V.int)) : Sc K H s ns := by
  rcases h with (h | ⟨o, h⟩) | h
  · rcases hO s with e | ⟨o, xs, e⟩
    · rw [e] at h; cases h
    · rw [e] at h; cases h
  · exact .inl ⟨o, h⟩
  · exact .inr fun H' => .inr h
theorem Sc.upd {K : PySem.W.Frag} {H : Hp} {s b : Addr} {ns : List Int} {u : HO} (h : Sc K H s ns) (hb : H b = none ∨ ∃ xs, H b = some (.lst xs)) : Sc K (upd H b u) s ns := by
  rcases h with ⟨o, h⟩ | h
  · refine .inl ⟨o, ?_⟩
    have n : s ≠ b := fun e => by
      subst e
      rcases hb with e | ⟨xs, e⟩ <;> rw [e] at h <;> cases h
    rw [upd_ne n]
    exact h
  · exact .inr h
theorem Sc.keep {K : PySem.W.Frag} {H H' : Hp} {s : Addr} {ns : List Int} (h : Sc K H s ns) (k : Same H H') : Sc K H' s ns := by
  rcases h with ⟨o, h⟩ | h
  · exact .inl ⟨o, k _ _ h⟩
  · exact .inr h
structure Deck (K : PySem.W.Frag) (H : Hp) (d b : Addr) (c : Int) : Prop where
  ex : ∃ (s : Addr) (ns cs : List Int) (i k : Int), H d = some (.lst [.ref s, .ref b, .int i, .int k]) ∧ H b = some (.lst (cs.map V.int)) ∧ Sc K H s ns ∧ 0 ≤ i ∧ 0 ≤ k ∧ k ≤ c
  ne : b ≠ d
theorem Deck.keep {K : PySem.W.Frag} {H H' : Hp} {d b : Addr} {c : Int} (D : Deck K H d b c) (k : Same H H') : Deck K H' d b c := by
  obtain ⟨⟨s, ns, cs, i, j, h1, h2, h3, h4⟩, n⟩ := D
  exact ⟨⟨s, ns, cs, i, j, k _ _ h1, k _ _ h2, h3.keep k, h4⟩, n⟩
theorem Deck.le {K : PySem.W.Frag} {H : Hp} {d b : Addr} {c c' : Int} (D : Deck K H d b c) (h : c ≤ c') : Deck K H d b c' := by
  obtain ⟨⟨s, ns, cs, i, j, h1, h2, h3, h4, h5, h6⟩, n⟩ := D
  exact ⟨⟨s, ns, cs, i, j, h1, h2, h3, h4, h5, by omega⟩, n⟩
theorem Deck.tup {K : PySem.W.Frag} {H H' : Hp} {d b x : Addr} {c : Int} {xs : List V} (D : Deck K H d b c) (k : Kp d b H H') (h : H x = some (.tup xs)) : H' x = some (.tup xs) := by
  obtain ⟨⟨s, ns, cs, i, j, h1, h2, _⟩, n⟩ := D
  exact k x _ (fun e => by rw [e, h1] at h; cases h) (fun e => by rw [e, h2] at h; cases h) h
theorem Deck.hd {K : PySem.W.Frag} {H : Hp} {d b : Addr} {c : Int} (D : Deck K H d b c) : H d ≠ none := by
  obtain ⟨⟨s, ns, cs, i, j, h1, _⟩, n⟩ := D
  rw [h1]; exact fun e => nomatch e
theorem Deck.hb {K : PySem.W.Frag} {H : Hp} {d b : Addr} {c : Int} (D : Deck K H d b c) : H b ≠ none := by
  obtain ⟨⟨s, ns, cs, i, j, _, h1, _⟩, n⟩ := D
  rw [h1]; exact fun e => nomatch e
theorem Deck.free {K : PySem.W.Frag} {H H' : Hp} {d b x : Addr} {c c' : Int} (D : Deck K H d b c) (D' : Deck K H' d b c') (k : Kp d b H H') (h : H' x = none) : H x = none := k.free D.hd D.hb h D'.hd D'.hb
theorem log2_lt {n k : Nat} (h : n < 2 ^ k) (h0 : 0 < k) : n.log2 < k := PySem.Flt.log2_lt_of h0 h
theorem size63 {n : Nat} (h : n ≤ 1000) : n ≤ sizeLine := Nat.le_of_lt (small1000 h)
theorem abs_nn (i : Int) : 0 ≤ (if i < 0 then -i else i) := by
  split <;> omega
theorem abs_nat (i : Int) : (if i < 0 then -i else i) = (i.natAbs : Int) := by
  split <;> omega
structure Ad where
  f_p_share_text : Addr
  fd_p_share_text : FuncData
  f_p_spot_words : Addr
  fd_p_spot_words : FuncData
  f_p_corner_words : Addr
  fd_p_corner_words : FuncData
  f_p_wall_words : Addr
  fd_p_wall_words : FuncData
  f_p_free_words : Addr
  fd_p_free_words : FuncData
  f_p_rail_words : Addr
  fd_p_rail_words : FuncData
  f_p_body_of : Addr
  fd_p_body_of : FuncData
  f_l_cell : Addr
  fd_l_cell : FuncData
  f_l_mixed : Addr
  fd_l_mixed : FuncData
  f_l_deck : Addr
  fd_l_deck : FuncData
  f_l_take : Addr
  fd_l_take : FuncData
  f_l_gcd : Addr
  fd_l_gcd : FuncData
  f_l_left : Addr
  fd_l_left : FuncData
  f_l_half : Addr
  fd_l_half : FuncData
  f_l_hull : Addr
  fd_l_hull : FuncData
  f_l_number : Addr
  fd_l_number : FuncData
  f_l_whole : Addr
  fd_l_whole : FuncData
  f_l_part : Addr
  fd_l_part : FuncData
  f_l_drawn : Addr
  fd_l_drawn : FuncData
  f_l_row : Addr
  fd_l_row : FuncData
  f_l_added : Addr
  fd_l_added : FuncData
  f_l_other_rail : Addr
  fd_l_other_rail : FuncData
  f_l_other : Addr
  fd_l_other : FuncData
  f_l_word : Addr
  fd_l_word : FuncData
  f_l_line : Addr
  fd_l_line : FuncData
  f_l_made : Addr
  fd_l_made : FuncData
  f_l_is_one : Addr
  fd_l_is_one : FuncData
  f_l_nothing_else : Addr
  fd_l_nothing_else : FuncData
  f_law : Addr
  fd_law : FuncData
  c_Body : Addr
  c_Wall : Addr
  c_Free : Addr
  c_Railed : Addr
  f_m_Body___init__ : Addr
  fd_m_Body___init__ : FuncData
  f_m_Body___eq__ : Addr
  fd_m_Body___eq__ : FuncData
  f_m_Wall___str__ : Addr
  fd_m_Wall___str__ : FuncData
  f_m_Free___str__ : Addr
  fd_m_Free___str__ : FuncData
  f_m_Railed___str__ : Addr
  fd_m_Railed___str__ : FuncData
structure Tx (K : PySem.W.Frag) (mg : Str → Option Value) (A : Ad) : Prop where
  F_p_share_text : Fun K "share_text" "share_text" s_p_share_text A.f_p_share_text A.fd_p_share_text
  b_p_share_text : Binds K A.fd_p_share_text ["one"] []
  g_p_share_text : mg "share_text" = some (.ref A.f_p_share_text)
  F_p_spot_words : Fun K "spot_words" "spot_words" s_p_spot_words A.f_p_spot_words A.fd_p_spot_words
  b_p_spot_words : Binds K A.fd_p_spot_words ["spot"] []
  g_p_spot_words : mg "spot_words" = some (.ref A.f_p_spot_words)
  F_p_corner_words : Fun K "corner_words" "corner_words" s_p_corner_words A.f_p_corner_words A.fd_p_corner_words
  b_p_corner_words : Binds K A.fd_p_corner_words ["shape"] []
  g_p_corner_words : mg "corner_words" = some (.ref A.f_p_corner_words)
  F_p_wall_words : Fun K "wall_words" "wall_words" s_p_wall_words A.f_p_wall_words A.fd_p_wall_words
  b_p_wall_words : Binds K A.fd_p_wall_words ["row"] []
  g_p_wall_words : mg "wall_words" = some (.ref A.f_p_wall_words)
  F_p_free_words : Fun K "free_words" "free_words" s_p_free_words A.f_p_free_words A.fd_p_free_words
  b_p_free_words : Binds K A.fd_p_free_words ["row"] []
  g_p_free_words : mg "free_words" = some (.ref A.f_p_free_words)
  F_p_rail_words : Fun K "rail_words" "rail_words" s_p_rail_words A.f_p_rail_words A.fd_p_rail_words
  b_p_rail_words : Binds K A.fd_p_rail_words ["row"] []
  g_p_rail_words : mg "rail_words" = some (.ref A.f_p_rail_words)
  F_p_body_of : Fun K "body_of" "body_of" s_p_body_of A.f_p_body_of A.fd_p_body_of
  b_p_body_of : Binds K A.fd_p_body_of ["row"] []
  g_p_body_of : mg "body_of" = some (.ref A.f_p_body_of)
  F_l_cell : Fun K "_law_cell" "_law_cell" s_l_cell A.f_l_cell A.fd_l_cell
  b_l_cell : Binds K A.fd_l_cell ["_law_script", "_law_k"] []
  g_l_cell : mg "_law_cell" = some (.ref A.f_l_cell)
  F_l_mixed : Fun K "_law_mixed" "_law_mixed" s_l_mixed A.f_l_mixed A.fd_l_mixed
  b_l_mixed : Binds K A.fd_l_mixed ["_law_script", "_law_k", "_law_many"] []
  g_l_mixed : mg "_law_mixed" = some (.ref A.f_l_mixed)
  F_l_deck : Fun K "_law_deck" "_law_deck" s_l_deck A.f_l_deck A.fd_l_deck
  b_l_deck : Binds K A.fd_l_deck ["_law_script"] []
  g_l_deck : mg "_law_deck" = some (.ref A.f_l_deck)
  F_l_take : Fun K "_law_take" "_law_take" s_l_take A.f_l_take A.fd_l_take
  b_l_take : Binds K A.fd_l_take ["_law_deck_here", "_law_many"] []
  g_l_take : mg "_law_take" = some (.ref A.f_l_take)
  F_l_gcd : Fun K "_law_gcd" "_law_gcd" s_l_gcd A.f_l_gcd A.fd_l_gcd
  b_l_gcd : Binds K A.fd_l_gcd ["_law_one", "_law_other_here"] []
  g_l_gcd : mg "_law_gcd" = some (.ref A.f_l_gcd)
  F_l_left : Fun K "_law_left" "_law_left" s_l_left A.f_l_left A.fd_l_left
  b_l_left : Binds K A.fd_l_left ["_law_a", "_law_b", "_law_c"] []
  g_l_left : mg "_law_left" = some (.ref A.f_l_left)
  F_l_half : Fun K "_law_half" "_law_half" s_l_half A.f_l_half A.fd_l_half
  b_l_half : Binds K A.fd_l_half ["_law_points"] []
  g_l_half : mg "_law_half" = some (.ref A.f_l_half)
  F_l_hull : Fun K "_law_hull" "_law_hull" s_l_hull A.f_l_hull A.fd_l_hull
  b_l_hull : Binds K A.fd_l_hull ["_law_points"] []
  g_l_hull : mg "_law_hull" = some (.ref A.f_l_hull)
  F_l_number : Fun K "_law_number" "_law_number" s_l_number A.f_l_number A.fd_l_number
  b_l_number : Binds K A.fd_l_number ["_law_deck_here", "_law_span"] []
  g_l_number : mg "_law_number" = some (.ref A.f_l_number)
  F_l_whole : Fun K "_law_whole" "_law_whole" s_l_whole A.f_l_whole A.fd_l_whole
  b_l_whole : Binds K A.fd_l_whole ["_law_thing"] []
  g_l_whole : mg "_law_whole" = some (.ref A.f_l_whole)
  F_l_part : Fun K "_law_part" "_law_part" s_l_part A.f_l_part A.fd_l_part
  b_l_part : Binds K A.fd_l_part ["_law_top", "_law_bottom"] []
  g_l_part : mg "_law_part" = some (.ref A.f_l_part)
  F_l_drawn : Fun K "_law_drawn" "_law_drawn" s_l_drawn A.f_l_drawn A.fd_l_drawn
  b_l_drawn : Binds K A.fd_l_drawn ["_law_deck_here"] []
  g_l_drawn : mg "_law_drawn" = some (.ref A.f_l_drawn)
  F_l_row : Fun K "_law_row" "_law_row" s_l_row A.f_l_row A.fd_l_row
  b_l_row : Binds K A.fd_l_row ["_law_deck_here", "_law_kind"] []
  g_l_row : mg "_law_row" = some (.ref A.f_l_row)
  F_l_added : Fun K "_law_added" "_law_added" s_l_added A.f_l_added A.fd_l_added
  b_l_added : Binds K A.fd_l_added ["_law_one"] []
  g_l_added : mg "_law_added" = some (.ref A.f_l_added)
  F_l_other_rail : Fun K "_law_other_rail" "_law_other_rail" s_l_other_rail A.f_l_other_rail A.fd_l_other_rail
  b_l_other_rail : Binds K A.fd_l_other_rail ["_law_row_here"] []
  g_l_other_rail : mg "_law_other_rail" = some (.ref A.f_l_other_rail)
  F_l_other : Fun K "_law_other" "_law_other" s_l_other A.f_l_other A.fd_l_other
  b_l_other : Binds K A.fd_l_other ["_law_deck_here", "_law_row_here"] []
  g_l_other : mg "_law_other" = some (.ref A.f_l_other)
  F_l_word : Fun K "_law_word" "_law_word" s_l_word A.f_l_word A.fd_l_word
  b_l_word : Binds K A.fd_l_word ["_law_one"] []
  g_l_word : mg "_law_word" = some (.ref A.f_l_word)
  F_l_line : Fun K "_law_line" "_law_line" s_l_line A.f_l_line A.fd_l_line
  b_l_line : Binds K A.fd_l_line ["_law_row_here"] []
  g_l_line : mg "_law_line" = some (.ref A.f_l_line)
  F_l_made : Fun K "_law_made" "_law_made" s_l_made A.f_l_made A.fd_l_made
  b_l_made : Binds K A.fd_l_made ["_law_row_here"] []
  g_l_made : mg "_law_made" = some (.ref A.f_l_made)
  F_l_is_one : Fun K "_law_is_one" "_law_is_one" s_l_is_one A.f_l_is_one A.fd_l_is_one
  b_l_is_one : Binds K A.fd_l_is_one ["_law_body", "_law_row_here"] []
  g_l_is_one : mg "_law_is_one" = some (.ref A.f_l_is_one)
  F_l_nothing_else : Fun K "_law_nothing_else" "_law_nothing_else" s_l_nothing_else A.f_l_nothing_else A.fd_l_nothing_else
  b_l_nothing_else : Binds K A.fd_l_nothing_else ["_law_body", "_law_row_here"] []
  g_l_nothing_else : mg "_law_nothing_else" = some (.ref A.f_l_nothing_else)
  F_law : Fun K "law" "law" s_law A.f_law A.fd_law
  b_law : Binds K A.fd_law ["_law_script"] []
  g_law : mg "law" = some (.ref A.f_law)
  m_abs : mg "abs" = none
  m_bool : mg "bool" = none
  m_int : mg "int" = none
  m_isinstance : mg "isinstance" = none
  m_len : mg "len" = none
  m_range : mg "range" = none
  m_sorted : mg "sorted" = none
  m_str : mg "str" = none
  m_tuple : mg "tuple" = none
  g_Body : mg "Body" = some (.ref A.c_Body)
  g_Wall : mg "Wall" = some (.ref A.c_Wall)
  g_Free : mg "Free" = some (.ref A.c_Free)
  g_Railed : mg "Railed" = some (.ref A.c_Railed)
  F_m_Body___init__ : Fun K "__init__" "Body.__init__" s_m_Body___init__ A.f_m_Body___init__ A.fd_m_Body___init__
  b_m_Body___init__ : Binds K A.fd_m_Body___init__ ["self", "row"] []
  F_m_Body___eq__ : Fun K "__eq__" "Body.__eq__" s_m_Body___eq__ A.f_m_Body___eq__ A.fd_m_Body___eq__
  b_m_Body___eq__ : Binds K A.fd_m_Body___eq__ ["self", "other"] []
  mt_m_Body___eq__ : Meth K A.c_Body "__eq__" A.f_m_Body___eq__
  F_m_Wall___str__ : Fun K "__str__" "Wall.__str__" s_m_Wall___str__ A.f_m_Wall___str__ A.fd_m_Wall___str__
  b_m_Wall___str__ : Binds K A.fd_m_Wall___str__ ["self"] []
  mt_m_Wall___str__ : Meth K A.c_Wall "__str__" A.f_m_Wall___str__
  F_m_Free___str__ : Fun K "__str__" "Free.__str__" s_m_Free___str__ A.f_m_Free___str__ A.fd_m_Free___str__
  b_m_Free___str__ : Binds K A.fd_m_Free___str__ ["self"] []
  mt_m_Free___str__ : Meth K A.c_Free "__str__" A.f_m_Free___str__
  F_m_Railed___str__ : Fun K "__str__" "Railed.__str__" s_m_Railed___str__ A.f_m_Railed___str__ A.fd_m_Railed___str__
  b_m_Railed___str__ : Binds K A.fd_m_Railed___str__ ["self"] []
  mt_m_Railed___str__ : Meth K A.c_Railed "__str__" A.f_m_Railed___str__
  cl_Wall : Cls K A.c_Wall
  mk_Wall : Mk K A.c_Wall A.f_m_Body___init__
  na_Wall_row : NoAttr K A.c_Wall "row"
  na_Wall_name : NoAttr K A.c_Wall "name"
  na_Wall_mass : NoAttr K A.c_Wall "mass"
  cl_Free : Cls K A.c_Free
  mk_Free : Mk K A.c_Free A.f_m_Body___init__
  na_Free_row : NoAttr K A.c_Free "row"
  na_Free_name : NoAttr K A.c_Free "name"
  na_Free_mass : NoAttr K A.c_Free "mass"
  cl_Railed : Cls K A.c_Railed
  mk_Railed : Mk K A.c_Railed A.f_m_Body___init__
  na_Railed_row : NoAttr K A.c_Railed "row"
  na_Railed_name : NoAttr K A.c_Railed "name"
  na_Railed_mass : NoAttr K A.c_Railed "mass"
  i_Wall_Wall : PySem.W.kitOne K (.ref A.c_Wall) (.ref A.c_Wall) = some true
  i_Wall_Free : PySem.W.kitOne K (.ref A.c_Wall) (.ref A.c_Free) = some false
  i_Wall_Railed : PySem.W.kitOne K (.ref A.c_Wall) (.ref A.c_Railed) = some false
  i_Wall_Body : PySem.W.kitOne K (.ref A.c_Wall) (.ref A.c_Body) = some true
  i_Free_Wall : PySem.W.kitOne K (.ref A.c_Free) (.ref A.c_Wall) = some false
  i_Free_Free : PySem.W.kitOne K (.ref A.c_Free) (.ref A.c_Free) = some true
  i_Free_Railed : PySem.W.kitOne K (.ref A.c_Free) (.ref A.c_Railed) = some false
  i_Free_Body : PySem.W.kitOne K (.ref A.c_Free) (.ref A.c_Body) = some true
  i_Railed_Wall : PySem.W.kitOne K (.ref A.c_Railed) (.ref A.c_Wall) = some false
  i_Railed_Free : PySem.W.kitOne K (.ref A.c_Railed) (.ref A.c_Free) = some false
  i_Railed_Railed : PySem.W.kitOne K (.ref A.c_Railed) (.ref A.c_Railed) = some true
  i_Railed_Body : PySem.W.kitOne K (.ref A.c_Railed) (.ref A.c_Body) = some true
  oe_fn : PySem.W.isFn K (.ref A.f_m_Body___eq__) = true
  oe_ic : PySem.W.isClsIn K A.c_Body = true
  oe_ty : PySem.W.typeIn K (.ref A.c_Body) = some (.type "type")
  oe_eq_Wall : PySem.W.findIn K (.ref A.c_Wall) "__eq__" = some (some (.ref A.f_m_Body___eq__))
  oe_ne_Wall : PySem.W.findIn K (.ref A.c_Wall) "__ne__" = some (some (.builtin "object.__ne__"))
  oe_ob_Wall : PySem.W.subIn K (.ref A.c_Wall) (.type "object") = some true
  oe_tp_Wall : PySem.W.subIn K (.ref A.c_Wall) (.type "tuple") = some false
  oe_ls_Wall : PySem.W.subIn K (.ref A.c_Wall) (.type "list") = some false
  oe_st_Wall : PySem.W.subIn K (.ref A.c_Wall) (.type "str") = some false
  oe_it_Wall : PySem.W.subIn K (.ref A.c_Wall) (.type "int") = some false
  oe_bl_Wall : PySem.W.subIn K (.ref A.c_Wall) (.type "bool") = some false
  oe_nn_Wall : PySem.W.subIn K (.ref A.c_Wall) (.type "NoneType") = some false
  oe_nf_Wall_Wall : PySem.W.notFirst K A.c_Wall (.ref A.c_Wall) = true
  oe_nf_Wall_Free : PySem.W.notFirst K A.c_Wall (.ref A.c_Free) = true
  oe_nf_Wall_Railed : PySem.W.notFirst K A.c_Wall (.ref A.c_Railed) = true
  oe_eq_Free : PySem.W.findIn K (.ref A.c_Free) "__eq__" = some (some (.ref A.f_m_Body___eq__))
  oe_ne_Free : PySem.W.findIn K (.ref A.c_Free) "__ne__" = some (some (.builtin "object.__ne__"))
  oe_ob_Free : PySem.W.subIn K (.ref A.c_Free) (.type "object") = some true
  oe_tp_Free : PySem.W.subIn K (.ref A.c_Free) (.type "tuple") = some false
  oe_ls_Free : PySem.W.subIn K (.ref A.c_Free) (.type "list") = some false
  oe_st_Free : PySem.W.subIn K (.ref A.c_Free) (.type "str") = some false
  oe_it_Free : PySem.W.subIn K (.ref A.c_Free) (.type "int") = some false
  oe_bl_Free : PySem.W.subIn K (.ref A.c_Free) (.type "bool") = some false
  oe_nn_Free : PySem.W.subIn K (.ref A.c_Free) (.type "NoneType") = some false
  oe_nf_Free_Wall : PySem.W.notFirst K A.c_Free (.ref A.c_Wall) = true
  oe_nf_Free_Free : PySem.W.notFirst K A.c_Free (.ref A.c_Free) = true
  oe_nf_Free_Railed : PySem.W.notFirst K A.c_Free (.ref A.c_Railed) = true
  oe_eq_Railed : PySem.W.findIn K (.ref A.c_Railed) "__eq__" = some (some (.ref A.f_m_Body___eq__))
  oe_ne_Railed : PySem.W.findIn K (.ref A.c_Railed) "__ne__" = some (some (.builtin "object.__ne__"))
  oe_ob_Railed : PySem.W.subIn K (.ref A.c_Railed) (.type "object") = some true
  oe_tp_Railed : PySem.W.subIn K (.ref A.c_Railed) (.type "tuple") = some false
  oe_ls_Railed : PySem.W.subIn K (.ref A.c_Railed) (.type "list") = some false
  oe_st_Railed : PySem.W.subIn K (.ref A.c_Railed) (.type "str") = some false
  oe_it_Railed : PySem.W.subIn K (.ref A.c_Railed) (.type "int") = some false
  oe_bl_Railed : PySem.W.subIn K (.ref A.c_Railed) (.type "bool") = some false
  oe_nn_Railed : PySem.W.subIn K (.ref A.c_Railed) (.type "NoneType") = some false
  oe_nf_Railed_Wall : PySem.W.notFirst K A.c_Railed (.ref A.c_Wall) = true
  oe_nf_Railed_Free : PySem.W.notFirst K A.c_Railed (.ref A.c_Free) = true
  oe_nf_Railed_Railed : PySem.W.notFirst K A.c_Railed (.ref A.c_Railed) = true
  in1_Wall : PySem.W.findIn K (.ref A.c_Wall) "__class__" = some (some (.builtin "object.__class__"))
  in2_Wall : PySem.W.specialIn K (.builtin "object.__class__") "__get__" = some (some (.builtin "getset_descriptor.__get__"))
  in3_Wall : PySem.W.takesIn K (.builtin "object.__class__") = some true
  in4_Wall : PySem.W.mroIn K A.c_Wall (.type "object") = some true
  in1_Free : PySem.W.findIn K (.ref A.c_Free) "__class__" = some (some (.builtin "object.__class__"))
  in2_Free : PySem.W.specialIn K (.builtin "object.__class__") "__get__" = some (some (.builtin "getset_descriptor.__get__"))
  in3_Free : PySem.W.takesIn K (.builtin "object.__class__") = some true
  in4_Free : PySem.W.mroIn K A.c_Free (.type "object") = some true
  in1_Railed : PySem.W.findIn K (.ref A.c_Railed) "__class__" = some (some (.builtin "object.__class__"))
  in2_Railed : PySem.W.specialIn K (.builtin "object.__class__") "__get__" = some (some (.builtin "getset_descriptor.__get__"))
  in3_Railed : PySem.W.takesIn K (.builtin "object.__class__") = some true
  in4_Railed : PySem.W.mroIn K A.c_Railed (.type "object") = some true
section
variable {P : Program} {w : World} {K : PySem.W.Frag} {mg : Str → Option Value} {base : Heap} {A : Ad}
theorem ixN_nat {n j : Nat} (h : j < n) : ixN n (j : Int) = some j := by
  unfold ixN
  rw [if_pos (by omega), if_pos (by omega)]
  rfl
def sp_l_cell (K : PySem.W.Frag) : Sp := fun vs H Q _ => ∃ (s : Addr) (ns : List Int) (k : Int), vs = [.ref s, .int k] ∧ SqL K H s (ns.map V.int) ∧ 0 ≤ k ∧ k ≤ 1000000 ∧ ∀ r, 0 ≤ r → Q (.int r) H
theorem ok_l_cell (T : Tx K mg A) : FnOk P w K mg base CX0 1 A.f_l_cell A.fd_l_cell ["_law_script", "_law_k"] (sp_l_cell K) := by
  refine T.F_l_cell.ok sc_l_cell (fun vs H Q E h => ?_) (fun cdv Ar outer s H vs Q E hr h => ?_)
  · obtain ⟨s, ns, k, rfl, _⟩ := h
    rfl
  · obtain ⟨s, ns, k, rfl, hS, h0, h1, q⟩ := h
    refine ⟨_, (pss_cons (ps_if (pt_cmpR op_eq (pe_callB call_len_seq (by rfl) T.m_len (by decide +kernel) (pa_cons (pv 0) pa_nil)) pe_int (nomark _))
      (pss_one (ps_ret (pe_op op_add (pe_op op_mul pe_int (pv 1)) pe_int)))
      pss_nil)
    (pss_one (ps_ret (pe_callB call_abs (by rfl) T.m_abs (by decide +kernel) (pa_cons (pe_ix ix_list (pv 0) (pe_op op_mod (pv 1) (pe_callB call_len_seq (by rfl) T.m_len (by decide +kernel) (pa_cons (pv 0) pa_nil))) (fun _ _ => rfl)) pa_nil))))), ?_⟩
    refine ⟨.ref s, rfl, s, ns.map V.int, rfl, .inl hS, rfl, _, rfl, ite2 (fun e => ?_) (fun e => ?_)⟩
    · exact ⟨_, rfl, 7, k, rfl, rfl, .inl (by decide), _, _, rfl, rfl, q _ (by omega)⟩
    · have hl : ns.length ≠ 0 := fun z => e (decide_eq_true (by rw [List.length_map, z]; rfl))
      have hp : (0 : Int) < ((ns.map V.int).length : Int) := by
        rw [List.length_map]
        omega
      have hm0 : 0 ≤ k % ((ns.map V.int).length : Int) := Int.emod_nonneg _ (by omega)
      have hm1 : k % ((ns.map V.int).length : Int) < ((ns.map V.int).length : Int) := Int.emod_lt_of_pos _ hp
      obtain ⟨j, hj⟩ : ∃ j : Nat, (j : Int) = k % ((ns.map V.int).length : Int) := ⟨_, Int.toNat_of_nonneg hm0⟩
      have hj2 : j < ns.length := by
        rw [List.length_map] at hj hm1
        omega
      have ha : atI (ns.map V.int) (k % ((ns.map V.int).length : Int)) = some (.int ns[j]) := by
        rw [← hj]
        exact atI_nat (by rw [List.getElem?_map, List.getElem?_eq_getElem hj2]; rfl)
      exact ⟨_, rfl, _, rfl, _, rfl, s, _, rfl, .inl hS, k, _, rfl, rfl, hp, s, _, _, _, rfl, rfl, hS, ha, _, rfl, q _ (abs_nn _)⟩
def sp_l_mixed (K : PySem.W.Frag) : Sp := fun vs H Q _ => ∃ (s : Addr) (ns : List Int) (k m : Int), vs = [.ref s, .int k, .int m] ∧ SqL K H s (ns.map V.int) ∧ 0 ≤ k ∧ k ≤ 1000000 ∧ 0 < m ∧ ∀ r, 0 ≤ r → r < m → Q (.int r) H
theorem mixed_bound {r k : Int} (h0 : 0 ≤ r) (h1 : r < 1000003) (k0 : 0 ≤ k) (k1 : k ≤ 1000000) : ((r + 5) * (k + 2) + 7919 * k).natAbs < 2 ^ 64 := by
  have e1 : (r + 5) * (k + 2) ≤ 1000008 * 1000002 := Int.mul_le_mul (by omega) (by omega) (by omega) (by omega)
  have e0 : 0 ≤ (r + 5) * (k + 2) := Int.mul_nonneg (by omega) (by omega)
  omega
theorem ok_l_mixed (T : Tx K mg A) : FnOk P w K mg base CX0 2 A.f_l_mixed A.fd_l_mixed ["_law_script", "_law_k", "_law_many"] (sp_l_mixed K) := by
  refine T.F_l_mixed.ok sc_l_mixed (fun vs H Q E h => ?_) (fun cdv Ar outer s H vs Q E hr h => ?_)
  · obtain ⟨s, ns, k, m, rfl, _⟩ := h
    rfl
  · obtain ⟨s, ns, k, m, rfl, hS, h0, h1, hm, q⟩ := h
    refine ⟨_, (pss_cons (ps_set (i := 3) sc_l_mixed.nd rfl (.inl rfl) (pe_op op_mod (pe_op op_pow (pe_op op_add (pe_op op_mul (pe_op op_add (pe_op op_mod (pe_call (ok_l_cell T) (hr.mono (by decide)) (by rfl) T.g_l_cell T.F_l_cell.kp T.b_l_cell .nil pass0 (pa_cons (pv 0) (pa_cons (pv 1) pa_nil))) pe_int) pe_int) (pe_op op_add (pv 1) pe_int)) (pe_op op_mul pe_int (pv 1))) pe_int) pe_int))
    (pss_one (ps_ret (pe_op op_mod (pe_op op_fdivW (pv 3) pe_int) (pv 2))))), ?_⟩
    refine ⟨_, rfl, _, rfl, s, ns, k, rfl, hS, h0, h1, fun r hr0 => ?_⟩
    have c0 : 0 ≤ r % 1000003 := Int.emod_nonneg _ (by decide)
    have c1 : r % 1000003 < 1000003 := Int.emod_lt_of_pos _ (by decide)
    refine ⟨r, 1000003, rfl, rfl, (show (0 : Int) < 1000003 by decide), _, _, rfl, rfl, _, rfl, _, _, rfl, rfl, _, _, rfl, rfl, ?_, _, rfl, _, _, rfl, rfl, .inl (by decide), _, _, rfl, rfl, _, _, rfl, rfl, ⟨by decide, by decide, ?_⟩, _, _, rfl, rfl, (show (0 : Int) < 2147483647 by decide), ?_⟩
    · exact .inl ⟨by omega, by omega⟩
    · exact mixed_bound c0 c1 h0 h1
    · refine ⟨_, rfl, _, _, rfl, rfl, ⟨by decide, by decide⟩, _, rfl, _, _, rfl, rfl, hm, ?_⟩
      exact q _ (Int.emod_nonneg _ (by omega)) (Int.emod_lt_of_pos _ hm)
def sp_l_deck (K : PySem.W.Frag) : Sp := fun vs H Q _ => ∃ (s : Addr) (ns : List Int), vs = [.ref s] ∧ Sc K H s ns ∧ ns.length ≤ 63 ∧ ∀ H' d b, H d = none → H b = none → Deck K H' d b 0 → Same H H' → Q (.ref d) H'
theorem ok_l_deck (T : Tx K mg A) : FnOk P w K mg base CX0 1 A.f_l_deck A.fd_l_deck ["_law_script"] (sp_l_deck K) := by
  refine T.F_l_deck.ok sc_l_deck (fun vs H Q E h => ?_) (fun cdv Ar outer s H vs Q E hr h => ?_)
  · obtain ⟨s, ns, rfl, _⟩ := h
    rfl
  · obtain ⟨s, ns, rfl, hS, hlen, q⟩ := h
    refine ⟨_, (pss_one (ps_ret (pe_lst (pa_cons (pv 0) (pa_cons (pe_lc (own := [("_law_cell_here", 1)]) rfl sc_l_deck.nd (pi_list (pv 0)) (blkOk_by (own := [("_law_cell_here", 1)]) (N := ["_law_script", "_law_cell_here"]) (sc := defScope s_l_deck) (by decide +kernel)) (fun _ _ _ _ _ => (pg_name (i := 1) sc_l_deck.nd rfl (Or.inl rfl))) (fun _ _ _ _ _ => (pts_one (pt_cmpR op_ge (pe_callB call_abs (by rfl) T.m_abs (by decide +kernel) (pa_cons (pv 1) pa_nil)) (pe_op op_pow pe_int pe_int) (nomark _)))) (fun _ _ _ _ _ => (pe_callB call_abs (by rfl) T.m_abs (by decide +kernel) (pa_cons (pv 1) pa_nil)))) (pa_cons pe_int (pa_cons pe_int pa_nil))))))), ?_⟩
    refine ⟨_, rfl, _, rfl, s, rfl, ⟨_, hS.seq⟩, fun D hD => lc_list (K := K) (a := s) (xs := ns.map V.int) (fun i H' => ∃ cs : List Int, Same H H' ∧ Sc K H' s ns ∧ H' D = some (.lst (cs.map V.int)) ∧ cs.length ≤ i) ?_ ?_ ?_ ?_⟩
    · exact ⟨[], same_upd hD, hS.upd (.inl hD), upd_same, Nat.le_refl _⟩
    · rintro i H' _ ⟨cs, _, h, _⟩
      exact h.seq
    · rintro i x H' hx ⟨cs, sm, hs, hd, hc⟩
      obtain ⟨n, rfl⟩ : ∃ n : Int, x = .int n := by
        rw [List.getElem?_map] at hx
        cases e : ns[i]? with
        | none => rw [e] at hx; cases hx
        | some n => rw [e] at hx; exact ⟨n, (Option.some.inj hx).symm⟩
      have hi : i < ns.length := by
        have := (List.getElem?_eq_some_iff.mp hx).1
        rw [List.length_map] at this
        exact this
      refine ⟨rfl, _, rfl, n, rfl, 10, 18, rfl, rfl, ⟨by decide, by decide, by decide⟩, _, _, rfl, rfl, _, rfl, ite2 (fun e => ?_) (fun e => ?_)⟩
      · refine ⟨_, rfl, n, rfl, cs.map V.int, hd, small1000 (by rw [List.length_map]; omega), cs ++ [(if n < 0 then -n else n)], ?_, ?_, ?_, ?_⟩
        · exact fun x o h => by
            rw [upd_ne (ne_of_none h hD)]
            exact sm _ _ h
        · exact hs.upd (.inr ⟨_, hd⟩)
        · rw [upd_same, List.map_append]
          rfl
        · rw [List.length_append]
          exact Nat.succ_le_succ hc
      · exact ⟨cs, sm, hs, hd, Nat.le_succ_of_le hc⟩
    · rintro H' ⟨cs, sm, hs, hd, hc⟩
      refine ⟨size63 (show 4 ≤ 1000 by decide), fun d hn => ?_⟩
      have ne : D ≠ d := ne_of_none hd hn
      refine q _ d D (sm.free hn) hD ⟨⟨s, ns, cs, 0, 0, upd_same, ?_, hs.upd (.inl hn), by omega, by omega, by omega⟩, ne⟩ (sm.trans (same_upd hn))
      rw [upd_ne ne]
      exact hd
def sp_l_take (K : PySem.W.Frag) : Sp := fun vs H Q _ => ∃ (d b : Addr) (c m : Int), vs = [.ref d, .int m] ∧ Deck K H d b c ∧ c < 1000000 ∧ 0 < m ∧ m.natAbs.log2 < 9000 ∧ ∀ H' r, Deck K H' d b (c + 1) → Kp d b H H' → 0 ≤ r → r < m → Q (.int r) H'
theorem ok0_l_take (T : Tx K mg A) : FnOk P w K mg base CX0 3 A.f_l_take A.fd_l_take ["_law_deck_here", "_law_many"] (sp_l_take K) := by
  refine T.F_l_take.ok sc_l_take (fun vs H Q E h => ?_) (fun cdv Ar outer s H vs Q E hr h => ?_)
  · obtain ⟨d, b, c, m, rfl, _⟩ := h
    rfl
  · obtain ⟨d, b, c, m, rfl, ⟨⟨s, ns, cs, i0, k, hd, hb, hS, hi0, hk0, hk1⟩, ne⟩, hc, hm, hm2, q⟩ := h
    refine ⟨_, (pss_cons (ps_while PassesOwn.never (pt_cmpR op_lt (pe_ix ix_list (pv 0) pe_int (fun _ _ => rfl)) (pe_callB call_len_seq (by rfl) T.m_len (by decide +kernel) (pa_cons (pe_ix ix_list (pv 0) pe_int (fun _ _ => rfl)) pa_nil)) (nomark _))
      (pss_cons (ps_set (i := 2) sc_l_take.nd rfl (.inl rfl) (pe_ix ix_list (pe_ix ix_list (pv 0) pe_int (fun _ _ => rfl)) (pe_ix ix_list (pv 0) pe_int (fun _ _ => rfl)) (fun _ _ => rfl)))
    (pss_cons (ps_if (pt_cmpR op_gt (pv 2) pe_int (nomark _))
      (pss_cons (ps_asg (pe_op op_fdivW (pv 2) (pv 1)) (pg_sub (pe_ix ix_list (pv 0) pe_int (fun _ _ => rfl)) (pe_ix ix_list (pv 0) pe_int (fun _ _ => rfl)) set_list))
    (pss_one (ps_ret (pe_op op_mod (pv 2) (pv 1)))))
      pss_nil)
    (pss_one (ps_asg (pe_op op_add (pe_ix ix_list (pv 0) pe_int (fun _ _ => rfl)) pe_int) (pg_sub (pv 0) pe_int set_list))))))
    (pss_cons (ps_asg (pe_op op_add (pe_ix ix_list (pv 0) pe_int (fun _ _ => rfl)) pe_int) (pg_sub (pv 0) pe_int set_list))
    (pss_one (ps_ret (pe_call (ok_l_mixed T) (hr.mono (by decide)) (by rfl) T.g_l_mixed T.F_l_mixed.kp T.b_l_mixed .nil pass0 (pa_cons (pe_ix ix_list (pv 0) pe_int (fun _ _ => rfl)) (pa_cons (pe_ix ix_list (pv 0) pe_int (fun _ _ => rfl)) (pa_cons (pv 1) pa_nil)))))))), ?_⟩
    refine ⟨fun n σ H' => ∃ (y : Option V) (i : Int), σ = [some (.ref d), some (.int m), y] ∧ 0 ≤ i ∧ n = cs.length - i.toNat ∧ H' d = some (.lst [.ref s, .ref b, .int i, .int k]) ∧ H' b = some (.lst (cs.map V.int)) ∧ Sc K H' s ns ∧ Kp d b H H', ⟨_, none, i0, rfl, hi0, rfl, hd, hb, hS, Kp.refl⟩, fun n σ H' hW => ?_⟩
    obtain ⟨y, i, rfl, hi, hn, hd', hb', hS', kp⟩ := hW
    refine ⟨_, rfl, d, _, 2, .int i, rfl, rfl, SqL.of hd', rfl, _, rfl, d, _, 1, .ref b, rfl, rfl, SqL.of hd', rfl, b, _, rfl, .inl (SqL.of hb'), i, _, rfl, rfl, _, rfl, ite2 (fun e => ?_) (fun e => ?_)⟩
    · -- a turn
      have hlt : i < ((cs.map V.int).length : Int) := of_decide_eq_true e
      rw [List.length_map] at hlt
      obtain ⟨j, rfl⟩ : ∃ j : Nat, i = (j : Int) := ⟨_, (Int.toNat_of_nonneg hi).symm⟩
      have hj : j < cs.length := by omega
      have ha : atI (cs.map V.int) (j : Int) = some (.int cs[j]) := atI_nat (by rw [List.getElem?_map, List.getElem?_eq_getElem hj]; rfl)
      refine ⟨fun σ' H'' => ∃ (y : Option V), σ' = [some (.ref d), some (.int m), y] ∧ H'' d = some (.lst [.ref s, .ref b, .int ((j : Int) + 1), .int k]) ∧ H'' b = some (.lst (cs.map V.int)) ∧ Sc K H'' s ns ∧ Kp d b H H'', ?_, ?_⟩
      · rintro σ' H'' ⟨y, e1, e2, e3, e4, e5⟩
        exact ⟨cs.length - ((j : Int) + 1).toNat, by omega, y, _, e1, by omega, rfl, e2, e3, e4, e5⟩
      · refine ⟨_, rfl, d, _, 1, .ref b, rfl, rfl, SqL.of hd', rfl, _, rfl, d, _, 2, .int (j : Int), rfl, rfl, SqL.of hd', rfl, b, _, (j : Int), .int cs[j], rfl, rfl, SqL.of hb', ha, ?_⟩
        refine ⟨_, rfl, cs[j], 0, rfl, rfl, _, rfl, ite2 (fun e2 => ?_) (fun e2 => ?_)⟩
        · -- the cell is drawn from
          refine ⟨_, rfl, _, rfl, cs[j], m, rfl, rfl, ⟨hm, hm2⟩, _, rfl, d, _, 1, .ref b, rfl, rfl, SqL.of hd', rfl, _, rfl, d, _, 2, .int (j : Int), rfl, rfl, SqL.of hd', rfl, b, _, (j : Int), j, rfl, rfl, hb', ?_, ?_⟩
          · exact ixN_nat (by rw [List.length_map]; exact hj)
          · refine ⟨_, rfl, _, rfl, cs[j], m, rfl, rfl, hm, ?_⟩
            refine q _ _ ⟨⟨s, ns, cs.set j (cs[j] / m), (j : Int), k, ?_, ?_, hS'.upd (.inr ⟨_, hb'⟩), by omega, hk0, by omega⟩, ne⟩ ?_ (Int.emod_nonneg _ (by omega)) (Int.emod_lt_of_pos _ hm)
            · rw [upd_ne (Ne.symm ne)]
              exact hd'
            · rw [upd_same, List.map_set]
            · intro x o h1 h2 h
              rw [upd_ne h2]
              exact kp x o h1 h2 h
        · -- the next cell
          refine ⟨_, rfl, d, _, 2, .int (j : Int), rfl, rfl, SqL.of hd', rfl, _, _, rfl, rfl, _, rfl, d, _, 2, 2, rfl, rfl, hd', rfl, ?_⟩
          refine ⟨_, rfl, ?_, ?_, hS'.upd (.inr ⟨_, hd'⟩), ?_⟩
          · rw [upd_same]; rfl
          · rw [upd_ne ne]; exact hb'
          · intro x o h1 h2 h
            rw [upd_ne h1]
            exact kp x o h1 h2 h
    · -- no cell is left
      refine ⟨_, rfl, d, _, 3, .int k, rfl, rfl, SqL.of hd', rfl, _, _, rfl, rfl, _, rfl, d, _, 3, 3, rfl, rfl, hd', rfl, ?_⟩
      have hd2 : (upd H' d (.lst ([V.ref s, V.ref b, V.int i, V.int k].set 3 (V.int (k + 1))))) d = some (.lst [.ref s, .ref b, .int i, .int (k + 1)]) := upd_same
      have hS2 : Sc K (upd H' d (.lst ([V.ref s, V.ref b, V.int i, V.int k].set 3 (V.int (k + 1))))) s ns := hS'.upd (.inr ⟨_, hd'⟩)
      refine ⟨_, rfl, d, _, 0, .ref s, rfl, rfl, SqL.of hd2, rfl, _, rfl, d, _, 3, .int (k + 1), rfl, rfl, SqL.of hd2, rfl, _, rfl, s, ns, k + 1, m, rfl, hS2.seq, by omega, by omega, hm, fun r h0 h1 => ?_⟩
      refine q _ r ⟨⟨s, ns, cs, i, k + 1, hd2, ?_, hS2, hi, by omega, by omega⟩, ne⟩ ?_ h0 h1
      · rw [upd_ne ne]; exact hb'
      · intro x o h1 h2 h
        rw [upd_ne h1]
        exact kp x o h1 h2 h
def gcdI (a b : Int) : Int := ((Nat.gcd a.natAbs b.natAbs : Nat) : Int)
def IsSh (t u : Int) : Prop := 1 ≤ u ∧ gcdI t u = 1
instance (t u : Int) : Decidable (IsSh t u) := inferInstanceAs (Decidable (_ ∧ _))
theorem gcdI_pos {a b : Int} (h : b ≠ 0) : 0 < gcdI a b := by
  have : 0 < Nat.gcd a.natAbs b.natAbs := Nat.gcd_pos_of_pos_right _ (by omega)
  unfold gcdI
  omega
theorem gcdI_dvd_l (a b : Int) : gcdI a b ∣ a := by
  unfold gcdI
  exact Int.ofNat_dvd_left.mpr (Nat.gcd_dvd_left _ _)
theorem gcdI_dvd_r (a b : Int) : gcdI a b ∣ b := by
  unfold gcdI
  exact Int.ofNat_dvd_left.mpr (Nat.gcd_dvd_right _ _)
theorem share_uniq {t u t' u' : Int} (h : IsSh t u) (h' : IsSh t' u') (e : t * u' = t' * u) : t = t' ∧ u = u' := by
  obtain ⟨u1, g1⟩ := h
  obtain ⟨u2, g2⟩ := h'
  have c1 : Nat.gcd t.natAbs u.natAbs = 1 := by unfold gcdI at g1; omega
  have c2 : Nat.gcd t'.natAbs u'.natAbs = 1 := by unfold gcdI at g2; omega
  have en : t.natAbs * u'.natAbs = t'.natAbs * u.natAbs := by
    rw [← Int.natAbs_mul, ← Int.natAbs_mul, e]
  have d1 : u.natAbs ∣ u'.natAbs := (Nat.Coprime.symm c1).dvd_of_dvd_mul_left (by rw [en]; exact Nat.dvd_mul_left _ _)
  have d2 : u'.natAbs ∣ u.natAbs := (Nat.Coprime.symm c2).dvd_of_dvd_mul_left (by rw [← en]; exact Nat.dvd_mul_left _ _)
  have eu : u = u' := by
    have := Nat.dvd_antisymm d1 d2
    omega
  subst eu
  exact ⟨Int.eq_of_mul_eq_mul_right (by omega) e, rfl⟩
theorem div_natAbs_le {a g : Int} (hg : 0 < g) (h : g ∣ a) : (a / g).natAbs ≤ a.natAbs := by
  obtain ⟨q, rfl⟩ := h
  rw [Int.mul_ediv_cancel_left _ (by omega), Int.natAbs_mul]
  exact Nat.le_mul_of_pos_left _ (by omega)
theorem low_is {a b : Int} (hb : 0 < b) : IsSh (a / gcdI a b) (b / gcdI a b) ∧ (a / gcdI a b) * b = (b / gcdI a b) * a ∧ (a / gcdI a b).natAbs ≤ a.natAbs ∧ (b / gcdI a b).natAbs ≤ b.natAbs := by
  have hg : 0 < gcdI a b := gcdI_pos (by omega)
  have d1 := gcdI_dvd_l a b
  have d2 := gcdI_dvd_r a b
  refine ⟨⟨?_, ?_⟩, ?_, div_natAbs_le hg d1, div_natAbs_le hg d2⟩
  · have : 0 < b / gcdI a b := Int.ediv_pos_of_pos_of_dvd hb (by omega) d2
    omega
  · unfold gcdI at hg d1 d2 ⊢
    have e1 : (a / ((Nat.gcd a.natAbs b.natAbs : Nat) : Int)).natAbs = a.natAbs / Nat.gcd a.natAbs b.natAbs := by
      rw [Int.natAbs_ediv_of_dvd d1]
      rfl
    have e2 : (b / ((Nat.gcd a.natAbs b.natAbs : Nat) : Int)).natAbs = b.natAbs / Nat.gcd a.natAbs b.natAbs := by
      rw [Int.natAbs_ediv_of_dvd d2]
      rfl
    rw [e1, e2, Nat.gcd_div_gcd_div_gcd_of_pos_right (by omega)]
    rfl
  · obtain ⟨x, hx⟩ := d1
    obtain ⟨y, hy⟩ := d2
    have q1 : a / gcdI a b = x := (Int.eq_ediv_of_mul_eq_right (by omega) hx.symm).symm
    have q2 : b / gcdI a b = y := (Int.eq_ediv_of_mul_eq_right (by omega) hy.symm).symm
    rw [q1, q2]
    conv => lhs; rw [hy]
    conv => rhs; rw [hx]
    rw [Int.mul_left_comm, Int.mul_left_comm y, Int.mul_comm x y]
def Bd (n : Nat) (x : Int) : Prop := x.natAbs < 2 ^ n
theorem Bd.le {n m : Nat} {x : Int} (h : Bd n x) (l : n ≤ m) : Bd m x := Nat.lt_of_lt_of_le h (Nat.pow_le_pow_right (by decide) l)
theorem Bd.mul {n m : Nat} {x y : Int} (h : Bd n x) (g : Bd m y) : Bd (n + m) (x * y) := wide_lt h g
theorem Bd.of_le {n : Nat} {x y : Int} (h : Bd n x) (l : y.natAbs ≤ x.natAbs) : Bd n y := Nat.lt_of_le_of_lt l h
theorem Bd.neg {n : Nat} {x : Int} (h : Bd n x) : Bd n (-x) := by
  unfold Bd
  rw [Int.natAbs_neg]
  exact h
theorem Bd.add {n : Nat} {x y : Int} (h : Bd n x) (g : Bd n y) : Bd (n + 1) (x + y) := by
  unfold Bd at *
  rw [Nat.pow_succ]
  omega
theorem Bd.mulW {n m : Nat} {x y : Int} (h : Bd n x) (g : Bd m y) (hn : n ≤ 400000) (hm : m ≤ 400000) : CMulW x y := wide_mul (a := n + 1) (b := m + 1) (h.le (Nat.le_succ _)) (g.le (Nat.le_succ _)) (by omega) (by omega) (by omega)
theorem Bd.divW {n : Nat} {x y : Int} (h : Bd n y) (h0 : 0 < y) (hn : n < 9000) : CDivW x y := wide_div (b := n + 1) h0 (h.le (Nat.le_succ _)) (by omega) (by omega)
theorem gcdI_bd {n : Nat} {a b : Int} (h : Bd n b) (hb : b ≠ 0) : Bd n (gcdI a b) := h.of_le (by
  unfold gcdI
  exact Nat.le_of_dvd (by omega) (Nat.gcd_dvd_right _ _))
theorem isSh_q (q : Rat) : IsSh q.num q.den := by
  refine ⟨by have := q.den_pos; omega, ?_⟩
  unfold gcdI
  rw [Int.natAbs_natCast]
  exact congrArg Int.ofNat q.reduced
theorem divInt_cross {a b : Int} (hb : b ≠ 0) : a * ((Rat.divInt a b).den : Int) = (Rat.divInt a b).num * b := by
  have h : Rat.divInt a b = Rat.divInt (Rat.divInt a b).num ((Rat.divInt a b).den : Int) := (Rat.num_divInt_den _).symm
  exact (Rat.divInt_eq_divInt_iff hb (by have := (Rat.divInt a b).den_pos; omega)).mp h
theorem rep_of {t u : Int} {q : Rat} (h : IsSh t u) (e : t * (q.den : Int) = q.num * u) : t = q.num ∧ u = (q.den : Int) := share_uniq h (isSh_q q) e
theorem rep_divInt {t u a b : Int} (h : IsSh t u) (hb : b ≠ 0) (e : t * b = u * a) : t = (Rat.divInt a b).num ∧ u = ((Rat.divInt a b).den : Int) := by
  have hu : u ≠ 0 := by have := h.1; omega
  have eq : Rat.divInt t u = Rat.divInt a b := (Rat.divInt_eq_divInt_iff hu hb).mpr (by rw [e, Int.mul_comm])
  rw [← eq]
  exact rep_of h (divInt_cross hu)
theorem low_bd {t u a b : Int} (h : IsSh t u) (hb : 0 < b) (e : t * b = u * a) : t.natAbs ≤ a.natAbs ∧ u.natAbs ≤ b.natAbs := by
  obtain ⟨h1, h2, h3, h4⟩ := low_is (a := a) (b := b) hb
  have hu : u ≠ 0 := by have := h.1; omega
  have e1 := rep_divInt h (by omega) e
  have e2 := rep_divInt h1 (by omega) h2
  rw [e1.1, e1.2, ← e2.1, ← e2.2]
  exact ⟨h3, h4⟩
def BdQ (n : Nat) (q : Rat) : Prop := Bd n q.num ∧ Bd n (q.den : Int)
theorem BdQ.le {n m : Nat} {q : Rat} (h : BdQ n q) (l : n ≤ m) : BdQ m q := ⟨h.1.le l, h.2.le l⟩
theorem divInt_bd {a b : Int} {n : Nat} (hb : 0 < b) (ha : Bd n a) (hn : Bd n b) : BdQ n (Rat.divInt a b) := by
  have h := low_bd (isSh_q (Rat.divInt a b)) hb (by rw [← divInt_cross (by omega), Int.mul_comm])
  exact ⟨ha.of_le h.1, hn.of_le h.2⟩
theorem den_pos (q : Rat) : (0 : Int) < (q.den : Int) := by have := q.den_pos; omega
theorem add_divInt (p q : Rat) : p + q = Rat.divInt (p.num * q.den + q.num * p.den) (p.den * q.den) := by
  have h := Rat.divInt_add_divInt p.num q.num (d₁ := p.den) (d₂ := q.den) (by have := den_pos p; omega) (by have := den_pos q; omega)
  rw [Rat.num_divInt_den, Rat.num_divInt_den] at h
  exact h
theorem mul_divInt (p q : Rat) : p * q = Rat.divInt (p.num * q.num) (p.den * q.den) := by
  have h := Rat.divInt_mul_divInt p.num q.num (d₁ := p.den) (d₂ := q.den)
  rw [Rat.num_divInt_den, Rat.num_divInt_den] at h
  exact h
theorem BdQ.add {n m : Nat} {p q : Rat} (h : BdQ n p) (g : BdQ m q) : BdQ (n + m + 1) (p + q) := by
  rw [add_divInt]
  refine divInt_bd (Int.mul_pos (den_pos p) (den_pos q)) ?_ ((h.2.mul g.2).le (Nat.le_succ _))
  exact (h.1.mul g.2).add ((g.1.mul h.2).le (by omega))
theorem BdQ.mul {n m : Nat} {p q : Rat} (h : BdQ n p) (g : BdQ m q) : BdQ (n + m) (p * q) := by
  rw [mul_divInt]
  exact divInt_bd (Int.mul_pos (den_pos p) (den_pos q)) (h.1.mul g.1) (h.2.mul g.2)
theorem BdQ.neg {n : Nat} {q : Rat} (h : BdQ n q) : BdQ n (-q) := by
  refine ⟨?_, h.2⟩
  rw [Rat.neg_num]
  exact h.1.neg
theorem neg_num (q : Rat) : (-q).num = -q.num := Rat.neg_num q
theorem gcdI_bd2 {n : Nat} {p q : Int} (h : Bd n p) (g : Bd n q) (h0 : ¬ (p = 0 ∧ q = 0)) : Bd n (gcdI p q) := by
  by_cases hq : q = 0
  · have hp : p ≠ 0 := fun z => h0 ⟨z, hq⟩
    refine h.of_le ?_
    unfold gcdI
    exact Nat.le_of_dvd (by omega) (Nat.gcd_dvd_left _ _)
  · exact gcdI_bd g hq
theorem gcdI_comm (p q : Int) : gcdI p q = gcdI q p := by
  unfold gcdI
  rw [Nat.gcd_comm]
theorem gcdI_pos2 {p q : Int} (h0 : ¬ (p = 0 ∧ q = 0)) : 0 < gcdI p q := by
  by_cases hq : q = 0
  · rw [gcdI_comm]
    exact gcdI_pos fun z => h0 ⟨z, hq⟩
  · exact gcdI_pos hq
end
inductive Ty where
  | non | bl | int | str | tup | lst | dic | verr
def Ty.nm : Ty → String
  | .non => "NoneType" | .bl => "bool" | .int => "int" | .str => "str" | .tup => "tuple" | .lst => "list" | .dic => "dict" | .verr => "ValueError"
inductive D where
  | non | bl (b : Bool) | int (i : Int) | str (x : Str) | ty (t : Ty) | cls (a : Addr) | tup (ds : List D) | lst (ds : List D) | dic (ks : List Key) (ds : List D) | ins (C : Addr) (ns : List Str) (ds : List D) | deck | xcp (a C : Addr) (d : Option Addr) (ns : List Str) (ds : List D)
structure Wd where
  dk : Option (Addr × Addr)
  own : List (Addr × HO)
def Wd.fx (W : Wd) : Option (Addr × Addr) := W.dk
theorem fx_dk {W W' : Wd} (h : W'.fx = W.fx) : W'.dk = W.dk := h
def Wd.all (W : Wd) : List (Addr × HO) := W.own
def Wd.rs (W : Wd) (a : Addr) : Prop := (∃ d b, W.dk = some (d, b) ∧ (a = d ∨ a = b)) ∨ a ∈ W.all.map (·.1)
def Mt : HO → Prop
  | .lst _ => True
  | .dK _ => True
  | _ => False
structure Wd.ok (K : PySem.W.Frag) (W : Wd) (n : Nat) (H : Hp) : Prop where
  deck : ∀ d b, W.dk = some (d, b) → ∃ c : Int, Deck K H d b c ∧ c + n ≤ 900000
  owns : ∀ p ∈ W.all, H p.1 = some p.2 ∧ Mt p.2
  dis : ∀ d b, W.dk = some (d, b) → ∀ p ∈ W.all, p.1 ≠ d ∧ p.1 ≠ b
def Wd.le (W : Wd) (H H' : Hp) : Prop := ∀ a o, ¬ W.rs a → H a = some o → H' a = some o
theorem Wd.le_refl {W : Wd} {H : Hp} : W.le H H := fun _ _ _ h => h
theorem Wd.le.trans {W : Wd} {H H1 H2 : Hp} (u : W.le H H1) (v : W.le H1 H2) : W.le H H2 := fun a o n h => v a o n (u a o n h)
theorem Wd.le_same {W : Wd} {H H' : Hp} (s : Same H H') : W.le H H' := fun a o _ h => s a o h
theorem Wd.ok.same {K : PySem.W.Frag} {W : Wd} {n : Nat} {H H' : Hp} (o : W.ok K n H) (s : Same H H') : W.ok K n H' :=
  ⟨fun d b e => let ⟨c, h, l⟩ := o.deck d b e; ⟨c, h.keep s, l⟩, fun p hp => ⟨s _ _ (o.owns p hp).1, (o.owns p hp).2⟩, o.dis⟩
theorem Wd.ok.le {K : PySem.W.Frag} {W : Wd} {n m : Nat} {H : Hp} (o : W.ok K n H) (l : m ≤ n) : W.ok K m H :=
  ⟨fun d b e => let ⟨c, h, l'⟩ := o.deck d b e; ⟨c, h, by omega⟩, o.owns, o.dis⟩
theorem Wd.ok.lst {K : PySem.W.Frag} {W : Wd} {n : Nat} {H : Hp} (o : W.ok K n H) {a : Addr} (r : W.rs a) : ∃ ob, H a = some ob ∧ Mt ob := by
  rcases r with ⟨d, b, e, h⟩ | h
  · obtain ⟨c, ⟨⟨s, ns, cs, i, k, h1, h2, _⟩, _⟩, _⟩ := o.deck d b e
    rcases h with rfl | rfl
    · exact ⟨_, h1, trivial⟩
    · exact ⟨_, h2, trivial⟩
  · obtain ⟨p, hp, rfl⟩ := List.mem_map.mp h
    exact ⟨_, o.owns p hp⟩
theorem Wd.ok.fresh {K : PySem.W.Frag} {W : Wd} {n : Nat} {H : Hp} (o : W.ok K n H) {a : Addr} (h : H a = none) : ¬ W.rs a := fun r => by
  obtain ⟨xs, e, _⟩ := o.lst r
  rw [e] at h
  cases h
mutual
inductive At (K : PySem.W.Frag) (W : Wd) (H : Hp) : V → D → Prop
  | non : At K W H .non .non
  | bl (b : Bool) : At K W H (.bl b) (.bl b)
  | int (i : Int) : At K W H (.int i) (.int i)
  | str (x : Str) : At K W H (.str x) (.str x)
  | ty (t : Ty) : At K W H (.ty t.nm) (.ty t)
  | cls (a : Addr) : At K W H (.ref a) (.cls a)
  | tup {a : Addr} {xs : List V} {ds : List D} : SqT K H a xs → AtAll K W H xs ds → At K W H (.ref a) (.tup ds)
  | lst {a : Addr} {xs : List V} {ds : List D} : ¬ W.rs a → H a = some (.lst xs) → AtAll K W H xs ds → At K W H (.ref a) (.lst ds)
  | dic {a : Addr} {ks : List Key} {xs : List V} {ds : List D} : ¬ W.rs a → H a = some (.dK (ks.zip xs)) → ks.length = xs.length → AtAll K W H xs ds → At K W H (.ref a) (.dic ks ds)
  | ins {a C dx : Addr} {ns : List Str} {xs : List V} {ds : List D} : H a = some (.ins C dx (ns.zip xs)) → ns.length = xs.length → AtAll K W H xs ds → At K W H (.ref a) (.ins C ns ds)
  | deck {d b : Addr} : W.dk = some (d, b) → At K W H (.ref d) .deck
  | xcp0 {a C : Addr} : At K W H (.ref a) (.xcp a C none [] [])
  | xcp1 {a C dx : Addr} {ns : List Str} {xs : List V} {ds : List D} : H dx = some (.xd (ns.zip xs)) → ns.length = xs.length → AtAll K W H xs ds → At K W H (.ref a) (.xcp a C (some dx) ns ds)
inductive AtAll (K : PySem.W.Frag) (W : Wd) (H : Hp) : List V → List D → Prop
  | nil : AtAll K W H [] []
  | cons {v : V} {vs : List V} {d : D} {ds : List D} : At K W H v d → AtAll K W H vs ds → AtAll K W H (v :: vs) (d :: ds)
end
section
variable {K : PySem.W.Frag} {W : Wd} {H H' : Hp}
def Wd.lk (W : Wd) (H : Hp) : Prop := ∀ a, W.rs a → ∀ o, H a = some o → Mt o
theorem Wd.ok.lk {n : Nat} (o : W.ok K n H) : W.lk H := fun a r ob e => by
  obtain ⟨xs, e', m⟩ := o.lst r
  rw [e'] at e
  cases e
  exact m
theorem sqt_lk {a : Addr} {xs : List V} (o : W.lk H) (l : W.le H H') (h : SqT K H a xs) : SqT K H' a xs := by
  rcases h with (h | ⟨ob, h⟩) | h
  · exact .inl (.inl (l _ _ (fun r => o _ r _ h) h))
  · exact .inl (.inr ⟨ob, l _ _ (fun r => o _ r _ h) h⟩)
  · exact .inr h
mutual
theorem At.lk (o : W.lk H) (l : W.le H H') : ∀ (d : D) {v : V}, At K W H v d → At K W H' v d
  | .non, _, h => by cases h; exact .non
  | .bl b, _, h => by cases h; exact .bl b
  | .int i, _, h => by cases h; exact .int i
  | .str x, _, h => by cases h; exact .str x
  | .ty t, _, h => by cases h; exact .ty t
  | .cls a, _, h => by cases h; exact .cls a
  | .tup ds, _, h => by
    cases h with
    | tup s a => exact .tup (sqt_lk o l s) (AtAll.lk o l ds a)
  | .lst ds, _, h => by
    cases h with
    | lst r s a => exact .lst r (l _ _ r s) (AtAll.lk o l ds a)
  | .dic ks ds, _, h => by
    cases h with
    | dic r s e a => exact .dic r (l _ _ r s) e (AtAll.lk o l ds a)
  | .ins C ns ds, _, h => by
    cases h with
    | ins s e a => exact .ins (l _ _ (fun r => o _ r _ s) s) e (AtAll.lk o l ds a)
  | .deck, _, h => by
    cases h with
    | deck e => exact .deck e
  | .xcp a C d ns ds, _, h => by
    cases h with
    | xcp0 => exact .xcp0
    | xcp1 s e b => exact .xcp1 (l _ _ (fun r => o _ r _ s) s) e (AtAll.lk o l _ b)
theorem AtAll.lk (o : W.lk H) (l : W.le H H') : ∀ (ds : List D) {vs : List V}, AtAll K W H vs ds → AtAll K W H' vs ds
  | [], _, h => by cases h; exact .nil
  | d :: ds, _, h => by
    cases h with
    | cons a r => exact .cons (At.lk o l d a) (AtAll.lk o l ds r)
end
theorem At.le {n : Nat} (o : W.ok K n H) (l : W.le H H') (d : D) {v : V} (h : At K W H v d) : At K W H' v d := At.lk o.lk l d h
theorem AtAll.le {n : Nat} (o : W.ok K n H) (l : W.le H H') (ds : List D) {vs : List V} (h : AtAll K W H vs ds) : AtAll K W H' vs ds := AtAll.lk o.lk l ds h
def Wd.add (W : Wd) (p : Addr × HO) : Wd := { W with own := p :: W.own }
mutual
theorem At.ext {W' : Wd} (hr : ∀ a, W'.rs a → ¬ W.rs a → H a = none) (hd : W'.fx = W.fx) : ∀ (d : D) {v : V}, At K W H v d → At K W' H v d
  | .non, _, h => by cases h; exact .non
  | .bl b, _, h => by cases h; exact .bl b
  | .int i, _, h => by cases h; exact .int i
  | .str x, _, h => by cases h; exact .str x
  | .ty t, _, h => by cases h; exact .ty t
  | .cls a, _, h => by cases h; exact .cls a
  | .tup ds, _, h => by
    cases h with
    | tup s a => exact .tup s (AtAll.ext hr hd ds a)
  | .lst ds, _, h => by
    cases h with
    | lst r s a => exact .lst (fun z => by rw [hr _ z r] at s; cases s) s (AtAll.ext hr hd ds a)
  | .dic ks ds, _, h => by
    cases h with
    | dic r s e a => exact .dic (fun z => by rw [hr _ z r] at s; cases s) s e (AtAll.ext hr hd ds a)
  | .ins C ns ds, _, h => by
    cases h with
    | ins s e a => exact .ins s e (AtAll.ext hr hd ds a)
  | .deck, _, h => by
    cases h with
    | deck e => exact .deck ((fx_dk hd).trans e)
  | .xcp a C d ns ds, _, h => by
    cases h with
    | xcp0 => exact .xcp0
    | xcp1 s e b => exact .xcp1 s e (AtAll.ext hr hd _ b)
theorem AtAll.ext {W' : Wd} (hr : ∀ a, W'.rs a → ¬ W.rs a → H a = none) (hd : W'.fx = W.fx) : ∀ (ds : List D) {vs : List V}, AtAll K W H vs ds → AtAll K W' H vs ds
  | [], _, h => by cases h; exact .nil
  | d :: ds, _, h => by
    cases h with
    | cons a r => exact .cons (At.ext hr hd d a) (AtAll.ext hr hd ds r)
end
mutual
theorem At.weak {W' : Wd} (hr : ∀ a, W'.rs a → W.rs a) (hd : W'.fx = W.fx) : ∀ (d : D) {v : V}, At K W H v d → At K W' H v d
  | .non, _, h => by cases h; exact .non
  | .bl b, _, h => by cases h; exact .bl b
  | .int i, _, h => by cases h; exact .int i
  | .str x, _, h => by cases h; exact .str x
  | .ty t, _, h => by cases h; exact .ty t
  | .cls a, _, h => by cases h; exact .cls a
  | .tup ds, _, h => by
    cases h with
    | tup s a => exact .tup s (AtAll.weak hr hd ds a)
  | .lst ds, _, h => by
    cases h with
    | lst r s a => exact .lst (fun z => r (hr _ z)) s (AtAll.weak hr hd ds a)
  | .dic ks ds, _, h => by
    cases h with
    | dic r s e a => exact .dic (fun z => r (hr _ z)) s e (AtAll.weak hr hd ds a)
  | .ins C ns ds, _, h => by
    cases h with
    | ins s e a => exact .ins s e (AtAll.weak hr hd ds a)
  | .deck, _, h => by
    cases h with
    | deck e => exact .deck ((fx_dk hd).trans e)
  | .xcp a C d ns ds, _, h => by
    cases h with
    | xcp0 => exact .xcp0
    | xcp1 s e b => exact .xcp1 s e (AtAll.weak hr hd _ b)
theorem AtAll.weak {W' : Wd} (hr : ∀ a, W'.rs a → W.rs a) (hd : W'.fx = W.fx) : ∀ (ds : List D) {vs : List V}, AtAll K W H vs ds → AtAll K W' H vs ds
  | [], _, h => by cases h; exact .nil
  | d :: ds, _, h => by
    cases h with
    | cons a r => exact .cons (At.weak hr hd d a) (AtAll.weak hr hd ds r)
end
theorem Wd.rs_add {q : Addr × HO} {a : Addr} (h : W.rs a) : (W.add q).rs a := by
  rcases h with h | h
  · exact .inl h
  · exact .inr (List.mem_cons_of_mem _ h)
theorem AtAll.length : ∀ {vs : List V} {ds : List D}, AtAll K W H vs ds → vs.length = ds.length
  | _, [], h => by cases h; rfl
  | _, d :: ds, h => by
    cases h with
    | cons a r => rw [List.length_cons, List.length_cons, AtAll.length r]
theorem AtAll.append : ∀ {vs us : List V} {ds es : List D}, AtAll K W H vs ds → AtAll K W H us es → AtAll K W H (vs ++ us) (ds ++ es)
  | _, _, [], _, h, g => by cases h; exact g
  | _, _, d :: ds, _, h, g => by
    cases h with
    | cons a r => exact .cons a (AtAll.append r g)
theorem AtAll.get : ∀ {vs : List V} {ds : List D} {i : Nat} {d : D}, AtAll K W H vs ds → ds[i]? = some d → ∃ v, vs[i]? = some v ∧ At K W H v d
  | _, [], _, _, h, e => by cases e
  | _, _ :: _, 0, _, h, e => by
    cases h with
    | cons a r => cases e; exact ⟨_, rfl, a⟩
  | _, _ :: ds, i + 1, _, h, e => by
    cases h with
    | cons a r => exact AtAll.get (i := i) r e
end
abbrev Env' := List (Option D)
def eGet : Env' → Nat → Option D
  | [], _ => none
  | d :: _, 0 => d
  | _ :: r, i + 1 => eGet r i
def eSet : Env' → Nat → Option D → Env'
  | [], _, _ => []
  | _ :: r, 0, d => d :: r
  | x :: r, i + 1, d => x :: eSet r i d
theorem eSet_length : ∀ (ρ : Env') (i : Nat) (d : Option D), (eSet ρ i d).length = ρ.length
  | [], _, _ => rfl
  | _ :: _, 0, _ => rfl
  | x :: r, i + 1, d => by rw [eSet, List.length_cons, List.length_cons, eSet_length]
theorem eGet_set : ∀ {ρ : Env'} {i : Nat} {d : Option D} {e : D}, eGet (eSet ρ i d) i = some e → i < ρ.length ∧ d = some e
  | [], _, _, _, h => by cases h
  | _ :: _, 0, _, _, h => ⟨Nat.succ_pos _, h⟩
  | _ :: r, i + 1, _, _, h => let ⟨h1, h2⟩ := eGet_set (ρ := r) (i := i) h; ⟨Nat.succ_lt_succ h1, h2⟩
theorem eGet_ne : ∀ {ρ : Env'} {i j : Nat} {d : Option D}, i ≠ j → eGet (eSet ρ i d) j = eGet ρ j
  | [], _, _, _, _ => rfl
  | _ :: _, 0, 0, _, h => absurd rfl h
  | _ :: _, 0, _ + 1, _, _ => rfl
  | _ :: _, _ + 1, 0, _, _ => rfl
  | _ :: r, i + 1, j + 1, _, h => eGet_ne (ρ := r) (i := i) (j := j) fun z => h (by rw [z])
def EnvAt (K : PySem.W.Frag) (W : Wd) (H : Hp) (σ : L2.St) (ρ : Env') : Prop := σ.length = ρ.length ∧ ∀ (i : Nat) (d : D), eGet ρ i = some d → ∃ v, σ[i]? = some (some v) ∧ At K W H v d
theorem EnvAt.le {K : PySem.W.Frag} {W : Wd} {H H' : Hp} {n : Nat} {σ : L2.St} {ρ : Env'} (h : EnvAt K W H σ ρ) (o : W.ok K n H) (l : W.le H H') : EnvAt K W H' σ ρ :=
  ⟨h.1, fun i d e => let ⟨v, e', a⟩ := h.2 i d e; ⟨v, e', At.le o l d a⟩⟩
theorem EnvAt.set {K : PySem.W.Frag} {W : Wd} {H : Hp} {σ : L2.St} {ρ : Env'} {i : Nat} {v : V} {d : D} (h : EnvAt K W H σ ρ) (a : At K W H v d) : EnvAt K W H (σ.set i (some v)) (eSet ρ i (some d)) := by
  refine ⟨by rw [List.length_set, eSet_length]; exact h.1, fun j e he => ?_⟩
  by_cases hj : i = j
  · subst hj
    obtain ⟨hl, he⟩ := eGet_set he
    cases he
    exact ⟨v, by rw [List.getElem?_set_self (by rw [h.1]; exact hl)], a⟩
  · rw [eGet_ne hj] at he
    rw [List.getElem?_set_ne hj]
    exact h.2 j e he
def Wants (K : PySem.W.Frag) (W : Wd) (H : Hp) (Qa : D → Nat → Prop) (Q : VK) : Prop := ∀ d n', Qa d n' → ∀ H' v, W.le H H' → W.ok K n' H' → At K W H' v d → Q v H'
abbrev AE := Env' → Nat → (D → Nat → Prop) → Prop
class DE (K : PySem.W.Frag) (te : TE) (f : outParam AE) : Prop where
  run : ∀ (W : Wd) (σ : L2.St) (ρ : Env') (n : Nat) (H : Hp) (Q : VK) (Qa : D → Nat → Prop), Wants K W H Qa Q → EnvAt K W H σ ρ → W.ok K n H → f ρ n Qa → te σ H Q
abbrev AT := Env' → Nat → (Bool → Nat → Prop) → Prop
class DT (K : PySem.W.Frag) (te : TT) (f : outParam AT) : Prop where
  run : ∀ (W : Wd) (σ : L2.St) (ρ : Env') (n : Nat) (H : Hp) (Q : Bool → Hp → Prop) (Qa : Bool → Nat → Prop), (∀ b n', Qa b n' → ∀ H', W.le H H' → W.ok K n' H' → Q b H') → EnvAt K W H σ ρ → W.ok K n H → f ρ n Qa → te σ H Q
abbrev AA := Env' → Nat → (List D → Nat → Prop) → Prop
class DA (K : PySem.W.Frag) (te : TA) (f : outParam AA) : Prop where
  run : ∀ (W : Wd) (σ : L2.St) (ρ : Env') (n : Nat) (H : Hp) (Q : List V → Hp → Prop) (Qa : List D → Nat → Prop), (∀ ds n', Qa ds n' → ∀ H' vs, W.le H H' → W.ok K n' H' → AtAll K W H' vs ds → Q vs H') → EnvAt K W H σ ρ → W.ok K n H → f ρ n Qa → te σ H Q
def aIte (b : Bool) (p q : Prop) : Prop := (b = true → p) ∧ (b = false → q)
theorem aT {p q : Prop} (h : p) : aIte true p q := ⟨fun _ => h, fun z => Bool.noConfusion z⟩
theorem aF {p q : Prop} (h : q) : aIte false p q := ⟨fun z => Bool.noConfusion z, fun _ => h⟩
section
variable {K : PySem.W.Frag}
class D1 (K : PySem.W.Frag) (r : V → Hp → VK → Prop) (f : outParam (D → Nat → (D → Nat → Prop) → Prop)) : Prop where
  run : ∀ (W : Wd) (n : Nat) (H : Hp) (x : V) (d : D) (Q : VK) (Qa : D → Nat → Prop), Wants K W H Qa Q → W.ok K n H → At K W H x d → f d n Qa → r x H Q
class D2 (K : PySem.W.Frag) (r : R2) (f : outParam (D → D → Nat → (D → Nat → Prop) → Prop)) : Prop where
  run : ∀ (W : Wd) (n : Nat) (H : Hp) (x y : V) (d e : D) (Q : VK) (Qa : D → Nat → Prop), Wants K W H Qa Q → W.ok K n H → At K W H x d → At K W H y e → f d e n Qa → r x y H Q
class DL (K : PySem.W.Frag) (r : List V → Hp → VK → Prop) (f : outParam (List D → Nat → (D → Nat → Prop) → Prop)) : Prop where
  run : ∀ (W : Wd) (n : Nat) (H : Hp) (xs : List V) (ds : List D) (Q : VK) (Qa : D → Nat → Prop), Wants K W H Qa Q → W.ok K n H → AtAll K W H xs ds → f ds n Qa → r xs H Q
theorem Wants.le {W : Wd} {H H1 : Hp} {Qa : D → Nat → Prop} {Q : VK} (h : Wants K W H Qa Q) (l : W.le H H1) : Wants K W H1 Qa Q := fun d n' q H' v l' o a => h d n' q H' v (l.trans l') o a
theorem Wants.now {W : Wd} {H : Hp} {Qa : D → Nat → Prop} {Q : VK} {n : Nat} {d : D} {v : V} (h : Wants K W H Qa Q) (o : W.ok K n H) (q : Qa d n) (a : At K W H v d) : Q v H := h d n q H v Wd.le_refl o a
theorem Wants.new {W : Wd} {H : Hp} {Qa : D → Nat → Prop} {Q : VK} {n : Nat} {d : D} {p : Addr} {ob : HO} (h : Wants K W H Qa Q) (o : W.ok K n H) (q : Qa d n) (hp : H p = none) (a : At K W (upd H p ob) (.ref p) d) : Q (.ref p) (upd H p ob) :=
  h d n q _ _ (Wd.le_same (same_upd hp)) (o.same (same_upd hp)) a
def aVar (i : Nat) : AE := fun ρ n Q => match eGet ρ i with
  | some d => Q d n
  | none => False
instance {i : Nat} : DE K (tVar i) (aVar i) := ⟨fun W σ ρ n H Q Qa hQ hE o h => by
  unfold aVar at h
  split at h
  · rename_i d e
    obtain ⟨v, e', a⟩ := hE.2 i d e
    exact ⟨v, e', hQ.now o h a⟩
  · exact h.elim⟩
def vD : V → Option D
  | .non => some .non | .bl b => some (.bl b) | .int i => some (.int i) | .str x => some (.str x)
  | _ => none
theorem vD_at {W : Wd} {H : Hp} {v : V} {d : D} (h : vD v = some d) : At K W H v d := by
  cases v <;> cases h
  · exact .non
  · exact .bl _
  · exact .int _
  · exact .str _
def aC (v : V) : AE := fun _ n Q => match vD v with
  | some d => Q d n
  | none => False
instance (priority := 100) {v : V} : DE K (tC v) (aC v) := ⟨fun W σ ρ n H Q Qa hQ hE o h => by
  unfold aC at h
  split at h
  · rename_i d e
    exact hQ.now o h (vD_at e)
  · exact h.elim⟩
def a1 (f : D → Nat → (D → Nat → Prop) → Prop) (fa : AE) : AE := fun ρ n Q => fa ρ n fun d n1 => f d n1 Q
def a2 (f : D → D → Nat → (D → Nat → Prop) → Prop) (fa fb : AE) : AE := fun ρ n Q => fa ρ n fun d n1 => fb ρ n1 fun e n2 => f d e n2 Q
instance {r : R2} {f : D → D → Nat → (D → Nat → Prop) → Prop} {ta tb : TE} {fa fb : AE} [D2 K r f] [DE K ta fa] [DE K tb fb] : DE K (tOp r ta tb) (a2 f fa fb) := ⟨fun W σ ρ n H Q Qa hQ hE o h =>
  DE.run (te := ta) (f := fa) W σ ρ n H _ _ (fun d n1 h1 H1 x l1 o1 ax => DE.run (te := tb) (f := fb) W σ ρ n1 H1 _ _ (fun e n2 h2 H2 y l2 o2 ay => D2.run (f := f) W n2 H2 x y d e Q Qa (hQ.le (l1.trans l2)) o2 (At.le o1 l2 d ax) ay h2) (hE.le o l1) o1 h1) hE o h⟩
instance {r : V → Hp → VK → Prop} {f : D → Nat → (D → Nat → Prop) → Prop} {ta : TE} {fa : AE} [D1 K r f] [DE K ta fa] : DE K (tUn r ta) (a1 f fa) := ⟨fun W σ ρ n H Q Qa hQ hE o h =>
  DE.run (te := ta) (f := fa) W σ ρ n H _ _ (fun d n1 h1 H1 x l1 o1 ax => D1.run (f := f) W n1 H1 x d Q Qa (hQ.le l1) o1 ax h1) hE o h⟩
def aInt2 (C : Int → Int → Prop) (g : Int → Int → V) : D → D → Nat → (D → Nat → Prop) → Prop
  | .int i, .int j, n, Q => C i j ∧ (match vD (g i j) with
    | some d => Q d n
    | none => False)
  | _, _, _, _ => False
def aInt0 (g : Int → Int → V) : D → D → Nat → (D → Nat → Prop) → Prop
  | .int i, .int j, n, Q => (match vD (g i j) with
    | some d => Q d n
    | none => False)
  | _, _, _, _ => False
instance {C : Int → Int → Prop} {g : Int → Int → V} : D2 K (rI C g) (aInt2 C g) := ⟨fun W n H x y d e Q Qa hQ o ax ay h => by
  unfold aInt2 at h
  split at h
  · obtain ⟨hc, h⟩ := h
    cases ax
    cases ay
    refine ⟨_, _, rfl, rfl, hc, ?_⟩
    split at h
    · rename_i d e
      exact hQ.now o h (vD_at e)
    · exact h.elim
  · exact h.elim⟩
instance {g : Int → Int → V} : D2 K (rI0 g) (aInt0 g) := ⟨fun W n H x y d e Q Qa hQ o ax ay h => by
  unfold aInt0 at h
  split at h
  · cases ax
    cases ay
    refine ⟨_, _, rfl, rfl, ?_⟩
    split at h
    · rename_i d e
      exact hQ.now o h (vD_at e)
    · exact h.elim
  · exact h.elim⟩
def aIntU (g : Int → V) : D → Nat → (D → Nat → Prop) → Prop
  | .int i, n, Q => (match vD (g i) with
    | some d => Q d n
    | none => False)
  | _, _, _ => False
instance {g : Int → V} : D1 K (rU g) (aIntU g) := ⟨fun W n H x d Q Qa hQ o ax h => by
  unfold aIntU at h
  split at h
  · cases ax
    refine ⟨_, rfl, ?_⟩
    split at h
    · rename_i d e
      exact hQ.now o h (vD_at e)
    · exact h.elim
  · exact h.elim⟩
def eqS : D → D → Option Bool
  | .int i, .int j => some (decide (i = j)) | .bl i, .bl j => some (decide (i = j)) | .str i, .str j => some (decide (i = j)) | .non, .non => some true
  | .non, .int _ => some false | .int _, .non => some false | .non, .bl _ => some false | .bl _, .non => some false | .non, .str _ => some false | .str _, .non => some false
  | .int _, .str _ => some false | .str _, .int _ => some false | .bl _, .str _ => some false | .str _, .bl _ => some false
  | _, _ => none
def aEqS (f : Bool → Bool) : D → D → Nat → (D → Nat → Prop) → Prop := fun d e n Q => match eqS d e with
  | some b => Q (.bl (f b)) n
  | none => False
theorem eqS_is {W : Wd} {H : Hp} {x y : V} {d e : D} {b : Bool} (ax : At K W H x d) (ay : At K W H y e) (h : eqS d e = some b) : scal x y = true ∧ decide (x = y) = b := by
  cases ax <;> cases ay <;> first
    | cases h; done
    | (cases h; refine ⟨rfl, ?_⟩; first
        | rfl
        | (refine decide_eq_decide.mpr ⟨fun z => ?_, fun z => by rw [z]⟩; injection z))
instance : D2 K rEq (aEqS id) := ⟨fun W n H x y d e Q Qa hQ o ax ay h => by
  unfold aEqS at h
  split at h
  · rename_i b e
    obtain ⟨h1, h2⟩ := eqS_is ax ay e
    refine ⟨h1, ?_⟩
    rw [h2]
    exact hQ.now o h (.bl _)
  · exact h.elim⟩
instance : D2 K rNe (aEqS not) := ⟨fun W n H x y d e Q Qa hQ o ax ay h => by
  unfold aEqS at h
  split at h
  · rename_i b e
    obtain ⟨h1, h2⟩ := eqS_is ax ay e
    refine ⟨h1, ?_⟩
    rw [h2]
    exact hQ.now o h (.bl _)
  · exact h.elim⟩
def aTest (f : AE) : AT := fun ρ n Q => f ρ n fun d n1 => match d with
  | .bl b => Q b n1
  | _ => False
theorem aTest_run {te : TE} {f : AE} [DE K te f] (W : Wd) (σ : L2.St) (ρ : Env') (n : Nat) (H : Hp) (Q : Bool → Hp → Prop) (Qa : Bool → Nat → Prop) (hQ : ∀ b n', Qa b n' → ∀ H', W.le H H' → W.ok K n' H' → Q b H') (hE : EnvAt K W H σ ρ) (o : W.ok K n H) (h : aTest f ρ n Qa) :
    te σ H fun x H' => ∃ k, x = .bl k ∧ Q k H' :=
  DE.run (te := te) (f := f) W σ ρ n H _ _ (fun d n1 h1 H1 x l1 o1 ax => by
    split at h1
    · cases ax
      exact ⟨_, rfl, hQ _ _ h1 H1 l1 o1⟩
    · exact h1.elim) hE o h
instance {te : TE} {f : AE} [DE K te f] : DT K (tTest te) (aTest f) := ⟨aTest_run⟩
instance {te : TE} {f : AE} [DE K te f] : DT K (tB te) (aTest f) := ⟨aTest_run⟩
def aNotT (f : AT) : AT := fun ρ n Q => f ρ n fun b n1 => Q (!b) n1
instance {t : TT} {f : AT} [DT K t f] : DT K (tNot t) (aNotT f) := ⟨fun W σ ρ n H Q Qa hQ hE o h => DT.run (te := t) (f := f) W σ ρ n H _ _ (fun b n1 h1 H1 l1 o1 => hQ _ _ h1 H1 l1 o1) hE o h⟩
def aAndT (f g : AT) : AT := fun ρ n Q => f ρ n fun b n1 => aIte b (g ρ n1 Q) (Q false n1)
def aOrT (f g : AT) : AT := fun ρ n Q => f ρ n fun b n1 => aIte b (Q true n1) (g ρ n1 Q)
instance {t u : TT} {f g : AT} [DT K t f] [DT K u g] : DT K (tAnd t u) (aAndT f g) := ⟨fun W σ ρ n H Q Qa hQ hE o h =>
  DT.run (te := t) (f := f) W σ ρ n H _ _ (fun b n1 h1 H1 l1 o1 => by
    cases b with
    | true => rw [if_pos rfl]; exact DT.run (te := u) (f := g) W σ ρ n1 H1 Q Qa (fun b n2 h2 H2 l2 o2 => hQ _ _ h2 H2 (l1.trans l2) o2) (hE.le o l1) o1 (h1.1 rfl)
    | false => rw [if_neg Bool.false_ne_true]; exact hQ _ _ (h1.2 rfl) H1 l1 o1) hE o h⟩
instance {t u : TT} {f g : AT} [DT K t f] [DT K u g] : DT K (tOr t u) (aOrT f g) := ⟨fun W σ ρ n H Q Qa hQ hE o h =>
  DT.run (te := t) (f := f) W σ ρ n H _ _ (fun b n1 h1 H1 l1 o1 => by
    cases b with
    | false => rw [if_neg Bool.false_ne_true]; exact DT.run (te := u) (f := g) W σ ρ n1 H1 Q Qa (fun b n2 h2 H2 l2 o2 => hQ _ _ h2 H2 (l1.trans l2) o2) (hE.le o l1) o1 (h1.2 rfl)
    | true => rw [if_pos rfl]; exact hQ _ _ (h1.1 rfl) H1 l1 o1) hE o h⟩
def aYes : AT := fun _ n Q => Q true n
instance : DT K tYes aYes := ⟨fun W σ ρ n H Q Qa hQ hE o h => hQ _ _ h H Wd.le_refl o⟩
def aNotV (f : AE) : AE := fun ρ n Q => f ρ n fun d n1 => match d with
  | .bl b => Q (.bl (!b)) n1
  | _ => False
def aBits (f : AE) : AE := fun ρ n Q => f ρ n fun d n1 => match d with
  | .int i => Q (.int (Builtin.Int.intBits i : Nat)) n1
  | _ => False
def aAndV (f g : AE) : AE := fun ρ n Q => f ρ n fun d n1 => match d with
  | .bl b => aIte b (g ρ n1 Q) (Q (.bl false) n1)
  | _ => False
def aOrV (f g : AE) : AE := fun ρ n Q => f ρ n fun d n1 => match d with
  | .bl b => aIte b (Q (.bl true) n1) (g ρ n1 Q)
  | _ => False
instance {te : TE} {f : AE} [DE K te f] : DE K (tNotV te) (aNotV f) := ⟨fun W σ ρ n H Q Qa hQ hE o h =>
  DE.run (te := te) (f := f) W σ ρ n H _ _ (fun d n1 h1 H1 x l1 o1 ax => by
    split at h1
    · cases ax
      exact ⟨_, rfl, (hQ.le l1).now o1 h1 (.bl _)⟩
    · exact h1.elim) hE o h⟩
instance {te : TE} {f : AE} [DE K te f] : DE K (tBits te) (aBits f) := ⟨fun W σ ρ n H Q Qa hQ hE o h =>
  DE.run (te := te) (f := f) W σ ρ n H _ _ (fun d n1 h1 H1 x l1 o1 ax => by
    split at h1
    · cases ax
      exact ⟨_, rfl, (hQ.le l1).now o1 h1 (.int _)⟩
    · exact h1.elim) hE o h⟩
instance {te tu : TE} {f g : AE} [DE K te f] [DE K tu g] : DE K (tAndV te tu) (aAndV f g) := ⟨fun W σ ρ n H Q Qa hQ hE o h =>
  DE.run (te := te) (f := f) W σ ρ n H _ _ (fun d n1 h1 H1 x l1 o1 ax => by
    split at h1
    · rename_i b
      cases ax
      refine ⟨_, rfl, ?_⟩
      cases b with
      | true => rw [if_pos rfl]; exact DE.run (te := tu) (f := g) W σ ρ n1 H1 Q Qa (hQ.le l1) (hE.le o l1) o1 (h1.1 rfl)
      | false => rw [if_neg Bool.false_ne_true]; exact (hQ.le l1).now o1 (h1.2 rfl) (.bl _)
    · exact h1.elim) hE o h⟩
instance {te tu : TE} {f g : AE} [DE K te f] [DE K tu g] : DE K (tOrV te tu) (aOrV f g) := ⟨fun W σ ρ n H Q Qa hQ hE o h =>
  DE.run (te := te) (f := f) W σ ρ n H _ _ (fun d n1 h1 H1 x l1 o1 ax => by
    split at h1
    · rename_i b
      cases ax
      refine ⟨_, rfl, ?_⟩
      cases b with
      | false => rw [if_neg Bool.false_ne_true]; exact DE.run (te := tu) (f := g) W σ ρ n1 H1 Q Qa (hQ.le l1) (hE.le o l1) o1 (h1.2 rfl)
      | true => rw [if_pos rfl]; exact (hQ.le l1).now o1 (h1.1 rfl) (.bl _)
    · exact h1.elim) hE o h⟩
def aIfE (c : AT) (f g : AE) : AE := fun ρ n Q => c ρ n fun b n1 => aIte b (f ρ n1 Q) (g ρ n1 Q)
instance {tc : TT} {te tu : TE} {c : AT} {f g : AE} [DT K tc c] [DE K te f] [DE K tu g] : DE K (tIf tc te tu) (aIfE c f g) := ⟨fun W σ ρ n H Q Qa hQ hE o h =>
  DT.run (te := tc) (f := c) W σ ρ n H _ _ (fun b n1 h1 H1 l1 o1 => by
    cases b with
    | true => rw [if_pos rfl]; exact DE.run (te := te) (f := f) W σ ρ n1 H1 Q Qa (hQ.le l1) (hE.le o l1) o1 (h1.1 rfl)
    | false => rw [if_neg Bool.false_ne_true]; exact DE.run (te := tu) (f := g) W σ ρ n1 H1 Q Qa (hQ.le l1) (hE.le o l1) o1 (h1.2 rfl)) hE o h⟩
def aChain (f g : D → D → Nat → (D → Nat → Prop) → Prop) (fa fb fc : AE) : AE := fun ρ n Q => fa ρ n fun x n1 => fb ρ n1 fun y n2 => f x y n2 fun z n3 => match z with
  | .bl b => aIte b (fc ρ n3 fun w n4 => g y w n4 Q) (Q (.bl false) n3)
  | _ => False
instance {r r' : R2} {f g : D → D → Nat → (D → Nat → Prop) → Prop} {ta tb tc : TE} {fa fb fc : AE} [D2 K r f] [D2 K r' g] [DE K ta fa] [DE K tb fb] [DE K tc fc] : DE K (tChain r r' ta tb tc) (aChain f g fa fb fc) := ⟨fun W σ ρ n H Q Qa hQ hE o h =>
  DE.run (te := ta) (f := fa) W σ ρ n H _ _ (fun d n1 h1 H1 x l1 o1 ax => DE.run (te := tb) (f := fb) W σ ρ n1 H1 _ _ (fun e n2 h2 H2 y l2 o2 ay => D2.run (f := f) W n2 H2 x y d e _ _ (fun z n3 h3 H3 v l3 o3 az => by
    split at h3
    · rename_i b
      cases az
      refine ⟨_, rfl, ?_⟩
      have l13 := l1.trans (l2.trans l3)
      cases b with
      | true =>
        rw [if_pos rfl]
        exact DE.run (te := tc) (f := fc) W σ ρ n3 H3 _ _ (fun w n4 h4 H4 u l4 o4 au => D2.run (f := g) W n4 H4 y u e w Q Qa (hQ.le (l13.trans l4)) o4 (At.le o2 (l3.trans l4) e ay) au h4) (hE.le o l13) o3 (h3.1 rfl)
      | false => rw [if_neg Bool.false_ne_true]; exact (hQ.le l13).now o3 (h3.2 rfl) (.bl _)
    · exact h3.elim) o2 (At.le o1 l2 d ax) ay h2) (hE.le o l1) o1 h1) hE o h⟩
def aNil : AA := fun _ n Q => Q [] n
def aCons (f : AE) (g : AA) : AA := fun ρ n Q => f ρ n fun d n1 => g ρ n1 fun ds n2 => Q (d :: ds) n2
instance : DA K tNil aNil := ⟨fun W σ ρ n H Q Qa hQ hE o h => hQ _ _ h H _ Wd.le_refl o .nil⟩
instance {te : TE} {ta : TA} {f : AE} {g : AA} [DE K te f] [DA K ta g] : DA K (tCons te ta) (aCons f g) := ⟨fun W σ ρ n H Q Qa hQ hE o h =>
  DE.run (te := te) (f := f) W σ ρ n H _ _ (fun d n1 h1 H1 x l1 o1 ax => DA.run (te := ta) (f := g) W σ ρ n1 H1 _ _ (fun ds n2 h2 H2 xs l2 o2 axs => hQ _ _ h2 H2 _ (l1.trans l2) o2 (.cons (At.le o1 l2 d ax) axs)) (hE.le o l1) o1 h1) hE o h⟩
def aTup (g : AA) : AE := fun ρ n Q => g ρ n fun ds n1 => match Nat.ble ds.length 1000 with
  | true => Q (.tup ds) n1
  | false => False
def aLst (g : AA) : AE := fun ρ n Q => g ρ n fun ds n1 => match Nat.ble ds.length 1000 with
  | true => Q (.lst ds) n1
  | false => False
instance {ta : TA} {g : AA} [DA K ta g] : DE K (tTup ta) (aTup g) := ⟨fun W σ ρ n H Q Qa hQ hE o h =>
  DA.run (te := ta) (f := g) W σ ρ n H _ _ (fun ds n1 h1 H1 xs l1 o1 ax => by
    split at h1
    · rename_i e
      refine ⟨size63 (by rw [ax.length]; exact Nat.le_of_ble_eq_true e), fun p hp => (hQ.le l1).new o1 h1 hp ?_⟩
      exact .tup (.inl (.inl upd_same)) (AtAll.le o1 (Wd.le_same (same_upd hp)) ds ax)
    · exact h1.elim) hE o h⟩
instance {ta : TA} {g : AA} [DA K ta g] : DE K (tLst ta) (aLst g) := ⟨fun W σ ρ n H Q Qa hQ hE o h =>
  DA.run (te := ta) (f := g) W σ ρ n H _ _ (fun ds n1 h1 H1 xs l1 o1 ax => by
    split at h1
    · rename_i e
      refine ⟨size63 (by rw [ax.length]; exact Nat.le_of_ble_eq_true e), fun p hp => (hQ.le l1).new o1 h1 hp ?_⟩
      exact .lst (o1.fresh hp) upd_same (AtAll.le o1 (Wd.le_same (same_upd hp)) ds ax)
    · exact h1.elim) hE o h⟩
abbrev ASp := List D → Nat → (D → Nat → Prop) → Prop
def spOf (K : PySem.W.Frag) (k : Nat) (A : ASp) : Sp := fun vs H Q _ => ∃ (W : Wd) (n : Nat) (ds : List D) (Qa : D → Nat → Prop), AtAll K W H vs ds ∧ ds.length = k ∧ W.ok K n H ∧ Wants K W H Qa Q ∧ A ds n Qa
def aCall (k : Nat) (A : ASp) (g : AA) : AE := fun ρ n Q => g ρ n fun ds n1 => match Nat.beq ds.length k with
  | true => A ds n1 Q
  | false => False
instance {k : Nat} {A : ASp} {E : XK} {ta : TA} {g : AA} [DA K ta g] : DE K (tCall (spOf K k A) [] E ta) (aCall k A g) := ⟨fun W σ ρ n H Q Qa hQ hE o h =>
  DA.run (te := ta) (f := g) W σ ρ n H _ _ (fun ds n1 h1 H1 xs l1 o1 ax => by
    rw [List.append_nil]
    split at h1
    · rename_i e
      exact ⟨W, n1, ds, Qa, ax, Nat.eq_of_beq_eq_true e, o1, hQ.le l1, h1⟩
    · exact h1.elim) hE o h⟩
def aCB (f : List D → Nat → (D → Nat → Prop) → Prop) (g : AA) : AE := fun ρ n Q => g ρ n fun ds n1 => f ds n1 Q
instance {r : List V → Hp → VK → Prop} {f : List D → Nat → (D → Nat → Prop) → Prop} {ta : TA} {g : AA} [DL K r f] [DA K ta g] : DE K (tCB r ta) (aCB f g) := ⟨fun W σ ρ n H Q Qa hQ hE o h =>
  DA.run (te := ta) (f := g) W σ ρ n H _ _ (fun ds n1 h1 H1 xs l1 o1 ax => DL.run (f := f) W n1 H1 xs ds Q Qa (hQ.le l1) o1 ax h1) hE o h⟩
end
section
variable {K : PySem.W.Frag}
theorem take_at {W : Wd} {H : Hp} : ∀ (k : Nat) {vs : List V} {ds : List D}, AtAll K W H vs ds → AtAll K W H (vs.take k) (ds.take k)
  | 0, _, _, _ => .nil
  | k + 1, _, [], h => by cases h; exact .nil
  | k + 1, _, d :: ds, h => by
    cases h with
    | cons a r => exact .cons a (take_at k r)
theorem drop_at {W : Wd} {H : Hp} : ∀ (k : Nat) {vs : List V} {ds : List D}, AtAll K W H vs ds → AtAll K W H (vs.drop k) (ds.drop k)
  | 0, _, _, h => h
  | k + 1, _, [], h => by cases h; exact .nil
  | k + 1, _, d :: ds, h => by
    cases h with
    | cons a r => exact drop_at k r
theorem rev_at {W : Wd} {H : Hp} : ∀ {vs : List V} {ds : List D}, AtAll K W H vs ds → AtAll K W H vs.reverse ds.reverse
  | _, [], h => by cases h; exact .nil
  | _, d :: ds, h => by
    cases h with
    | cons a r =>
      rw [List.reverse_cons, List.reverse_cons]
      exact (rev_at r).append (.cons a .nil)
theorem atI_at {W : Wd} {H : Hp} {vs : List V} {ds : List D} {i : Int} {d : D} (h : AtAll K W H vs ds) (e : atI ds i = some d) : ∃ v, atI vs i = some v ∧ At K W H v d := by
  unfold atI at e ⊢
  rw [h.length]
  cases e1 : ixN ds.length i with
  | none => rw [e1] at e; cases e
  | some j =>
    rw [e1] at e
    obtain ⟨v, h1, h2⟩ := h.get (i := j) e
    exact ⟨v, h1, h2⟩
theorem lim : (1000000 : Nat) ≤ sizeLine := by rw [sizeLine_eq]; decide
def aIx : D → D → Nat → (D → Nat → Prop) → Prop
  | .tup ds, .int i, n, Q => (match atI ds i with
    | some d => Q d n
    | none => False)
  | .lst ds, .int i, n, Q => (match atI ds i with
    | some d => Q d n
    | none => False)
  | .str z, .int i, n, Q => z.length ≤ 1000000 ∧ (match atI z.cps.toList i with
    | some c => Q (.str ⟨#[c]⟩) n
    | none => False)
  | _, _, _, _ => False
instance : D2 K (rIx K) aIx := ⟨fun W n H x y d e Q Qa hQ o ax ay h => by
  unfold aIx at h
  split at h
  · cases ay
    cases ax with
    | tup s a =>
      split at h
      · rename_i d' e'
        obtain ⟨v, h1, h2⟩ := atI_at a e'
        exact .inr (.inl ⟨_, _, _, v, rfl, rfl, s, h1, hQ.now o h h2⟩)
      · exact h.elim
  · cases ay
    cases ax with
    | lst r s a =>
      split at h
      · rename_i d' e'
        obtain ⟨v, h1, h2⟩ := atI_at a e'
        exact .inl ⟨_, _, _, v, rfl, rfl, SqL.of s, h1, hQ.now o h h2⟩
      · exact h.elim
  · cases ay
    cases ax
    obtain ⟨hl, h⟩ := h
    split at h
    · rename_i c e'
      exact .inr (.inr ⟨_, _, c, rfl, rfl, Nat.le_trans hl lim, e', hQ.now o h (.str _)⟩)
    · exact h.elim
  · exact h.elim⟩
theorem k_ix {X : Cx} (hK : X.K = K) : IxR X (rIx K) := hK ▸ ix_seq
def rIxY (K : PySem.W.Frag) : R2 := rIx K
@[irreducible] def aIxS : D → D → Nat → (D → Nat → Prop) → Prop := aIx
instance : D2 K (rIxY K) aIxS := ⟨fun W n H x y d e Q Qa hQ o ax ay h => by
  unfold aIxS at h
  exact D2.run (K := K) (r := rIx K) (f := aIx) W n H x y d e Q Qa hQ o ax ay h⟩
theorem k_ixS {X : Cx} (hK : X.K = K) : IxR X (rIxY K) := hK ▸ ix_seq
theorem aIx_lst {ds : List D} {i : Int} {d : D} {n : Nat} {Q : D → Nat → Prop} (e : atI ds i = some d) (q : Q d n) : aIxS (.lst ds) (.int i) n Q := by
  unfold aIxS
  show (match atI ds i with
    | some d => Q d n
    | none => False)
  rw [e]
  exact q
def rAddA (K : PySem.W.Frag) : R2 := fun x y H Q => (rI0 (fun i j => .int (i + j)) x y H Q ∨ rCat x y H Q) ∨ (rCatT K x y H Q ∨ ∃ i j, x = .str i ∧ y = .str j ∧ i.length + j.length ≤ sizeLine ∧ Q (.str (i ++ j)) H)
theorem OpR.or' {X : Cx} {op : Value → Value → Sem Value} {r r' : R2} (h : OpR X op r) (h' : OpR X op r') : OpR X op (fun x y H Q => r x y H Q ∨ r' x y H Q) := by
  intro pins s σ H x y v u Q I rx ry q
  rcases q with q | q
  · exact h pins s σ H x y v u Q I rx ry q
  · exact h' pins s σ H x y v u Q I rx ry q
theorem k_add {X : Cx} (hK : X.K = K) : OpR X (binaryOp .Add) (rAddA K) := hK ▸ OpR.or' (OpR.or' op_add op_cat) (OpR.or' op_catT op_add_str)
def aAdd : D → D → Nat → (D → Nat → Prop) → Prop
  | .int i, .int j, n, Q => Q (.int (i + j)) n
  | .lst ds, .lst es, n, Q => ds.length + es.length ≤ 1000000 ∧ Q (.lst (ds ++ es)) n
  | .tup ds, .tup es, n, Q => ds ≠ [] ∧ ds.length + es.length ≤ 1000000 ∧ Q (.tup (ds ++ es)) n
  | .str a, .str b, n, Q => a.length + b.length ≤ 1000000 ∧ Q (.str (a ++ b)) n
  | _, _, _, _ => False
instance : D2 K (rAddA K) aAdd := ⟨fun W n H x y d e Q Qa hQ o ax ay h => by
  unfold aAdd at h
  split at h
  · cases ax
    cases ay
    exact .inl (.inl ⟨_, _, rfl, rfl, hQ.now o h (.int _)⟩)
  · cases ax with
    | lst r s a =>
      cases ay with
      | lst r' s' a' =>
        refine .inl (.inr ⟨_, _, _, _, rfl, rfl, s, s', ?_, fun p hp => hQ.new o h.2 hp ?_⟩)
        · rw [a.length, a'.length]
          exact Nat.le_trans h.1 lim
        · exact .lst (o.fresh hp) upd_same ((AtAll.le o (Wd.le_same (same_upd hp)) _ a).append (AtAll.le o (Wd.le_same (same_upd hp)) _ a'))
  · cases ax with
    | tup s a =>
      cases ay with
      | tup s' a' =>
        obtain ⟨h0, h1, h2⟩ := h
        refine .inr (.inl ⟨_, _, _, _, rfl, rfl, s, s', ?_, ?_, fun z => ?_, fun z p hp => hQ.new o h2 hp ?_⟩)
        · rintro rfl
          cases a
          exact h0 rfl
        · rw [a.length, a'.length]
          exact Nat.le_trans h1 lim
        · subst z
          cases a'
          rw [List.append_nil] at h2
          exact hQ.now o h2 (.tup s a)
        · exact .tup (.inl (.inl upd_same)) ((AtAll.le o (Wd.le_same (same_upd hp)) _ a).append (AtAll.le o (Wd.le_same (same_upd hp)) _ a'))
  · cases ax
    cases ay
    exact .inr (.inr ⟨_, _, rfl, rfl, Nat.le_trans h.1 lim, hQ.now o h.2 (.str _)⟩)
  · exact h.elim⟩
def CMulA (i j : Int) : Prop := CMul i j ∨ CMulW i j
def CDivA (i j : Int) : Prop := CDiv i j ∨ CDivW i j
theorem k_mul {X : Cx} : OpR X (binaryOp .Mult) (rI CMulA fun i j => .int (i * j)) := by
  intro pins s σ H x y v u Q I rx ry q
  obtain ⟨i, j, h1, h2, h | h, q⟩ := q
  · exact op_mul pins s σ H x y v u Q I rx ry ⟨i, j, h1, h2, h, q⟩
  · exact op_mulW pins s σ H x y v u Q I rx ry ⟨i, j, h1, h2, h, q⟩
theorem k_fdiv {X : Cx} : OpR X (binaryOp .FloorDiv) (rI CDivA fun i j => .int (i / j)) := by
  intro pins s σ H x y v u Q I rx ry q
  obtain ⟨i, j, h1, h2, h | h, q⟩ := q
  · exact op_fdiv pins s σ H x y v u Q I rx ry ⟨i, j, h1, h2, h, q⟩
  · exact op_fdivW pins s σ H x y v u Q I rx ry ⟨i, j, h1, h2, h, q⟩
mutual
def D.pd : D → PyData
  | .bl b => .bool b | .int i => .int i | .str x => .str x | .tup ds => .tuple (pdAll ds) | .lst ds => .list (pdAll ds)
  | _ => .none
def pdAll : List D → List PyData
  | [] => []
  | d :: ds => d.pd :: pdAll ds
end
mutual
def D.isD : D → Bool
  | .non => true | .bl _ => true | .int _ => true | .str _ => true | .tup ds => isDAll ds | .lst ds => isDAll ds
  | _ => false
def isDAll : List D → Bool
  | [] => true
  | d :: ds => d.isD && isDAll ds
end
mutual
theorem At.dp {W : Wd} {H : Hp} : ∀ (d : D) {v : V}, d.isD = true → At K W H v d → Dp K H v d.pd
  | .non, _, _, h => by cases h; exact .non
  | .bl b, _, _, h => by cases h; exact .bl b
  | .int i, _, _, h => by cases h; exact .int i
  | .str x, _, _, h => by cases h; exact .str x
  | .ty t, _, e, _ => Bool.noConfusion e
  | .cls a, _, e, _ => Bool.noConfusion e
  | .tup ds, _, e, h => by
    cases h with
    | tup s a => exact .tup s (AtAll.dp ds e a)
  | .lst ds, _, e, h => by
    cases h with
    | lst r s a => exact .lst (SqL.of s) (AtAll.dp ds e a)
  | .dic ks ds, _, e, _ => Bool.noConfusion e
  | .ins C ns ds, _, e, _ => Bool.noConfusion e
  | .deck, _, e, _ => Bool.noConfusion e
  | .xcp _ _ _ _ _, _, e, _ => Bool.noConfusion e
theorem AtAll.dp {W : Wd} {H : Hp} : ∀ (ds : List D) {vs : List V}, isDAll ds = true → AtAll K W H vs ds → DpAll K H vs (pdAll ds)
  | [], _, _, h => by cases h; exact .nil
  | d :: ds, _, e, h => by
    have e' : (d.isD && isDAll ds) = true := e
    rw [Bool.and_eq_true] at e'
    cases h with
    | cons a r => exact .cons (At.dp d e'.1 a) (AtAll.dp ds e'.2 r)
end
def rEqA (K : PySem.W.Frag) : R2 := fun x y H Q => rEq x y H Q ∨ rEqD K x y H Q
def rNeA (K : PySem.W.Frag) : R2 := fun x y H Q => rNe x y H Q ∨ rNeD K x y H Q
theorem k_eq {X : Cx} (hK : X.K = K) (hu : X.A.units + 64 < cLine) : OpR X (compareOp .Eq) (rEqA K) := hK ▸ OpR.or' op_eq (op_eqD hu)
theorem k_ne {X : Cx} (hK : X.K = K) (hu : X.A.units + 64 < cLine) : OpR X (compareOp .NotEq) (rNeA K) := hK ▸ OpR.or' op_ne (op_neD hu)
def aEq (f : Bool → Bool) : D → D → Nat → (D → Nat → Prop) → Prop := fun d e n Q => match eqS d e with
  | some b => Q (.bl (f b)) n
  | none => (d.isD = true ∧ e.isD = true ∧ SeqAt.shaped d.pd = true ∧ SeqAt.shaped e.pd = true) ∧ Q (.bl (f (PyData.eqv d.pd e.pd))) n
instance : D2 K (rEqA K) (aEq id) := ⟨fun W n H x y d e Q Qa hQ o ax ay h => by
  unfold aEq at h
  split at h
  · rename_i b e
    obtain ⟨h1, h2⟩ := eqS_is ax ay e
    refine .inl ⟨h1, ?_⟩
    rw [h2]
    exact hQ.now o h (.bl _)
  · obtain ⟨⟨h1, h2, h3, h4⟩, h⟩ := h
    exact .inr ⟨_, _, At.dp d h1 ax, At.dp e h2 ay, h3, h4, hQ.now o h (.bl _)⟩⟩
instance : D2 K (rNeA K) (aEq not) := ⟨fun W n H x y d e Q Qa hQ o ax ay h => by
  unfold aEq at h
  split at h
  · rename_i b e
    obtain ⟨h1, h2⟩ := eqS_is ax ay e
    refine .inl ⟨h1, ?_⟩
    rw [h2]
    exact hQ.now o h (.bl _)
  · obtain ⟨⟨h1, h2, h3, h4⟩, h⟩ := h
    exact .inr ⟨_, _, At.dp d h1 ax, At.dp e h2 ay, h3, h4, hQ.now o h (.bl _)⟩⟩
def rIsN : R2 := fun x y H Q => y = .non ∧ Q (.bl (decide (x = .non))) H
def rNotN : R2 := fun x y H Q => y = .non ∧ Q (.bl (!decide (x = .non))) H
theorem k_isN {X : Cx} : OpR X (compareOp .Is) rIsN := op_isN
theorem k_notN {X : Cx} : OpR X (compareOp .IsNot) rNotN := op_notN
def D.isN : D → Bool
  | .non => true
  | _ => false
def aIsN (f : Bool → Bool) : D → D → Nat → (D → Nat → Prop) → Prop
  | d, .non, n, Q => Q (.bl (f d.isN)) n
  | _, _, _, _ => False
theorem isN_is {W : Wd} {H : Hp} {x : V} {d : D} (ax : At K W H x d) : decide (x = .non) = d.isN := by
  cases ax <;> rfl
instance : D2 K rIsN (aIsN id) := ⟨fun W n H x y d e Q Qa hQ o ax ay h => by
  unfold aIsN at h
  split at h
  · cases ay
    refine ⟨rfl, ?_⟩
    rw [isN_is ax]
    exact hQ.now o h (.bl _)
  · exact h.elim⟩
instance : D2 K rNotN (aIsN not) := ⟨fun W n H x y d e Q Qa hQ o ax ay h => by
  unfold aIsN at h
  split at h
  · cases ay
    refine ⟨rfl, ?_⟩
    rw [isN_is ax]
    exact hQ.now o h (.bl _)
  · exact h.elim⟩
def rLen (K : PySem.W.Frag) : List V → Hp → VK → Prop := fun xs H Q => ∃ x n, xs = [x] ∧ LenV K x H n ∧ Q (.int n) H
theorem k_len {X : Cx} (hK : X.K = K) : CallR X (.builtin "len") (rLen K) := hK ▸ call_len
def aLen : List D → Nat → (D → Nat → Prop) → Prop
  | [.tup ds], n, Q => Q (.int ds.length) n
  | [.lst ds], n, Q => Q (.int ds.length) n
  | [.str z], n, Q => z.length ≤ 1000000 ∧ Q (.int z.length) n
  | _, _, _ => False
instance : DL K (rLen K) aLen := ⟨fun W n H xs ds Q Qa hQ o a h => by
  unfold aLen at h
  split at h
  · cases a with
    | cons a r =>
      cases r
      cases a with
      | tup s a => exact ⟨_, _, rfl, .inr ⟨_, s, rfl⟩, by rw [a.length]; exact hQ.now o h (.int _)⟩
  · cases a with
    | cons a r =>
      cases r
      cases a with
      | lst _ s a => exact ⟨_, _, rfl, .inl ⟨_, SqL.of s, rfl⟩, by rw [a.length]; exact hQ.now o h (.int _)⟩
  · cases a with
    | cons a r =>
      cases r
      cases a
      exact ⟨_, _, rfl, ⟨Nat.le_trans h.1 lim, rfl⟩, hQ.now o h.2 (.int _)⟩
  · exact h.elim⟩
def rAbs : List V → Hp → VK → Prop := fun xs H Q => ∃ i, xs = [.int i] ∧ Q (.int (if i < 0 then -i else i)) H
theorem k_abs {X : Cx} : CallR X (.builtin "abs") rAbs := call_abs
def aAbs : List D → Nat → (D → Nat → Prop) → Prop
  | [.int i], n, Q => Q (.int (if i < 0 then -i else i)) n
  | _, _, _ => False
instance : DL K rAbs aAbs := ⟨fun W n H xs ds Q Qa hQ o a h => by
  unfold aAbs at h
  split at h
  · cases a with
    | cons a r =>
      cases r
      cases a
      exact ⟨_, rfl, hQ.now o h (.int _)⟩
  · exact h.elim⟩
def rMax2 : List V → Hp → VK → Prop := fun xs H Q => ∃ i j, xs = [.int i, .int j] ∧ Q (.int (if j > i then j else i)) H
def rMin2 : List V → Hp → VK → Prop := fun xs H Q => ∃ i j, xs = [.int i, .int j] ∧ Q (.int (if j < i then j else i)) H
def aMM (g : Int → Int → Int) : List D → Nat → (D → Nat → Prop) → Prop
  | [.int i, .int j], n, Q => Q (.int (g i j)) n
  | _, _, _ => False
instance : DL K rMax2 (aMM fun i j => if j > i then j else i) := ⟨fun W n H xs ds Q Qa hQ o a h => by
  unfold aMM at h
  split at h
  · cases a with
    | cons a r =>
      cases r with
      | cons b r =>
        cases r
        cases a
        cases b
        exact ⟨_, _, rfl, hQ.now o h (.int _)⟩
  · exact h.elim⟩
instance : DL K rMin2 (aMM fun i j => if j < i then j else i) := ⟨fun W n H xs ds Q Qa hQ o a h => by
  unfold aMM at h
  split at h
  · cases a with
    | cons a r =>
      cases r with
      | cons b r =>
        cases r
        cases a
        cases b
        exact ⟨_, _, rfl, hQ.now o h (.int _)⟩
  · exact h.elim⟩
def rListOf (K : PySem.W.Frag) : List V → Hp → VK → Prop := fun xs H Q => ∃ p ys, xs = [.ref p] ∧ (SqL K H p ys ∨ SqT K H p ys) ∧ ∀ l, H l = none → Q (.ref l) (upd H l (.lst ys))
def rTupOf (K : PySem.W.Frag) : List V → Hp → VK → Prop := fun xs H Q => ∃ p ys, xs = [.ref p] ∧ ((SqL K H p ys ∧ ∀ l, H l = none → Q (.ref l) (upd H l (.tup ys))) ∨ (SqT K H p ys ∧ Q (.ref p) H))
theorem k_tuple {X : Cx} (hK : X.K = K) : CallR X (.type "tuple") (rTupOf K) := hK ▸ call_tuple_of
def aListOf : List D → Nat → (D → Nat → Prop) → Prop
  | [.tup ds], n, Q => Q (.lst ds) n
  | [.lst ds], n, Q => Q (.lst ds) n
  | _, _, _ => False
def aTupOf : List D → Nat → (D → Nat → Prop) → Prop
  | [.tup ds], n, Q => Q (.tup ds) n
  | [.lst ds], n, Q => Q (.tup ds) n
  | _, _, _ => False
instance : DL K (rListOf K) aListOf := ⟨fun W n H xs ds Q Qa hQ o a h => by
  unfold aListOf at h
  split at h
  · cases a with
    | cons a r =>
      cases r
      cases a with
      | tup s a => exact ⟨_, _, rfl, .inr s, fun p hp => hQ.new o h hp (.lst (o.fresh hp) upd_same (AtAll.le o (Wd.le_same (same_upd hp)) _ a))⟩
  · cases a with
    | cons a r =>
      cases r
      cases a with
      | lst _ s a => exact ⟨_, _, rfl, .inl (SqL.of s), fun p hp => hQ.new o h hp (.lst (o.fresh hp) upd_same (AtAll.le o (Wd.le_same (same_upd hp)) _ a))⟩
  · exact h.elim⟩
instance : DL K (rTupOf K) aTupOf := ⟨fun W n H xs ds Q Qa hQ o a h => by
  unfold aTupOf at h
  split at h
  · cases a with
    | cons a r =>
      cases r
      cases a with
      | tup s a => exact ⟨_, _, rfl, .inr ⟨s, hQ.now o h (.tup s a)⟩⟩
  · cases a with
    | cons a r =>
      cases r
      cases a with
      | lst _ s a => exact ⟨_, _, rfl, .inl ⟨SqL.of s, fun p hp => hQ.new o h hp (.tup (.inl (.inl upd_same)) (AtAll.le o (Wd.le_same (same_upd hp)) _ a))⟩⟩
  · exact h.elim⟩
def D.tv : D → Option Ty
  | .non => some .non | .bl _ => some .bl | .int _ => some .int | .str _ => some .str | .tup _ => some .tup | .lst _ => some .lst | .dic _ _ => some .dic
  | _ => none
def isiB : Ty → Ty → Bool
  | .non, .non => true | .bl, .bl => true | .bl, .int => true | .int, .int => true | .str, .str => true | .tup, .tup => true | .lst, .lst => true | .dic, .dic => true
  | _, _ => false
theorem kitB_is (a b : Ty) (h : b ≠ .non) (hb : b ≠ .verr) (ha : a ≠ .verr) : kitB a.nm b.nm = some (isiB a b) := by
  cases a <;> cases b <;> first
    | exact absurd rfl h
    | exact absurd rfl hb
    | exact absurd rfl ha
    | decide +kernel
theorem tv_nv {d : D} (e : d.tv = some .verr) : False := by
  cases d <;> cases e
theorem tv_is {W : Wd} {H : Hp} {x : V} {d : D} {t : Ty} (ax : At K W H x d) (e : d.tv = some t) : TyX K H x (.type t.nm) := by
  cases ax <;> cases e
  · exact .base .non
  · exact .base (.bl _)
  · exact .base (.int _)
  · exact .base (.str _)
  · rename_i a xs ds s _
    rcases s with (h | ⟨o, h⟩) | ⟨o, its, n, h, hc, _⟩
    · exact .base (.tup h)
    · exact .fTuple h
    · exact .kTuple h hc
  · rename_i r s _
    exact .base (.lst s)
  · rename_i r s _ _
    exact .base (.dK s)
theorem k_isi {X : Cx} (hK : X.K = K) : CallR X (.builtin "isinstance") (rIsi K) := hK ▸ call_isi
structure InsC (K : PySem.W.Frag) (C : Addr) : Prop where
  cl : Cls K C
  ha : PySem.W.findIn K (.ref C) "__class__" = some (some (.builtin "object.__class__"))
  hn : PySem.W.specialIn K (.builtin "object.__class__") "__get__" = some (some (.builtin "getset_descriptor.__get__"))
  ht : PySem.W.takesIn K (.builtin "object.__class__") = some true
  hm : PySem.W.mroIn K C (.type "object") = some true
def aIsi (K : PySem.W.Frag) : List D → Nat → (D → Nat → Prop) → Prop
  | [.ins C _ _, .ty t], n, Q => InsC K C ∧ ∃ b, PySem.W.kitOne K (.ref C) (.type t.nm) = some b ∧ Q (.bl b) n
  | [.ins C _ _, .cls c], n, Q => InsC K C ∧ ∃ b, PySem.W.kitOne K (.ref C) (.ref c) = some b ∧ Q (.bl b) n
  | [d, .cls c], n, Q => (match d.tv with
    | some t => ∃ b, PySem.W.kitOne K (.type t.nm) (.ref c) = some b ∧ Q (.bl b) n
    | none => False)
  | [d, .ty t], n, Q => (match d.tv, t with
    | some _, .non => False
    | some _, .verr => False
    | some t', t => Q (.bl (isiB t' t)) n
    | none, _ => False)
  | _, _, _ => False
instance : DL K (rIsi K) (aIsi K) := ⟨fun W n H xs ds Q Qa hQ o a h => by
  unfold aIsi at h
  split at h
  · cases a with
    | cons a r =>
      cases r with
      | cons b r =>
        cases r
        cases b
        cases a with
        | ins s e a =>
          obtain ⟨ic, b, hk, h⟩ := h
          exact ⟨_, _, _, _, b, rfl, .ty _, .base (.ins s ic.cl ic.ha ic.hn ic.ht ic.hm), hk, hQ.now o h (.bl _)⟩
  · cases a with
    | cons a r =>
      cases r with
      | cons b r =>
        cases r
        cases b
        cases a with
        | ins s e a =>
          obtain ⟨ic, b, hk, h⟩ := h
          exact ⟨_, _, _, _, b, rfl, .own _, .base (.ins s ic.cl ic.ha ic.hn ic.ht ic.hm), hk, hQ.now o h (.bl _)⟩
  · cases a with
    | cons a r =>
      cases r with
      | cons b r =>
        cases r
        cases b
        split at h
        · rename_i t e
          obtain ⟨b, hk, h⟩ := h
          exact ⟨_, _, _, _, b, rfl, .own _, tv_is a e, hk, hQ.now o h (.bl _)⟩
        · exact h.elim
  · cases a with
    | cons a r =>
      cases r with
      | cons b r =>
        cases r
        cases b
        split at h
        · exact h.elim
        · exact h.elim
        · rename_i t' e hne hne2
          exact ⟨_, _, _, _, _, rfl, .ty _, tv_is a e, kit_ty (kitB_is _ _ (fun z => hne z) (fun z => hne2 z) fun z => tv_nv (z ▸ e)), hQ.now o h (.bl _)⟩
        · exact h.elim
  · exact h.elim⟩
def tKon (a : Addr) : TE := tC (.ref a)
def tCls (a : Addr) : TE := tC (.ref a)
def tTy (t : Ty) : TE := tC (.ty t.nm)
class Kon (K : PySem.W.Frag) (a : Addr) (d : outParam D) : Prop where
  at_ : ∀ W H, At K W H (.ref a) d
def aD (d : D) : AE := fun _ n Q => Q d n
instance {a : Addr} {d : D} [k : Kon K a d] : DE K (tKon a) (aD d) := ⟨fun W σ ρ n H Q Qa hQ hE o h => hQ.now o h (k.at_ W H)⟩
instance {a : Addr} : DE K (tCls a) (aD (.cls a)) := ⟨fun W σ ρ n H Q Qa hQ hE o h => hQ.now o h (.cls a)⟩
instance {t : Ty} : DE K (tTy t) (aD (.ty t)) := ⟨fun W σ ρ n H Q Qa hQ hE o h => hQ.now o h (.ty t)⟩
theorem k_cls {X : Cx} {x : Str} {a : Addr} {pos : Pos} (hg : Gl X x) (hm : X.mg x = some (.ref a)) (hd : (x == ("__debug__" : Str)) = false := by decide) : PE X (.Name x pos) (tCls a) := pe_glob (v := .ref a) hg hm rfl hd
theorem k_ty {X : Cx} {x : Str} {t : Ty} {pos : Pos} (hg : Gl X x) (hm : X.mg x = none) (hv : bootBuiltins x = some (.type t.nm)) (hn : x ≠ "__name__" := by decide) (hd : (x == ("__debug__" : Str)) = false := by decide) : PE X (.Name x pos) (tTy t) := pe_bltn (v := .ty t.nm) hg hm hv rfl hn hd
def tFldK (K : PySem.W.Frag) (ta : TE) (f : Str) : TE := tFld K ta f
theorem k_fld {X : Cx} {e : Expr} {ta : TE} {f : Str} {pos : Pos} (hK : X.K = K) (he : PE X e ta) (hb : attributeBase e f X.env (eval e X.env) = eval e X.env) : PE X (.Attribute e f pos) (tFldK K ta f) := hK ▸ pe_fld he hb
def aFld (K : PySem.W.Frag) (f : Str) (fa : AE) : AE := fun ρ n Q => fa ρ n fun d n1 => match d with
  | .ins C ns ds => (Cls K C ∧ NoAttr K C f) ∧ ∃ d, (ns.zip ds).lookup f = some d ∧ Q d n1
  | _ => False
theorem lookup_at {W : Wd} {H : Hp} {f : Str} : ∀ {ns : List Str} {vs : List V} {ds : List D} {d : D}, AtAll K W H vs ds → (ns.zip ds).lookup f = some d → ∃ v, (ns.zip vs).lookup f = some v ∧ At K W H v d
  | [], _, _, _, _, e => by cases e
  | _ :: _, _, [], _, h, e => by cases h; cases e
  | x :: ns, _, d :: ds, d', h, e => by
    cases h with
    | cons a r =>
      rw [List.zip_cons_cons, List.lookup_cons] at e ⊢
      cases hb : f == x with
      | true =>
        rw [hb] at e
        cases e
        exact ⟨_, rfl, a⟩
      | false =>
        rw [hb] at e
        exact lookup_at r e
instance {f : Str} {ta : TE} {fa : AE} [DE K ta fa] : DE K (tFldK K ta f) (aFld K f fa) := ⟨fun W σ ρ n H Q Qa hQ hE o h =>
  DE.run (te := ta) (f := fa) W σ ρ n H _ _ (fun d n1 h1 H1 x l1 o1 ax => by
    split at h1
    · obtain ⟨⟨hc, hn⟩, d, e, q⟩ := h1
      cases ax with
      | ins s e' a =>
        obtain ⟨v, h1, h2⟩ := lookup_at a e
        exact ⟨_, _, _, _, v, rfl, s, hc, hn, h1, (hQ.le l1).now o1 q h2⟩
    · exact h1.elim) hE o h⟩
def cutL (xs : List D) (lo hi : Option Int) : List D := (xs.drop (HT.sIx xs.length 0 lo)).take (HT.sIx xs.length xs.length hi - HT.sIx xs.length 0 lo)
class DO (K : PySem.W.Frag) (te : TO) (f : outParam (Env' → Nat → (Option Int → Nat → Prop) → Prop)) : Prop where
  run : ∀ (W : Wd) (σ : L2.St) (ρ : Env') (n : Nat) (H : Hp) (Q : Option Int → Hp → Prop) (Qa : Option Int → Nat → Prop), (∀ b n', Qa b n' → ∀ H', W.le H H' → W.ok K n' H' → Q b H') → EnvAt K W H σ ρ → W.ok K n H → f ρ n Qa → te σ H Q
def aNoPart : Env' → Nat → (Option Int → Nat → Prop) → Prop := fun _ n Q => Q none n
def aPart (f : AE) : Env' → Nat → (Option Int → Nat → Prop) → Prop := fun ρ n Q => f ρ n fun d n1 => match d with
  | .int i => Q (some i) n1
  | _ => False
instance : DO K tNoPart aNoPart := ⟨fun W σ ρ n H Q Qa hQ hE o h => hQ _ _ h H Wd.le_refl o⟩
instance {te : TE} {f : AE} [DE K te f] : DO K (tPart te) (aPart f) := ⟨fun W σ ρ n H Q Qa hQ hE o h =>
  DE.run (te := te) (f := f) W σ ρ n H _ _ (fun d n1 h1 H1 x l1 o1 ax => by
    split at h1
    · cases ax
      exact ⟨_, rfl, hQ _ _ h1 H1 l1 o1⟩
    · exact h1.elim) hE o h⟩
def rSlA (K : PySem.W.Frag) : V → Option Int → Option Int → Hp → VK → Prop := fun x lo hi H Q => rSlL K x lo hi H Q ∨ (fun x lo hi H Q => rSlT K x lo hi H Q ∨ rSlS x lo hi H Q) x lo hi H Q
def aCut (d : D) (l u : Option Int) (n : Nat) (Q : D → Nat → Prop) : Prop := match d with
  | .lst ds => Q (.lst (cutL ds l u)) n
  | .tup ds => ¬ (HT.sIx ds.length 0 l = 0 ∧ HT.sIx ds.length ds.length u = ds.length) ∧ Q (.tup (cutL ds l u)) n
  | .str z => z.length ≤ 1000000 ∧ Q (.str (cutS z l u)) n
  | _ => False
def aSl (fa : AE) (fl fu : Env' → Nat → (Option Int → Nat → Prop) → Prop) : AE := fun ρ n Q => fa ρ n fun d n1 => fl ρ n1 fun l n2 => fu ρ n2 fun u n3 => aCut d l u n3 Q
instance {te : TE} {tl tu : TO} {fa : AE} {fl fu : Env' → Nat → (Option Int → Nat → Prop) → Prop} [DE K te fa] [DO K tl fl] [DO K tu fu] : DE K (tSl (rSlA K) te tl tu) (aSl fa fl fu) := ⟨fun W σ ρ n H Q Qa hQ hE o h =>
  DE.run (te := te) (f := fa) W σ ρ n H _ _ (fun d n1 h1 H1 x l1 o1 ax => DO.run (te := tl) (f := fl) W σ ρ n1 H1 _ _ (fun l n2 h2 H2 l2 o2 => DO.run (te := tu) (f := fu) W σ ρ n2 H2 _ _ (fun u n3 h3 H3 l3 o3 => by
    have hQ3 := hQ.le (l1.trans (l2.trans l3))
    unfold aCut at h3
    split at h3
    · cases At.le o1 (l2.trans l3) _ ax with
      | lst r s a =>
        refine .inl ⟨_, _, rfl, SqL.of s, fun p hp => hQ3.new o3 h3 hp ?_⟩
        refine .lst (o3.fresh hp) upd_same ?_
        unfold cutV cutL
        rw [a.length]
        exact take_at _ (drop_at _ (AtAll.le o3 (Wd.le_same (same_upd hp)) _ a))
    · cases At.le o1 (l2.trans l3) _ ax with
      | tup s a =>
        refine .inr (.inl ⟨_, _, rfl, s, by rw [a.length]; exact h3.1, fun p hp => hQ3.new o3 h3.2 hp ?_⟩)
        refine .tup (.inl (.inl upd_same)) ?_
        unfold cutV cutL
        rw [a.length]
        exact take_at _ (drop_at _ (AtAll.le o3 (Wd.le_same (same_upd hp)) _ a))
    · cases ax
      exact .inr (.inr ⟨_, rfl, Nat.le_trans h3.1 lim, hQ3.now o3 h3.2 (.str _)⟩)
    · exact h3.elim) (hE.le o (l1.trans l2)) o2 h2) (hE.le o l1) o1 h1) hE o h⟩
theorem k_sl {X : Cx} (hK : X.K = K) : SlR X (rSlA K) := hK ▸ SlR.or sl_list (SlR.or sl_tup sl_str)
def rJoin (K : PySem.W.Frag) : V → List V → Hp → VK → Prop := fun x xs H Q => ∃ a p, ∃ ys : List Str, x = .str a ∧ xs = [.ref p] ∧ (SqL K H p (ys.map V.str) ∨ SqT K H p (ys.map V.str)) ∧ (ys.map (·.length)).sum + ys.length * a.length ≤ 16777216 ∧ Q (.str (Txt.join a ys)) H
def tJoinK (K : PySem.W.Frag) (to te : TE) : TE := tM1 (rJoin K) to te
theorem k_join {X : Cx} {o e : Expr} {to te : TE} {apos pos : Pos} (hK : X.K = K) (ho : PE X o to) (he : PE X e te) (hs : starEach [e] X.env = [(false, eval e X.env)] := by rfl) (hbase : attributeBase o "join" X.env (eval o X.env) = eval o X.env := by rfl) (hline : (apos.endLine == pos.line) = true := by rfl) :
    PE X (.Call (.Attribute o "join" apos) [e] [] pos) (tJoinK K to te) := hK ▸ pe_join ho he hs hbase hline
def aJoin (fa fb : AE) : AE := fun ρ n Q => fa ρ n fun x n1 => match x with
  | .str a => fb ρ n1 fun y n2 => (match y with
    | .lst ds => ∃ ys : List Str, ds = ys.map D.str ∧ (ys.map (·.length)).sum + ys.length * a.length ≤ 16777216 ∧ Q (.str (Txt.join a ys)) n2
    | .tup ds => ∃ ys : List Str, ds = ys.map D.str ∧ (ys.map (·.length)).sum + ys.length * a.length ≤ 16777216 ∧ Q (.str (Txt.join a ys)) n2
    | _ => False)
  | _ => False
theorem strs_at {W : Wd} {H : Hp} : ∀ {ys : List Str} {vs : List V}, AtAll K W H vs (ys.map D.str) → vs = ys.map V.str
  | [], _, h => by cases h; rfl
  | y :: ys, _, h => by
    cases h with
    | cons a r => cases a; rw [List.map_cons, strs_at r]
theorem bls_at {W : Wd} {H : Hp} : ∀ {ys : List Bool} {vs : List V}, AtAll K W H vs (ys.map D.bl) → vs = ys.map V.bl
  | [], _, h => by cases h; rfl
  | y :: ys, _, h => by
    cases h with
    | cons a r => cases a; rw [List.map_cons, bls_at r]
theorem ints_at {W : Wd} {H : Hp} : ∀ {ys : List Int} {vs : List V}, AtAll K W H vs (ys.map D.int) → vs = ys.map V.int
  | [], _, h => by cases h; rfl
  | y :: ys, _, h => by
    cases h with
    | cons a r => cases a; rw [List.map_cons, ints_at r]
instance {to te : TE} {fa fb : AE} [DE K to fa] [DE K te fb] : DE K (tJoinK K to te) (aJoin fa fb) := ⟨fun W σ ρ n H Q Qa hQ hE o h =>
  DE.run (te := to) (f := fa) W σ ρ n H _ _ (fun d n1 h1 H1 x l1 o1 ax => by
    cases ax with
    | str a =>
      refine ⟨⟨_, rfl⟩, DE.run (te := te) (f := fb) W σ ρ n1 H1 _ _ (fun e n2 h2 H2 y l2 o2 ay => ?_) (hE.le o l1) o1 h1⟩
      cases ay with
      | lst r s b =>
        obtain ⟨ys, rfl, hl, q⟩ := h2
        rw [strs_at b] at s
        exact ⟨_, _, ys, rfl, rfl, .inl (SqL.of s), hl, (hQ.le (l1.trans l2)).now o2 q (.str _)⟩
      | tup s b =>
        obtain ⟨ys, rfl, hl, q⟩ := h2
        rw [strs_at b] at s
        exact ⟨_, _, ys, rfl, rfl, .inr s, hl, (hQ.le (l1.trans l2)).now o2 q (.str _)⟩
      | _ => exact h2.elim
    | _ => exact h1.elim) hE o h⟩
def rInt : List V → Hp → VK → Prop := fun xs H Q => (∃ i, xs = [.int i] ∧ Q (.int i) H) ∨ ∃ k, xs = [.bl k] ∧ Q (.int (if k then 1 else 0)) H
def aInt : List D → Nat → (D → Nat → Prop) → Prop
  | [.int i], n, Q => Q (.int i) n
  | [.bl b], n, Q => Q (.int (if b then 1 else 0)) n
  | _, _, _ => False
instance : DL K rInt aInt := ⟨fun W n H xs ds Q Qa hQ o a h => by
  unfold aInt at h
  split at h
  · cases a with
    | cons a r =>
      cases r
      cases a
      exact .inl ⟨_, rfl, hQ.now o h (.int _)⟩
  · cases a with
    | cons a r =>
      cases r
      cases a
      exact .inr ⟨_, rfl, hQ.now o h (.int _)⟩
  · exact h.elim⟩
def rStr : List V → Hp → VK → Prop := fun xs H Q => ∃ i, xs = [.int i] ∧ i.natAbs.log2 < 1920 ∧ Q (.str (toString i)) H
theorem k_str {X : Cx} : CallR X (.type "str") rStr := call_str_int
def aStr : List D → Nat → (D → Nat → Prop) → Prop
  | [.int i], n, Q => i.natAbs.log2 < 1920 ∧ Q (.str (toString i)) n
  | _, _, _ => False
instance : DL K rStr aStr := ⟨fun W n H xs ds Q Qa hQ o a h => by
  unfold aStr at h
  split at h
  · cases a with
    | cons a r =>
      cases r
      cases a
      exact ⟨_, rfl, h.1, hQ.now o h.2 (.str _)⟩
  · exact h.elim⟩
def aBools (g : List Bool → Bool) : List D → Nat → (D → Nat → Prop) → Prop := fun ds n Q => ∃ bs : List Bool, ds = [.lst (bs.map D.bl)] ∧ Q (.bl (g bs)) n
instance : DL K (rAll K) (aBools fun bs => bs.all id) := ⟨fun W n H xs ds Q Qa hQ o a h => by
  obtain ⟨bs, rfl, q⟩ := h
  cases a with
  | cons a r =>
    cases r
    cases a with
    | lst _ s b => rw [bls_at b] at s; exact ⟨_, bs, rfl, SqL.of s, hQ.now o q (.bl _)⟩⟩
instance : DL K (rAny K) (aBools fun bs => bs.any id) := ⟨fun W n H xs ds Q Qa hQ o a h => by
  obtain ⟨bs, rfl, q⟩ := h
  cases a with
  | cons a r =>
    cases r
    cases a with
    | lst _ s b => rw [bls_at b] at s; exact ⟨_, bs, rfl, SqL.of s, hQ.now o q (.bl _)⟩⟩
def aSum : List D → Nat → (D → Nat → Prop) → Prop := fun ds n Q => ∃ ns : List Int, ds = [.lst (ns.map D.int)] ∧ Q (.int ns.sum) n
instance : DL K (rSum K) aSum := ⟨fun W n H xs ds Q Qa hQ o a h => by
  obtain ⟨ns, rfl, q⟩ := h
  cases a with
  | cons a r =>
    cases r
    cases a with
    | lst _ s b => rw [ints_at b] at s; exact ⟨_, ns, rfl, SqL.of s, hQ.now o q (.int _)⟩⟩
def aMax1 : List D → Nat → (D → Nat → Prop) → Prop := fun ds n Q => ∃ ns : List Int, ds = [.lst (ns.map D.int)] ∧ 0 < ns.length ∧ ∀ m, m ∈ ns → (∀ y, y ∈ ns → y ≤ m) → Q (.int m) n
def aMin1 : List D → Nat → (D → Nat → Prop) → Prop := fun ds n Q => ∃ ns : List Int, ds = [.lst (ns.map D.int)] ∧ 0 < ns.length ∧ ∀ m, m ∈ ns → (∀ y, y ∈ ns → m ≤ y) → Q (.int m) n
instance : DL K (rMax K) aMax1 := ⟨fun W n H xs ds Q Qa hQ o a h => by
  obtain ⟨ns, rfl, hl, q⟩ := h
  cases a with
  | cons a r =>
    cases r
    cases a with
    | lst _ s b => rw [ints_at b] at s; exact ⟨_, ns, rfl, SqL.of s, hl, fun m h1 h2 => hQ.now o (q m h1 h2) (.int _)⟩⟩
instance : DL K (rMin K) aMin1 := ⟨fun W n H xs ds Q Qa hQ o a h => by
  obtain ⟨ns, rfl, hl, q⟩ := h
  cases a with
  | cons a r =>
    cases r
    cases a with
    | lst _ s b => rw [ints_at b] at s; exact ⟨_, ns, rfl, SqL.of s, hl, fun m h1 h2 => hQ.now o (q m h1 h2) (.int _)⟩⟩
def flatD : D → Bool
  | .non => true | .bl _ => true | .int _ => true | .str _ => true
  | _ => false
def eqF : D → D → Bool
  | .non, .non => true | .bl a, .bl b => a == b | .bl a, .int b => (if a then 1 else 0) == b | .int a, .bl b => a == (if b then 1 else 0) | .int a, .int b => a == b | .str a, .str b => a == b
  | _, _ => false
theorem flat_at {W : Wd} {H : Hp} {v : V} {d : D} (a : At K W H v d) (h : flatD d = true) : flatV v = true := by
  cases a <;> first | rfl | cases h
theorem eqF_at {W : Wd} {H : Hp} {v u : V} {d e : D} (a : At K W H v d) (b : At K W H u e) (h : flatD d = true) (g : flatD e = true) : eqV v u = eqF d e := by
  cases a <;> first
    | cases h; done
    | (cases b <;> first | rfl | cases g; done)
theorem flats_at {W : Wd} {H : Hp} : ∀ {ds : List D} {vs : List V}, AtAll K W H vs ds → ds.all flatD = true → vs.all flatV = true
  | [], _, h, _ => by cases h; rfl
  | d :: ds, _, h, g => by
    cases h with
    | cons a r =>
      rw [List.all_cons, Bool.and_eq_true] at g ⊢
      exact ⟨flat_at a g.1, flats_at r g.2⟩
theorem in_at {W : Wd} {H : Hp} {u : V} {e : D} (b : At K W H u e) (g : flatD e = true) : ∀ {ds : List D} {vs : List V}, AtAll K W H vs ds → ds.all flatD = true → inV u vs = ds.any fun d => eqF d e
  | [], _, h, _ => by cases h; rfl
  | d :: ds, _, h, g' => by
    cases h with
    | cons a r =>
      rw [List.all_cons, Bool.and_eq_true] at g'
      have ih := in_at b g r g'.2
      unfold inV at ih ⊢
      rw [List.any_cons, List.any_cons, ih, eqF_at a b g'.1 g]
def rInA (K : PySem.W.Frag) (neg : Bool) : R2 := rIn K neg
def aIn (neg : Bool) : D → D → Nat → (D → Nat → Prop) → Prop
  | d, .lst ds, n, Q => flatD d = true ∧ ds.all flatD = true ∧ Q (.bl (if neg then !(ds.any fun x => eqF x d) else ds.any fun x => eqF x d)) n
  | d, .tup ds, n, Q => flatD d = true ∧ ds.all flatD = true ∧ Q (.bl (if neg then !(ds.any fun x => eqF x d) else ds.any fun x => eqF x d)) n
  | _, _, _, _ => False
instance {neg : Bool} : D2 K (rInA K neg) (aIn neg) := ⟨fun W n H x y d e Q Qa hQ o ax ay h => by
  unfold aIn at h
  split at h
  · obtain ⟨h1, h2, q⟩ := h
    cases ay with
    | lst r s a => exact ⟨_, _, rfl, .inl (SqL.of s), flat_at ax h1, flats_at a h2, by rw [in_at ax h1 a h2]; exact hQ.now o q (.bl _)⟩
  · obtain ⟨h1, h2, q⟩ := h
    cases ay with
    | tup s a => exact ⟨_, _, rfl, .inr s, flat_at ax h1, flats_at a h2, by rw [in_at ax h1 a h2]; exact hQ.now o q (.bl _)⟩
  · exact h.elim⟩
end
section
variable {K : PySem.W.Frag}
abbrev Upd (K : PySem.W.Frag) (W : Wd) (H : Hp) : List (Nat × V) → List (Nat × D) → Prop := Paired fun z u => z.1 = u.1 ∧ At K W H z.2 u.2
def setAll : L2.St → List (Nat × V) → L2.St
  | σ, [] => σ
  | σ, z :: r => setAll (σ.set z.1 (some z.2)) r
def eSetAll : Env' → List (Nat × D) → Env'
  | ρ, [] => ρ
  | ρ, u :: r => eSetAll (eSet ρ u.1 (some u.2)) r
theorem setAll_append : ∀ (σ : L2.St) (a b : List (Nat × V)), setAll σ (a ++ b) = setAll (setAll σ a) b
  | σ, [], b => rfl
  | σ, z :: r, b => setAll_append (σ.set z.1 (some z.2)) r b
theorem paired_append {α β : Type} {F : α → β → Prop} : ∀ {l l' : List α} {m m' : List β}, Paired F l m → Paired F l' m' → Paired F (l ++ l') (m ++ m')
  | _, _, _, _, .nil, h => h
  | _, _, _, _, .cons a r, h => .cons a (paired_append r h)
class DG (K : PySem.W.Frag) (g : TG) (f : outParam (D → Option (List (Nat × D)))) : Prop where
  run : ∀ (W : Wd) (σ : L2.St) (H : Hp) (v : V) (d : D) (us : List (Nat × D)) (Q : L2.St → Hp → Prop), At K W H v d → f d = some us → (∀ zs, Upd K W H zs us → Q (setAll σ zs) H) → g v σ H Q
class DGs (K : PySem.W.Frag) (g : TGs) (f : outParam (List D → Option (List (Nat × D)))) : Prop where
  run : ∀ (W : Wd) (σ : L2.St) (H : Hp) (vs : List V) (ds : List D) (us : List (Nat × D)) (Q : L2.St → Hp → Prop), AtAll K W H vs ds → f ds = some us → (∀ zs, Upd K W H zs us → Q (setAll σ zs) H) → g vs σ H Q
def aName (i : Nat) : D → Option (List (Nat × D)) := fun d => some [(i, d)]
instance {i : Nat} : DG K (gName i) (aName i) := ⟨fun W σ H v d us Q a e h => by
  cases e
  exact h [(i, v)] (.cons ⟨rfl, a⟩ .nil)⟩
def aGNil : List D → Option (List (Nat × D))
  | [] => some []
  | _ => none
def aGCons (f : D → Option (List (Nat × D))) (g : List D → Option (List (Nat × D))) : List D → Option (List (Nat × D))
  | d :: r => (match f d, g r with
    | some a, some b => some (a ++ b)
    | _, _ => none)
  | [] => none
instance : DGs K gNil aGNil := ⟨fun W σ H vs ds us Q a e h => by
  cases a with
  | nil => cases e; exact ⟨rfl, h [] .nil⟩
  | cons _ _ => cases e⟩
instance {t : TG} {u : TGs} {f : D → Option (List (Nat × D))} {g : List D → Option (List (Nat × D))} [DG K t f] [DGs K u g] : DGs K (gCons t u) (aGCons f g) := ⟨fun W σ H vs ds us Q a e h => by
  cases a with
  | nil => cases e
  | @cons v vs d ds a r =>
    unfold aGCons at e
    cases e1 : f d with
    | none => simp only [e1] at e; cases e
    | some x =>
      cases e2 : g ds with
      | none => simp only [e1, e2] at e; cases e
      | some y =>
        simp only [e1, e2] at e
        cases e
        refine ⟨_, _, rfl, DG.run (g := t) (f := f) W σ H _ _ x _ a e1 fun zs hz => ?_⟩
        refine DGs.run (g := u) (f := g) W (setAll σ zs) H _ _ y _ r e2 fun ws hw => ?_
        rw [← setAll_append]
        exact h _ (paired_append hz hw)⟩
def gTupK (K : PySem.W.Frag) (k : Nat) (t : TGs) : TG := fun v σ H Q => gTup K k t v σ H Q ∨ gLst K k t v σ H Q
theorem k_gtup {X : Cx} {es : List Expr} {k : Nat} {t : TGs} {pos : Pos} {m : Nat} (hK : X.K = K) (hc : X.calm = true) (h : PGs X es t)
    (hn : (assignEach es X.env).length = m := by rfl) (hst : (assignEach es X.env).findIdx? (·.1) = none := by rfl) : PG X (.Tuple es k pos) (gTupK K m t) := by
  subst hK
  refine ⟨fun pins s σ H v u Q I r hw => ?_⟩
  rcases hw with hw | hw
  · exact (pg_tup hc h hn hst).run pins s σ H v u Q I r hw
  · exact (pg_lst hc h hn hst).run pins s σ H v u Q I r hw
def aGTup (k : Nat) (g : List D → Option (List (Nat × D))) : D → Option (List (Nat × D))
  | .tup ds => (match Nat.beq ds.length k with
    | true => g ds
    | false => none)
  | .lst ds => (match Nat.beq ds.length k with
    | true => g ds
    | false => none)
  | _ => none
instance {k : Nat} {t : TGs} {g : List D → Option (List (Nat × D))} [DGs K t g] : DG K (gTupK K k t) (aGTup k g) := ⟨fun W σ H v d us Q a e h => by
  unfold aGTup at e
  split at e
  · split at e
    · rename_i hb
      cases a with
      | tup s a => exact .inl ⟨_, _, rfl, s, by rw [a.length]; exact Nat.eq_of_beq_eq_true hb, DGs.run (g := t) (f := g) W σ H _ _ us Q a e h⟩
    · cases e
  · split at e
    · rename_i hb
      cases a with
      | lst r s a => exact .inr ⟨_, _, rfl, SqL.of s, by rw [a.length]; exact Nat.eq_of_beq_eq_true hb, DGs.run (g := t) (f := g) W σ H _ _ us Q a e h⟩
    · cases e
  · cases e⟩
theorem wipe_set {σ : L2.St} {i : Nat} {v : Option V} : ∀ {vs : List Nat}, i ∈ vs → wipe (σ.set i v) vs = wipe σ vs
  | [], h => by cases h
  | w :: vs, h => by
    show (wipe (σ.set i v) vs).set w none = (wipe σ vs).set w none
    by_cases hi : i ∈ vs
    · rw [wipe_set hi]
    · have e : i = w := by
        rcases List.mem_cons.mp h with z | z
        · exact z
        · exact absurd z hi
      subst e
      have : ∀ us : List Nat, i ∉ us → wipe (σ.set i v) us = (wipe σ us).set i v := fun us => by
        induction us with
        | nil => intro _; rfl
        | cons u us ih =>
          intro hn
          show (wipe (σ.set i v) us).set u none = ((wipe σ us).set u none).set i v
          rw [ih (fun z => hn (List.mem_cons_of_mem _ z)), List.set_comm _ _ (fun z => hn (by rw [z]; exact List.mem_cons_self))]
      rw [this vs hi, List.set_set]
theorem wipe_setAll {vs : List Nat} : ∀ {zs : List (Nat × V)} {σ : L2.St}, (∀ z ∈ zs, z.1 ∈ vs) → wipe (setAll σ zs) vs = wipe σ vs
  | [], _, _ => rfl
  | z :: r, σ, h => by
    show wipe (setAll (σ.set z.1 (some z.2)) r) vs = _
    rw [wipe_setAll fun y hy => h y (List.mem_cons_of_mem _ hy), wipe_set (h z List.mem_cons_self)]
theorem upd_slots {W : Wd} {H : Hp} {p : Nat → Prop} : ∀ {zs : List (Nat × V)} {us : List (Nat × D)}, Upd K W H zs us → (∀ u ∈ us, p u.1) → ∀ z ∈ zs, p z.1
  | _, _, .nil, _, z, h => by cases h
  | _, _, .cons ⟨e, _⟩ r, hu, z, h => by
    rcases List.mem_cons.mp h with rfl | h
    · rw [e]
      exact hu _ List.mem_cons_self
    · exact upd_slots r (fun u hu' => hu u (List.mem_cons_of_mem _ hu')) z h
theorem EnvAt.setAll {W : Wd} {H : Hp} : ∀ {zs : List (Nat × V)} {us : List (Nat × D)} {σ : L2.St} {ρ : Env'}, EnvAt K W H σ ρ → Upd K W H zs us → EnvAt K W H (setAll σ zs) (eSetAll ρ us)
  | _, _, _, _, h, .nil => h
  | _, _, _, _, h, .cons (a := (i, v)) (b := (j, d)) ⟨e, a⟩ r => by
    cases (show i = j from e)
    have := EnvAt.setAll (h.set (i := i) a) r
    exact this
def Walks (K : PySem.W.Frag) (W : Wd) (J : It) (H : Hp) (ds : List D) : Prop := ∀ (W' : Wd), (∀ a, W'.rs a → ¬ W.rs a → H a = none) → W'.fx = W.fx → ∀ (H2 : Hp) (n2 : Nat), W'.le H H2 → W'.ok K n2 H2 → ∀ i : Nat,
  (∀ d, ds[i]? = some d → J.go i H2 ∧ ∀ x H3, J.yld i H2 x H3 → Same H2 H3 ∧ At K W' H3 x d) ∧ (ds.length ≤ i → J.stop i H2)
abbrev AI := Env' → Nat → (List D → Nat → Prop) → Prop
class DI (K : PySem.W.Frag) (wi : TI) (f : outParam AI) : Prop where
  run : ∀ (W : Wd) (σ : L2.St) (ρ : Env') (n : Nat) (H : Hp) (R : It → Hp → Prop) (Qa : List D → Nat → Prop), (∀ ds n', Qa ds n' → ∀ J H', W.le H H' → W.ok K n' H' → Walks K W J H' ds → R J H') → EnvAt K W H σ ρ → W.ok K n H → f ρ n Qa → wi σ H R
theorem Wd.ok.lk' {W W' : Wd} {H : Hp} {n : Nat} (o : W.ok K n H) (hr : ∀ a, W'.rs a → ¬ W.rs a → H a = none) : W'.lk H := fun a r ob e => by
  by_cases hw : W.rs a
  · exact o.lk a hw ob e
  · rw [hr a r hw] at e
    cases e
def iAny (K : PySem.W.Frag) (tl : TE) : TI := fun σ H R => tl σ H fun x H1 => ∃ a, x = .ref a ∧ (((∃ xs, SqL K H1 a xs) ∧ R (Itl K a) H1) ∨ ((∃ xs, SqT K H1 a xs) ∧ R (Itt K a) H1))
theorem k_iter {X : Cx} {tg l : Expr} {tl : TE} (hK : X.K = K) (hl : PE X l tl) : PI X tg l (iAny K tl) := by
  subst hK
  refine ⟨fun pins s σ H R I h => ?_⟩
  refine thn (hl.run pins s σ H _ I h) fun v s1 ⟨x, H1, I1, r1, q1⟩ => ?_
  obtain ⟨a, e, q1⟩ := q1
  subst e
  cases r1
  rcases q1 with ⟨⟨xs, hq⟩, q⟩ | ⟨⟨xs, hq⟩, q⟩
  · obtain ⟨its, rv, p, hz⟩ := I1.list hq
    refine wpAny_pyIter_list p.isList ?_
    refine ⟨s1.heap.objs.size, [s1.heap.objs.size], _, _, H1, rfl, I1.kept (t' := s1.toks) fun b o e => Heap.get?_push_of_some _ e, turn_list a _, ⟨_, Heap.get?_push_size _ rfl, rfl, rfl⟩, fun b hb => ?_, q⟩
    have e : b = s1.heap.objs.size := by simpa using hb
    subst e
    exact I1.fpOk (Nat.le_refl _) (I1.hok.fresh (Nat.le_refl _))
  · obtain ⟨its, rv, p, hz⟩ := I1.tuple hq
    refine wpAny_pyIter_tuple (show s1.heap.IsTuple a its.toArray from p) ?_
    refine ⟨s1.heap.objs.size, [s1.heap.objs.size], _, _, H1, rfl, I1.kept (t' := s1.toks) fun b o e => Heap.get?_push_of_some _ e, turn_tuple a _, ⟨_, Heap.get?_push_size _ rfl, rfl, rfl⟩, fun b hb => ?_, q⟩
    have e : b = s1.heap.objs.size := by simpa using hb
    subst e
    exact I1.fpOk (Nat.le_refl _) (I1.hok.fresh (Nat.le_refl _))
def aIter (f : AE) : AI := fun ρ n Q => f ρ n fun d n1 => match d with
  | .tup ds => Q ds n1
  | .lst ds => Q ds n1
  | _ => False
instance {tl : TE} {f : AE} [DE K tl f] : DI K (iAny K tl) (aIter f) := ⟨fun W σ ρ n H R Qa hQ hE o h =>
  DE.run (te := tl) (f := f) W σ ρ n H _ _ (fun d n1 h1 H1 x l1 o1 ax => by
    split at h1
    · cases ax with
      | tup s a =>
        refine ⟨_, rfl, .inr ⟨⟨_, s⟩, hQ _ _ h1 _ H1 l1 o1 fun W' hr hd H2 n2 l2 o2 i => ?_⟩⟩
        have s2 := sqt_lk (o1.lk' hr) l2 s
        refine ⟨fun d hd' => ?_, fun hi => ⟨_, s2, by rw [a.length]; exact hi⟩⟩
        obtain ⟨v, e1, e2⟩ := a.get hd'
        refine ⟨⟨_, v, s2, e1⟩, fun x H3 ⟨e3, e4⟩ => ?_⟩
        subst e3
        have := e4 _ s2
        rw [e1] at this
        cases this
        exact ⟨Same.refl _, At.lk (o1.lk' hr) l2 _ (At.ext hr hd _ e2)⟩
    · cases ax with
      | lst r s a =>
        refine ⟨_, rfl, .inl ⟨⟨_, SqL.of s⟩, hQ _ _ h1 _ H1 l1 o1 fun W' hr hd H2 n2 l2 o2 i => ?_⟩⟩
        have s2 : SqL K H2 _ _ := SqL.of (l2 _ _ (fun z => by rw [hr _ z r] at s; cases s) s)
        refine ⟨fun d hd' => ?_, fun hi => ⟨_, s2, by rw [a.length]; exact hi⟩⟩
        obtain ⟨v, e1, e2⟩ := a.get hd'
        refine ⟨⟨_, v, s2, e1⟩, fun x H3 ⟨e3, e4⟩ => ?_⟩
        subst e3
        have := e4 _ s2
        rw [e1] at this
        cases this
        exact ⟨Same.refl _, At.lk (o1.lk' hr) l2 _ (At.ext hr hd _ e2)⟩
    · exact h1.elim) hE o h⟩
def rangeD (lo : Int) : Nat → List D
  | 0 => []
  | k + 1 => .int lo :: rangeD (lo + 1) k
theorem rangeD_length (lo : Int) : ∀ k, (rangeD lo k).length = k
  | 0 => rfl
  | k + 1 => by rw [rangeD, List.length_cons, rangeD_length]
theorem rangeD_get : ∀ {lo : Int} {k i : Nat} {d : D}, (rangeD lo k)[i]? = some d → i < k ∧ d = .int (lo + i)
  | lo, 0, i, d, h => by cases h
  | lo, k + 1, 0, d, h => by
    cases h
    exact ⟨Nat.succ_pos _, by rw [Int.natCast_zero, Int.add_zero]⟩
  | lo, k + 1, i + 1, d, h => by
    obtain ⟨h1, h2⟩ := rangeD_get (lo := lo + 1) (k := k) (i := i) h
    refine ⟨Nat.succ_lt_succ h1, ?_⟩
    rw [h2]
    congr 1
    omega
def aRange1 (g : AA) : AI := fun ρ n Q => g ρ n fun ds n1 => match ds with
  | [.int j] => (-(2 ^ 62) ≤ j ∧ j < 2 ^ 62) ∧ Q (rangeD 0 j.toNat) n1
  | _ => False
def aRange2 (g : AA) : AI := fun ρ n Q => g ρ n fun ds n1 => match ds with
  | [.int i, .int j] => (-(2 ^ 62) ≤ i ∧ i < 2 ^ 62 ∧ -(2 ^ 62) ≤ j ∧ j < 2 ^ 62) ∧ Q (rangeD i (j - i).toNat) n1
  | _ => False
theorem range_walks {W : Wd} {lo : Int} {k : Nat} {H : Hp} : Walks K W (Itr lo k) H (rangeD lo k) := fun W' hr hd H2 n2 l2 o2 i => by
  refine ⟨fun d e => ?_, fun hi => by rw [rangeD_length] at hi; exact hi⟩
  obtain ⟨h1, rfl⟩ := rangeD_get e
  refine ⟨h1, fun x H3 ⟨e3, e4⟩ => ?_⟩
  subst e3 e4
  exact ⟨Same.refl _, .int _⟩
instance {ta : TA} {g : AA} [DA K ta g] : DI K (iRng1 ta) (aRange1 g) := ⟨fun W σ ρ n H R Qa hQ hE o h =>
  DA.run (te := ta) (f := g) W σ ρ n H _ _ (fun ds n1 h1 H1 vs l1 o1 ax => by
    split at h1
    · cases ax with
      | cons a r =>
        cases r
        cases a
        exact ⟨_, rfl, h1.1.1, h1.1.2, hQ _ _ h1.2 _ H1 l1 o1 range_walks⟩
    · exact h1.elim) hE o h⟩
instance {ta : TA} {g : AA} [DA K ta g] : DI K (iRng2 ta) (aRange2 g) := ⟨fun W σ ρ n H R Qa hQ hE o h =>
  DA.run (te := ta) (f := g) W σ ρ n H _ _ (fun ds n1 h1 H1 vs l1 o1 ax => by
    split at h1
    · cases ax with
      | cons a r =>
        cases r with
        | cons b r =>
          cases r
          cases a
          cases b
          exact ⟨_, _, rfl, h1.1, hQ _ _ h1.2 _ H1 l1 o1 range_walks⟩
    · exact h1.elim) hE o h⟩
def zipD : List D → List D → List D
  | a :: as, b :: bs => .tup [a, b] :: zipD as bs
  | _, _ => []
theorem zipD_get : ∀ {as bs : List D} {i : Nat} {d : D}, (zipD as bs)[i]? = some d → ∃ a b, as[i]? = some a ∧ bs[i]? = some b ∧ d = .tup [a, b]
  | [], _, _, _, h => by cases h
  | _ :: _, [], _, _, h => by cases h
  | a :: as, b :: bs, 0, d, h => by cases h; exact ⟨a, b, rfl, rfl, rfl⟩
  | a :: as, b :: bs, i + 1, d, h => zipD_get (as := as) (bs := bs) (i := i) h
theorem zipD_length : ∀ {as bs : List D}, (zipD as bs).length = min as.length bs.length
  | [], bs => by simp [zipD]
  | _ :: _, [] => by simp [zipD]
  | a :: as, b :: bs => by rw [zipD, List.length_cons, List.length_cons, List.length_cons, zipD_length, Nat.succ_min_succ]
def enumD (k : Nat) : List D → List D
  | [] => []
  | a :: as => .tup [.int k, a] :: enumD (k + 1) as
theorem enumD_get : ∀ {as : List D} {k i : Nat} {d : D}, (enumD k as)[i]? = some d → ∃ a, as[i]? = some a ∧ d = .tup [.int ((k + i : Nat) : Int), a]
  | [], _, _, _, h => by cases h
  | a :: as, k, 0, d, h => by cases h; exact ⟨a, rfl, rfl⟩
  | a :: as, k, i + 1, d, h => by
    obtain ⟨b, h1, h2⟩ := enumD_get (as := as) (k := k + 1) (i := i) h
    exact ⟨b, h1, by rw [h2]; congr 3; omega⟩
theorem enumD_length : ∀ {as : List D} {k : Nat}, (enumD k as).length = as.length
  | [], _ => rfl
  | a :: as, k => by rw [enumD, List.length_cons, List.length_cons, enumD_length]
end
section
variable {K : PySem.W.Frag}
theorem sql_lk {W : Wd} {H H' : Hp} {a : Addr} {xs : List V} (l : W.le H H') (r : ¬ W.rs a) (s : H a = some (.lst xs)) : SqL K H' a xs := SqL.of (l _ _ r s)
def iZipK (K : PySem.W.Frag) (ta : TA) : TI := RZ.iZipA K ta
def aZip (g : AA) : AI := fun ρ n Q => g ρ n fun ds n1 => match ds with
  | [.lst as, .lst bs] => Q (zipD as bs) n1
  | [.tup as, .tup bs] => Q (zipD as bs) n1
  | _ => False
instance {ta : TA} {g : AA} [DA K ta g] : DI K (iZipK K ta) (aZip g) := ⟨fun W σ ρ n H R Qa hQ hE o h =>
  DA.run (te := ta) (f := g) W σ ρ n H _ _ (fun ds n1 h1 H1 vs l1 o1 ax => by
    split at h1
    · cases ax with
      | cons a r =>
        cases r with
        | cons b r =>
          cases r
          cases a with
          | lst ra sa a =>
            cases b with
            | lst rb sb b =>
              refine ⟨_, _, _, _, rfl, .inl ⟨SqL.of sa, SqL.of sb, hQ _ _ h1 _ H1 l1 o1 fun W' hr hd H2 n2 l2 o2 i => ?_⟩⟩
              have s2 := sql_lk (K := K) l2 (fun z => by rw [hr _ z ra] at sa; cases sa) sa
              have s3 := sql_lk (K := K) l2 (fun z => by rw [hr _ z rb] at sb; cases sb) sb
              refine ⟨fun d e => ?_, fun hi => ⟨_, _, s2, s3, ?_⟩⟩
              · obtain ⟨x, y, e1, e2, rfl⟩ := zipD_get e
                obtain ⟨v, e1', a1⟩ := a.get e1
                obtain ⟨u, e2', a2⟩ := b.get e2
                refine ⟨⟨_, _, v, u, s2, s3, e1', e2'⟩, fun z H3 ⟨T, x', y', ez, hT, eH, e3, e4⟩ => ?_⟩
                have q1 := e3 _ s2
                have q2 := e4 _ s3
                rw [e1'] at q1
                rw [e2'] at q2
                cases q1
                cases q2
                subst ez eH
                have st : Same H2 (upd H2 T (.tup [v, u])) := same_upd hT
                refine ⟨st, .tup (.inl (.inl upd_same)) (.cons ?_ (.cons ?_ .nil))⟩
                · exact At.le o2 (Wd.le_same st) _ (At.lk (o1.lk' hr) l2 _ (At.ext hr hd _ a1))
                · exact At.le o2 (Wd.le_same st) _ (At.lk (o1.lk' hr) l2 _ (At.ext hr hd _ a2))
              · rw [zipD_length] at hi
                rw [a.length, b.length]
                omega
    · cases ax with
      | cons a r =>
        cases r with
        | cons b r =>
          cases r
          cases a with
          | tup sa a =>
            cases b with
            | tup sb b =>
              refine ⟨_, _, _, _, rfl, .inr ⟨sa, sb, hQ _ _ h1 _ H1 l1 o1 fun W' hr hd H2 n2 l2 o2 i => ?_⟩⟩
              have s2 := sqt_lk (o1.lk' hr) l2 sa
              have s3 := sqt_lk (o1.lk' hr) l2 sb
              refine ⟨fun d e => ?_, fun hi => ⟨_, _, s2, s3, ?_⟩⟩
              · obtain ⟨x, y, e1, e2, rfl⟩ := zipD_get e
                obtain ⟨v, e1', a1⟩ := a.get e1
                obtain ⟨u, e2', a2⟩ := b.get e2
                refine ⟨⟨_, _, v, u, s2, s3, e1', e2'⟩, fun z H3 ⟨T, x', y', ez, hT, eH, e3, e4⟩ => ?_⟩
                have q1 := e3 _ s2
                have q2 := e4 _ s3
                rw [e1'] at q1
                rw [e2'] at q2
                cases q1
                cases q2
                subst ez eH
                have st : Same H2 (upd H2 T (.tup [v, u])) := same_upd hT
                refine ⟨st, .tup (.inl (.inl upd_same)) (.cons ?_ (.cons ?_ .nil))⟩
                · exact At.le o2 (Wd.le_same st) _ (At.lk (o1.lk' hr) l2 _ (At.ext hr hd _ a1))
                · exact At.le o2 (Wd.le_same st) _ (At.lk (o1.lk' hr) l2 _ (At.ext hr hd _ a2))
              · rw [zipD_length] at hi
                rw [a.length, b.length]
                omega
    · exact h1.elim) hE o h⟩
def iEnumK (K : PySem.W.Frag) (ta : TA) : TI := iEnum K ta
def aEnum (g : AA) : AI := fun ρ n Q => g ρ n fun ds n1 => match ds with
  | [.lst as] => Q (enumD 0 as) n1
  | _ => False
instance {ta : TA} {g : AA} [DA K ta g] : DI K (iEnumK K ta) (aEnum g) := ⟨fun W σ ρ n H R Qa hQ hE o h =>
  DA.run (te := ta) (f := g) W σ ρ n H _ _ (fun ds n1 h1 H1 vs l1 o1 ax => by
    split at h1
    · cases ax with
      | cons a r =>
        cases r
        cases a with
        | lst ra sa a =>
          refine ⟨_, _, rfl, SqL.of sa, hQ _ _ h1 _ H1 l1 o1 fun W' hr hd H2 n2 l2 o2 i => ?_⟩
          have s2 := sql_lk (K := K) l2 (fun z => by rw [hr _ z ra] at sa; cases sa) sa
          refine ⟨fun d e => ?_, fun hi => ⟨_, s2, by rw [a.length]; rw [enumD_length] at hi; exact hi⟩⟩
          obtain ⟨x, e1, rfl⟩ := enumD_get e
          obtain ⟨v, e1', a1⟩ := a.get e1
          refine ⟨⟨_, v, s2, e1'⟩, fun z H3 ⟨T, x', ez, hT, eH, e3⟩ => ?_⟩
          have q1 := e3 _ s2
          rw [e1'] at q1
          cases q1
          subst ez eH
          have st : Same H2 (upd H2 T (.tup [.int i, v])) := same_upd hT
          refine ⟨st, .tup (.inl (.inl upd_same)) (.cons ?_ (.cons ?_ .nil))⟩
          · rw [Nat.zero_add]
            exact .int _
          · exact At.le o2 (Wd.le_same st) _ (At.lk (o1.lk' hr) l2 _ (At.ext hr hd _ a1))
    · exact h1.elim) hE o h⟩
def wipeA (ρ : Env') : List Nat → Env'
  | [] => ρ
  | v :: vs => eSet (wipeA ρ vs) v none
theorem EnvAt.wipe {W : Wd} {H : Hp} {σ : L2.St} {ρ : Env'} (h : EnvAt K W H σ ρ) : ∀ vs : List Nat, EnvAt K W H (L2.wipe σ vs) (wipeA ρ vs)
  | [] => h
  | v :: vs => by
    have ih := EnvAt.wipe h vs
    refine ⟨by show ((L2.wipe σ vs).set v none).length = (eSet (wipeA ρ vs) v none).length; rw [List.length_set, eSet_length]; exact ih.1, fun i d e => ?_⟩
    have e' : eGet (eSet (wipeA ρ vs) v none) i = some d := e
    by_cases hv : v = i
    · subst hv
      cases (eGet_set e').2
    · rw [eGet_ne hv] at e'
      obtain ⟨x, h1, h2⟩ := ih.2 i d e'
      exact ⟨x, by show ((L2.wipe σ vs).set v none)[i]? = _; rw [List.getElem?_set_ne hv]; exact h1, h2⟩
theorem wipe_wipe (σ : L2.St) (vs : List Nat) : wipe (wipe σ vs) vs = wipe σ vs := by
  have : ∀ us : List Nat, (∀ i ∈ us, i ∈ vs) → wipe (wipe σ us) vs = wipe σ vs := fun us => by
    induction us with
    | nil => intro _; rfl
    | cons u us ih =>
      intro h
      show wipe ((wipe σ us).set u none) vs = _
      rw [wipe_set (h u List.mem_cons_self), ih fun i hi => h i (List.mem_cons_of_mem _ hi)]
  exact this vs fun i hi => hi
def aPutC (vs : List Nat) (g : D → Option (List (Nat × D))) (d : D) (ρ : Env') (Q : Env' → Prop) : Prop := match g d with
  | some us => (match us.all fun u => vs.contains u.1 with
    | true => Q (eSetAll ρ us)
    | false => False)
  | none => False
def aLcGo (vs : List Nat) (G : D → Option (List (Nat × D))) (c : AT) (e : AE) (ρ : Env') (Q : D → Nat → Prop) : List D → List D → Nat → Prop
  | acc, [], n => Q (.lst acc) n
  | acc, d :: r, n => aPutC vs G d ρ fun ρ1 => c ρ1 n fun b n2 => aIte b (e ρ1 n2 fun y n3 => aLcGo vs G c e ρ Q (acc ++ [y]) r n3) (aLcGo vs G c e ρ Q acc r n2)
def aLc (I : AI) (G : D → Option (List (Nat × D))) (c : AT) (e : AE) (vs : List Nat) : AE := fun ρ n Q => I ρ n fun ds n1 => ds.length ≤ 1000000 ∧ aLcGo vs G c e (wipeA ρ vs) Q [] ds n1
theorem Wd.le_add {W : Wd} {p : Addr} {xs : HO} {H H1 H2 : Hp} (hp : H p = none) (l : W.le H H1) (l2 : (W.add (p, xs)).le H1 H2) : W.le H H2 := fun a o r e => by
  have ne : a ≠ p := ne_of_none e hp
  refine l2 a o ?_ (l a o r e)
  rintro (z | z)
  · exact r (.inl z)
  · rcases List.mem_cons.mp z with z | z
    · exact ne z
    · exact r (.inr z)
theorem Wd.ok_put {W : Wd} {p : Addr} {ys : HO} {n : Nat} {H : Hp} (hm : Mt ys) (hp : ¬ W.rs p) (hl : H p = none ∨ ∃ xs, H p = some (.lst xs)) (o : W.ok K n H) : (W.add (p, ys)).ok K n (upd H p ys) := by
  refine ⟨fun d b e => ?_, fun q hq => ?_, fun d b e q hq => ?_⟩
  · obtain ⟨c, D, l⟩ := o.deck d b e
    have n1 : p ≠ d := fun z => hp (.inl ⟨d, b, e, .inl z⟩)
    have n2 : p ≠ b := fun z => hp (.inl ⟨d, b, e, .inr z⟩)
    refine ⟨c, ?_, l⟩
    obtain ⟨⟨s, ns, cs, i, k, h1, h2, h3, h4⟩, ne⟩ := D
    refine ⟨⟨s, ns, cs, i, k, ?_, ?_, h3.upd hl, h4⟩, ne⟩
    · rw [upd_ne (Ne.symm n1)]; exact h1
    · rw [upd_ne (Ne.symm n2)]; exact h2
  · rcases List.mem_cons.mp hq with rfl | hq
    · exact ⟨upd_same, hm⟩
    · rw [upd_ne fun z => hp (.inr (List.mem_map.mpr ⟨q, hq, z⟩))]
      exact o.owns q hq
  · rcases List.mem_cons.mp hq with rfl | hq
    · exact ⟨fun z => hp (.inl ⟨d, b, e, .inl z⟩), fun z => hp (.inl ⟨d, b, e, .inr z⟩)⟩
    · exact o.dis d b e q hq
theorem Wd.ok.drop {W : Wd} {q : Addr × HO} {n : Nat} {H : Hp} (o : (W.add q).ok K n H) : W.ok K n H := ⟨o.deck, fun p hp => o.owns p (List.mem_cons_of_mem _ hp), fun d b e p hp => o.dis d b e p (List.mem_cons_of_mem _ hp)⟩
theorem Wd.le_more {W : Wd} {q : Addr × HO} {H H' : Hp} (l : W.le H H') : (W.add q).le H H' := fun a o r e => l a o (fun z => r (by
  rcases z with z | z
  · exact .inl z
  · exact .inr (List.mem_cons_of_mem _ z))) e
theorem Wd.le_own {W : Wd} {p : Addr} {xs : HO} {ob : HO} {H : Hp} : (W.add (p, xs)).le H (upd H p ob) := fun a o r e => by
  rw [upd_ne fun z => r (.inr (by rw [z]; exact List.mem_cons_self))]
  exact e
theorem EnvAt.ext {W W' : Wd} {H : Hp} {σ : L2.St} {ρ : Env'} (hr : ∀ a, W'.rs a → ¬ W.rs a → H a = none) (hd : W'.fx = W.fx) (h : EnvAt K W H σ ρ) : EnvAt K W' H σ ρ := ⟨h.1, fun i d e => let ⟨v, e', a⟩ := h.2 i d e; ⟨v, e', At.ext hr hd d a⟩⟩
theorem EnvAt.lk {W : Wd} {H H' : Hp} {σ : L2.St} {ρ : Env'} (h : EnvAt K W H σ ρ) (o : W.lk H) (l : W.le H H') : EnvAt K W H' σ ρ := ⟨h.1, fun i d e => let ⟨v, e', a⟩ := h.2 i d e; ⟨v, e', At.lk o l d a⟩⟩
theorem Wd.rs_new {W : Wd} {p : Addr} {xs : HO} {H : Hp} (hp : H p = none) : ∀ a, (W.add (p, xs)).rs a → ¬ W.rs a → H a = none := fun a z r => by
  rcases z with z | z
  · exact absurd (.inl z) r
  · rcases List.mem_cons.mp z with z | z
    · have z' : a = p := z
      rw [z']
      exact hp
    · exact absurd (.inr z) r
instance {wi : TI} {g : TG} {tt : TT} {te : TE} {vs : List Nat} {I : AI} {G : D → Option (List (Nat × D))} {c : AT} {e : AE} [DI K wi I] [DG K g G] [DT K tt c] [DE K te e] : DE K (tLc wi g tt te vs) (aLc I G c e vs) := ⟨fun W σ ρ n H Q Qa hQ hE o h => by
  refine DI.run (wi := wi) (f := I) W σ ρ n H _ _ (fun ds n1 h1 J H1 l1 o1 hw Dl hDl => ?_) hE o h
  obtain ⟨hlen, h1⟩ := h1
  have nrs : ¬ W.rs Dl := o1.fresh hDl
  refine ⟨fun i m H' => m = ds.length - i ∧ i ≤ ds.length ∧ ∃ n' us acc, aLcGo vs G c e (wipeA ρ vs) Qa acc (ds.drop i) n' ∧ (W.add (Dl, .lst us)).ok K n' H' ∧ AtAll K (W.add (Dl, .lst us)) H' us acc ∧ W.le H1 H' ∧ us.length ≤ i, ⟨_, rfl, Nat.zero_le _, n1, [], [], h1, Wd.ok_put trivial nrs (.inl hDl) o1, .nil, Wd.le_same (same_upd hDl), Nat.le_refl _⟩, ?_⟩
  rintro i m H2 ⟨rfl, hi, n2, us, acc, h2, o2, a2, l2, hul⟩
  have rn := Wd.rs_new (W := W) (xs := .lst us) hDl
  obtain ⟨w1, w2⟩ := hw (W.add (Dl, .lst us)) rn rfl H2 n2 (Wd.le_more l2) o2 i
  by_cases hlt : i < ds.length
  · rw [List.drop_eq_getElem_cons hlt] at h2
    obtain ⟨hgo, hy⟩ := w1 ds[i] (List.getElem?_eq_getElem hlt)
    refine .inr ⟨hgo, fun H' => ∃ m', m' < ds.length - i ∧ m' = ds.length - (i + 1) ∧ i + 1 ≤ ds.length ∧ ∃ n' us acc, aLcGo vs G c e (wipeA ρ vs) Qa acc (ds.drop (i + 1)) n' ∧ (W.add (Dl, .lst us)).ok K n' H' ∧ AtAll K (W.add (Dl, .lst us)) H' us acc ∧ W.le H1 H' ∧ us.length ≤ i + 1, fun H' q => q, fun x H3 hx => ?_⟩
    obtain ⟨s3, a3⟩ := hy x H3 hx
    have l3 : (W.add (Dl, .lst us)).le H2 H3 := Wd.le_same s3
    have o3 := o2.same s3
    have hE3 : EnvAt K (W.add (Dl, .lst us)) H3 (wipe σ vs) (wipeA ρ vs) := (((hE.le o l1).ext rn rfl).lk (o1.lk' rn) ((Wd.le_more l2).trans l3)).wipe vs
    unfold aLcGo aPutC at h2
    split at h2
    · rename_i xs ex
      split at h2
      · rename_i hc
        refine DG.run (g := g) (f := G) _ (wipe σ vs) H3 x _ xs _ a3 ex fun zs hz => ?_
        have hE4 := hE3.setAll hz
        have hv : ∀ z ∈ zs, z.1 ∈ vs := upd_slots hz fun u hu => List.contains_iff_mem.mp (List.all_eq_true.mp hc u hu)
        refine ⟨by rw [wipe_setAll hv, wipe_wipe], DT.run (te := tt) (f := c) _ _ _ n2 H3 _ _ (fun b n5 h5 H5 l5 o5 => ?_) hE4 o3 h2⟩
        have l25 := l3.trans l5
        cases b with
        | true =>
          rw [if_pos rfl]
          refine DE.run (te := te) (f := e) _ _ _ n5 H5 _ _ (fun y n6 h6 H6 v l6 o6 a6 => ?_) (hE4.le o3 l5) o5 (h5.1 rfl)
          have hD6 : H6 Dl = some (.lst us) := (o6.owns (Dl, .lst us) List.mem_cons_self).1
          have l26 := l25.trans l6
          refine ⟨us, hD6, Nat.lt_of_lt_of_le (show us.length < 1000000 by omega) lim, _, by omega, rfl, hlt, n6, us ++ [v], acc ++ [y], h6, Wd.ok_put trivial nrs (.inr ⟨_, hD6⟩) o6.drop, ?_, Wd.le_add hDl l2 (l26.trans (Wd.le_own (ob := .lst (us ++ [v])))), by rw [List.length_append, List.length_singleton]; omega⟩
          have key : AtAll K (W.add (Dl, .lst us)) H6 (us ++ [v]) (acc ++ [y]) := (AtAll.le o2 l26 _ a2).append (.cons a6 .nil)
          exact AtAll.weak (W := W.add (Dl, .lst us)) (W' := W.add (Dl, .lst (us ++ [v]))) (fun a z => z) rfl _ (AtAll.le o6 (Wd.le_own (ob := .lst (us ++ [v]))) _ key)
        | false =>
          rw [if_neg Bool.false_ne_true]
          exact ⟨_, by omega, rfl, hlt, n5, us, acc, h5.2 rfl, o5, AtAll.le o2 l25 _ a2, Wd.le_add hDl l2 l25, by omega⟩
      · exact h2.elim
    · exact h2.elim
  · have ei : i = ds.length := by omega
    subst ei
    rw [List.drop_length] at h2
    have hD2 : H2 Dl = some (.lst us) := (o2.owns (Dl, .lst us) List.mem_cons_self).1
    exact .inl ⟨w2 (Nat.le_refl _), hQ _ _ h2 H2 _ (l1.trans l2) o2.drop (.lst nrs hD2 (AtAll.weak (fun a z => Wd.rs_add z) rfl _ a2))⟩⟩
def tRevK (K : PySem.W.Frag) (te : TE) : TE := tRevL K te
theorem k_rev {X : Cx} {e : Expr} {te : TE} {k : Nat} {p1 p2 p3 pos : Pos} (hK : X.K = K) (he : PE X e te) : PE X (.Subscript e (.Slice none none (some (.UnaryOp .USub (.Constant (.int 1) k p1) p2)) p3) pos) (tRevK K te) := hK ▸ pe_revL he
def aRev (f : AE) : AE := fun ρ n Q => f ρ n fun d n1 => match d with
  | .lst ds => Q (.lst ds.reverse) n1
  | _ => False
instance {te : TE} {f : AE} [DE K te f] : DE K (tRevK K te) (aRev f) := ⟨fun W σ ρ n H Q Qa hQ hE o h =>
  DE.run (te := te) (f := f) W σ ρ n H _ _ (fun d n1 h1 H1 x l1 o1 ax => by
    split at h1
    · cases ax with
      | lst r s a => exact ⟨_, _, rfl, SqL.of s, fun p hp => (hQ.le l1).new o1 h1 hp (.lst (o1.fresh hp) upd_same (AtAll.le o1 (Wd.le_same (same_upd hp)) _ (rev_at a)))⟩
    · exact h1.elim) hE o h⟩
end
section
variable {K : PySem.W.Frag}
def Wd.plus (W : Wd) (U : List (Addr × HO)) : Wd := { W with own := U ++ W.own }
theorem Wd.plus_all {W : Wd} {U : List (Addr × HO)} : (W.plus U).all = U ++ W.all := by
  first
    | exact List.append_assoc _ _ _
    | rfl
theorem mem_pl {W : Wd} {U : List (Addr × HO)} {u : Addr × HO} (h : u ∈ U) : u ∈ (W.plus U).all := by
  rw [Wd.plus_all]
  exact List.mem_append_left _ h
theorem mem_pr {W : Wd} {U : List (Addr × HO)} {u : Addr × HO} (h : u ∈ W.all) : u ∈ (W.plus U).all := by
  rw [Wd.plus_all]
  exact List.mem_append_right _ h
theorem mem_pc {W : Wd} {U : List (Addr × HO)} {u : Addr × HO} (h : u ∈ (W.plus U).all) : u ∈ U ∨ u ∈ W.all := by
  rw [Wd.plus_all] at h
  exact List.mem_append.mp h
inductive OwAt (K : PySem.W.Frag) (W : Wd) (H : Hp) : HO → D → Prop
  | lst {us : List V} {ds : List D} : AtAll K W H us ds → OwAt K W H (.lst us) (.lst ds)
  | dic {ks : List Key} {us : List V} {ds : List D} : ks.length = us.length → AtAll K W H us ds → OwAt K W H (.dK (ks.zip us)) (.dic ks ds)
structure SOk (K : PySem.W.Frag) (W : Wd) (ow : List Nat) (n : Nat) (H : Hp) (σ : L2.St) (ρ : Env') (U : List (Addr × HO)) : Prop where
  nd : (U.map (·.1)).Nodup
  nr : ∀ u ∈ U, ¬ W.rs u.1
  ok : (W.plus U).ok K n H
  len : σ.length = ρ.length
  env : ∀ i d, i ∉ ow → eGet ρ i = some d → ∃ v, σ[i]? = some (some v) ∧ At K (W.plus U) H v d
  own : ∀ i d, i ∈ ow → eGet ρ i = some d → ∃ u ∈ U, σ[i]? = some (some (.ref u.1)) ∧ OwAt K (W.plus U) H u.2 d
  dst : ∀ i j p, i ∈ ow → j ∈ ow → i ≠ j → σ[i]? = some (some (.ref p)) → σ[j]? = some (some (.ref p)) → eGet ρ i = none ∨ eGet ρ j = none
structure Stp (W : Wd) (U : List (Addr × HO)) (H : Hp) (U' : List (Addr × HO)) (H' : Hp) : Prop where
  le : (W.plus U).le H H'
  new : ∀ a, (W.plus U').rs a → ¬ (W.plus U).rs a → H a = none
  old : ∀ a, (W.plus U).rs a → (W.plus U').rs a
theorem Stp.refl {W : Wd} {U : List (Addr × HO)} {H : Hp} : Stp W U H U H := ⟨Wd.le_refl, fun a h g => absurd h g, fun a h => h⟩
theorem Stp.trans {W : Wd} {U U1 U2 : List (Addr × HO)} {H H1 H2 : Hp} (s : Stp W U H U1 H1) (t : Stp W U1 H1 U2 H2) : Stp W U H U2 H2 := by
  have key : ∀ a o, ¬ (W.plus U).rs a → H a = some o → ¬ (W.plus U1).rs a := fun a o r e z => by
    rw [s.new a z r] at e
    cases e
  refine ⟨fun a o r e => t.le a o (key a o r e) (s.le a o r e), fun a z r => ?_, fun a h => t.old a (s.old a h)⟩
  by_cases h1 : (W.plus U1).rs a
  · exact s.new a h1 r
  · have h2 := t.new a z h1
    cases e : H a with
    | none => rfl
    | some o =>
      rw [s.le a o r e] at h2
      cases h2
theorem Wd.rs_plus {W : Wd} {U : List (Addr × HO)} {a : Addr} : (W.plus U).rs a ↔ a ∈ U.map (·.1) ∨ W.rs a := by
  constructor
  · rintro (h | h)
    · exact .inr (.inl h)
    · have h' : a ∈ (W.plus U).all.map (·.1) := h
      rw [Wd.plus_all, List.map_append] at h'
      rcases List.mem_append.mp h' with h | h
      · exact .inl h
      · exact .inr (.inr h)
  · rintro (h | h | h)
    · refine .inr (show a ∈ (W.plus U).all.map (·.1) from ?_)
      rw [Wd.plus_all, List.map_append]
      exact List.mem_append_left _ h
    · exact .inl h
    · refine .inr (show a ∈ (W.plus U).all.map (·.1) from ?_)
      rw [Wd.plus_all, List.map_append]
      exact List.mem_append_right _ h
section
variable {W : Wd} {ow : List Nat} {n : Nat} {H H1 : Hp} {σ : L2.St} {ρ : Env'} {U : List (Addr × HO)}
theorem wipeA_get : ∀ {ow : List Nat} {i : Nat} {d : D}, eGet (wipeA ρ ow) i = some d → i ∉ ow ∧ eGet ρ i = some d
  | [], i, d, h => ⟨fun z => (by cases z), h⟩
  | w :: ow, i, d, h => by
    have h' : eGet (eSet (wipeA ρ ow) w none) i = some d := h
    by_cases e : w = i
    · subst e
      cases (eGet_set h').2
    · rw [eGet_ne e] at h'
      obtain ⟨h1, h2⟩ := wipeA_get h'
      exact ⟨fun z => (List.mem_cons.mp z).elim (fun q => e q.symm) h1, h2⟩
theorem wipeA_length : ∀ ow : List Nat, (wipeA ρ ow).length = ρ.length
  | [] => rfl
  | w :: ow => by
    show (eSet (wipeA ρ ow) w none).length = _
    rw [eSet_length, wipeA_length ow]
theorem SOk.hid (s : SOk K W ow n H σ ρ U) : EnvAt K (W.plus U) H σ (wipeA ρ ow) := ⟨by rw [wipeA_length]; exact s.len, fun i d e => let ⟨h1, h2⟩ := wipeA_get e; s.env i d h1 h2⟩
theorem SOk.base (s : SOk K W ow n H σ ρ U) : W.ok K n H := ⟨s.ok.deck, fun p hp => s.ok.owns p (mem_pr hp), fun d b e p hp => s.ok.dis d b e p (mem_pr hp)⟩
theorem SOk.opn (s : SOk K W ow n H σ ρ U) : EnvAt K W H σ ρ := by
  have hw : ∀ a, W.rs a → (W.plus U).rs a := fun a h => Wd.rs_plus.mpr (.inr h)
  refine ⟨s.len, fun i d e => ?_⟩
  by_cases hi : i ∈ ow
  · obtain ⟨⟨q, ob⟩, hu, e1, a⟩ := s.own i d hi e
    refine ⟨_, e1, ?_⟩
    have h1 := (s.ok.owns _ (mem_pl hu)).1
    cases a with
    | lst a => exact .lst (s.nr _ hu) h1 (AtAll.weak hw rfl _ a)
    | dic l a => exact .dic (s.nr _ hu) h1 l (AtAll.weak hw rfl _ a)
  · obtain ⟨v, e1, a⟩ := s.env i d hi e
    exact ⟨v, e1, At.weak hw rfl _ a⟩
theorem OwAt.le {ob : HO} {d : D} (o : W.ok K n H) (l : W.le H H1) (h : OwAt K W H ob d) : OwAt K W H1 ob d := by
  cases h with
  | lst a => exact .lst (AtAll.le o l _ a)
  | dic e a => exact .dic e (AtAll.le o l _ a)
theorem SOk.le {n1 : Nat} (s : SOk K W ow n H σ ρ U) (l : (W.plus U).le H H1) (o : (W.plus U).ok K n1 H1) : SOk K W ow n1 H1 σ ρ U :=
  ⟨s.nd, s.nr, o, s.len, fun i d h e => let ⟨v, e1, a⟩ := s.env i d h e; ⟨v, e1, At.le s.ok l _ a⟩, fun i d h e => let ⟨u, hu, e1, a⟩ := s.own i d h e; ⟨u, hu, e1, a.le s.ok l⟩, s.dst⟩
theorem SOk.lo {n1 : Nat} (s : SOk K W ow n H σ ρ U) (l : W.le H H1) (o : W.ok K n1 H1) : SOk K W ow n1 H1 σ ρ U := by
  have l' : (W.plus U).le H H1 := fun a ob r e => l a ob (fun z => r (Wd.rs_plus.mpr (.inr z))) e
  refine s.le l' ⟨o.deck, fun p hp => ?_, s.ok.dis⟩
  rcases mem_pc hp with hp' | hp'
  · obtain ⟨h1, h2⟩ := s.ok.owns p hp
    exact ⟨l _ _ (s.nr p hp') h1, h2⟩
  · exact o.owns p hp'
theorem lo_le (l : W.le H H1) : (W.plus U).le H H1 := fun a ob r e => l a ob (fun z => r (Wd.rs_plus.mpr (.inr z))) e
theorem SOk.set {i : Nat} {v : V} {d : D} (s : SOk K W ow n H σ ρ U) (hi : i ∉ ow) (a : At K (W.plus U) H v d) : SOk K W ow n H (σ.set i (some v)) (eSet ρ i (some d)) U := by
  refine ⟨s.nd, s.nr, s.ok, by rw [List.length_set, eSet_length]; exact s.len, fun j e hj he => ?_, fun j e hj he => ?_, fun j k p hj hk ne h1 h2 => ?_⟩
  · by_cases hij : i = j
    · subst hij
      obtain ⟨hl, he⟩ := eGet_set he
      cases he
      exact ⟨v, by rw [List.getElem?_set_self (by rw [s.len]; exact hl)], a⟩
    · rw [eGet_ne hij] at he
      rw [List.getElem?_set_ne hij]
      exact s.env j e hj he
  · have hij : i ≠ j := fun z => hi (z ▸ hj)
    rw [eGet_ne hij] at he
    rw [List.getElem?_set_ne hij]
    exact s.own j e hj he
  · have hij : i ≠ j := fun z => hi (z ▸ hj)
    have hik : i ≠ k := fun z => hi (z ▸ hk)
    rw [List.getElem?_set_ne hij] at h1
    rw [List.getElem?_set_ne hik] at h2
    rw [eGet_ne hij, eGet_ne hik]
    exact s.dst j k p hj hk ne h1 h2
theorem SOk.setAll : ∀ {zs : List (Nat × V)} {us : List (Nat × D)} {σ : L2.St} {ρ : Env'}, SOk K W ow n H σ ρ U → Upd K (W.plus U) H zs us → (∀ u ∈ us, u.1 ∉ ow) → SOk K W ow n H (R.setAll σ zs) (eSetAll ρ us) U
  | _, _, _, _, s, .nil, _ => s
  | _, _, _, _, s, .cons (a := (i, v)) (b := (j, d)) ⟨e, a⟩ r, h => by
    cases (show i = j from e)
    have := SOk.setAll (s.set (h _ List.mem_cons_self) a) r fun u hu => h u (List.mem_cons_of_mem _ hu)
    exact this
end
structure AEn where
  nx : Env' → Nat → Prop
  rt : D → Nat → Prop
  bk : Env' → Nat → Prop := fun _ _ => False
  ct : Env' → Nat → Prop := fun _ _ => False
  ex : Env' → Addr → List Str → List D → Nat → Prop := fun _ _ _ _ _ => False
def XdAt (K : PySem.W.Frag) (W : Wd) (H : Hp) (d : Option Addr) (ns : List Str) (ds : List D) : Prop := At K W H (.ref 0) (.xcp 0 0 d ns ds)
theorem XdAt.any {K : PySem.W.Frag} {W : Wd} {H : Hp} {d : Option Addr} {ns : List Str} {ds : List D} (h : XdAt K W H d ns ds) (a C : Addr) : At K W H (.ref a) (.xcp a C d ns ds) := by
  unfold XdAt at h
  cases h with
  | xcp0 => exact .xcp0
  | xcp1 s e b => exact .xcp1 s e b
def W0 : WX := fun _ _ _ _ => False
def WantsX (K : PySem.W.Frag) (W : Wd) (ow : List Nat) (U : List (Addr × HO)) (H : Hp) (Xa : Env' → Addr → List Str → List D → Nat → Prop) (Wx : WX) : Prop :=
  ∀ ρ' C ns ds n', Xa ρ' C ns ds n' → ∀ U' σ' H' d, Stp W U H U' H' → SOk K W ow n' H' σ' ρ' U' → XdAt K (W.plus U') H' d ns ds → Wx (.ref C) d σ' H'
theorem WantsX.le {W : Wd} {ow : List Nat} {U U1 : List (Addr × HO)} {H H1 : Hp} {Xa : Env' → Addr → List Str → List D → Nat → Prop} {Wx : WX} (h : WantsX K W ow U H Xa Wx) (s : Stp W U H U1 H1) : WantsX K W ow U1 H1 Xa Wx := fun ρ' C ns ds n' q U' σ' H' d l' a x => h ρ' C ns ds n' q U' σ' H' d (s.trans l') a x
def WantsE (K : PySem.W.Frag) (W : Wd) (ow : List Nat) (U : List (Addr × HO)) (H : Hp) (Qa : Env' → Nat → Prop) (Q : L2.St → Hp → Prop) : Prop :=
  ∀ ρ' n', Qa ρ' n' → ∀ U' σ' H', Stp W U H U' H' → SOk K W ow n' H' σ' ρ' U' → Q σ' H'
theorem WantsE.le {W : Wd} {ow : List Nat} {U U1 : List (Addr × HO)} {H H1 : Hp} {Qa : Env' → Nat → Prop} {Q : L2.St → Hp → Prop} (h : WantsE K W ow U H Qa Q) (s : Stp W U H U1 H1) : WantsE K W ow U1 H1 Qa Q := fun ρ' n' q U' σ' H' l' a => h ρ' n' q U' σ' H' (s.trans l') a
def WantsR (K : PySem.W.Frag) (W : Wd) (U : List (Addr × HO)) (H : Hp) (Qa : D → Nat → Prop) (Q : VK) : Prop := ∀ d n', Qa d n' → ∀ U1 H1 H' v, Stp W U H U1 H1 → W.le H1 H' → W.ok K n' H' → At K W H' v d → Q v H'
theorem WantsR.le {W : Wd} {U U1 : List (Addr × HO)} {H H1 : Hp} {Qa : D → Nat → Prop} {Q : VK} (h : WantsR K W U H Qa Q) (s : Stp W U H U1 H1) : WantsR K W U1 H1 Qa Q := fun d n' q U' H' H2 v l' l2 o a => h d n' q U' H' H2 v (s.trans l') l2 o a
structure EndsOk (K : PySem.W.Frag) (Wx : WX) (W : Wd) (ow : List Nat) (U : List (Addr × HO)) (H : Hp) (Ea : AEn) (E : Ends) : Prop where
  nx : WantsE K W ow U H Ea.nx E.nx
  rt : WantsR K W U H Ea.rt E.rt
  bk : WantsE K W ow U H Ea.bk E.bk
  ct : WantsE K W ow U H Ea.ct E.ct
  ex : WantsX K W ow U H Ea.ex Wx
theorem EndsOk.le {Wx : WX} {W : Wd} {ow : List Nat} {U U1 : List (Addr × HO)} {H H1 : Hp} {Ea : AEn} {E : Ends} (h : EndsOk K Wx W ow U H Ea E) (l : Stp W U H U1 H1) : EndsOk K Wx W ow U1 H1 Ea E := ⟨h.nx.le l, h.rt.le l, h.bk.le l, h.ct.le l, h.ex.le l⟩
abbrev AS := AEn → Env' → Nat → Prop
class DS (K : PySem.W.Frag) (Wx : WX) (ow : List Nat) (t : TS) (f : outParam AS) : Prop where
  run : ∀ (W : Wd) (U : List (Addr × HO)) (σ : L2.St) (ρ : Env') (n : Nat) (H : Hp) (E : Ends) (Ea : AEn), EndsOk K Wx W ow U H Ea E → SOk K W ow n H σ ρ U → f Ea ρ n → t E σ H
variable {ow : List Nat} {Wx : WX}
def aNext : AS := fun E ρ n => E.nx ρ n
def aSeq (f g : AS) : AS := fun E ρ n => f { E with nx := fun ρ' n' => g E ρ' n' } ρ n
instance : DS K Wx ow tNext aNext := ⟨fun W U σ ρ n H E Ea hD s h => hD.nx _ _ h U σ H Stp.refl s⟩
instance {t u : TS} {f g : AS} [DS K Wx ow t f] [DS K Wx ow u g] : DS K Wx ow (tSeq t u) (aSeq f g) := ⟨fun W U σ ρ n H E Ea hD s h =>
  DS.run (ow := ow) (t := t) (f := f) W U σ ρ n H _ { Ea with nx := fun ρ' n' => g Ea ρ' n' } ⟨fun ρ1 n1 h1 U1 σ1 H1 l1 s1 => DS.run (ow := ow) (t := u) (f := g) W U1 σ1 ρ1 n1 H1 E Ea (hD.le l1) s1 h1, hD.rt, hD.bk, hD.ct, hD.ex⟩ s h⟩
instance : DS K Wx ow tNever (fun _ _ _ => False) := ⟨fun W U σ ρ n H E Ea hD s h => h⟩
def aBrk : AS := fun E ρ n => E.bk ρ n
def aCnt : AS := fun E ρ n => E.ct ρ n
instance : DS K Wx ow tBreak aBrk := ⟨fun W U σ ρ n H E Ea hD s h => hD.bk _ _ h U σ H Stp.refl s⟩
instance : DS K Wx ow tCont aCnt := ⟨fun W U σ ρ n H E Ea hD s h => hD.ct _ _ h U σ H Stp.refl s⟩
theorem Stp.hid {W : Wd} {U : List (Addr × HO)} {H H1 : Hp} (l : (W.plus U).le H H1) : Stp W U H U H1 := ⟨l, fun a h g => absurd h g, fun a h => h⟩
def aDrop (ow : List Nat) (f : AE) : AS := fun E ρ n => f (wipeA ρ ow) n fun _ n1 => E.nx ρ n1
instance {te : TE} {f : AE} [DE K te f] : DS K Wx ow (tDrop te) (aDrop ow f) := ⟨fun W U σ ρ n H E Ea hD s h =>
  DE.run (te := te) (f := f) (W.plus U) σ _ n H _ _ (fun d n1 h1 H1 x l1 o1 ax => hD.nx _ _ h1 U σ H1 (.hid l1) (s.le l1 o1)) s.hid s.ok h⟩
def aRet (f : AE) : AS := fun E ρ n => f ρ n E.rt
instance {te : TE} {f : AE} [DE K te f] : DS K Wx ow (tRet te) (aRet f) := ⟨fun W U σ ρ n H E Ea hD s h => DE.run (te := te) (f := f) W σ ρ n H _ _ (fun d n1 h1 H1 x l1 o1 ax => hD.rt d n1 h1 U H H1 x Stp.refl l1 o1 ax) s.opn s.base h⟩
def aRetN : AS := fun E _ n => E.rt .non n
instance : DS K Wx ow tRetN aRetN := ⟨fun W U σ ρ n H E Ea hD s h => hD.rt _ _ h U H H _ Stp.refl Wd.le_refl s.base .non⟩
def aIfS (c : AT) (f g : AS) : AS := fun E ρ n => c ρ n fun b n1 => aIte b (f E ρ n1) (g E ρ n1)
instance {tc : TT} {t u : TS} {c : AT} {f g : AS} [DT K tc c] [DS K Wx ow t f] [DS K Wx ow u g] : DS K Wx ow (tIfS tc t u) (aIfS c f g) := ⟨fun W U σ ρ n H E Ea hD s h =>
  DT.run (te := tc) (f := c) W σ ρ n H _ _ (fun b n1 h1 H1 l1 o1 => by
    have st : Stp W U H U H1 := .hid (lo_le l1)
    cases b with
    | true => rw [if_pos rfl]; exact DS.run (ow := ow) (t := t) (f := f) W U σ ρ n1 H1 E Ea (hD.le st) (s.lo l1 o1) (h1.1 rfl)
    | false => rw [if_neg Bool.false_ne_true]; exact DS.run (ow := ow) (t := u) (f := g) W U σ ρ n1 H1 E Ea (hD.le st) (s.lo l1 o1) (h1.2 rfl)) s.opn s.base h⟩
def aPut (ow : List Nat) (g : D → Option (List (Nat × D))) (d : D) (ρ : Env') (Q : Env' → Prop) : Prop := match g d with
  | some us => (match us.all fun u => !ow.contains u.1 with
    | true => Q (eSetAll ρ us)
    | false => False)
  | none => False
def aAsg (ow : List Nat) (f : AE) (g : D → Option (List (Nat × D))) : AS := fun E ρ n => f (wipeA ρ ow) n fun d n1 => aPut ow g d ρ fun ρ' => E.nx ρ' n1
theorem put_run {W : Wd} {U : List (Addr × HO)} {g : TG} {a : D → Option (List (Nat × D))} [DG K g a] {σ : L2.St} {ρ : Env'} {n : Nat} {H : Hp} {v : V} {d : D} {Qa : Env' → Prop} {Q : L2.St → Hp → Prop} (s : SOk K W ow n H σ ρ U) (ax : At K (W.plus U) H v d) (h : aPut ow a d ρ Qa)
    (hQ : ∀ ρ' σ', Qa ρ' → SOk K W ow n H σ' ρ' U → Q σ' H) : g v σ H Q := by
  unfold aPut at h
  split at h
  · rename_i us e
    split at h
    · rename_i hc
      refine DG.run (g := g) (f := a) (W.plus U) σ H v d us Q ax e fun zs hz => hQ _ _ h (s.setAll hz fun u hu hin => ?_)
      have := List.all_eq_true.mp hc u hu
      rw [List.contains_iff_mem.mpr hin] at this
      cases this
    · exact h.elim
  · exact h.elim
instance {te : TE} {g : TG} {f : AE} {a : D → Option (List (Nat × D))} [DE K te f] [DG K g a] : DS K Wx ow (tAsg te g) (aAsg ow f a) := ⟨fun W U σ ρ n H E Ea hD s h =>
  DE.run (te := te) (f := f) (W.plus U) σ _ n H _ _ (fun d n1 h1 H1 x l1 o1 ax => put_run (g := g) (a := a) (s.le l1 o1) ax h1 fun ρ' σ' q s' => hD.nx _ _ q U σ' H1 (.hid l1) s') s.hid s.ok h⟩
def tOpen (te : TE) : TE := te
mutual
def D.sc : D → Bool
  | .non => true | .bl _ => true | .int _ => true | .str _ => true | .tup ds => scAll ds
  | _ => false
def scAll : List D → Bool
  | [] => true
  | d :: ds => d.sc && scAll ds
end
mutual
theorem sc_at' {W W' : Wd} {H : Hp} : ∀ (d : D) {v : V}, d.sc = true → At K W H v d → At K W' H v d
  | .non, _, _, h => by cases h; exact .non
  | .bl b, _, _, h => by cases h; exact .bl b
  | .int i, _, _, h => by cases h; exact .int i
  | .str x, _, _, h => by cases h; exact .str x
  | .ty t, _, e, _ => Bool.noConfusion e
  | .cls a, _, e, _ => Bool.noConfusion e
  | .tup ds, _, e, h => by
    cases h with
    | tup s a => exact .tup s (scAll_at ds e a)
  | .lst ds, _, e, _ => Bool.noConfusion e
  | .dic ks ds, _, e, _ => Bool.noConfusion e
  | .ins C ns ds, _, e, _ => Bool.noConfusion e
  | .deck, _, e, _ => Bool.noConfusion e
  | .xcp _ _ _ _ _, _, e, _ => Bool.noConfusion e
theorem scAll_at {W W' : Wd} {H : Hp} : ∀ (ds : List D) {vs : List V}, scAll ds = true → AtAll K W H vs ds → AtAll K W' H vs ds
  | [], _, _, h => by cases h; exact .nil
  | d :: ds, _, e, h => by
    have e' : (d.sc && scAll ds) = true := e
    rw [Bool.and_eq_true] at e'
    cases h with
    | cons a r => exact .cons (sc_at' d e'.1 a) (scAll_at ds e'.2 r)
end
theorem sc_at {W W' : Wd} {H : Hp} {v : V} {d : D} (h : d.sc = true) (a : At K W H v d) : At K W' H v d := sc_at' d h a
def aAsgO (ow : List Nat) (f : AE) (g : D → Option (List (Nat × D))) : AS := fun E ρ n => f ρ n fun d n1 => match d.sc with
  | true => aPut ow g d ρ fun ρ' => E.nx ρ' n1
  | false => False
instance (priority := 1100) {te : TE} {g : TG} {f : AE} {a : D → Option (List (Nat × D))} [DE K te f] [DG K g a] : DS K Wx ow (tAsg (tOpen te) g) (aAsgO ow f a) := ⟨fun W U σ ρ n H E Ea hD s h =>
  DE.run (te := te) (f := f) W σ ρ n H _ _ (fun d n1 h1 H1 x l1 o1 ax => by
    split at h1
    · rename_i hs
      exact put_run (g := g) (a := a) (s.lo l1 o1) (sc_at hs ax) h1 fun ρ' σ' q s' => hD.nx _ _ q U σ' H1 (.hid (lo_le l1)) s'
    · exact h1.elim) s.opn s.base h⟩
def aPar (ow : List Nat) (i j : Nat) (g : AA) : AS := fun E ρ n => g (wipeA ρ ow) n fun ds n1 => match ds, ow.contains i || ow.contains j with
  | [d, e], false => E.nx (eSet (eSet ρ i (some d)) j (some e)) n1
  | _, _ => False
instance {i j : Nat} {ta : TA} {g : AA} [DA K ta g] : DS K Wx ow (tPar i j ta) (aPar ow i j g) := ⟨fun W U σ ρ n H E Ea hD s h =>
  DA.run (te := ta) (f := g) (W.plus U) σ _ n H _ _ (fun ds n1 h1 H1 vs l1 o1 ax => by
    split at h1
    · rename_i hc
      rw [Bool.or_eq_false_iff] at hc
      cases ax with
      | cons a r =>
        cases r with
        | cons b r =>
          cases r
          refine ⟨_, _, rfl, hD.nx _ _ h1 U _ H1 (.hid l1) (((s.le l1 o1).set (fun z => ?_) a).set (fun z => ?_) b)⟩
          · rw [List.contains_iff_mem.mpr z] at hc
            cases hc.1
          · rw [List.contains_iff_mem.mpr z] at hc
            cases hc.2
    · exact h1.elim) s.hid s.ok h⟩
def aAug (ow : List Nat) (i : Nat) (f : AE) (r : D → D → Nat → (D → Nat → Prop) → Prop) : AS := fun E ρ n => match eGet ρ i, ow.contains i with
  | some d, false => f (wipeA ρ ow) n fun e n1 => r d e n1 fun x n2 => E.nx (eSet ρ i (some x)) n2
  | _, _ => False
instance {i : Nat} {te : TE} {ti : TIp} {f : AE} {r : D → D → Nat → (D → Nat → Prop) → Prop} [DE K te f] [D2 K ti r] : DS K Wx ow (tAug i te ti) (aAug ow i f r) := ⟨fun W U σ ρ n H E Ea hD s h => by
  unfold aAug at h
  split at h
  · rename_i d e hc
    have hi : i ∉ ow := fun z => by rw [List.contains_iff_mem.mpr z] at hc; cases hc
    obtain ⟨v, e', a⟩ := s.env i d hi e
    refine ⟨v, e', DE.run (te := te) (f := f) (W.plus U) σ _ n H _ _ (fun d1 n1 h1 H1 x l1 o1 ax => ?_) s.hid s.ok h⟩
    exact D2.run (r := ti) (f := r) (W.plus U) n1 H1 v x d d1 _ _ (fun d2 n2 h2 H2 y l2 o2 ay => hD.nx _ _ h2 U _ H2 (.hid (l1.trans l2)) ((s.le (l1.trans l2) o2).set hi ay)) o1 (At.le s.ok l1 _ a) ax h1
  · exact h.elim⟩
def aWhile (c : AT) (f : AS) : AS := fun E ρ n => ∃ Wv : Nat → Env' → Nat → Prop, (∃ m, Wv m ρ n) ∧ ∀ m ρ n, Wv m ρ n →
  c ρ n fun b n1 => aIte b (f { E with nx := fun ρ' n' => ∃ m', m' < m ∧ Wv m' ρ' n', ct := fun ρ' n' => ∃ m', m' < m ∧ Wv m' ρ' n', bk := E.nx } ρ n1) (E.nx ρ n1)
instance {tc : TT} {tb : TS} {c : AT} {f : AS} [DT K tc c] [DS K Wx ow tb f] : DS K Wx ow (tWhile tc tb) (aWhile c f) := ⟨fun W U σ ρ n H E Ea hD s h => by
  obtain ⟨Wv, ⟨m, w0⟩, turn⟩ := h
  refine ⟨fun m σ' H' => ∃ ρ' n' U', Wv m ρ' n' ∧ SOk K W ow n' H' σ' ρ' U' ∧ Stp W U H U' H', ⟨m, ρ, n, U, w0, s, Stp.refl⟩, ?_⟩
  rintro m σ1 H1 ⟨ρ1, n1, U1, w1, s1, l1⟩
  refine DT.run (te := tc) (f := c) W σ1 ρ1 n1 H1 _ _ (fun b n2 h2 H2 l2 o2 => ?_) s1.opn s1.base (turn m ρ1 n1 w1)
  have st := l1.trans (.hid (lo_le l2))
  cases b with
  | true =>
    rw [if_pos rfl]
    refine ⟨fun σ' H' => ∃ m', m' < m ∧ ∃ ρ' n' U', Wv m' ρ' n' ∧ SOk K W ow n' H' σ' ρ' U' ∧ Stp W U H U' H', fun σ' H' q => q, ?_⟩
    have again : WantsE K W ow U1 H2 (fun ρ' n' => ∃ m', m' < m ∧ Wv m' ρ' n') fun σ' H' => ∃ m', m' < m ∧ ∃ ρ' n' U', Wv m' ρ' n' ∧ SOk K W ow n' H' σ' ρ' U' ∧ Stp W U H U' H' := fun ρ' n' ⟨m', lt, wv⟩ U' σ' H' l' s' => ⟨m', lt, ρ', n', U', wv, s', st.trans l'⟩
    exact DS.run (ow := ow) (t := tb) (f := f) W U1 σ1 ρ1 n2 H2 _ { Ea with nx := fun ρ' n' => ∃ m', m' < m ∧ Wv m' ρ' n', ct := fun ρ' n' => ∃ m', m' < m ∧ Wv m' ρ' n', bk := Ea.nx } ⟨again, hD.rt.le st, hD.nx.le st, again, hD.ex.le st⟩ (s1.lo l2 o2) (h2.1 rfl)
  | false =>
    rw [if_neg Bool.false_ne_true]
    exact hD.nx _ _ (h2.2 rfl) U1 σ1 H2 st (s1.lo l2 o2)⟩
def aForGo (ow : List Nat) (G : D → Option (List (Nat × D))) (f : AS) (E : AEn) : List D → Env' → Nat → Prop
  | [], ρ, n => E.nx ρ n
  | d :: r, ρ, n => aPut ow G d ρ fun ρ1 => f { E with nx := aForGo ow G f E r, ct := aForGo ow G f E r, bk := E.nx } ρ1 n
def aFor (ow : List Nat) (I : AI) (G : D → Option (List (Nat × D))) (f : AS) : AS := fun E ρ n => I (wipeA ρ ow) n fun ds n1 => aForGo ow G f E ds ρ n1
instance {wi : TI} {g : TG} {tb : TS} {I : AI} {G : D → Option (List (Nat × D))} {f : AS} [DI K wi I] [DG K g G] [DS K Wx ow tb f] : DS K Wx ow (tFor wi g tb) (aFor ow I G f) := ⟨fun W U σ ρ n H E Ea hD s h =>
  DI.run (wi := wi) (f := I) (W.plus U) σ _ n H _ _ (fun ds n1 h1 J H1 l1 o1 hw => by
    refine ⟨fun i m σ' H' => m = ds.length - i ∧ i ≤ ds.length ∧ ∃ ρ' n' U', aForGo ow G f Ea (ds.drop i) ρ' n' ∧ SOk K W ow n' H' σ' ρ' U' ∧ Stp W U H1 U' H', ⟨_, rfl, Nat.zero_le _, ρ, n1, U, h1, s.le l1 o1, Stp.refl⟩, ?_⟩
    rintro i m σ2 H2 ⟨rfl, hi, ρ2, n2, U2, h2, s2, l2⟩
    obtain ⟨w1, w2⟩ := hw (W.plus U2) l2.new rfl H2 n2 (fun a o r e => l2.le a o (fun z => r (l2.old a z)) e) s2.ok i
    by_cases hlt : i < ds.length
    · rw [List.drop_eq_getElem_cons hlt] at h2
      obtain ⟨hgo, hy⟩ := w1 ds[i] (List.getElem?_eq_getElem hlt)
      refine .inr ⟨hgo, fun σ' H' => ∃ m', m' < ds.length - i ∧ m' = ds.length - (i + 1) ∧ i + 1 ≤ ds.length ∧ ∃ ρ' n' U', aForGo ow G f Ea (ds.drop (i + 1)) ρ' n' ∧ SOk K W ow n' H' σ' ρ' U' ∧ Stp W U H1 U' H', fun σ' H' q => q, fun x H3 hx => ?_⟩
      obtain ⟨s3, a3⟩ := hy x H3 hx
      have l3 : (W.plus U2).le H2 H3 := Wd.le_same s3
      refine put_run (g := g) (a := G) (s2.le l3 (s2.ok.same s3)) a3 h2 fun ρ4 σ4 h4 s4 => ?_
      have l14 := l2.trans (.hid l3)
      have again : WantsE K W ow U2 H3 (aForGo ow G f Ea (ds.drop (i + 1))) fun σ' H' => ∃ m', m' < ds.length - i ∧ m' = ds.length - (i + 1) ∧ i + 1 ≤ ds.length ∧ ∃ ρ' n' U', aForGo ow G f Ea (ds.drop (i + 1)) ρ' n' ∧ SOk K W ow n' H' σ' ρ' U' ∧ Stp W U H1 U' H' :=
        fun ρ' n' q U' σ' H' l' s' => ⟨_, by omega, rfl, hlt, ρ', n', U', q, s', l14.trans l'⟩
      have lt := (Stp.hid l1).trans l14
      exact DS.run (ow := ow) (t := tb) (f := f) W U2 σ4 ρ4 n2 H3 _ { Ea with nx := aForGo ow G f Ea (ds.drop (i + 1)), ct := aForGo ow G f Ea (ds.drop (i + 1)), bk := Ea.nx } ⟨again, hD.rt.le lt, hD.nx.le lt, again, hD.ex.le lt⟩ s4 h4
    · have e : i = ds.length := by omega
      subst e
      rw [List.drop_length] at h2
      exact .inl ⟨w2 (Nat.le_refl _), hD.nx _ _ h2 U2 σ2 H2 ((Stp.hid l1).trans l2) s2⟩) s.hid s.ok h⟩
def tOwnL (i : Nat) (ta : TA) : TS := tAsg (tLst ta) (gName i)
def aOwnL (ow : List Nat) (i : Nat) (g : AA) : AS := fun E ρ n => g (wipeA ρ ow) n fun ds n1 => match Nat.ble ds.length 1000, ow.contains i with
  | true, true => E.nx (eSet ρ i (some (.lst ds))) n1
  | _, _ => False
theorem SOk.new {W : Wd} {n : Nat} {H : Hp} {σ : L2.St} {ρ : Env'} {U : List (Addr × HO)} {i : Nat} {p : Addr} {us : List V} {ds : List D} (s : SOk K W ow n H σ ρ U) (hi : i ∈ ow) (hp : H p = none) (a : AtAll K (W.plus U) H us ds) :
    Stp W U H ((p, .lst us) :: U) (upd H p (.lst us)) ∧ SOk K W ow n (upd H p (.lst us)) (σ.set i (some (.ref p))) (eSet ρ i (some (.lst ds))) ((p, .lst us) :: U) := by
  have nrs : ¬ (W.plus U).rs p := s.ok.fresh hp
  have rn := Wd.rs_new (W := W.plus U) (xs := .lst us) hp
  have sm : Same H (upd H p (.lst us)) := same_upd hp
  have ho : (W.plus ((p, .lst us) :: U)).ok K n (upd H p (.lst us)) := Wd.ok_put (W := W.plus U) trivial nrs (.inl hp) s.ok
  have lk : (W.plus ((p, .lst us) :: U)).lk H := s.ok.lk' rn
  have le2 : (W.plus ((p, .lst us) :: U)).le H (upd H p (.lst us)) := Wd.le_same sm
  refine ⟨⟨Wd.le_same sm, rn, fun b z => Wd.rs_add z⟩, ⟨?_, ?_, ho, by rw [List.length_set, eSet_length]; exact s.len, ?_, ?_, ?_⟩⟩
  · refine List.nodup_cons.mpr ⟨fun z => nrs (Wd.rs_plus.mpr (.inl z)), s.nd⟩
  · intro u hu
    rcases List.mem_cons.mp hu with rfl | hu
    · exact fun z => nrs (Wd.rs_plus.mpr (.inr z))
    · exact s.nr u hu
  · intro j d hj he
    have hij : i ≠ j := fun z => hj (z ▸ hi)
    rw [eGet_ne hij] at he
    rw [List.getElem?_set_ne hij]
    obtain ⟨v, e1, a1⟩ := s.env j d hj he
    exact ⟨v, e1, At.lk lk le2 _ (At.ext rn rfl _ a1)⟩
  · intro j d hj he
    by_cases hij : i = j
    · subst hij
      obtain ⟨hl, he⟩ := eGet_set he
      cases he
      exact ⟨(p, .lst us), List.mem_cons_self, by rw [List.getElem?_set_self (by rw [s.len]; exact hl)], .lst (AtAll.lk lk le2 _ (AtAll.ext rn rfl _ a))⟩
    · rw [eGet_ne hij] at he
      rw [List.getElem?_set_ne hij]
      obtain ⟨⟨q, ob⟩, hu, e1, a1⟩ := s.own j d hj he
      refine ⟨_, List.mem_cons_of_mem _ hu, e1, ?_⟩
      cases a1 with
      | lst a1 => exact .lst (AtAll.lk lk le2 _ (AtAll.ext rn rfl _ a1))
      | dic l a1 => exact .dic l (AtAll.lk lk le2 _ (AtAll.ext rn rfl _ a1))
  · intro j k q hj hk ne h1 h2
    have fr : ∀ m, m ∈ ow → i ≠ m → σ[m]? = some (some (.ref p)) → eGet ρ m = none := fun m hm _ hσ => by
      cases e : eGet ρ m with
      | none => rfl
      | some d =>
        obtain ⟨u, hu, e1, _⟩ := s.own m d hm e
        rw [hσ] at e1
        have : p = u.1 := V.ref.inj (Option.some.inj (Option.some.inj e1))
        exact absurd (Wd.rs_plus.mpr (.inl (List.mem_map.mpr ⟨u, hu, this.symm⟩))) nrs
    by_cases hij : i = j
    · subst hij
      rw [List.getElem?_set_ne ne] at h2
      by_cases hl : i < σ.length
      · rw [List.getElem?_set_self hl] at h1
        cases h1
        rw [eGet_ne ne]
        exact .inr (fr k hk ne h2)
      · rw [List.getElem?_eq_none (by rw [List.length_set]; omega)] at h1
        cases h1
    · rw [List.getElem?_set_ne hij] at h1
      rw [eGet_ne hij]
      by_cases hik : i = k
      · subst hik
        by_cases hl : i < σ.length
        · rw [List.getElem?_set_self hl] at h2
          cases h2
          exact .inl (fr j hj hij h1)
        · rw [List.getElem?_eq_none (by rw [List.length_set]; omega)] at h2
          cases h2
      · rw [List.getElem?_set_ne hik] at h2
        rw [eGet_ne hik]
        exact s.dst j k q hj hk ne h1 h2
instance {i : Nat} {ta : TA} {g : AA} [DA K ta g] : DS K Wx ow (tOwnL i ta) (aOwnL ow i g) := ⟨fun W U σ ρ n H E Ea hD s h =>
  DA.run (te := ta) (f := g) (W.plus U) σ _ n H _ _ (fun ds n1 h1 H1 vs l1 o1 ax => by
    split at h1
    · rename_i hb hc
      refine ⟨size63 (by rw [ax.length]; exact Nat.le_of_ble_eq_true hb), fun p hp => ?_⟩
      obtain ⟨st, s2⟩ := (s.le l1 o1).new (List.contains_iff_mem.mp hc) hp ax
      exact hD.nx _ _ h1 _ _ _ ((Stp.hid l1).trans st) s2
    · exact h1.elim) s.hid s.ok h⟩
def putO (U : List (Addr × HO)) (p : Addr) (ob : HO) : List (Addr × HO) := U.map fun u => if u.1 = p then (p, ob) else u
theorem putO_fst (U : List (Addr × HO)) (p : Addr) (ob : HO) : (putO U p ob).map (·.1) = U.map (·.1) := by
  unfold putO
  rw [List.map_map]
  refine List.map_congr_left fun u _ => ?_
  show (if u.1 = p then (p, ob) else u).1 = u.1
  split
  · rename_i e; exact e.symm
  · rfl
theorem SOk.put {W : Wd} {n : Nat} {H : Hp} {σ : L2.St} {ρ : Env'} {U : List (Addr × HO)} {i : Nat} {p : Addr} {ob ob' : HO} {d' : D} (s : SOk K W ow n H σ ρ U) (hi : i ∈ ow) (hl : eGet ρ i ≠ none) (hσ : σ[i]? = some (some (.ref p))) (hU : (p, ob) ∈ U) (hob : ∃ xs, ob = .lst xs) (hm : Mt ob') (a : OwAt K (W.plus U) H ob' d') :
    Stp W U H (putO U p ob') (upd H p ob') ∧ SOk K W ow n (upd H p ob') σ (eSet ρ i (some d')) (putO U p ob') := by
  have hfst := putO_fst U p ob'
  have hrs : ∀ b, (W.plus (putO U p ob')).rs b ↔ (W.plus U).rs b := fun b => by rw [Wd.rs_plus, Wd.rs_plus, hfst]
  have hpr : (W.plus U).rs p := Wd.rs_plus.mpr (.inl (List.mem_map.mpr ⟨_, hU, rfl⟩))
  have le1 : (W.plus U).le H (upd H p ob') := fun b o r e => by
    rw [upd_ne fun z => r (by rw [z]; exact hpr)]
    exact e
  obtain ⟨hp1, _⟩ := s.ok.owns (p, ob) (mem_pl hU)
  have npw : ¬ W.rs p := s.nr _ hU
  have hdk : ∀ d b, W.dk = some (d, b) → p ≠ d ∧ p ≠ b := fun d b e => s.ok.dis d b e _ (mem_pl hU)
  have ok' : (W.plus (putO U p ob')).ok K n (upd H p ob') := by
    refine ⟨fun d b e => ?_, fun q hq => ?_, fun d b e q hq => ?_⟩
    · obtain ⟨c, D, l⟩ := s.ok.deck d b e
      refine ⟨c, ?_, l⟩
      obtain ⟨⟨s', ns, cs, i', k, h1, h2, h3, h4⟩, ne⟩ := D
      obtain ⟨n1, n2⟩ := hdk d b e
      obtain ⟨xs, rfl⟩ := hob
      refine ⟨⟨s', ns, cs, i', k, ?_, ?_, h3.upd (.inr ⟨_, hp1⟩), h4⟩, ne⟩
      · rw [upd_ne (Ne.symm n1)]; exact h1
      · rw [upd_ne (Ne.symm n2)]; exact h2
    · rcases mem_pc hq with hq | hq
      · obtain ⟨u, hu, e⟩ := List.mem_map.mp hq
        split at e
        · subst e
          exact ⟨upd_same, hm⟩
        · rename_i hne
          subst e
          rw [upd_ne hne]
          exact s.ok.owns u (mem_pl hu)
      · have hq1 : q.1 ≠ p := fun z => npw (.inr (List.mem_map.mpr ⟨q, hq, z⟩))
        rw [upd_ne hq1]
        exact s.ok.owns q (mem_pr hq)
    · rcases mem_pc hq with hq | hq
      · have : q.1 ∈ U.map (·.1) := by rw [← hfst]; exact List.mem_map.mpr ⟨q, hq, rfl⟩
        obtain ⟨u, hu, e'⟩ := List.mem_map.mp this
        rw [← e']
        exact s.ok.dis d b e u (mem_pl hu)
      · exact s.ok.dis d b e q (mem_pr hq)
  have wk : ∀ {v : V} {d : D}, At K (W.plus U) H v d → At K (W.plus (putO U p ob')) (upd H p ob') v d := fun h => At.weak (fun b z => (hrs b).mp z) rfl _ (At.le s.ok le1 _ h)
  have wka : ∀ {vs : List V} {ds : List D}, AtAll K (W.plus U) H vs ds → AtAll K (W.plus (putO U p ob')) (upd H p ob') vs ds := fun h => AtAll.weak (fun b z => (hrs b).mp z) rfl _ (AtAll.le s.ok le1 _ h)
  have wko : ∀ {o : HO} {d : D}, OwAt K (W.plus U) H o d → OwAt K (W.plus (putO U p ob')) (upd H p ob') o d := fun h => by
    cases h with
    | lst h => exact .lst (wka h)
    | dic l h => exact .dic l (wka h)
  refine ⟨⟨le1, fun b z r => absurd ((hrs b).mp z) r, fun b z => (hrs b).mpr z⟩, ⟨by rw [hfst]; exact s.nd, ?_, ok', by rw [eSet_length]; exact s.len, ?_, ?_, ?_⟩⟩
  · intro u hu
    have : u.1 ∈ U.map (·.1) := by rw [← hfst]; exact List.mem_map.mpr ⟨u, hu, rfl⟩
    obtain ⟨w, hw, e⟩ := List.mem_map.mp this
    rw [← e]
    exact s.nr w hw
  · intro j d hj he
    have hij : i ≠ j := fun z => hj (z ▸ hi)
    rw [eGet_ne hij] at he
    obtain ⟨v, e1, a1⟩ := s.env j d hj he
    exact ⟨v, e1, wk a1⟩
  · intro j d hj he
    by_cases hij : i = j
    · subst hij
      cases (eGet_set he).2
      exact ⟨(p, ob'), List.mem_map.mpr ⟨_, hU, by rw [if_pos rfl]⟩, hσ, wko a⟩
    · rw [eGet_ne hij] at he
      obtain ⟨u, hu, e1, a1⟩ := s.own j d hj he
      have hup : u.1 ≠ p := fun z => by
        rw [z] at e1
        rcases s.dst i j p hi hj hij hσ e1 with h | h
        · exact hl h
        · rw [h] at he; cases he
      exact ⟨u, List.mem_map.mpr ⟨u, hu, by rw [if_neg hup]⟩, e1, wko a1⟩
  · intro j k q hj hk ne h1 h2
    rcases s.dst j k q hj hk ne h1 h2 with h | h
    · by_cases hij : i = j
      · subst hij
        exact absurd h hl
      · exact .inl (by rw [eGet_ne hij]; exact h)
    · by_cases hik : i = k
      · subst hik
        exact absurd h hl
      · exact .inr (by rw [eGet_ne hik]; exact h)
def tApp (K : PySem.W.Frag) (i : Nat) (te : TE) : TS := tDrop (tBM K "list" rAppend (tVar i) (tCons te tNil))
def aApp (ow : List Nat) (i : Nat) (f : AE) : AS := fun E ρ n => match eGet ρ i, ow.contains i with
  | some (.lst ds), true => f (wipeA ρ ow) n fun d n1 => ds.length < 1000000 ∧ E.nx (eSet ρ i (some (.lst (ds ++ [d])))) n1
  | _, _ => False
theorem app_run {W : Wd} {U : List (Addr × HO)} {σ : L2.St} {ρ : Env'} {n : Nat} {H : Hp} {i : Nat} {p : Addr} {v : V} {ds : List D} {d : D} {Q : Hp → Prop} (s : SOk K W ow n H σ ρ U) (hi : i ∈ ow) (he : eGet ρ i = some (.lst ds)) (hl : ds.length < 1000000) (hσ : σ[i]? = some (some (.ref p))) (ax : At K (W.plus U) H v d)
    (hQ : ∀ U' H', Stp W U H U' H' → SOk K W ow n H' σ (eSet ρ i (some (.lst (ds ++ [d])))) U' → Q H') : ∃ l xs y, V.ref p = .ref l ∧ [v] = [y] ∧ H l = some (.lst xs) ∧ xs.length < sizeLine ∧ Q (upd H l (.lst (xs ++ [y]))) := by
  obtain ⟨u, hu, e1, a⟩ := s.own i _ hi he
  rw [hσ] at e1
  have ep : p = u.1 := V.ref.inj (Option.some.inj (Option.some.inj e1))
  subst ep
  obtain ⟨p, ob⟩ := u
  cases a with
  | lst a =>
    rename_i us
    have hp1 := (s.ok.owns _ (mem_pl hu)).1
    obtain ⟨st, s2⟩ := s.put hi (by rw [he]; exact fun z => nomatch z) hσ hu ⟨_, rfl⟩ (ob' := .lst (us ++ [v])) trivial (.lst (a.append (.cons ax .nil)))
    exact ⟨_, us, v, rfl, rfl, hp1, Nat.lt_of_lt_of_le (by rw [a.length]; exact hl) lim, hQ _ _ st s2⟩
instance {i : Nat} {te : TE} {f : AE} [DE K te f] : DS K Wx ow (tApp K i te) (aApp ow i f) := ⟨fun W U σ ρ n H E Ea hD s h => by
  unfold aApp at h
  split at h
  · rename_i ds he hc
    have hi := List.contains_iff_mem.mp hc
    obtain ⟨u, hu, e1, a⟩ := s.own i _ hi he
    have hp1 := (s.ok.owns _ (mem_pl hu)).1
    refine ⟨_, e1, ?_, DE.run (te := te) (f := f) (W.plus U) σ _ n H _ _ (fun d n1 h1 H1 x l1 o1 ax => ?_) s.hid s.ok h⟩
    · obtain ⟨p, ob⟩ := u
      cases a with
      | lst a => exact .inl ⟨rfl, _, SqL.of hp1⟩
    · exact app_run (s.le l1 o1) hi he h1.1 e1 ax fun U' H' st s' => hD.nx _ _ h1.2 U' σ H' ((Stp.hid l1).trans st) s'
  · exact h.elim⟩
def startA : Nat → List D → Env'
  | 0, _ => []
  | k + 1, [] => none :: startA k []
  | k + 1, d :: ds => some d :: startA k ds
theorem startA_none : ∀ {k i : Nat} {d : D}, eGet (startA k []) i = some d → False
  | 0, _, _, h => by cases h
  | k + 1, 0, _, h => by cases h
  | k + 1, i + 1, _, h => startA_none (k := k) (i := i) h
theorem startA_at {W : Wd} {H : Hp} : ∀ {k : Nat} {vs : List V} {ds : List D}, AtAll K W H vs ds → ∀ (i : Nat) (d : D), eGet (startA k ds) i = some d → ∃ v, vs[i]? = some v ∧ At K W H v d
  | 0, _, _, _, _, _, e => by cases e
  | k + 1, _, [], h, i, d, e => (startA_none e).elim
  | k + 1, _, _ :: _, h, 0, d, e => by
    cases h with
    | cons a r => cases e; exact ⟨_, rfl, a⟩
  | k + 1, _, _ :: ds, h, i + 1, d, e => by
    cases h with
    | cons a r => exact startA_at (k := k) r i d e
theorem startA_length : ∀ (k : Nat) (ds : List D), (startA k ds).length = k
  | 0, _ => rfl
  | k + 1, [] => by rw [startA, List.length_cons, startA_length]
  | k + 1, _ :: ds => by rw [startA, List.length_cons, startA_length]
theorem start_at {W : Wd} {H : Hp} {N : List Str} {k : Nat} {vs : List V} {ds : List D} (hk : N.length = k) (hl : ds.length ≤ k) (h : AtAll K W H vs ds) : EnvAt K W H (L2.start N vs) (startA k ds) := by
  unfold L2.start
  have hv := h.length
  refine ⟨by rw [startA_length]; simp; omega, fun i d e => ?_⟩
  obtain ⟨v, e1, a⟩ := startA_at h i d e
  refine ⟨v, ?_, a⟩
  have hi : i < vs.length := (List.getElem?_eq_some_iff.mp e1).1
  rw [List.getElem?_append_left (by rw [List.length_map]; exact hi), List.getElem?_map, e1]
  rfl
def aTop (Q : D → Nat → Prop) : AEn := { nx := fun _ n => Q .non n, rt := Q }
theorem le_start {W : Wd} {U : List (Addr × HO)} {H H' : Hp} (s : Stp W [] H U H') : W.le H H' := s.le
theorem startA_big : ∀ {k i : Nat} {ds : List D}, ds.length ≤ i → eGet (startA k ds) i = none
  | 0, _, _, _ => rfl
  | k + 1, 0, [], _ => rfl
  | k + 1, i + 1, [], h => startA_big (k := k) (i := i) (ds := []) (Nat.zero_le _)
  | k + 1, 0, _ :: _, h => absurd h (Nat.not_succ_le_zero _)
  | k + 1, i + 1, _ :: ds, h => startA_big (k := k) (i := i) (ds := ds) (Nat.le_of_succ_le_succ h)
theorem start_ok {W : Wd} {n : Nat} {H : Hp} {N : List Str} {k : Nat} {vs : List V} {ds : List D} (hk : N.length = k) (hl : ds.length ≤ k) (ho : ∀ i ∈ ow, ds.length ≤ i) (h : AtAll K W H vs ds) (o : W.ok K n H) : SOk K W ow n H (L2.start N vs) (startA k ds) [] := by
  have e := start_at hk hl h
  refine ⟨List.nodup_nil, fun u hu => (by cases hu), o, e.1, fun i d _ he => e.2 i d he, fun i d hi he => ?_, fun i j p hi _ _ _ _ => .inl (startA_big (ho i hi))⟩
  rw [startA_big (ho i hi)] at he
  cases he
theorem fn_mir {P : Program} {w : World} {mg : Str → Option Value} {base : Heap} {x qual : Str} {st : Stmt} {f : Addr} {fd : FuncData} {N ps : List Str} {k : Nat} {A : ASp} (ow : List Nat) (kk : Nat) (hk : N.length = kk) (hp : ps.length ≤ kk) (ho : ∀ i ∈ ow, ps.length ≤ i) (F : Fun K x qual st f fd) (S : FnScope N ps (defScope st))
    (hbody : ∀ (cdv : Value) (Ar : Around) (outer : List Env) (s : Shared) (H : Hp) (E : XK), Room k (Ar.deeper (envOfC qual (defScope st) s.heap.objs.size f cdv)) →
      ∃ (t : TS) (fa : AS), PSs (cxOf CX0 P w K mg base N qual (defScope st) f cdv Ar outer s H E).nox (defBody st) t ∧ DS K W0 ow t fa ∧ ∀ ds n Q, ds.length = ps.length → A ds n Q → fa (aTop Q) (startA kk ds) n) : FnOk P w K mg base CX0 (k + 1) f fd ps (spOf K ps.length A) := by
  refine F.ok S (fun vs H Q E h => ?_) (fun cdv Ar outer s H vs Q E hr h => ?_)
  · obtain ⟨W, n, ds, Qa, a, hl, _⟩ := h
    rw [a.length, hl]
  · obtain ⟨W, n, ds, Qa, a, hl, o, hQ, hA⟩ := h
    obtain ⟨t, fa, h1, h2, h3⟩ := hbody cdv Ar outer s H E hr
    refine ⟨t, h1, DS.run (Wx := W0) (ow := ow) (t := t) (f := fa) W [] (L2.start N vs) (startA kk ds) n H _ (aTop Qa) ⟨fun ρ' n' q U' σ' H' l' s' => hQ _ _ q H' _ (le_start l') s'.base .non, fun d n' q U1 H1 H' v l' l2 o' a' => hQ _ _ q H' v ((le_start l').trans l2) o' a', fun _ _ q => q.elim, fun _ _ q => q.elim, fun _ _ _ _ _ q => q.elim⟩ (start_ok hk (by omega) (fun i hi => by rw [hl]; exact ho i hi) a o) (h3 ds n Qa hl hA)⟩
end
abbrev Pt := Int × Int
def lexLe (p q : Pt) : Prop := p.1 < q.1 ∨ (p.1 = q.1 ∧ p.2 ≤ q.2)
def pt (p : Pt) : D := .tup [.int p.1, .int p.2]
section
variable {K : PySem.W.Frag}
open Classical in
noncomputable def kz (zs : List (V × Pt)) (x : V) : Pt := if h : ∃ p, (x, p) ∈ zs then Classical.choose h else (0, 0)
theorem kz_is {zs : List (V × Pt)} {x : V} {p : Pt} (hu : ∀ q, (x, q) ∈ zs → q = p) (hm : (x, p) ∈ zs) : kz zs x = p := by
  unfold kz
  have h : ∃ p, (x, p) ∈ zs := ⟨p, hm⟩
  rw [dif_pos h]
  exact hu _ (Classical.choose_spec h)
def rSrtP (K : PySem.W.Frag) : List V → Hp → VK → Prop := fun vs H Q => ∃ (a : Addr) (zs : List (V × Pt)), vs = [V.ref a] ∧ SqL K H a (zs.map Prod.fst) ∧ (∀ z ∈ zs, ∃ t, z.1 = V.ref t ∧ SqT K H t [.int z.2.1, .int z.2.2]) ∧
  ∀ (ws : List (V × Pt)) (p : Addr), ws.Perm zs → (ws.map Prod.snd).Pairwise lexLe → H p = none → Q (.ref p) (upd H p (.lst (ws.map Prod.fst)))
theorem k_sortP {X : Cx} (hK : X.K = K) : CallR X (.builtin "sorted") (rSrtP K) := by
  subst hK
  intro pins s σ H vs us Q I r h
  obtain ⟨a, zs, rfl, hs, hx, q⟩ := h
  obtain ⟨its, rv, hl, hz⟩ := I.list hs
  obtain ⟨u, rfl, ru⟩ := vals1 r
  obtain rfl : u = Value.ref a := ru
  have hk : ∀ z ∈ zs, kz zs z.1 = z.2 := fun z hm => kz_is (fun p' hq => by
    obtain ⟨t, e, ht⟩ := hx z hm
    obtain ⟨t', e', ht'⟩ := hx _ hq
    rw [e] at e'
    cases e'
    have := I.tuple_inj ht ht'
    simp only [List.cons.injEq, V.int.injEq, and_true] at this
    exact Prod.ext this.1.symm this.2.symm) hm
  have hxs : ∀ x ∈ zs.map Prod.fst, ∃ t, x = V.ref t ∧ SqT X.K H t [.int (kz zs x).1, .int (kz zs x).2] := fun x hm => by
    obtain ⟨z, hz', rfl⟩ := List.mem_map.mp hm
    obtain ⟨t, e, ht⟩ := hx z hz'
    exact ⟨t, e, by rw [hk z hz']; exact ht⟩
  obtain ⟨e1, e2⟩ := refs_back rv fun x m => by
    obtain ⟨t, e, _⟩ := hxs x m
    exact ⟨t, e⟩
  refine SrtO.sorted_pairsO (k := fun u => kz zs (backV u)) hl.isList (by rw [← rv.length]; exact hz) (fun v hv => ?_) fun h' d out h1 h2 kp hd hn => ?_
  · obtain ⟨t, rfl⟩ := e2 v hv
    have hm : V.ref t ∈ zs.map Prod.fst := by rw [e1]; exact List.mem_map.mpr ⟨_, hv, rfl⟩
    obtain ⟨t', e, ht⟩ := hxs _ hm
    cases e
    obtain ⟨its2, r2, ⟨o, ho, hc, n, hd⟩, _⟩ := I.tuple ht
    obtain ⟨u1, u2, rfl, ri, rj⟩ := vals2 r2
    obtain ⟨t1, rfl⟩ := ri
    obtain ⟨t2, rfl⟩ := rj
    exact ⟨t, o, t1, t2, n, rfl, ho, hc, hd⟩
  · have h3 : ∀ u ∈ out, ∃ a, u = Value.ref a := fun u hu => e2 u (h2.perm.mem_iff.mp hu)
    obtain ⟨n, hn⟩ := hn
    have hb : SrtO.Stb (ltP (kz zs)) (out.map backV) (zs.map Prod.fst) := by
      rw [e1]
      exact SrtO.Stb.map (ltP_swo (kz zs)) backV h2
    have hw : ((out.map backV).map fun y => (y, kz zs y)).Perm zs := by
      have e3 : (zs.map Prod.fst).map (fun y => (y, kz zs y)) = zs := by
        rw [List.map_map]
        conv => rhs; rw [← List.map_id zs]
        exact List.map_congr_left fun z hz' => by
          show (z.1, kz zs z.1) = z
          rw [hk z hz']
      have := hb.perm.map fun y => (y, kz zs y)
      rw [e3] at this
      exact this
    have hf : ((out.map backV).map fun y => (y, kz zs y)).map Prod.fst = out.map backV := by
      rw [List.map_map]
      exact List.map_id _
    refine ⟨.ref d, upd H d (.lst (out.map backV)), I.laid (t' := s.toks) kp hd ⟨?_, out, n, vals_back h3, hn⟩, rfl, ?_⟩
    · rw [hb.len]
      exact hz
    · have := q _ d hw ?_ (I.hok.fresh hd)
      · rw [hf] at this
        exact this
      · have hs2 := SrtO.srtd_map (lt := ltP (kz zs)) (f := backV) h1
        rw [List.map_map, List.pairwise_map]
        refine List.Pairwise.imp (fun {a b} h => ?_) hs2
        have := SrtO.lexB_no.mp h
        show lexLe (kz zs a) (kz zs b)
        unfold lexLe
        omega
def aSrtP : List D → Nat → (D → Nat → Prop) → Prop := fun ds n Q => ∃ ps : List Pt, ds = [.lst (ps.map pt)] ∧ ∀ rs : List Pt, rs.Perm ps → rs.Pairwise lexLe → Q (.lst (rs.map pt)) n
theorem pts_zip {W : Wd} {H : Hp} : ∀ {ps : List Pt} {us : List V}, AtAll K W H us (ps.map pt) → ∃ zs : List (V × Pt), zs.map Prod.fst = us ∧ zs.map Prod.snd = ps ∧ ∀ z ∈ zs, (∃ t, z.1 = V.ref t ∧ SqT K H t [.int z.2.1, .int z.2.2]) ∧ At K W H z.1 (pt z.2)
  | [], _, h => by cases h; exact ⟨[], rfl, rfl, fun z hz => by cases hz⟩
  | p :: ps, _, h => by
    cases h with
    | @cons v vs _ _ a r =>
      obtain ⟨zs, h1, h2, h3⟩ := pts_zip r
      refine ⟨(v, p) :: zs, by rw [List.map_cons, h1], by rw [List.map_cons, h2], fun z hz => ?_⟩
      rcases List.mem_cons.mp hz with rfl | hz
      · refine ⟨?_, a⟩
        cases a with
        | tup s a =>
          cases a with
          | cons a b =>
            cases b with
            | cons b c =>
              cases a
              cases b
              cases c
              exact ⟨_, rfl, s⟩
      · exact h3 z hz
theorem zip_at {W : Wd} {H : Hp} : ∀ {ws : List (V × Pt)}, (∀ z ∈ ws, At K W H z.1 (pt z.2)) → AtAll K W H (ws.map Prod.fst) ((ws.map Prod.snd).map pt)
  | [], _ => .nil
  | w :: ws, h => .cons (h w List.mem_cons_self) (zip_at fun z hz => h z (List.mem_cons_of_mem _ hz))
instance : DL K (rSrtP K) aSrtP := ⟨fun W n H xs ds Q Qa hQ o a h => by
  obtain ⟨ps, rfl, h⟩ := h
  cases a with
  | cons a r =>
    cases r
    cases a with
    | @lst l us _ nr s a =>
      obtain ⟨zs, h1, h2, h3⟩ := pts_zip a
      subst h1 h2
      refine ⟨l, zs, rfl, SqL.of s, fun z hz => (h3 z hz).1, fun ws p hp hpw hn => hQ.new o (h (ws.map Prod.snd) (hp.map _) hpw) hn ?_⟩
      exact .lst (o.fresh hn) upd_same (AtAll.le o (Wd.le_same (same_upd hn)) _ (zip_at fun z hz => (h3 z (hp.mem_iff.mp hz)).2))⟩
end
section
open PySem PyProof.Rows Srt SrtO
def ltS (a b : Str) : Bool := decide (a.cps.toList < b.cps.toList)
def IsRow (h : Heap) (v : Value) (nm : Str) : Prop := ∃ (a : Addr) (o : Obj) (t : Tok) (r : List Value) (n : Nat), v = .ref a ∧ h.get? a = some o ∧ o.cls = .type "tuple" ∧ o.data = .seq (Value.str nm t :: r).toArray n
theorem IsRow.keeps {h h' : Heap} {v : Value} {nm : Str} (H : IsRow h v nm) (k : ∀ b o, h.get? b = some o → o.cls = .type "tuple" → h'.get? b = some o) : IsRow h' v nm := by
  obtain ⟨a, o, t, r, n, e, ho, hc, hd⟩ := H
  exact ⟨a, o, t, r, n, e, k _ _ ho hc, hc, hd⟩
variable {prog : Program} {w : World} {A : Around} {E : Value → Shared → Prop} {s : Shared}
end
section
variable {K : PySem.W.Frag}
abbrev Rw := Str × List D
def rowT (r : Rw) : D := .tup (.str r.1 :: r.2)
def rSrtR (K : PySem.W.Frag) : List V → Hp → VK → Prop := fun vs H Q => ∃ (a : Addr) (zs : List (V × Rw)), vs = [V.ref a] ∧ SqL K H a (zs.map Prod.fst) ∧ (∀ z ∈ zs, ∃ t r, z.1 = V.ref t ∧ SqT K H t (.str z.2.1 :: r)) ∧ (zs.map fun z => z.2.1).Nodup ∧
  ∀ (ws : List (V × Rw)) (p : Addr), ws.Perm zs → ws.Pairwise (fun x y => ltS y.2.1 x.2.1 = false) → H p = none → Q (.ref p) (upd H p (.lst (ws.map Prod.fst)))
def aSrtR : List D → Nat → (D → Nat → Prop) → Prop := fun ds n Q => ∃ ps : List Rw, ds = [.lst (ps.map rowT)] ∧ (ps.map Prod.fst).Nodup ∧ ∀ rs : List Rw, rs.Perm ps → rs.Pairwise (fun x y => ltS y.1 x.1 = false) → Q (.lst (rs.map rowT)) n
theorem rws_zip {W : Wd} {H : Hp} : ∀ {ps : List Rw} {us : List V}, AtAll K W H us (ps.map rowT) → ∃ zs : List (V × Rw), zs.map Prod.fst = us ∧ zs.map Prod.snd = ps ∧ ∀ z ∈ zs, (∃ t r, z.1 = V.ref t ∧ SqT K H t (.str z.2.1 :: r)) ∧ At K W H z.1 (rowT z.2)
  | [], _, h => by cases h; exact ⟨[], rfl, rfl, fun z hz => by cases hz⟩
  | p :: ps, _, h => by
    cases h with
    | @cons v vs _ _ a r =>
      obtain ⟨zs, h1, h2, h3⟩ := rws_zip r
      refine ⟨(v, p) :: zs, by rw [List.map_cons, h1], by rw [List.map_cons, h2], fun z hz => ?_⟩
      rcases List.mem_cons.mp hz with rfl | hz
      · refine ⟨?_, a⟩
        cases a with
        | tup s a =>
          cases a with
          | cons a b =>
            cases a
            exact ⟨_, _, rfl, s⟩
      · exact h3 z hz
theorem rzip_at {W : Wd} {H : Hp} : ∀ {ws : List (V × Rw)}, (∀ z ∈ ws, At K W H z.1 (rowT z.2)) → AtAll K W H (ws.map Prod.fst) ((ws.map Prod.snd).map rowT)
  | [], _ => .nil
  | w :: ws, h => .cons (h w List.mem_cons_self) (rzip_at fun z hz => h z (List.mem_cons_of_mem _ hz))
instance : DL K (rSrtR K) aSrtR := ⟨fun W n H xs ds Q Qa hQ o a h => by
  obtain ⟨ps, rfl, hnd, h⟩ := h
  cases a with
  | cons a r =>
    cases r
    cases a with
    | @lst l us _ nr s a =>
      obtain ⟨zs, h1, h2, h3⟩ := rws_zip a
      subst h1 h2
      refine ⟨l, zs, rfl, SqL.of s, fun z hz => (h3 z hz).1, by rw [List.map_map] at hnd; exact hnd, fun ws p hp hpw hn => hQ.new o (h (ws.map Prod.snd) (hp.map _) (List.pairwise_map.mpr hpw)) hn ?_⟩
      exact .lst (o.fresh hn) upd_same (AtAll.le o (Wd.le_same (same_upd hn)) _ (rzip_at fun z hz => (h3 z (hp.mem_iff.mp hz)).2))⟩
end
section
theorem aFor_ind {ow : List Nat} {G : D → Option (List (Nat × D))} {f : AS} {E : AEn} (I : List D → Env' → Nat → Prop)
    (hs : ∀ d r ρ n, I (d :: r) ρ n → (∀ ρ' n', I r ρ' n' → aForGo ow G f E r ρ' n') → aPut ow G d ρ fun ρ1 => f { E with nx := aForGo ow G f E r, ct := aForGo ow G f E r, bk := E.nx } ρ1 n)
    (hd : ∀ ρ n, I [] ρ n → E.nx ρ n) : ∀ {ds : List D} {ρ : Env'} {n : Nat}, I ds ρ n → aForGo ow G f E ds ρ n
  | [], ρ, n, h => hd ρ n h
  | d :: r, ρ, n, h => hs d r ρ n h fun ρ' n' h' => aFor_ind I hs hd h'
theorem aLc_ind {vs : List Nat} {G : D → Option (List (Nat × D))} {c : AT} {e : AE} {ρ : Env'} {Q : D → Nat → Prop} (I : List D → List D → Nat → Prop)
    (hs : ∀ acc d r n, I acc (d :: r) n → (∀ acc' n', I acc' r n' → aLcGo vs G c e ρ Q acc' r n') → aPutC vs G d ρ fun ρ1 => c ρ1 n fun b n2 => aIte b (e ρ1 n2 fun y n3 => aLcGo vs G c e ρ Q (acc ++ [y]) r n3) (aLcGo vs G c e ρ Q acc r n2))
    (hd : ∀ acc n, I acc [] n → Q (.lst acc) n) : ∀ {acc ds : List D} {n : Nat}, I acc ds n → aLcGo vs G c e ρ Q acc ds n
  | acc, [], n, h => hd acc n h
  | acc, d :: r, n, h => hs acc d r n h fun acc' n' h' => aLc_ind I hs hd h'
end
section
variable {K : PySem.W.Frag}
def aMeth (C : Addr) (m : Str) (k : Nat) (A : ASp) (fa : AE) (g : AA) : AE := fun ρ n Q => fa ρ n fun x n1 => match x with
  | .ins C' ns ds => (C' = C ∧ m ∉ ns) ∧ g ρ n1 fun args n2 => (match Nat.beq (args.length + 1) k with
    | true => A (.ins C' ns ds :: args) n2 Q
    | false => False)
  | _ => False
theorem zip_no {m : Str} : ∀ {ns : List Str} {xs : List V}, m ∉ ns → (ns.zip xs).lookup m = none
  | [], _, _ => rfl
  | _ :: _, [], _ => rfl
  | n :: ns, x :: xs, h => by
    rw [List.zip_cons_cons, List.lookup_cons]
    have : (m == n) = false := beq_eq_false_iff_ne.mpr fun z => h (by rw [z]; exact List.mem_cons_self)
    rw [this]
    exact zip_no fun z => h (List.mem_cons_of_mem _ z)
instance {C : Addr} {m : Str} {k : Nat} {A : ASp} {ta : TE} {t : TA} {fa : AE} {g : AA} [DE K ta fa] [DA K t g] : DE K (tMeth C m (spOf K k A) [] E0 ta t) (aMeth C m k A fa g) := ⟨fun W σ ρ n H Q Qa hQ hE o h =>
  DE.run (te := ta) (f := fa) W σ ρ n H _ _ (fun d n1 h1 H1 x l1 o1 ax => by
    split at h1
    · obtain ⟨⟨rfl, hm⟩, h1⟩ := h1
      cases ax with
      | @ins a _ dx ns xs ds s e b =>
        refine ⟨_, _, _, rfl, s, zip_no hm, DA.run (te := t) (f := g) W σ ρ n1 H1 _ _ (fun args n2 h2 H2 vs l2 o2 av => ?_) (hE.le o l1) o1 h1⟩
        rw [List.append_nil]
        split at h2
        · rename_i hb
          exact ⟨W, n2, _, Qa, .cons (At.le o1 l2 _ (.ins s e b)) av, Nat.eq_of_beq_eq_true hb, o2, hQ.le (l1.trans l2), h2⟩
        · exact h2.elim
    · exact h1.elim) hE o h⟩
inductive Kd where
  | w | f | r
def tDyn (K : PySem.W.Frag) (cls : Kd → Addr) (m : Str) (k : Nat) (A : Kd → ASp) (ta : TE) (t : TA) : TE := fun σ H Q => ∃ kd, tMeth (cls kd) m (spOf K k (A kd)) [] E0 ta t σ H Q
def aDyn (cls : Kd → Addr) (m : Str) (k : Nat) (A : Kd → ASp) (fa : AE) (g : AA) : AE := fun ρ n Q => ∃ kd, aMeth (cls kd) m k (A kd) fa g ρ n Q
instance {cls : Kd → Addr} {m : Str} {k : Nat} {A : Kd → ASp} {ta : TE} {t : TA} {fa : AE} {g : AA} [DE K ta fa] [DA K t g] : DE K (tDyn K cls m k A ta t) (aDyn cls m k A fa g) := ⟨fun W σ ρ n H Q Qa hQ hE o h => by
  obtain ⟨kd, h⟩ := h
  exact ⟨kd, DE.run (K := K) (te := tMeth (cls kd) m (spOf K k (A kd)) [] E0 ta t) (f := aMeth (cls kd) m k (A kd) fa g) W σ ρ n H Q Qa hQ hE o h⟩⟩
end
section
variable {K : PySem.W.Frag}
def rStrOwn (C : Addr) (sp : Sp) (E : XK) : List V → Hp → VK → Prop := fun xs H Q => ∃ (a dx : Addr) (fs : List (Str × V)), xs = [.ref a] ∧ H a = some (.ins C dx fs) ∧ sp [.ref a] H (fun v H' => (∃ y, v = .str y) ∧ Q v H') E
theorem call_strOwn {X : Cx} {CX : CXT} {C f : Addr} {fd : FuncData} {ps : List Str} {sp : Sp} {E : XK} {k : Nat} (m : Meth X.K C "__str__" f) (F : FnOk X.prog X.w X.K X.mg X.base CX k f fd ps sp) (hr : Room (k + 2) X.A) (hb : Binds X.K fd ps []) (hx : Passes CX X E) : CallR X (.type "str") (rStrOwn C sp E) := by
  intro pins s σ H xs us Q I r h
  obtain ⟨a, dx, fs, rfl, ha, hsp⟩ := h
  cases r with
  | cons r1 r2 =>
  cases r2
  cases r1
  obtain ⟨mA, J, _⟩ := ins_get I.hok ha
  obtain ⟨od, J, _⟩ := J.look
  have room : Room k X.A.in1.in1 := hr.in1.in1
  refine PySem.W.kso_call room.units0 I.kIn J m.at_ m.fn ?_
  have e0 : Env0 X.prog X.w X.K X.mg X.base X.A.in1.in1 X.stack s H := by
    have e := I.env0
    exact ⟨e.frames, e.mod, e.bs, e.bsz, e.funs, e.frf, e.hok, e.bare⟩
  have hl := F.len _ _ _ _ hsp
  have rr : Vals [V.ref a] [Value.ref a] := .cons rfl .nil
  refine wpAny_call (codeAny_mono (F.run X.A.in1.in1 X.stack s H ⟨[.ref a], []⟩ [.ref a] [.ref a] _ E room e0 (by
    have := hb s [.ref a] I.kIn (by simpa using hl)
    simpa using this) rr hsp) fun r s' hq => ?_)
  cases r with
  | error e => exact hx pins σ H s e s' I hq
  | ok fl =>
    cases fl with
    | ret w =>
      obtain ⟨z, H', I', rz, ⟨y, ez⟩, q⟩ := I.after hq
      subst ez
      obtain ⟨t, rfl⟩ := rz
      exact ⟨.str y, H', I', ⟨t, rfl⟩, q⟩
    | next => exact False.elim hq
    | brk => exact False.elim hq
    | cont => exact False.elim hq
def rStrD (K : PySem.W.Frag) (cls : Kd → Addr) (B : Kd → ASp) : List V → Hp → VK → Prop := fun xs H Q => ∃ kd : Kd, rStrOwn (cls kd) (spOf K 1 (B kd)) E0 xs H Q
theorem k_strD {X : Cx} {cls : Kd → Addr} {B : Kd → ASp} (hw : CallR X (.type "str") (rStrOwn (cls .w) (spOf K 1 (B .w)) E0)) (hf : CallR X (.type "str") (rStrOwn (cls .f) (spOf K 1 (B .f)) E0)) (hr : CallR X (.type "str") (rStrOwn (cls .r) (spOf K 1 (B .r)) E0)) : CallR X (.type "str") (rStrD K cls B) := fun pins s σ H xs us Q I r ⟨kd, h⟩ => match kd, h with
  | .w, h => hw pins s σ H xs us Q I r h
  | .f, h => hf pins s σ H xs us Q I r h
  | .r, h => hr pins s σ H xs us Q I r h
def aStrD (cls : Kd → Addr) (B : Kd → ASp) : List D → Nat → (D → Nat → Prop) → Prop := fun ds n Q => ∃ (kd : Kd) (ns : List Str) (es : List D), ds = [.ins (cls kd) ns es] ∧ B kd ds n fun d n' => (∃ y, d = .str y) ∧ Q d n'
instance {cls : Kd → Addr} {B : Kd → ASp} : DL K (rStrD K cls B) (aStrD cls B) := ⟨fun W n H xs ds Q Qa hQ o a h => by
  obtain ⟨kd, ns, es, rfl, h⟩ := h
  cases a with
  | cons a r =>
    cases r
    cases a with
    | @ins b _ dx _ ys _ s e c =>
      refine ⟨kd, b, dx, _, rfl, s, W, n, _, _, .cons (.ins s e c) .nil, rfl, o, ?_, h⟩
      rintro d n' ⟨⟨y, rfl⟩, q⟩ H' v l o' av
      cases av
      exact ⟨⟨y, rfl⟩, hQ _ _ q H' _ l o' (.str y)⟩⟩
end
section
variable {K : PySem.W.Frag}
def tJoined (ts : List TE) : TE := fun σ H Q => tJs ts Str.empty σ H fun out H1 => Q (.str out) H1
theorem k_fstr {X : Cx} {v1 v2 : Expr} {rest : List Expr} {ts : List TE} {pos : Pos} (h : PJ X (v1 :: v2 :: rest) ts) : PE X (.JoinedStr (v1 :: v2 :: rest) pos) (tJoined ts) := pe_joined h
def aFmt (f : AE) : AE := fun ρ n Q => f ρ n fun d n1 => match d with
  | .str y => y.length ≤ 1000000 ∧ Q (.str y) n1
  | .int i => i.natAbs.log2 < 1920 ∧ Q (.str (toString i)) n1
  | _ => False
instance {te : TE} {f : AE} [DE K te f] : DE K (tFmt te) (aFmt f) := ⟨fun W σ ρ n H Q Qa hQ hE o h =>
  DE.run (te := te) (f := f) W σ ρ n H _ _ (fun d n1 h1 H1 x l1 o1 ax => by
    split at h1
    · cases ax
      exact .inl ⟨_, rfl, Nat.le_trans h1.1 lim, (hQ.le l1).now o1 h1.2 (.str _)⟩
    · cases ax
      exact .inr ⟨_, rfl, h1.1, (hQ.le l1).now o1 h1.2 (.str _)⟩
    · exact h1.elim) hE o h⟩
def aJs : List AE → Str → Env' → Nat → (D → Nat → Prop) → Prop
  | [], acc, _, n, Q => Q (.str acc) n
  | f :: fs, acc, ρ, n, Q => f ρ n fun d n1 => match d with
    | .str y => (acc ++ y).length ≤ 1000000 ∧ aJs fs (acc ++ y) ρ n1 Q
    | _ => False
class DJ (K : PySem.W.Frag) (ts : List TE) (fs : outParam (List AE)) : Prop where
  run : ∀ (W : Wd) (σ : L2.St) (ρ : Env') (acc : Str) (n : Nat) (H : Hp) (Q : Str → Hp → Prop) (Qa : D → Nat → Prop), (∀ y n', Qa (.str y) n' → ∀ H', W.le H H' → W.ok K n' H' → Q y H') → EnvAt K W H σ ρ → W.ok K n H → aJs fs acc ρ n Qa → tJs ts acc σ H Q
instance : DJ K [] [] := ⟨fun W σ ρ acc n H Q Qa hQ hE o h => hQ _ _ h H Wd.le_refl o⟩
instance {t : TE} {ts : List TE} {f : AE} {fs : List AE} [DE K t f] [DJ K ts fs] : DJ K (t :: ts) (f :: fs) := ⟨fun W σ ρ acc n H Q Qa hQ hE o h =>
  DE.run (te := t) (f := f) W σ ρ n H _ _ (fun d n1 h1 H1 x l1 o1 ax => by
    split at h1
    · cases ax
      exact ⟨_, rfl, Nat.le_trans h1.1 lim, DJ.run (ts := ts) (fs := fs) W σ ρ _ n1 H1 Q Qa (fun y n' q H' l' o' => hQ y n' q H' (l1.trans l') o') (hE.le o l1) o1 h1.2⟩
    · exact h1.elim) hE o h⟩
def aJoined (fs : List AE) : AE := fun ρ n Q => aJs fs Str.empty ρ n Q
instance {ts : List TE} {fs : List AE} [DJ K ts fs] : DE K (tJoined ts) (aJoined fs) := ⟨fun W σ ρ n H Q Qa hQ hE o h => DJ.run (ts := ts) (fs := fs) W σ ρ _ n H _ Qa (fun y n' q H' l' o' => hQ _ _ q H' _ l' o' (.str y)) hE o h⟩
end
section
variable {K : PySem.W.Frag}
def rTMul : R2 := fun x y H Q => ∃ (z : Str) (n : Nat), x = .str z ∧ y = .int (n : Int) ∧ z.length = 1 ∧ 1 ≤ n ∧ n ≤ 4000 ∧ ∀ t : Str, t.cps.toList = (List.replicate n z.cps.toList).flatten → Q (.str t) H
def aTMul : D → D → Nat → (D → Nat → Prop) → Prop := fun d e n Q => ∃ (z : Str) (k : Nat), d = .str z ∧ e = .int (k : Int) ∧ z.length = 1 ∧ 1 ≤ k ∧ k ≤ 4000 ∧ ∀ t : Str, t.cps.toList = (List.replicate k z.cps.toList).flatten → Q (.str t) n
instance : D2 K rTMul aTMul := ⟨fun W n H x y d e Q Qa hQ o ax ay h => by
  obtain ⟨z, k, rfl, rfl, h1, h2, h3, h⟩ := h
  cases ax
  cases ay
  exact ⟨z, k, rfl, rfl, h1, h2, h3, fun t ht => hQ.now o (h t ht) (.str t)⟩⟩
def rIntT : List V → Hp → VK → Prop := fun xs H Q => ∃ a n, xs = [.str a] ∧ PySem.intText? a = some n ∧ a.length ≤ 640 ∧ Q (.int n) H
def aIntT : List D → Nat → (D → Nat → Prop) → Prop := fun ds n Q => ∃ (a : Str) (i : Int), ds = [.str a] ∧ PySem.intText? a = some i ∧ a.length ≤ 640 ∧ Q (.int i) n
instance : DL K rIntT aIntT := ⟨fun W n H xs ds Q Qa hQ o a h => by
  obtain ⟨z, i, rfl, h1, h2, h⟩ := h
  cases a with
  | cons a r =>
    cases r
    cases a
    exact ⟨z, i, rfl, h1, h2, hQ.now o h (.int i)⟩⟩
end
namespace OE
open PySem PySem.Spec PyProof.Rows SeqAt PySem.W
section
variable {prog : Program} {w : World} {A : Around} {E : Value → Shared → Prop} {s : Shared} {K : Frag} {x C f L : Addr} {h₀ : Heap} {m : Str → Option Value} {ox : Obj} {od : Option Obj}
theorem rc_back {a : Value} {Ta ida : String} {Q : Value → Shared → Prop} (hu : A.units < cLine) (F : Fr h₀ L s.heap m) (X₀ : K.In h₀) (I : InstAt s.heap x ox C od) (ha : s.TypeIs a Ta)
    (hsub : subIn K (.ref C) (.type Ta) = some false) (h1 : Slot Ta "__eq__" ida)
    (hc1 : ∀ Q' : Value → Shared → Prop, Q' .notImplemented s → wpAny (model prog w) A (call (.builtin ida) [a, .ref x]) Q' E s)
    (hs : findIn K (.ref C) "__eq__" = some (some (.ref f))) (hf : isFn K (.ref f) = true)
    (h : wpAny (model prog w) A (call (.ref f) [.ref x, a]) (W.CmpBack Q) E s) : wpAny (model prog w) A (richCompare .Eq a (.ref x)) Q E s := by
  have X := X₀.keeps F.keep
  have one : wpAny (model prog w) A (tryCompare (.ref x) "__eq__" a) (fun r s' => ∃ v, r = some v ∧ Q v s') E s := by
    unfold tryCompare
    refine wpAny_bind (ifBound_K X I hs hf (wpAny_mono h (fun v s' hv => ?_) fun _ _ e => e))
    cases v <;> first | exact hv.elim | exact wpAny_pure ⟨_, rfl, hv⟩
  simp only [richCompare, cmpInfo, ha.oneThing_none]
  try with_reducible refine wpAny_holding ?_
  refine wpAny_bind (wpAny_cRoomFor_or (.inr hu) ?_)
  refine wpAny_bind (wpAny_typeOf ha (wpAny_bind (I.type.here ?_)))
  have hne : (Value.type Ta != Value.ref C) = true := rfl
  simp only [hne, if_true]
  refine wpAny_bind ((looks_subIn X hsub).here ?_)
  simp only [Bool.false_eq_true, if_false, Bool.not_false, if_true]
  refine wpAny_bind (m := tryCompare a _ (.ref x)) (wpAny_tryCompare_declines ha h1 (hc1 _ ⟨rfl, ?_⟩))
  refine wpAny_bind (wpAny_mono one (fun r s' z => ?_) fun _ _ e => e)
  obtain ⟨v, rfl, hq⟩ := z
  exact wpAny_pure hq
theorem bool_ins (b : Bool) (l : Addr) (ox : Obj) (hd : ox.data = .plain) :
    PySem.Meets (Builtin.«int.__eq__» ⟨[.bool b, .ref l], []⟩) (fun _ R s => s.heap.get? l = some ox ∧ R (.ok (.ret .notImplemented)) s) :=
  .of_wp fun prog w A R s h => by obtain ⟨hp, g, d, tk, os⟩ := s; obtain ⟨hl, h⟩ := h; wp_walk using wpAny_load hl; rw [hd]; wp_walk; exact ⟨_, rfl, h⟩
theorem int_ins (b : Int) (u : Tok) (l : Addr) (ox : Obj) (hd : ox.data = .plain) :
    PySem.Meets (Builtin.«int.__eq__» ⟨[.int b u, .ref l], []⟩) (fun _ R s => s.heap.get? l = some ox ∧ R (.ok (.ret .notImplemented)) s) :=
  .of_wp fun prog w A R s h => by obtain ⟨hp, g, d, tk, os⟩ := s; obtain ⟨hl, h⟩ := h; wp_walk using wpAny_load hl; rw [hd]; wp_walk; exact ⟨_, rfl, h⟩
theorem str_ins (b : Str) (u : Tok) (l : Addr) (ox : Obj) (hd : ox.data = .plain) :
    PySem.Meets (Builtin.«str.__eq__» ⟨[.str b u, .ref l], []⟩) (fun _ R s => s.heap.get? l = some ox ∧ R (.ok (.ret .notImplemented)) s) :=
  .of_wp fun prog w A R s h => by obtain ⟨hp, g, d, tk, os⟩ := s; obtain ⟨hl, h⟩ := h; wp_walk using wpAny_load hl; rw [hd]; wp_walk; exact ⟨_, rfl, h⟩
def NoSub (s : Shared) (C : Addr) (T : String) : Prop := ∀ (prog : Program) (w : World) (A : Around) (Q : Bool → Shared → Prop) (E : Value → Shared → Prop), Q false s → wpAny (model prog w) A (isSubtype (.ref C) (.type T)) Q E s
theorem list_ins (b l C : Addr) (ox : Obj) (dd : Option Addr) (sl : Array (Option Value)) (items : Array Value) (n : Nat) (hcl : ox.cls = .ref C) :
    PySem.Meets (Builtin.«list.__eq__» ⟨[.ref b, .ref l], []⟩) (fun _ R s => NoSub s C "list" ∧ s.heap.get? b = some { cls := .type "list", dict := dd, data := .seq items n, slots := sl } ∧ s.heap.get? l = some ox ∧ R (.ok (.ret .notImplemented)) s) :=
  .of_wp fun prog w A R s h => by
    obtain ⟨hp, g, d, tk, os⟩ := s
    obtain ⟨hsub, hb, hl, h⟩ := h
    wp_walk using wpAny_loadPart' hb, wpAny_load hl, wpAny_load hb
    rw [hcl]
    refine hsub _ _ _ _ _ ?_
    wp_walk
    exact ⟨_, rfl, h⟩
theorem tuple_ins (b l C : Addr) (ox : Obj) (dd : Option Addr) (sl : Array (Option Value)) (items : Array Value) (n : Nat) (hcl : ox.cls = .ref C) :
    PySem.Meets (Builtin.«tuple.__eq__» ⟨[.ref b, .ref l], []⟩) (fun _ R s => NoSub s C "tuple" ∧ s.heap.get? b = some { cls := .type "tuple", dict := dd, data := .seq items n, slots := sl } ∧ s.heap.get? l = some ox ∧ R (.ok (.ret .notImplemented)) s) :=
  .of_wp fun prog w A R s h => by
    obtain ⟨hp, g, d, tk, os⟩ := s
    obtain ⟨hsub, hb, hl, h⟩ := h
    wp_walk using wpAny_loadPart' hb, wpAny_load hl, wpAny_load hb
    rw [hcl]
    refine hsub _ _ _ _ _ ?_
    wp_walk
    exact ⟨_, rfl, h⟩
theorem check_ne {b : Value} {Q : Unit → Shared → Prop} (X : K.In s.heap) (I : W.InstAt s.heap x ox C od) (hob : subIn K (.ref C) (.type "object") = some true) (hq : Q () s) : wpAny (model prog w) A (checkBuiltinCall "object.__ne__" ⟨[.ref x, b], []⟩) Q E s := by
  simp only [checkBuiltinCall, F.cmpKind_ne, F.cmpSplit_ne]
  refine wpAny_bind ?_
  unfold isInstance
  refine wpAny_bind (I.type.here ?_)
  refine (looks_subIn X hob).here ?_
  have ha := F.cmpArgs_ne (.ref x) b
  cases hsig : Manifest.signature? "object.__ne__" with
  | none => exact wpAny_pure hq
  | some sig =>
    simp only [argsOk, hsig] at ha
    have h2 : Bind.checkArgs "object.__ne__" sig ⟨[.ref x, b], []⟩ = pure () := ha
    show wpAny _ A (Bind.checkArgs "object.__ne__" sig ⟨[.ref x, b], []⟩) Q E _
    rw [h2]; exact wpAny_pure hq
theorem call_ne {b : Value} {Q : Value → Shared → Prop} (X : K.In s.heap) (I : W.InstAt s.heap x ox C od) (hob : subIn K (.ref C) (.type "object") = some true) (hu : A.in1.units < cLine)
    (hs : findIn K (.ref C) "__eq__" = some (some (.ref f))) (hf : isFn K (.ref f) = true)
    (h : wpAny (model prog w) A.in1 (call (.ref f) [.ref x, b]) (fun v s' => ∃ r, v = .bool r ∧ Q (.bool (!r)) s') E s) : wpAny (model prog w) A (call (.builtin "object.__ne__") [.ref x, b]) Q E s := by
  refine wpAny_call (codeAny_call_builtin F.slot_tuple_iterator_ne.plain F.cmpEntry_ne (check_ne X I hob ?_))
  have one : wpAny (model prog w) A.in1 (callSpecialIfBound? (.ref x) "__eq__" [b]) (fun r s' => ∃ v, r = some (.bool v) ∧ Q (.bool (!v)) s') E s := ifBound_K X I hs hf (wpAny_mono h (fun v s' ⟨r, e, q⟩ => ⟨r, congrArg some e, q⟩) fun _ _ e => e)
  unfold Builtin.«object.__ne__»
  repeat (first | with_reducible refine wpAny_bind (wpAny_mono one (fun r s' hv => ?_) fun _ _ e => e) | with_reducible refine wpAny_mono one (fun r s' hv => ?_) (fun _ _ e => e) | with_reducible refine wpAny_bind (wpAny_cRoomFor hu ?_) | with_reducible refine wpAny_cRoomFor hu ?_ | wp_step)
  obtain ⟨v, rfl, q⟩ := hv
  refine wpAny_bind (wpAny_truthy_bool ?_)
  wp_step
  exact wpAny_pure q
theorem ifBound_B {M : Model} {T id : String} {name : Str} {args : List Value} {Q : Option Value → Shared → Prop} (X : K.In s.heap) (I : W.InstAt s.heap x ox C od) (hs : findIn K (.ref C) name = some (some (.builtin id))) (S : Slot T name id)
    (h : wpAny M A (call (.builtin id) (.ref x :: args)) (fun v => Q (some v)) E s) : wpAny M A (callSpecialIfBound? (.ref x) name args) Q E s := by
  simp only [callSpecialIfBound?, bindSpecialIfBound?]
  refine wpAny_holding (wpAny_bind (wpAny_bind (wpAny_bind (I.type.here ((looks_findIn X hs).here ?_)))))
  simp only [S.bind]
  refine wpAny_bind (wpAny_askSetting (wpAny_ite ?_))
  have fin : wpAny M A (call (.builtin id) ([.ref x] ++ args) >>= fun v => pure (some v)) Q E s := wpAny_bind (wpAny_mono h (fun v s' h' => wpAny_pure h') fun _ _ h' => h')
  split
  · exact wpAny_bind (wpAny_pure (wpAny_pure fin))
  · exact wpAny_tryCatch (wpAny_bind (wpAny_pure (wpAny_pure fin)))
theorem rc_ne {b tb : Value} {Q : Value → Shared → Prop} (hu : A.units < cLine) (hu1 : A.in1.units < cLine) (Fq : Fr h₀ L s.heap m) (X₀ : K.In h₀) (I : W.InstAt s.heap x ox C od) (hb : Looks (model prog w) s.heap (typeOf b) tb) (hn : notFirst K C tb = true)
    (hob : subIn K (.ref C) (.type "object") = some true) (hne : findIn K (.ref C) "__ne__" = some (some (.builtin "object.__ne__")))
    (hs : findIn K (.ref C) "__eq__" = some (some (.ref f))) (hf : isFn K (.ref f) = true)
    (h : wpAny (model prog w) A.in1 (call (.ref f) [.ref x, b]) (fun v s' => ∃ r, v = .bool r ∧ Q (.bool (!r)) s') E s) : wpAny (model prog w) A (richCompare .NotEq (.ref x) b) Q E s := by
  have X := X₀.keeps Fq.keep
  have one : wpAny (model prog w) A (tryCompare (.ref x) "__ne__" b) (fun r s' => ∃ v, r = some v ∧ Q v s') E s := by
    unfold tryCompare
    refine wpAny_bind (ifBound_B X I hne F.slot_tuple_iterator_ne (call_ne X I hob hu1 hs hf (wpAny_mono h (fun v s' hv => ?_) fun _ _ e => e)))
    obtain ⟨r, rfl, q⟩ := hv
    exact ⟨r, rfl, wpAny_pure ⟨_, rfl, q⟩⟩
  unfold richCompare
  simp only [oneThing_ref]
  refine wpAny_holding (wpAny_bind (wpAny_cRoomFor hu ?_))
  refine wpAny_bind (I.type.here (wpAny_bind (hb.here ?_)))
  split
  · rename_i q
    have e : subIn K tb (.ref C) = some false := by
      rcases Bool.or_eq_true_iff.mp hn with e | e
      · rw [beq_iff_eq.mp e] at q; simp at q
      · exact beq_iff_eq.mp e
    refine wpAny_bind ((looks_subIn X e).here ?_)
    simp only [Bool.false_eq_true, if_false]
    refine wpAny_bind (wpAny_mono one (fun r s' z => ?_) fun _ _ e => e)
    obtain ⟨v, rfl, hq⟩ := z
    exact wpAny_pure hq
  · refine wpAny_bind (wpAny_pure ?_)
    simp only [Bool.false_eq_true, if_false]
    refine wpAny_bind (wpAny_mono one (fun r s' z => ?_) fun _ _ e => e)
    obtain ⟨v, rfl, hq⟩ := z
    exact wpAny_pure hq
end
end OE
section
open PySem PySem.Spec PyProof.Rows
section
variable {K : PySem.W.Frag}
structure OwnE (K : PySem.W.Frag) (C f : Addr) : Prop where
  eq : PySem.W.findIn K (.ref C) "__eq__" = some (some (.ref f))
  fn : PySem.W.isFn K (.ref f) = true
  ne : PySem.W.findIn K (.ref C) "__ne__" = some (some (.builtin "object.__ne__"))
  ob : PySem.W.subIn K (.ref C) (.type "object") = some true
  tp : PySem.W.subIn K (.ref C) (.type "tuple") = some false
  ls : PySem.W.subIn K (.ref C) (.type "list") = some false
  st : PySem.W.subIn K (.ref C) (.type "str") = some false
  it : PySem.W.subIn K (.ref C) (.type "int") = some false
  bl : PySem.W.subIn K (.ref C) (.type "bool") = some false
  nn : PySem.W.subIn K (.ref C) (.type "NoneType") = some false
def PlainV (K : PySem.W.Frag) (y : V) (H : Hp) : Prop := flatV y = true ∨ (∃ a xs, y = .ref a ∧ SqT K H a xs) ∨ ∃ a xs, y = .ref a ∧ SqL K H a xs
def InsV (C : Addr) (x : V) (H : Hp) : Prop := ∃ a dx fs, x = .ref a ∧ H a = some (.ins C dx fs)
theorem nf_type {K : PySem.W.Frag} {C : Addr} {T : String} {l : List Value} (h : fastBuiltinMro T = some l) (hl : l.contains (.ref C) = false) : PySem.W.notFirst K C (.type T) = true := by
  show (Value.type T == Value.ref C || (Option.map (fun x => x.contains (Value.ref C)) (fastBuiltinMro T) == some false)) = true
  rw [h]
  simp only [Option.map_some, hl]
  simp
theorem nf_int {K : PySem.W.Frag} {C : Addr} : PySem.W.notFirst K C (.type "int") = true := nf_type (l := [.type "int", .type "object"]) (by kernel_rfl) rfl
theorem nf_bool {K : PySem.W.Frag} {C : Addr} : PySem.W.notFirst K C (.type "bool") = true := nf_type (l := [.type "bool", .type "int", .type "object"]) (by kernel_rfl) rfl
theorem nf_str {K : PySem.W.Frag} {C : Addr} : PySem.W.notFirst K C (.type "str") = true := nf_type (l := [.type "str", .type "object"]) (by kernel_rfl) rfl
theorem nf_none {K : PySem.W.Frag} {C : Addr} : PySem.W.notFirst K C (.type "NoneType") = true := nf_type (l := [.type "NoneType", .type "object"]) (by kernel_rfl) rfl
theorem nf_tuple {K : PySem.W.Frag} {C : Addr} : PySem.W.notFirst K C (.type "tuple") = true := nf_type (l := [.type "tuple", .type "object"]) (by kernel_rfl) rfl
theorem nf_list {K : PySem.W.Frag} {C : Addr} : PySem.W.notFirst K C (.type "list") = true := nf_type (l := [.type "list", .type "object"]) (by kernel_rfl) rfl
theorem looks_type {M : Model} {s : Shared} {u : Value} {T : String} (h : s.TypeIs u T) : PySem.W.Looks M s.heap (typeOf u) (.type T) := fun A Q E s' k q => by
  cases u with
  | ref a =>
    obtain ⟨o, e, c⟩ := h
    exact wpAny_typeOf_ref (k _ _ e) (by rw [c]; exact q)
  | _ => exact wpAny_of_eq h q
theorem looks_plain {X : Cx} {pins : List (Addr × Obj)} {σ : L2.St} {H : Hp} {s : Shared} {y : V} {u : Value} {C : Addr} (I : Inv X pins σ H s) (r : RelV y u) (p : PlainV X.K y H) : ∃ T, s.TypeIs u T ∧ PySem.W.notFirst X.K C (.type T) = true := by
  rcases p with p | ⟨a, xs, rfl, h⟩ | ⟨a, xs, rfl, h⟩
  · cases y with
    | non => cases r; exact ⟨_, rfl, nf_none⟩
    | bl b => cases r; exact ⟨_, rfl, nf_bool⟩
    | int i => obtain ⟨t, rfl⟩ := r; exact ⟨_, PySem.typeIs_int s i t, nf_int⟩
    | str x => obtain ⟨t, rfl⟩ := r; exact ⟨_, PySem.typeIs_str s x t, nf_str⟩
    | _ => cases p
  · cases r
    obtain ⟨its, rv, e, z⟩ := I.tuple h
    exact ⟨_, e.typeIs, nf_tuple⟩
  · cases r
    obtain ⟨its, rv, pl, z⟩ := I.list h
    exact ⟨_, pl.isList.typeIs, nf_list⟩
end
section
variable {X : Cx} {n : Nat} {CX : CXT} {f : Addr} {fd : FuncData} {ps : List Str} {S : Sp} {E : XK} {C : Addr}
theorem own_call (F : FnOk X.prog X.w X.K X.mg X.base CX n f fd ps S) (hb : Binds X.K fd ps []) (hx : Passes CX X E) {A : Around} (sb : Sub X n A) {pins : List (Addr × Obj)} {s : Shared} {σ : L2.St} {H : Hp} {x y : V} {u v : Value} {Q : VK} (I : Inv X pins σ H s) (rx : RelV x u) (ry : RelV y v) (hsp : S [x, y] H Q E) :
    wpAny (model X.prog X.w) A (call (.ref f) [u, v]) (fun r s' => ∃ z H', Inv X pins σ H' s' ∧ RelV z r ∧ Q z H') X.xe s := by
  have e0 : Env0 X.prog X.w X.K X.mg X.base A X.stack s H := by
    have e := I.env0
    exact ⟨by rw [sb.fr]; exact e.frames, e.mod, e.bs, e.bsz, e.funs, e.frf, e.hok, e.bare⟩
  have hl := F.len _ _ _ _ hsp
  have r2 : Vals [x, y] [u, v] := .cons rx (.cons ry .nil)
  refine wpAny_call (codeAny_mono (F.run A X.stack s H ⟨[u, v], []⟩ [u, v] [x, y] _ E sb.room e0 (by
    have := hb s [u, v] I.kIn (by simpa using hl)
    simpa using this) r2 hsp) fun r s' hq => ?_)
  cases r with
  | error e => exact hx pins σ H s e s' I hq
  | ok fl =>
    cases fl with
    | ret w =>
      obtain ⟨z, H', I', rz, q⟩ := I.after hq
      exact ⟨z, H', I', rz, q⟩
    | next => exact False.elim hq
    | brk => exact False.elim hq
    | cont => exact False.elim hq
def Beside (K : PySem.W.Frag) (C : Addr) (y : V) (H : Hp) : Prop := PlainV K y H ∨ ∃ D, PySem.W.notFirst K C (.ref D) = true ∧ InsV D y H
theorem looks_beside {pins : List (Addr × Obj)} {σ : L2.St} {H : Hp} {s : Shared} {y : V} {u : Value} (I : Inv X pins σ H s) (r : RelV y u) (p : Beside X.K C y H) : ∃ tb, PySem.W.Looks (model X.prog X.w) s.heap (typeOf u) tb ∧ PySem.W.notFirst X.K C tb = true := by
  rcases p with p | ⟨D, hn, a, dx, fs, rfl, h⟩
  · obtain ⟨T, h1, h2⟩ := looks_plain (C := C) I r p
    exact ⟨_, looks_type h1, h2⟩
  · cases r
    obtain ⟨mB, J', _⟩ := ins_get I.hok h
    obtain ⟨od', J', _⟩ := J'.look
    exact ⟨_, J'.type, hn⟩
def Told (Q : VK) : VK := fun v H => ∃ b, v = .bl b ∧ Q (.bl b) H
def ToldN (Q : VK) : VK := fun v H => ∃ b, v = .bl b ∧ Q (.bl (!b)) H
def rOwnEq (K : PySem.W.Frag) (C : Addr) (S : Sp) (E : XK) : R2 := fun x y H Q => InsV C x H ∧ Beside K C y H ∧ S [x, y] H (Told Q) E
theorem op_ownEq (F : FnOk X.prog X.w X.K X.mg X.base CX n f fd ps S) (hb : Binds X.K fd ps []) (hx : Passes CX X E) (hr : Room n X.A) (O : OwnE X.K C f) : OpR X (compareOp .Eq) (rOwnEq X.K C S E) := by
  intro pins s σ H x y v u Q I rx ry hq
  obtain ⟨⟨a, dx, fs, rfl, ha⟩, hB, hsp⟩ := hq
  obtain ⟨tb, hl, hn⟩ := looks_beside I ry hB
  cases rx
  obtain ⟨mA, J, _⟩ := ins_get I.hok ha
  obtain ⟨od, J, _⟩ := J.look
  obtain ⟨m, hF⟩ := I.fr
  show wpAny (model X.prog X.w) X.A (richCompare .Eq (.ref a) u) (EP X pins σ Q) X.xe s
  refine PySem.W.cmp_K (op := .Eq) (tb := tb) hr.units0 hF I.ok.mod.kin J hl hn O.eq O.fn (wpAny_mono (own_call F hb hx ⟨hr, rfl⟩ I (show RelV (.ref a) (.ref a) from rfl) ry hsp) (fun r s' z => ?_) fun _ _ e => e)
  obtain ⟨z, H', I', rz, b, rfl, q⟩ := z
  cases rz
  exact ⟨.bl b, H', I', rfl, q⟩
def rOwnNe (K : PySem.W.Frag) (C : Addr) (S : Sp) (E : XK) : R2 := fun x y H Q => InsV C x H ∧ Beside K C y H ∧ S [x, y] H (ToldN Q) E
theorem op_ownNe (F : FnOk X.prog X.w X.K X.mg X.base CX n f fd ps S) (hb : Binds X.K fd ps []) (hx : Passes CX X E) (hr : Room (n + 1) X.A) (O : OwnE X.K C f) : OpR X (compareOp .NotEq) (rOwnNe X.K C S E) := by
  intro pins s σ H x y v u Q I rx ry hq
  obtain ⟨⟨a, dx, fs, rfl, ha⟩, hB, hsp⟩ := hq
  obtain ⟨tb, hl, hn⟩ := looks_beside I ry hB
  cases rx
  obtain ⟨mA, J, _⟩ := ins_get I.hok ha
  obtain ⟨od, J, _⟩ := J.look
  obtain ⟨m, hF⟩ := I.fr
  have sb : Sub X (n + 1) X.A := ⟨hr, rfl⟩
  show wpAny (model X.prog X.w) X.A (richCompare .NotEq (.ref a) u) (EP X pins σ Q) X.xe s
  refine OE.rc_ne (tb := tb) hr.units0 sb.in1.room.units0 hF I.ok.mod.kin J hl hn O.ob O.ne O.eq O.fn (wpAny_mono (own_call F hb hx sb.in1 I (show RelV (.ref a) (.ref a) from rfl) ry hsp) (fun r s' z => ?_) fun _ _ e => e)
  obtain ⟨z, H', I', rz, b, rfl, q⟩ := z
  cases rz
  exact ⟨b, rfl, .bl (!b), H', I', rfl, q⟩
def rBackEq (K : PySem.W.Frag) (C : Addr) (S : Sp) (E : XK) : R2 := fun x y H Q => PlainV K x H ∧ InsV C y H ∧ S [y, x] H (Told Q) E
theorem op_backEq (F : FnOk X.prog X.w X.K X.mg X.base CX n f fd ps S) (hb : Binds X.K fd ps []) (hx : Passes CX X E) (hr : Room n X.A) (O : OwnE X.K C f) : OpR X (compareOp .Eq) (rBackEq X.K C S E) := by
  intro pins s σ H x y v u Q I rx ry hq
  obtain ⟨hP, ⟨a, dx, fs, rfl, ha⟩, hsp⟩ := hq
  cases ry
  obtain ⟨mA, JM, _⟩ := ins_get I.hok ha
  have ho : s.heap.get? a = some (PySem.W.instObj C dx) := JM.obj
  obtain ⟨od, J, _⟩ := JM.look
  obtain ⟨m, hF⟩ := I.fr
  have X1 : X.K.In s.heap := I.kIn
  have ns : ∀ T, PySem.W.subIn X.K (.ref C) (.type T) = some false → OE.NoSub s C T := fun T e prog w A Q E q => (PySem.W.looks_subIn X1 e).here q
  have fin : wpAny (model X.prog X.w) X.A (call (.ref f) [.ref a, v]) (PySem.W.CmpBack (EP X pins σ Q)) X.xe s := wpAny_mono (own_call F hb hx ⟨hr, rfl⟩ I (show RelV (.ref a) (.ref a) from rfl) rx hsp) (fun r s' z => by
    obtain ⟨z, H', I', rz, b, rfl, q⟩ := z
    cases rz
    exact ⟨.bl b, H', I', rfl, q⟩) fun _ _ e => e
  show wpAny (model X.prog X.w) X.A (richCompare .Eq v (.ref a)) (EP X pins σ Q) X.xe s
  rcases hP with p | ⟨b, xs, rfl, h⟩ | ⟨b, xs, rfl, h⟩
  · cases x with
    | non =>
      cases rx
      exact OE.rc_back hr.units0 hF I.ok.mod.kin J rfl O.nn PySem.F.slot_NoneType_eq (fun Q' hq => PySem.call_gives PySem.F.slot_NoneType_eq rfl PySem.F.entry_NoneType_eq (PySem.F.args_NoneType_eq_2 _ _) (PySem.SeqAt.NoneType___eq___none_ref_0 a) hq) O.eq O.fn fin
    | bl b =>
      cases rx
      exact OE.rc_back hr.units0 hF I.ok.mod.kin J rfl O.bl PySem.F.slot_bool_eq (fun Q' hq => call_meets PySem.F.slot_bool_eq rfl PySem.F.entry_int_eq (PySem.F.args_int_eq_2 _ _) (OE.bool_ins b a _ rfl) ⟨ho, hq⟩) O.eq O.fn fin
    | int i =>
      obtain ⟨t, rfl⟩ := rx
      exact OE.rc_back hr.units0 hF I.ok.mod.kin J (PySem.typeIs_int s i t) O.it PySem.F.slot_int_eq (fun Q' hq => call_meets PySem.F.slot_int_eq (PySem.typeIs_int s i t) PySem.F.entry_int_eq (PySem.F.args_int_eq_2 _ _) (OE.int_ins i t a _ rfl) ⟨ho, hq⟩) O.eq O.fn fin
    | str z =>
      obtain ⟨t, rfl⟩ := rx
      exact OE.rc_back hr.units0 hF I.ok.mod.kin J (PySem.typeIs_str s z t) O.st PySem.F.slot_str_eq (fun Q' hq => call_meets PySem.F.slot_str_eq (PySem.typeIs_str s z t) PySem.F.entry_str_eq (PySem.F.args_str_eq_2 _ _) (OE.str_ins z t a _ rfl) ⟨ho, hq⟩) O.eq O.fn fin
    | _ => cases p
  · cases rx
    obtain ⟨its, rv, e, z⟩ := I.tuple h
    have e' := e
    obtain ⟨⟨cls2, dd2, data2, sl2⟩, ho2, hc2, n2, hd2⟩ := e
    simp only at hc2 hd2
    subst hc2 hd2
    exact OE.rc_back hr.units0 hF I.ok.mod.kin J e'.typeIs O.tp PySem.F.slot_tuple_eq (fun Q' hq => call_meets PySem.F.slot_tuple_eq e'.typeIs PySem.F.entry_tuple_eq (PySem.F.args_tuple_eq_2 _ _) (OE.tuple_ins b a C _ _ _ _ _ rfl) ⟨ns _ O.tp, ho2, ho, hq⟩) O.eq O.fn fin
  · cases rx
    obtain ⟨its, rv, pl, z⟩ := I.list h
    have e' := pl.isList
    obtain ⟨⟨cls2, dd2, data2, sl2⟩, ho2, hc2, n2, hd2⟩ := pl.isList
    simp only at hc2 hd2
    subst hc2 hd2
    exact OE.rc_back hr.units0 hF I.ok.mod.kin J e'.typeIs O.ls PySem.F.slot_list_eq (fun Q' hq => call_meets PySem.F.slot_list_eq e'.typeIs PySem.F.entry_list_eq (PySem.F.args_list_eq_2 _ _) (OE.list_ins b a C _ _ _ _ _ rfl) ⟨ns _ O.ls, ho2, ho, hq⟩) O.eq O.fn fin
end
end
namespace OE
open PySem PySem.SeqAt
open MeetsSeq MeetsSeq2 MeetsSeq3 SeqRoads2
section
variable {prog : Program} {w : World} {A : Around} {R : Result → Shared → Prop}
def ContI (prog : Program) (w : World) (A : Around) (R : Result → Shared → Prop) (l : Addr) (x : Value) (N : Nat) (I : Nat → Shared → Prop) : Prop :=
  ∀ i s, I i s → ∃ (items : Array Value) (n : Nat), s.heap.get? l = some { cls := .type "list", data := .seq items n } ∧ items.size = N ∧
    ∀ (h1 : i < items.size), wpAny (model prog w) A.in1 (eqBool items[i] x) (fun r s' => (r = true → R (.ok (.ret (.bool true))) s') ∧ (r = false → I (i + 1) s')) (fun e s' => R (.error e) s') s
theorem cont_loopG (l : Addr) (x : Value) (N : Nat) (I : Nat → Shared → Prop) (hl : ContI prog w A R l x N I)
    (fin : ∀ s, I N s → R (.ok (.ret (.bool false))) s) (k : Nat) :
    ∀ i : Nat, N - i = k → i ≤ N → ∀ s, I i s →
      wpAny (model prog w) A.in1 (Builtin.«list.__contains__.loop» ⟨[.ref l, x, rawInt i], []⟩) (GQ.FinOf prog w A R) (fun e s' => R (.error e) s') s := by
  induction k with
  | zero =>
    intro i hk hi s h
    obtain ⟨items, n, hl1, hs1, _⟩ := hl _ _ h
    have hi' : i = N := by omega
    have hR : R (.ok (.ret (.bool false))) s := fin s (hi' ▸ h)
    obtain ⟨hp, g, d, tk, os⟩ := s
    wp_walk using wpAny_loadPart' hl1
    have hi1 : items[((i : Nat) : Int).toNat]? = none := by simp; omega
    rw [hi1]
    wp_walk
    exact hR
  | succ k ih =>
    intro i hk hi s h
    obtain ⟨items, n, hl1, hs1, turn⟩ := hl _ _ h
    have hlt : i < items.size := by omega
    have ht := turn hlt
    obtain ⟨hp, g, d, tk, os⟩ := s
    wp_walk using wpAny_loadPart' hl1
    have hi1 : items[((i : Nat) : Int).toNat]? = some items[i] := by simp [hlt]
    have hc : ((i : Int) + 1) = ((i + 1 : Nat) : Int) := by omega
    rw [hi1]
    refine wpAny_bind (wpAny_mono ht (fun r s2 h2 => ?_) fun _ _ x => x)
    obtain ⟨h2, h3⟩ := h2
    cases r with
    | true =>
      have hR := h2 rfl
      obtain ⟨hp2, g2, d2, tk2, os2⟩ := s2
      wp_walk
      exact hR
    | false =>
      have hrec := ih (i + 1) (by omega) (by omega) s2 (h3 rfl)
      obtain ⟨hp2, g2, d2, tk2, os2⟩ := s2
      wp_walk
      rw [hc]
      exact ⟨plainId_quiet plain_contains_loop _, codeAny_builtin entry_contains_loop (by
        rw [Around.under_plainId plain_contains_loop _]
        exact hrec)⟩
theorem contG (l : Addr) (x : Value) (N : Nat) (I : Nat → Shared → Prop) (hl : ContI prog w A R l x N I)
    (fin : ∀ s, I N s → R (.ok (.ret (.bool false))) s) {s : Shared} (h : I 0 s) :
    wpAny (model prog w) A.in1 (Builtin.«list.__contains__» ⟨[.ref l, x], []⟩) (GQ.FinOf prog w A R) (fun e s' => R (.error e) s') s := by
  have hrec := cont_loopG (A := A) (R := R) l x N I hl fin _ 0 rfl (Nat.zero_le _) s h
  obtain ⟨items, n, hl1, hs1, _⟩ := hl _ _ h
  obtain ⟨hp, g, d, tk, os⟩ := s
  wp_walk using wpAny_loadPart' hl1
  exact ⟨plainId_quiet plain_contains_loop _, codeAny_builtin entry_contains_loop (by
    rw [Around.under_plainId plain_contains_loop _]
    exact hrec)⟩
end
section
variable {prog : Program} {w : World} {A : Around} {E : Value → Shared → Prop} {s : Shared}
theorem in_ownG {l : Addr} {x : Value} {N : Nat} {Q : Value → Shared → Prop} (I : Nat → Shared → Prop) (hT : s.TypeIs (.ref l) "list")
    (hl : ContI prog w A (wants (fun v s' => ∃ b, v = .bool b ∧ Q (.bool b) s') E) l x N I) (fin : ∀ s, I N s → Q (.bool false) s) (h : I 0 s) : wpAny (model prog w) A (compareOp .In x (.ref l)) Q E s := by
  show wpAny _ A (do return .bool (← contains (.ref l) x)) Q E s
  refine wpAny_bind (wpAny_contains_slot hT F.slot_list_contains (wpAny_mono (GQ.call_here F.slot_list_contains hT F.entry_list_contains (F.args_list_contains_2 _ _) (contG l x N I hl (fun s' q => ⟨_, rfl, fin s' q⟩) h)) (fun v s' hv => ?_) fun _ _ e => e))
  obtain ⟨b, rfl, hq⟩ := hv
  exact wpAny_truthy_bool (wpAny_pure hq)
theorem notIn_ownG {l : Addr} {x : Value} {N : Nat} {Q : Value → Shared → Prop} (I : Nat → Shared → Prop) (hT : s.TypeIs (.ref l) "list")
    (hl : ContI prog w A (wants (fun v s' => ∃ b, v = .bool b ∧ Q (.bool (!b)) s') E) l x N I) (fin : ∀ s, I N s → Q (.bool true) s) (h : I 0 s) : wpAny (model prog w) A (compareOp .NotIn x (.ref l)) Q E s := by
  show wpAny _ A (do return .bool (!(← contains (.ref l) x))) Q E s
  refine wpAny_bind (wpAny_contains_slot hT F.slot_list_contains (wpAny_mono (GQ.call_here F.slot_list_contains hT F.entry_list_contains (F.args_list_contains_2 _ _) (contG l x N I hl (fun s' q => ⟨_, rfl, fin s' q⟩) h)) (fun v s' hv => ?_) fun _ _ e => e))
  obtain ⟨b, rfl, hq⟩ := hv
  exact wpAny_truthy_bool (wpAny_pure hq)
end
end OE
section
open PySem PySem.Spec PyProof.Rows
def DpUniq (K : PySem.W.Frag) (H : Hp) : Prop := ∀ v d1 d2, Dp K H v d1 → Dp K H v d2 → d1.canLay0 = true → d1 = d2
section
variable {X : Cx} {n : Nat} {CX : CXT} {f : Addr} {fd : FuncData} {ps : List Str} {S : Sp} {E : XK} {C : Addr}
theorem dp_uniq {pins : List (Addr × Obj)} {σ : L2.St} {H : Hp} {s : Shared} (I : Inv X pins σ H s) : DpUniq X.K H := fun v d1 d2 h1 h2 hl => by
  obtain ⟨u, r⟩ : ∃ u, RelV v u := by
    cases v with
    | non => exact ⟨.none, rfl⟩
    | bl b => exact ⟨.bool b, rfl⟩
    | int i => exact ⟨.int i 0, 0, rfl⟩
    | str z => exact ⟨.str z 0, 0, rfl⟩
    | byt b => exact ⟨.bytes b 0, 0, rfl⟩
    | flt b => exact ⟨.float b 0, 0, rfl⟩
    | ref a => exact ⟨.ref a, rfl⟩
    | ty z => exact ⟨.type z, rfl⟩
  obtain ⟨as1, r1⟩ := Dp.reads I d1 v u h1 r
  obtain ⟨as2, r2⟩ := Dp.reads I d2 v u h2 r
  exact (Reads.unique r1 _ _ r2).1
def rInOwn (K : PySem.W.Frag) (Cs : List Addr) (S : Sp) (E : XK) (neg : Bool) : R2 := fun x y H Q => ∃ (J : Nat → Hp → Prop) (l : Addr) (N : Nat), y = .ref l ∧ J 0 H ∧ ∀ i H', J i H' → ∃ xs, H' l = some (.lst xs) ∧ xs.length = N ∧ (i = N → Q (.bl neg) H') ∧
  ∀ z, xs[i]? = some z → ∃ D ∈ Cs, InsV D z H' ∧ Beside K D x H' ∧ (DpUniq K H' → z = x → Q (.bl (!neg)) H') ∧ S [z, x] H' (fun v H2 => ∃ b, v = .bl b ∧ (b = true → Q (.bl (!neg)) H2) ∧ (b = false → J (i + 1) H2)) E
theorem op_inOwn (F : FnOk X.prog X.w X.K X.mg X.base CX n f fd ps S) (hb : Binds X.K fd ps []) (hx : Passes CX X E) (hr : Room (n + 1) X.A) {Cs : List Addr} (O : ∀ C ∈ Cs, OwnE X.K C f) (neg : Bool) : OpR X (compareOp (if neg then .NotIn else .In)) (rInOwn X.K Cs S E neg) := by
  intro pins s σ H x y v u Q I rx ry hq
  obtain ⟨J, l, N, rfl, h0, step⟩ := hq
  cases ry
  have sb : Sub X (n + 1) X.A := ⟨hr, rfl⟩
  obtain ⟨xs0, hl0, _, _⟩ := step 0 H h0
  have hT : s.TypeIs (.ref l) "list" := by
    obtain ⟨z, its, k, r, e⟩ := I.hok l _ hl0
    exact ⟨_, e, rfl⟩
  have turn : ∀ (R : Result → Shared → Prop), (∀ e s', X.xe e s' → R (.error e) s') → (∀ s', (∃ H', Inv X pins σ H' s' ∧ Q (.bl (!neg)) H') → R (.ok (.ret (.bool true))) s') → OE.ContI X.prog X.w X.A R l v N (fun i s' => ∃ H', Inv X pins σ H' s' ∧ J i H') := fun R hE hY i s' ⟨H', I', hJ⟩ => by
    obtain ⟨xs, hl, hN, hfin, ht⟩ := step i H' hJ
    obtain ⟨z, its, k, r, e⟩ := I'.hok l _ hl
    refine ⟨its.toArray, k, e, by rw [List.size_toArray, ← r.length, hN], fun h1 => ?_⟩
    have k1 : i < xs.length := by rw [r.length]; simpa using h1
    obtain ⟨u', hu', ru'⟩ := r.get (List.getElem?_eq_getElem k1)
    have g1 : its[i]? = some its.toArray[i] := by
      have h1' : i < its.length := by simpa using h1
      rw [List.getElem?_eq_getElem h1'] <;> simp
    rw [g1] at hu'
    rw [Option.some.inj hu']
    obtain ⟨D, hD, hI, hB, hS, hsp⟩ := ht _ (List.getElem?_eq_getElem k1)
    generalize xs[i] = z' at *
    obtain ⟨a, dx, fs, rfl, ha⟩ := hI
    cases ru'
    have rc : wpAny (model X.prog X.w) X.A.in1 (richCompare .Eq (.ref a) v) (fun v s2 => ∃ r, v = .bool r ∧ ((r = true → R (.ok (.ret (.bool true))) s2) ∧ (r = false → ∃ H', Inv X pins σ H' s2 ∧ J (i + 1) H'))) (fun e s2 => R (.error e) s2) s' := by
      obtain ⟨tb, hlk, hn⟩ := looks_beside I' rx hB
      obtain ⟨mA, JM, _⟩ := ins_get I'.hok ha
      obtain ⟨od, JM, _⟩ := JM.look
      obtain ⟨m, hF⟩ := I'.fr
      refine PySem.W.cmp_K (op := .Eq) (tb := tb) sb.in1.room.units0 hF I'.ok.mod.kin JM hlk hn (O D hD).eq (O D hD).fn (wpAny_mono (own_call F hb hx sb.in1 I' (show RelV (.ref a) (.ref a) from rfl) rx hsp) (fun r s2 z => ?_) fun e s2 q => hE e s2 q)
      obtain ⟨z, H2, I2, rz, b, rfl, q1, q2⟩ := z
      cases rz
      exact ⟨b, rfl, fun hb => hY s2 ⟨H2, I2, q1 hb⟩, fun hb => ⟨H2, I2, q2 hb⟩⟩
    by_cases hab : v = .ref a
    · subst hab
      have ex : x = .ref a := by
        cases x with
        | ref c => exact congrArg V.ref (by cases rx; rfl)
        | int i =>
          obtain ⟨t, e⟩ := rx
          cases e
        | str z =>
          obtain ⟨t, e⟩ := rx
          cases e
        | byt z =>
          obtain ⟨t, e⟩ := rx
          cases e
        | flt z =>
          obtain ⟨t, e⟩ := rx
          cases e
        | _ => cases rx
      have hq := hS (dp_uniq I') ex.symm
      exact SeqAt.EqAt.same (A := X.A.in1) (s := s') (.ref a) X.prog X.w _ _ ⟨fun _ => hY s' ⟨H', I', hq⟩, fun z => by cases z⟩
    · unfold eqBool
      refine wpAny_holding ?_
      refine wpAny_ite_split (fun z => absurd (eq_of_beq z).symm hab) (fun _ => ?_)
      refine wpAny_bind (wpAny_mono rc (fun v s2 hv => ?_) fun _ _ x => x)
      obtain ⟨r, rfl, q⟩ := hv
      exact wpAny_truthy_bool q
  cases neg with
  | false =>
    refine OE.in_ownG (N := N) (fun i s' => ∃ H', Inv X pins σ H' s' ∧ J i H') hT (turn _ (fun e s' q => q) (fun s' ⟨H', I', q⟩ => ⟨true, rfl, .bl true, H', I', rfl, q⟩)) (fun s' ⟨H', I', hJ⟩ => ?_) ⟨H, I, h0⟩
    obtain ⟨xs, _, _, hfin, _⟩ := step N H' hJ
    exact ⟨.bl false, H', I', rfl, hfin rfl⟩
  | true =>
    refine OE.notIn_ownG (N := N) (fun i s' => ∃ H', Inv X pins σ H' s' ∧ J i H') hT (turn _ (fun e s' q => q) (fun s' ⟨H', I', q⟩ => ⟨true, rfl, .bl false, H', I', rfl, q⟩)) (fun s' ⟨H', I', hJ⟩ => ?_) ⟨H, I, h0⟩
    obtain ⟨xs, _, _, hfin, _⟩ := step N H' hJ
    exact ⟨.bl true, H', I', rfl, hfin rfl⟩
end
end
theorem kit_ref {K : PySem.W.Frag} {D C : Addr} {b : Bool} (hc : PySem.W.isClsIn K C = true) (ht : PySem.W.typeIn K (.ref C) = some (.type "type")) (hs : PySem.W.subIn K (.ref D) (.ref C) = some b) (hd : PySem.W.subIn K (.ref D) (.ref D) = some true) : PySem.W.kitOne K (.ref D) (.ref C) = some b := by
  unfold PySem.W.kitOne
  by_cases e : D = C
  · subst e
    rw [hd] at hs
    cases hs
    rw [if_pos (beq_self_eq_true _)]
  · have hne : ¬ ((Value.ref D == Value.ref C) = true) := fun z => e (Value.ref.inj (beq_iff_eq.mp z))
    rw [if_neg hne]
    have h2 : ((PySem.W.clsIn K C).isSome && PySem.W.typeIn K (.ref C) == some (.type "type")) = true := by
      have h2' : (PySem.W.clsIn K C).isSome = true := hc
      rw [h2', ht] <;> rfl
    show (if ((PySem.W.clsIn K C).isSome && PySem.W.typeIn K (.ref C) == some (.type "type")) = true then PySem.W.subIn K (.ref D) (.ref C) else none) = some b
    rw [if_pos h2]
    exact hs
section
variable {K : PySem.W.Frag}
structure OwnS (K : PySem.W.Frag) (Cs : List Addr) (f : Addr) : Prop where
  o : ∀ C ∈ Cs, OwnE K C f
  n : ∀ C ∈ Cs, ∀ D ∈ Cs, PySem.W.notFirst K C (.ref D) = true
def plD : D → Bool
  | .non => true | .bl _ => true | .int _ => true | .str _ => true | .tup _ => true | .lst _ => true
  | _ => false
def insD (Cs : List Addr) (d : D) : Prop := ∃ C ns ds, d = .ins C ns ds ∧ C ∈ Cs
theorem plain_at {W : Wd} {H : Hp} {x : V} {d : D} (h : plD d = true) (a : At K W H x d) : PlainV K x H := by
  cases a with
  | non => exact .inl rfl
  | bl b => exact .inl rfl
  | int i => exact .inl rfl
  | str z => exact .inl rfl
  | tup s a => exact .inr (.inl ⟨_, _, rfl, s⟩)
  | lst r s a => exact .inr (.inr ⟨_, _, rfl, SqL.of s⟩)
  | _ => cases h
theorem kit_plain {C : Addr} {T : String} {l : List Value} (hc : PySem.W.isClsIn K C = true) (ht : PySem.W.typeIn K (.ref C) = some (.type "type")) (h : fastBuiltinMro T = some l) (hl : l.contains (.ref C) = false) : PySem.W.kitOne K (.type T) (.ref C) = some false := by
  unfold PySem.W.kitOne
  rw [if_neg (show ¬ ((Value.type T == Value.ref C) = true) from fun z => by cases beq_iff_eq.mp z)]
  have h2 : ((PySem.W.clsIn K C).isSome && PySem.W.typeIn K (.ref C) == some (.type "type")) = true := by
    have h2' : (PySem.W.clsIn K C).isSome = true := hc
    rw [h2', ht] <;> rfl
  show (if ((PySem.W.clsIn K C).isSome && PySem.W.typeIn K (.ref C) == some (.type "type")) = true then PySem.W.subIn K (.type T) (.ref C) else none) = some false
  rw [if_pos h2]
  show Option.map (fun x => x.contains (Value.ref C)) (fastBuiltinMro T) = some false
  rw [h]
  exact congrArg some hl
theorem isi_plain {C : Addr} {n : Nat} {Q : D → Nat → Prop} {d : D} (hp : plD d = true) (hc : PySem.W.isClsIn K C = true) (ht : PySem.W.typeIn K (.ref C) = some (.type "type")) (q : Q (.bl false) n) : aIsi K [d, .cls C] n Q := by
  cases d with
  | non => exact ⟨false, kit_plain hc ht (l := [.type "NoneType", .type "object"]) (by kernel_rfl) rfl, q⟩
  | bl b => exact ⟨false, kit_plain hc ht (l := [.type "bool", .type "int", .type "object"]) (by kernel_rfl) rfl, q⟩
  | int i => exact ⟨false, kit_plain hc ht (l := [.type "int", .type "object"]) (by kernel_rfl) rfl, q⟩
  | str z => exact ⟨false, kit_plain hc ht (l := [.type "str", .type "object"]) (by kernel_rfl) rfl, q⟩
  | tup ds => exact ⟨false, kit_plain hc ht (l := [.type "tuple", .type "object"]) (by kernel_rfl) rfl, q⟩
  | lst ds => exact ⟨false, kit_plain hc ht (l := [.type "list", .type "object"]) (by kernel_rfl) rfl, q⟩
  | _ => cases hp
theorem ins_at {W : Wd} {H : Hp} {x : V} {C : Addr} {ns : List Str} {ds : List D} (a : At K W H x (.ins C ns ds)) : InsV C x H := by
  cases a with
  | ins s e b => exact ⟨_, _, _, rfl, s⟩
def Bes (K : PySem.W.Frag) (Cs : List Addr) (y : V) (H : Hp) : Prop := PlainV K y H ∨ ∃ D ∈ Cs, InsV D y H
theorem Bes.to {Cs : List Addr} {f C : Addr} {y : V} {H : Hp} (O : OwnS K Cs f) (hC : C ∈ Cs) (h : Bes K Cs y H) : Beside K C y H := h.elim .inl fun ⟨D, hD, i⟩ => .inr ⟨D, O.n C hC D hD, i⟩
theorem bes_at {Cs : List Addr} {W : Wd} {H : Hp} {x : V} {d : D} (h : plD d = true ∨ insD Cs d) (a : At K W H x d) : Bes K Cs x H := by
  rcases h with h | ⟨C, ns, ds, rfl, hC⟩
  · exact .inl (plain_at h a)
  · exact .inr ⟨C, hC, ins_at a⟩
section
variable {X : Cx} {n : Nat} {f : Addr} {fd : FuncData} {ps : List Str} {S : Sp} {Cs : List Addr}
def rEqO (K : PySem.W.Frag) (Cs : List Addr) (S : Sp) : R2 := fun x y H Q => ∃ C ∈ Cs, InsV C x H ∧ Bes K Cs y H ∧ S [x, y] H (Told Q) L2.E0
theorem k_eqO (hK : X.K = K) (F : FnOk X.prog X.w X.K X.mg X.base CX0 n f fd ps S) (hb : Binds X.K fd ps []) (hr : Room n X.A) (O : OwnS K Cs f) : OpR X (compareOp .Eq) (rEqO K Cs S) := by
  subst hK
  intro pins s σ H x y v u Q I rx ry ⟨C, hC, h1, h2, h3⟩
  exact op_ownEq F hb pass0 hr (O.o C hC) pins s σ H x y v u Q I rx ry ⟨h1, h2.to O hC, h3⟩
def rNeO (K : PySem.W.Frag) (Cs : List Addr) (S : Sp) : R2 := fun x y H Q => ∃ C ∈ Cs, InsV C x H ∧ Bes K Cs y H ∧ S [x, y] H (ToldN Q) L2.E0
theorem k_neO (hK : X.K = K) (F : FnOk X.prog X.w X.K X.mg X.base CX0 n f fd ps S) (hb : Binds X.K fd ps []) (hr : Room (n + 1) X.A) (O : OwnS K Cs f) : OpR X (compareOp .NotEq) (rNeO K Cs S) := by
  subst hK
  intro pins s σ H x y v u Q I rx ry ⟨C, hC, h1, h2, h3⟩
  exact op_ownNe F hb pass0 hr (O.o C hC) pins s σ H x y v u Q I rx ry ⟨h1, h2.to O hC, h3⟩
def rBkO (K : PySem.W.Frag) (Cs : List Addr) (S : Sp) : R2 := fun x y H Q => ∃ C ∈ Cs, PlainV K x H ∧ InsV C y H ∧ S [y, x] H (Told Q) L2.E0
theorem k_bkO (hK : X.K = K) (F : FnOk X.prog X.w X.K X.mg X.base CX0 n f fd ps S) (hb : Binds X.K fd ps []) (hr : Room n X.A) (O : OwnS K Cs f) : OpR X (compareOp .Eq) (rBkO K Cs S) := by
  subst hK
  intro pins s σ H x y v u Q I rx ry ⟨C, hC, h1, h2, h3⟩
  exact op_backEq F hb pass0 hr (O.o C hC) pins s σ H x y v u Q I rx ry ⟨h1, h2, h3⟩
def rInO (K : PySem.W.Frag) (Cs : List Addr) (S : Sp) (neg : Bool) : R2 := fun x y H Q => ∃ (J : Nat → Hp → Prop) (l : Addr) (N : Nat), y = .ref l ∧ J 0 H ∧ ∀ i H', J i H' → ∃ xs, H' l = some (.lst xs) ∧ xs.length = N ∧ (i = N → Q (.bl neg) H') ∧
  ∀ z, xs[i]? = some z → ∃ D ∈ Cs, InsV D z H' ∧ Bes K Cs x H' ∧ (DpUniq K H' → z = x → Q (.bl (!neg)) H') ∧ S [z, x] H' (fun v H2 => ∃ b, v = .bl b ∧ (b = true → Q (.bl (!neg)) H2) ∧ (b = false → J (i + 1) H2)) L2.E0
theorem k_inOwn (hK : X.K = K) (F : FnOk X.prog X.w X.K X.mg X.base CX0 n f fd ps S) (hb : Binds X.K fd ps []) (hr : Room (n + 1) X.A) (O : OwnS K Cs f) (neg : Bool) : OpR X (compareOp (if neg then .NotIn else .In)) (rInO K Cs S neg) := by
  subst hK
  intro pins s σ H x y v u Q I rx ry ⟨J, l, N, e, h0, h⟩
  refine op_inOwn F hb pass0 hr O.o neg pins s σ H x y v u Q I rx ry ⟨J, l, N, e, h0, fun i H' hJ => ?_⟩
  obtain ⟨xs, h1, h2, h3, h4⟩ := h i H' hJ
  refine ⟨xs, h1, h2, h3, fun z hz => ?_⟩
  obtain ⟨D, hD, i1, i2, i3, i4⟩ := h4 z hz
  exact ⟨D, hD, i1, i2.to O hD, i3, i4⟩
theorem k_inO (hK : X.K = K) (F : FnOk X.prog X.w X.K X.mg X.base CX0 n f fd ps S) (hb : Binds X.K fd ps []) (hr : Room (n + 1) X.A) (O : OwnS K Cs f) : OpR X (compareOp .In) (rInO K Cs S false) := k_inOwn hK F hb hr O false
theorem k_notInO (hK : X.K = K) (F : FnOk X.prog X.w X.K X.mg X.base CX0 n f fd ps S) (hb : Binds X.K fd ps []) (hr : Room (n + 1) X.A) (O : OwnS K Cs f) : OpR X (compareOp .NotIn) (rInO K Cs S true) := k_inOwn hK F hb hr O true
end
def aEqO (Cs : List Addr) (B : ASp) (neg : Bool) : D → D → Nat → (D → Nat → Prop) → Prop := fun d e n Q => insD Cs d ∧ (plD e = true ∨ insD Cs e) ∧ B [d, e] n fun r m => ∃ b, r = .bl b ∧ Q (.bl (if neg then !b else b)) m
instance {Cs : List Addr} {B : ASp} : D2 K (rEqO K Cs (spOf K 2 B)) (aEqO Cs B false) := ⟨fun W n H x y d e Q Qa hQ o ax ay h => by
  obtain ⟨⟨C, ns, ds, rfl, hC⟩, hb, q⟩ := h
  refine ⟨C, hC, ins_at ax, bes_at hb ay, W, n, [_, e], _, .cons ax (.cons ay .nil), rfl, o, ?_, q⟩
  rintro r m ⟨b, rfl, q⟩ H' v l o' a
  cases a
  exact ⟨b, rfl, hQ _ _ q H' _ l o' (.bl b)⟩⟩
instance {Cs : List Addr} {B : ASp} : D2 K (rNeO K Cs (spOf K 2 B)) (aEqO Cs B true) := ⟨fun W n H x y d e Q Qa hQ o ax ay h => by
  obtain ⟨⟨C, ns, ds, rfl, hC⟩, hb, q⟩ := h
  refine ⟨C, hC, ins_at ax, bes_at hb ay, W, n, [_, e], _, .cons ax (.cons ay .nil), rfl, o, ?_, q⟩
  rintro r m ⟨b, rfl, q⟩ H' v l o' a
  cases a
  exact ⟨b, rfl, hQ _ _ q H' _ l o' (.bl (!b))⟩⟩
def aBkO (Cs : List Addr) (B : ASp) : D → D → Nat → (D → Nat → Prop) → Prop := fun d e n Q => plD d = true ∧ insD Cs e ∧ B [e, d] n fun r m => ∃ b, r = .bl b ∧ Q (.bl b) m
instance {Cs : List Addr} {B : ASp} : D2 K (rBkO K Cs (spOf K 2 B)) (aBkO Cs B) := ⟨fun W n H x y d e Q Qa hQ o ax ay h => by
  obtain ⟨hp, ⟨C, ns, ds, rfl, hC⟩, q⟩ := h
  refine ⟨C, hC, plain_at hp ax, ins_at ay, W, n, [_, d], _, .cons ay (.cons ax .nil), rfl, o, ?_, q⟩
  rintro r m ⟨b, rfl, q⟩ H' v l o' a
  cases a
  exact ⟨b, rfl, hQ _ _ q H' _ l o' (.bl b)⟩⟩
def rowD (Cs : List Addr) (d r : D) : Prop := ∃ C x ns ds, d = .ins C (x :: ns) (r :: ds) ∧ C ∈ Cs ∧ r.isD = true ∧ r.pd.canLay0 = true
def aInGo (Cs : List Addr) (B : ASp) (neg : Bool) (d r : D) (Q : D → Nat → Prop) : List D → Nat → Prop
  | [], n => Q (.bl neg) n
  | z :: zs, n => ∃ rz, rowD Cs z rz ∧ (rz.pd = r.pd → Q (.bl (!neg)) n) ∧ B [z, d] n fun t m => ∃ b, t = .bl b ∧ (b = true → Q (.bl (!neg)) m) ∧ (b = false → aInGo Cs B neg d r Q zs m)
def aInO (Cs : List Addr) (B : ASp) (neg : Bool) : D → D → Nat → (D → Nat → Prop) → Prop := fun d e n Q => ∃ r zs, rowD Cs d r ∧ e = .lst zs ∧ aInGo Cs B neg d r Q zs n
theorem rowD.ins {Cs : List Addr} {d r : D} (h : rowD Cs d r) : insD Cs d := by
  obtain ⟨C, x, ns, ds, rfl, hC, _⟩ := h
  exact ⟨C, _, _, rfl, hC⟩
theorem row_same {Cs : List Addr} {W : Wd} {H : Hp} {v : V} {d e r t : D} (U : DpUniq K H) (hd : rowD Cs d r) (he : rowD Cs e t) (ad : At K W H v d) (ae : At K W H v e) : r.pd = t.pd := by
  obtain ⟨C, x, ns, ds, rfl, _, i1, l1⟩ := hd
  obtain ⟨C', x', ns', ds', rfl, _, i2, l2⟩ := he
  cases ad with
  | ins s1 e1 b1 =>
    cases ae with
    | ins s2 e2 b2 =>
      rename_i a dx xs dx' xs'
      cases b1 with
      | cons p1 q1 =>
        cases b2 with
        | cons p2 q2 =>
          rw [s1] at s2
          have e3 := HO.ins.inj (Option.some.inj s2)
          have e4 := (List.cons.inj e3.2.2).1
          have e5 := (Prod.mk.inj e4).2
          subst e5
          exact U _ _ _ (At.dp r i1 p1) (At.dp t i2 p2) l1
instance {Cs : List Addr} {B : ASp} {neg : Bool} : D2 K (rInO K Cs (spOf K 2 B) neg) (aInO Cs B neg) := ⟨fun W n H x y d e Q Qa hQ o ax ay h => by
  obtain ⟨r, zs, hr, rfl, g⟩ := h
  obtain ⟨l, xs0, rfl, hxs0⟩ : ∃ l xs, y = .ref l ∧ H l = some (.lst xs) := by
    cases ay with
    | lst r s a => exact ⟨_, _, rfl, s⟩
  refine ⟨fun i H' => ∃ n', W.le H H' ∧ W.ok K n' H' ∧ i ≤ zs.length ∧ aInGo Cs B neg d r Qa (zs.drop i) n', l, zs.length, rfl, ⟨n, Wd.le_refl, o, Nat.zero_le _, g⟩, fun i H' hJ => ?_⟩
  obtain ⟨n', le, o', hi, g'⟩ := hJ
  have ay' := At.le o le _ ay
  have ax' := At.le o le _ ax
  cases ay' with
  | lst rr s a =>
    rename_i xs
    refine ⟨xs, s, a.length, fun e => ?_, fun z hz => ?_⟩
    · rw [List.drop_of_length_le (by omega)] at g'
      exact hQ _ _ g' H' _ le o' (.bl neg)
    · have hlt : i < zs.length := by
        rw [← a.length]
        exact (List.getElem?_eq_some_iff.mp hz).1
      rw [List.drop_eq_getElem_cons hlt] at g'
      obtain ⟨rz, hz', same, q⟩ := g'
      obtain ⟨v', e', az⟩ := a.get (List.getElem?_eq_getElem hlt)
      rw [hz] at e'
      obtain rfl := Option.some.inj e'
      obtain ⟨D, ns, ds, e, hD⟩ := hz'.ins
      refine ⟨D, hD, ins_at (by rw [e] at az; exact az), bes_at (.inr hr.ins) ax', fun U e => ?_, W, n', [_, d], _, .cons az (.cons ax' .nil), rfl, o', ?_, q⟩
      · subst e
        exact hQ _ _ (same (row_same U hz' hr az ax')) H' _ le o' (.bl _)
      · rintro t m ⟨b, rfl, q1, q2⟩ H2 v l2 o2 a2
        cases a2
        exact ⟨b, rfl, fun hb => hQ _ _ (q1 hb) H2 _ (le.trans l2) o2 (.bl _), fun hb => ⟨m, le.trans l2, o2, hlt, q2 hb⟩⟩⟩
end
section
variable {K : PySem.W.Frag}
def rInDp (K : PySem.W.Frag) : R2 := rInD K
def rNotInDp (K : PySem.W.Frag) : R2 := rNotInD K
theorem k_inD {X : Cx} (hK : X.K = K) (hu : X.A.units + 65 < cLine) : OpR X (compareOp .In) (rInDp K) := hK ▸ op_inD hu
def anyD (ds : List D) (d : D) : Bool := (pdAll ds).any fun z => PyData.eqv z d.pd
structure PlD (ds : List D) (d : D) : Prop where
  d1 : d.isD = true
  d2 : isDAll ds = true
  s1 : SeqAt.shaped d.pd = true
  s2 : SeqAt.shaped (.list (pdAll ds)) = true
def aInDp (f : Bool → Bool) : D → D → Nat → (D → Nat → Prop) → Prop := fun d e n Q => ∃ ds, e = .lst ds ∧ PlD ds d ∧ Q (.bl (f (anyD ds d))) n
instance : D2 K (rInDp K) (aInDp id) := ⟨fun W n H x y d e Q Qa hQ o ax ay h => by
  obtain ⟨ds, rfl, p, q⟩ := h
  exact ⟨d.pd, pdAll ds, At.dp d p.d1 ax, At.dp (.lst ds) p.d2 ay, p.s1, p.s2, hQ.now o q (.bl _)⟩⟩
instance : D2 K (rNotInDp K) (aInDp not) := ⟨fun W n H x y d e Q Qa hQ o ax ay h => by
  obtain ⟨ds, rfl, p, q⟩ := h
  exact ⟨d.pd, pdAll ds, At.dp d p.d1 ax, At.dp (.lst ds) p.d2 ay, p.s1, p.s2, hQ.now o q (.bl _)⟩⟩
def tIdxD (K : PySem.W.Frag) (to te : TE) : TE := tBM K "list" (rIndexD K) to (tCons te tNil)
def aIdxD (fa fb : AE) : AE := fun ρ n Q => fa ρ n fun d n1 => ∃ ds, d = .lst ds ∧ fb ρ n1 fun e n2 => ∃ j z, PlD ds e ∧ ds[j]? = some z ∧ PyData.eqv z.pd e.pd = true ∧ (∀ (m : Nat) (z' : D), m < j → ds[m]? = some z' → PyData.eqv z'.pd e.pd = false) ∧ Q (.int (j : Nat)) n2
theorem pdAll_get : ∀ {ds : List D} {j : Nat}, (pdAll ds)[j]? = (ds[j]?).map D.pd
  | [], j => by simp [pdAll]
  | d :: ds, 0 => rfl
  | d :: ds, j + 1 => pdAll_get (ds := ds) (j := j)
instance {to te : TE} {fa fb : AE} [DE K to fa] [DE K te fb] : DE K (tIdxD K to te) (aIdxD fa fb) := ⟨fun W σ ρ n H Q Qa hQ hE o h =>
  DE.run (te := to) (f := fa) W σ ρ n H _ _ (fun d n1 h1 H1 x l1 o1 ax => by
    obtain ⟨ds, rfl, h1⟩ := h1
    have hx : ∃ p, x = .ref p ∧ ∃ xs, SqL K H1 p xs := by
      cases ax with
      | lst r s a => exact ⟨_, rfl, _, SqL.of s⟩
    obtain ⟨p, rfl, hs⟩ := hx
    refine ⟨.inl ⟨rfl, hs⟩, ?_⟩
    refine DE.run (te := te) (f := fb) W σ ρ n1 H1 _ _ (fun e n2 h2 H2 y l2 o2 ay => ?_) (hE.le o l1) o1 h1
    obtain ⟨j, z, pl, e1, e2, e3, q⟩ := h2
    refine ⟨p, y, e.pd, pdAll ds, j, z.pd, rfl, rfl, At.dp (.lst ds) pl.d2 (At.le o1 l2 _ ax), At.dp e pl.d1 ay, pl.s2, pl.s1, by rw [pdAll_get, e1]; rfl, e2, fun m z' hm hz' => ?_, ((hQ.le l1).le l2).now o2 q (.int _)⟩
    rw [pdAll_get] at hz'
    obtain ⟨z'', h3, rfl⟩ := Option.map_eq_some_iff.mp hz'
    exact e3 m z'' hm h3) hE o h⟩
end
section
variable {P : Program} {w : World} {K : PySem.W.Frag} {mg : Str → Option Value} {base : Heap} {A : Ad}
def a_l_take : ASp := fun ds n Q => ∃ m : Int, ds = [.deck, .int m] ∧ 0 < m ∧ m.natAbs.log2 < 9000 ∧ 1 ≤ n ∧ ∀ r, 0 ≤ r → r < m → Q (.int r) (n - 1)
theorem ok_l_take (T : Tx K mg A) : FnOk P w K mg base CX0 3 A.f_l_take A.fd_l_take ["_law_deck_here", "_law_many"] (spOf K 2 a_l_take) := (ok0_l_take T).imp fun vs H Q E h => by
  obtain ⟨W, n, ds, Qa, a, hl, o, hQ, m, rfl, hm, hlog, hn, q⟩ := h
  cases a with
  | cons a r =>
    cases r with
    | cons b r =>
      cases r
      cases b
      cases a with
      | @deck d b e =>
        obtain ⟨c, D, lc⟩ := o.deck d b e
        refine ⟨d, b, c, m, rfl, D, by omega, hm, hlog, fun H' r D' kp h0 h1 => hQ _ _ (q r h0 h1) H' _ (fun x ob nr hx => kp x ob (fun z => nr (.inl ⟨d, b, e, .inl z⟩)) (fun z => nr (.inl ⟨d, b, e, .inr z⟩)) hx) ⟨fun d' b' e' => ?_, fun p hp => ?_, o.dis⟩ (.int r)⟩
        · rw [e] at e'
          cases e'
          exact ⟨c + 1, D', by omega⟩
        · obtain ⟨h1, h2⟩ := o.owns p hp
          obtain ⟨n1, n2⟩ := o.dis d b e p hp
          exact ⟨kp _ _ n1 n2 h1, h2⟩
def sp_law (K : PySem.W.Frag) : Sp := fun vs H Q _ => ∃ (a : Addr) (ns : List Int), vs = [.ref a] ∧ Only H ∧ SqL K H a (ns.map V.int) ∧ ns.length ≤ 63 ∧ ∀ H', Q (.bl true) H'
theorem law_start {W : Wd} {ow : List Nat} {n : Nat} {H : Hp} {N : List Str} {k i : Nat} {a d b : Addr} (hk : N.length = k) (h0 : 0 < k) (hi : i ∉ ow) (hd : W.dk = some (d, b)) (o : W.ok K n H) : SOk K W ow n H ((L2.start N [.ref a]).set i (some (.ref d))) (eSet (startA k []) i (some .deck)) [] := by
  have hg : ∀ j e, eGet (eSet (startA k []) i (some .deck)) j = some e → i = j ∧ e = .deck ∧ i < k := fun j e he => by
    by_cases hij : i = j
    · subst hij
      obtain ⟨h1, h2⟩ := eGet_set he
      rw [startA_length] at h1
      exact ⟨rfl, (Option.some.inj h2).symm, h1⟩
    · rw [eGet_ne hij] at he
      exact (startA_none he).elim
  have hlen : (L2.start N [V.ref a]).length = k := by
    unfold L2.start
    rw [List.length_append, List.length_map, List.length_replicate]
    show 1 + (N.length - 1) = k
    omega
  refine ⟨List.nodup_nil, fun u hu => (by cases hu), o, by rw [List.length_set, eSet_length, startA_length, hlen], fun j e _ he => ?_, fun j e hj he => ?_, fun j m p hj hm _ _ _ => .inl ?_⟩
  · obtain ⟨rfl, rfl, hlt⟩ := hg j e he
    exact ⟨_, List.getElem?_set_self (by rw [hlen]; exact hlt), .deck hd⟩
  · obtain ⟨rfl, _⟩ := hg j e he
    exact absurd hj hi
  · cases e : eGet (eSet (startA k []) i (some .deck)) j with
    | none => rfl
    | some e' =>
      obtain ⟨rfl, _⟩ := hg j e' e
      exact absurd hj hi
theorem law_mir {P : Program} {w : World} {mg : Str → Option Value} {base : Heap} {x qual : Str} {st : Stmt} {f : Addr} {fd : FuncData} {N : List Str} {k : Nat} (ow : List Nat) (kk i : Nat) (hk : N.length = kk) (h0 : 0 < kk) (hi : i ∉ ow) (F : Fun K x qual st f fd) (S : FnScope N ["_law_script"] (defScope st))
    (hbody : ∀ (cdv : Value) (Ar : Around) (outer : List Env) (s : Shared) (H : Hp) (E : XK), Room k (Ar.deeper (envOfC qual (defScope st) s.heap.objs.size f cdv)) →
      ∃ (t : TS) (fa : AS), PSs (cxOf CX0 P w K mg base N qual (defScope st) f cdv Ar outer s H E).nox (defBody st) (tSeq (tAsg (tCall (sp_l_deck K) [] E0 (tCons (tVar 0) tNil)) (gName i)) t) ∧ DS K W0 ow t fa ∧ fa (aTop fun d _ => d = .bl true) (eSet (startA kk []) i (some .deck)) 900000) : FnOk P w K mg base CX0 (k + 1) f fd ["_law_script"] (sp_law K) := by
  refine F.ok S (fun vs H Q E h => ?_) (fun cdv Ar outer s H vs Q E hr h => ?_)
  · obtain ⟨a, ns, rfl, _⟩ := h
    rfl
  · obtain ⟨a, ns, rfl, hO, hS, hn, q⟩ := h
    obtain ⟨t, fa, h1, h2, h3⟩ := hbody cdv Ar outer s H E hr
    refine ⟨_, h1, ?_⟩
    refine ⟨.ref a, rfl, a, ns, rfl, Sc.mk hO hS, hn, fun H' d b hd hb D sm => ?_⟩
    refine DS.run (K := K) (Wx := W0) (ow := ow) (t := t) (f := fa) ⟨some (d, b), []⟩ [] _ _ 900000 H' _ (aTop fun d _ => d = .bl true) ⟨fun ρ' n' z => (by cases z), fun d' n' z U1 H1 H2 v _ _ _ a' => ?_, fun _ _ q => q.elim, fun _ _ q => q.elim, fun _ _ _ _ _ q => q.elim⟩ (law_start hk h0 hi rfl ⟨fun d' b' e' => ?_, fun p hp => (by cases hp), fun _ _ _ p hp => (by cases hp)⟩) h3
    · subst z
      cases a'
      exact q _
    · cases e'
      exact ⟨0, D, by omega⟩
def sh (q : Rat) : D := .tup [.int q.num, .int (q.den : Int)]
theorem sh_of {t u a b : Int} (h : IsSh t u) (hb : b ≠ 0) (c : t * b = u * a) : D.tup [.int t, .int u] = sh (Rat.divInt a b) := by
  obtain ⟨h1, h2⟩ := rep_divInt h hb c
  rw [h1, h2]
  rfl
theorem mulA {n m : Nat} {x y : Int} (h : Bd n x) (g : Bd m y) (hn : n ≤ 400000) (hm : m ≤ 400000) : CMulA x y := .inr (h.mulW g hn hm)
theorem divA {n : Nat} {x y : Int} (h : Bd n y) (h0 : 0 < y) (hn : n < 9000) : CDivA x y := .inr (h.divW h0 hn)
theorem dIte {p : Prop} [Decidable p] {a b : Prop} (h : p → a) (g : ¬ p → b) : aIte (decide p) a b := ⟨fun e => h (of_decide_eq_true e), fun e => g (of_decide_eq_false e)⟩
def a_gcd : ASp := fun ds n Q => ∃ a b : Int, ds = [.int a, .int b] ∧ Q (.int (gcdI a b)) n
def spt (x y : Rat) : D := .tup [sh x, sh y]
def flds (ar : Addr) (nm : V) (m : Int) : List (Str × V) := putF "mass" (.int m) (putF "name" nm (putF "row" (.ref ar) []))
theorem n1 : ¬ (("row" : Str) = "mass") := by decide +kernel
theorem n2 : ¬ (("row" : Str) = "name") := by decide +kernel
theorem n3 : ¬ (("name" : Str) = "mass") := by decide +kernel
abbrev bNs : List Str := ["row", "name", "mass"]
theorem flds_eq (ar : Addr) (nm : V) (m : Int) : flds ar nm m = bNs.zip [.ref ar, nm, .int m] := by
  have e1 : putF "row" (V.ref ar) [] = [(("row" : Str), V.ref ar)] := rfl
  have e2 : putF "name" nm [(("row" : Str), V.ref ar)] = (("row" : Str), V.ref ar) :: [(("name" : Str), nm)] := by
    show (if ("row" : Str) = "name" then [(("name" : Str), nm)] else (("row" : Str), V.ref ar) :: putF "name" nm []) = _
    rw [if_neg n2]
    rfl
  have e3 : putF "mass" (V.int m) ((("row" : Str), V.ref ar) :: [(("name" : Str), nm)]) = (("row" : Str), V.ref ar) :: (("name" : Str), nm) :: [(("mass" : Str), V.int m)] := by
    show (if ("row" : Str) = "mass" then (("mass" : Str), V.int m) :: [(("name" : Str), nm)] else (("row" : Str), V.ref ar) :: (if ("name" : Str) = "mass" then [(("mass" : Str), V.int m)] else (("name" : Str), nm) :: putF "mass" (V.int m) [])) = _
    rw [if_neg n1, if_neg n3]
    rfl
  unfold flds
  rw [e1, e2, e3]
  rfl
theorem look_row {a b c : D} : (bNs.zip [a, b, c]).lookup ("row" : Str) = some a := by
  show List.lookup ("row" : Str) [(("row" : Str), a), (("name" : Str), b), (("mass" : Str), c)] = some a
  rw [List.lookup_cons, beq_self_eq_true]
theorem look_name {a b c : D} : (bNs.zip [a, b, c]).lookup ("name" : Str) = some b := by
  show List.lookup ("name" : Str) [(("row" : Str), a), (("name" : Str), b), (("mass" : Str), c)] = some b
  rw [List.lookup_cons, beq_eq_false_iff_ne.mpr (Ne.symm n2), List.lookup_cons, beq_self_eq_true]
theorem look_mass {a b c : D} : (bNs.zip [a, b, c]).lookup ("mass" : Str) = some c := by
  show List.lookup ("mass" : Str) [(("row" : Str), a), (("name" : Str), b), (("mass" : Str), c)] = some c
  rw [List.lookup_cons, beq_eq_false_iff_ne.mpr (Ne.symm n1), List.lookup_cons, beq_eq_false_iff_ne.mpr (Ne.symm n3), List.lookup_cons, beq_self_eq_true]
theorem SqT.ins {K : PySem.W.Frag} {H : Hp} {a x C dx : Addr} {xs : List V} {fs : List (Str × V)} {o : HO} (h : SqT K H a xs) (hx : H x = some (.ins C dx fs)) : SqT K (upd H x o) a xs := by
  rcases h with (h | ⟨o', h⟩) | h
  · exact .inl (.inl (by rw [upd_ne (fun e => by rw [e, hx] at h; cases h)]; exact h))
  · exact .inl (.inr ⟨o', by rw [upd_ne (fun e => by rw [e, hx] at h; cases h)]; exact h⟩)
  · exact .inr h
def sp_init (K : PySem.W.Frag) : Sp := fun vs H Q _ => ∃ (x dx ar C : Addr) (nm sh rl pl st : V) (m : Int), vs = [.ref x, .ref ar] ∧ H x = some (.ins C dx []) ∧ SqT K H ar [nm, sh, .int m, rl, pl, st] ∧ Cls K C ∧ NoAttr K C "row" ∧ NoAttr K C "name" ∧ NoAttr K C "mass" ∧ ∀ H', (∀ b o, b ≠ x → H b = some o → H' b = some o) → H' x = some (.ins C dx (flds ar nm m)) → Q .non H'
theorem ok_m_Body___init__ (T : Tx K mg A) : FnOk P w K mg base CX0 1 A.f_m_Body___init__ A.fd_m_Body___init__ ["self", "row"] (sp_init K) := by
  refine T.F_m_Body___init__.ok sc_m_Body___init__ (fun vs H Q E h => ?_) (fun cdv Ar outer s H vs Q E hr h => ?_)
  · obtain ⟨x, dx, ar, C, nm, sh, rl, pl, st, m, rfl, _⟩ := h
    rfl
  · obtain ⟨x, dx, ar, C, nm, sh, rl, pl, st, m, rfl, hx, hA, cl, n1, n2, n3, q⟩ := h
    refine ⟨_, (pss_cons (ps_fld (pv 0) (pv 1) rfl)
    (pss_cons (ps_fld (pv 0) (pe_ix ix_tup (pv 1) pe_int (fun _ _ => rfl)) rfl)
    (pss_one (ps_fld (pv 0) (pe_ix ix_tup (pv 1) pe_int (fun _ _ => rfl)) rfl)))), ?_⟩
    refine ⟨_, rfl, _, rfl, x, C, dx, [], rfl, hx, cl, n1, (by show 0 < 1000; decide), ?_⟩
    have hA1 := SqT.ins (o := .ins C dx (putF "row" (.ref ar) [])) hA hx
    refine ⟨_, rfl, ar, _, 0, _, rfl, rfl, hA1, rfl, _, rfl, x, C, dx, _, rfl, upd_same, cl, n2, (by show 1 < 1000; decide), ?_⟩
    have hA2 := SqT.ins (o := .ins C dx (putF "name" nm (putF "row" (.ref ar) []))) hA1 upd_same
    refine ⟨_, rfl, ar, _, 2, _, rfl, rfl, hA2, rfl, _, rfl, x, C, dx, _, rfl, upd_same, cl, n3, ?_, ?_⟩
    · have e : (putF "name" nm (putF "row" (V.ref ar) [])).length ≤ 2 := by
        show (if ("row" : Str) = "name" then [(("name" : Str), nm)] else (("row" : Str), V.ref ar) :: putF "name" nm []).length ≤ 2
        rw [if_neg R.n2]
        exact Nat.le_refl 2
      omega
    · refine q _ (fun b o hb e => ?_) upd_same
      rw [upd_ne hb, upd_ne hb, upd_ne hb]
      exact e
structure InitC (K : PySem.W.Frag) (C : Addr) : Prop where
  cl : Cls K C
  r : NoAttr K C "row"
  n : NoAttr K C "name"
  m : NoAttr K C "mass"
def aMk (K : PySem.W.Frag) (C : Addr) (fa : AE) : AE := fun ρ n Q => fa ρ n fun d n1 => match d with
  | .tup [nm, sh, .int m, rl, pl, st] => InitC K C ∧ Q (.ins C bNs [.tup [nm, sh, .int m, rl, pl, st], nm, .int m]) n1
  | _ => False
instance {C : Addr} {te : TE} {fa : AE} [DE K te fa] : DE K (tMake C (sp_init K) [] E0 (tCons te tNil)) (aMk K C fa) := ⟨fun W σ ρ n H Q Qa hQ hE o h =>
  DE.run (te := te) (f := fa) W σ ρ n H _ _ (fun d n1 h1 H1 x l1 o1 ax => by
    split at h1
    · obtain ⟨ic, h1⟩ := h1
      intro z dx hz hdx hne
      cases ax with
      | @tup a xs _ s b =>
        cases b with
        | cons b1 b =>
          cases b with
          | cons b2 b =>
            cases b with
            | cons b3 b =>
              cases b with
              | cons b4 b =>
                cases b with
                | cons b5 b =>
                  cases b with
                  | cons b6 b =>
                    cases b
                    cases b3
                    have two : Same H1 (upd (upd H1 dx (.own z)) z (.ins C dx [])) := fun b' o' h' => by
                      rw [upd_ne (ne_of_none h' hz), upd_ne (ne_of_none h' hdx)]
                      exact h'
                    refine ⟨z, dx, a, C, _, _, _, _, _, _, rfl, upd_same, Same.seqT two s, ic.cl, ic.r, ic.n, ic.m, fun H' hk he => ⟨rfl, ?_⟩⟩
                    have sm : Same H1 H' := fun b' o' h' => hk b' o' (ne_of_none h' hz) (two b' o' h')
                    rw [flds_eq] at he
                    have lw : W.le H1 H' := Wd.le_same sm
                    exact (hQ.le l1) _ _ h1 H' _ lw (o1.same sm) (.ins he rfl (.cons (At.le o1 lw _ (.tup s (.cons b1 (.cons b2 (.cons (.int _) (.cons b4 (.cons b5 (.cons b6 .nil)))))))) (.cons (At.le o1 lw _ b1) (.cons (.int _) .nil))))
    · exact h1.elim) hE o h⟩
abbrev iT (i : Int) : Str := Str.ofString (toString i)
theorem iT_len {i : Int} (h : i.natAbs.log2 < 1920) : (iT i).length ≤ 1921 := PyProof.Rows.int_text_len_1921 h
theorem bd_log {k : Nat} {x : Int} (h : Bd k x) (hk : k ≤ 1900) : x.natAbs.log2 < 1920 := Nat.lt_of_lt_of_le (log2_lt (k := k + 1) (Nat.lt_of_lt_of_le h (Nat.pow_le_pow_right (by decide) (Nat.le_succ _))) (by omega)) (by omega)
theorem str_app_len (a b : Str) : (a ++ b).length = a.length + b.length := strLen_append a b
theorem emp_app (z : Str) : Str.empty ++ z = z := by
  cases z with
  | mk c =>
    show Str.mk (#[] ++ c) = Str.mk c
    rw [Array.empty_append]
theorem one_len : (Str.ofString "/").length = 1 := by decide +kernel
theorem com_len : (Str.ofString ",").length = 1 := by decide +kernel
def wtx (q : Rat) : Str := if (q.den : Int) = 1 then iT q.num else (iT q.num ++ Str.ofString "/") ++ iT (q.den : Int)
theorem wtx_len {q : Rat} {k : Nat} (h : BdQ k q) (hk : k ≤ 1900) : (wtx q).length ≤ 4000 := by
  have h1 := iT_len (bd_log h.1 hk)
  have h2 := iT_len (bd_log h.2 hk)
  have h3 := one_len
  unfold wtx
  split
  · omega
  · rw [str_app_len, str_app_len]
    omega
def cw (p : Pt) : Str := (iT p.1 ++ Str.ofString ",") ++ iT p.2
def PtOk (p : Pt) : Prop := Bd 64 p.1 ∧ Bd 64 p.2
theorem cw_len {p : Pt} (h : PtOk p) : (cw p).length ≤ 4000 := by
  have h1 := iT_len (bd_log h.1 (by decide))
  have h2 := iT_len (bd_log h.2 (by decide))
  have h3 := com_len
  unfold cw
  rw [str_app_len, str_app_len]
  omega
def a_p_share_text : ASp := fun ds n Q => ∃ (q : Rat) (k : Nat), ds = [sh q] ∧ BdQ k q ∧ k ≤ 1900 ∧ Q (.str (wtx q)) n
theorem ok_p_share_text (T : Tx K mg A) : FnOk P w K mg base CX0 1 A.f_p_share_text A.fd_p_share_text ["one"] (spOf K 1 a_p_share_text) := by
  refine fn_mir [] 3 rfl (by decide) (by decide) T.F_p_share_text sc_p_share_text fun cdv Ar outer s H E hr => ?_
  refine ⟨_, _, (pss_cons (ps_asg (pv 0) (k_gtup (K := K) (m := 2) rfl rfl (pgs_cons (pg_name (i := 1) sc_p_share_text.nd rfl (.inl rfl)) (pgs_cons (pg_name (i := 2) sc_p_share_text.nd rfl (.inl rfl)) pgs_nil))))
    (pss_cons (ps_if (pt_cmpR (k_eq (K := K) rfl hr.units) (pv 2) pe_int (nomark _))
      (pss_one (ps_ret (pe_callTy k_str (by rfl) T.m_str (by decide +kernel) (pa_cons (pv 1) pa_nil))))
      pss_nil)
    (pss_one (ps_ret (k_fstr (.cons (pe_fmt (pv 1)) (.cons pe_str (.cons (pe_fmt (pv 2)) .nil)))))))), by infer_instance, fun ds n Q hl hA => ?_⟩
  obtain ⟨q, k, rfl, b, hk, Qk⟩ := hA
  have l1 := bd_log b.1 hk
  have l2 := bd_log b.2 hk
  have t1 := iT_len l1
  have t2 := iT_len l2
  have h3 := one_len
  refine dIte (fun e => ?_) fun e => ?_
  · refine ⟨l1, ?_⟩
    rw [show wtx q = iT q.num from if_pos e] at Qk
    exact Qk
  · rw [show wtx q = (iT q.num ++ Str.ofString "/") ++ iT (q.den : Int) from if_neg e] at Qk
    rw [← emp_app (iT q.num)] at Qk
    have e0 : (Str.empty ++ iT q.num).length ≤ 1921 := by rw [emp_app]; exact t1
    exact ⟨l1, Nat.le_trans e0 (by decide), by rw [str_app_len]; show (Str.empty ++ iT q.num).length + _ ≤ _; omega, l2, by rw [str_app_len, str_app_len]; show (Str.empty ++ iT q.num).length + _ + (iT (q.den : Int)).length ≤ _; omega, Qk⟩
def a_p_spot_words : ASp := fun ds n Q => ∃ (x y : Rat) (k : Nat), ds = [spt x y] ∧ BdQ k x ∧ BdQ k y ∧ k ≤ 1900 ∧ Q (.lst [.str (wtx x), .str (wtx y)]) n
theorem ok_p_spot_words (T : Tx K mg A) : FnOk P w K mg base CX0 2 A.f_p_spot_words A.fd_p_spot_words ["spot"] (spOf K 1 a_p_spot_words) := by
  refine fn_mir [] 2 rfl (by decide) (by decide) T.F_p_spot_words sc_p_spot_words fun cdv Ar outer s H E hr => ?_
  refine ⟨_, _, (pss_one (ps_ret (pe_lc (own := [("part", 1)]) rfl sc_p_spot_words.nd (k_iter (K := K) rfl (pv 0)) (blkOk_by (own := [("part", 1)]) (N := ["spot", "part"]) (sc := defScope s_p_spot_words) (by decide +kernel)) (fun _ _ _ _ _ => (pg_name (i := 1) sc_p_spot_words.nd rfl (Or.inl rfl))) (fun _ _ _ _ _ => pts_nil) (fun _ _ _ _ _ => (pe_call (ok_p_share_text (P := P) (K := K) T) (hr.mono (by decide)) (by rfl) T.g_p_share_text T.F_p_share_text.kp T.b_p_share_text .nil pass0 (pa_cons (pv 1) pa_nil)))))), by infer_instance, fun ds n Q hl hA => ?_⟩
  obtain ⟨x, y, k, rfl, bx, bY, hk, q⟩ := hA
  exact ⟨(show 2 ≤ 1000000 by decide), aT ⟨x, k, rfl, bx, hk, aT ⟨y, k, rfl, bY, hk, q⟩⟩⟩
def a_p_corner_words : ASp := fun ds n Q => ∃ ps : List Pt, ds = [.tup (ps.map pt)] ∧ ps.length ≤ 16 ∧ (∀ p ∈ ps, PtOk p) ∧ Q (.lst ((ps.map cw).map D.str)) n
theorem ok_p_corner_words (T : Tx K mg A) : FnOk P w K mg base CX0 1 A.f_p_corner_words A.fd_p_corner_words ["shape"] (spOf K 1 a_p_corner_words) := by
  refine fn_mir [] 3 rfl (by decide) (by decide) T.F_p_corner_words sc_p_corner_words fun cdv Ar outer s H E hr => ?_
  refine ⟨_, _, (pss_one (ps_ret (pe_lc (own := [("x", 1), ("y", 2)]) rfl sc_p_corner_words.nd (k_iter (K := K) rfl (pv 0)) (blkOk_by (own := [("x", 1), ("y", 2)]) (N := ["shape", "x", "y"]) (sc := defScope s_p_corner_words) (by decide +kernel)) (fun _ _ _ _ _ => (k_gtup (K := K) (m := 2) rfl rfl (pgs_cons (pg_name (i := 1) sc_p_corner_words.nd rfl (Or.inl rfl)) (pgs_cons (pg_name (i := 2) sc_p_corner_words.nd rfl (Or.inl rfl)) pgs_nil)))) (fun _ _ _ _ _ => pts_nil) (fun _ _ _ _ _ => (k_fstr (.cons (pe_fmt (pv 1)) (.cons pe_str (.cons (pe_fmt (pv 2)) .nil)))))))), by infer_instance, fun ds n Q hl hA => ?_⟩
  obtain ⟨ps, rfl, hl, hp, q⟩ := hA
  refine ⟨by rw [List.length_map]; omega, ?_⟩
  refine aLc_ind (fun acc ds m => m = n ∧ ∃ (pre suf : List Pt), ps = pre ++ suf ∧ ds = suf.map pt ∧ acc = (pre.map cw).map D.str) ?_ ?_ ⟨rfl, [], ps, rfl, rfl, rfl⟩
  · rintro acc d r _ ⟨rfl, pre, suf, hs, e, rfl⟩ ih
    cases suf with
    | nil => cases e
    | cons p suf =>
    obtain ⟨rfl, rfl⟩ := List.cons.inj e
    have ok := hp p (by rw [hs]; simp)
    have l1 := bd_log ok.1 (by decide)
    have l2 := bd_log ok.2 (by decide)
    have t1 := iT_len l1
    have t2 := iT_len l2
    have h3 := com_len
    have e0 : (Str.empty ++ iT p.1).length ≤ 1921 := by rw [emp_app]; exact t1
    refine aT ⟨l1, Nat.le_trans e0 (by decide), by rw [str_app_len]; show (Str.empty ++ iT p.1).length + _ ≤ _; omega, l2, by rw [str_app_len, str_app_len]; show (Str.empty ++ iT p.1).length + _ + (iT p.2).length ≤ _; omega, ih _ _ ⟨rfl, pre ++ [p], suf, by rw [hs, List.append_assoc]; rfl, rfl, ?_⟩⟩
    rw [List.map_append, List.map_append]
    show _ ++ [D.str (Str.empty ++ iT p.1 ++ Str.ofString "," ++ iT p.2)] = _
    rw [emp_app]
    rfl
  · rintro acc _ ⟨rfl, pre, suf, hs, e, rfl⟩
    cases suf with
    | cons p suf => cases e
    | nil =>
    rw [List.append_nil] at hs
    rw [← hs]
    exact q
inductive Kn where
  | wall | free (m : Int) | rail (m p q : Int)
def Kn.kd : Kn → Kd
  | .wall => .w | .free _ => .f | .rail _ _ _ => .r
def Kn.m : Kn → Int
  | .wall => 0 | .free m => m | .rail m _ _ => m
def Kn.rl : Kn → D
  | .wall => .non | .free _ => .non | .rail _ p q => .tup [.int p, .int q]
def Kn.ok : Kn → Prop
  | .wall => True | .free m => 1 ≤ m ∧ Bd 64 m | .rail m p q => 1 ≤ m ∧ Bd 64 m ∧ Bd 64 p ∧ Bd 64 q
def Kd.cls (A : Ad) : Kd → Addr
  | .w => A.c_Wall
  | .f => A.c_Free
  | .r => A.c_Railed
structure Bw where
  nm : Str
  kn : Kn
  ps : List Pt
  px : Rat
  py : Rat
  x : Rat
  y : Rat
def Bw.rw (b : Bw) : Rw := (b.nm, [.tup (b.ps.map pt), .int b.kn.m, b.kn.rl, spt b.px b.py, spt b.x b.y])
def Bw.d (b : Bw) : D := rowT b.rw
def Bw.ok (b : Bw) : Prop := b.kn.ok ∧ b.ps.length ≤ 16 ∧ (∀ p ∈ b.ps, PtOk p) ∧ BdQ 1500 b.px ∧ BdQ 1500 b.py ∧ BdQ 1500 b.x ∧ BdQ 1500 b.y ∧ b.nm.length ≤ 20
def Bw.ws (b : Bw) : List Str := match b.kn with
  | .wall => [Str.ofString "wall", b.nm] ++ [wtx b.px, wtx b.py] ++ b.ps.map cw
  | .free m => [Str.ofString "free", b.nm, iT m] ++ [wtx b.px, wtx b.py] ++ [wtx b.x, wtx b.y] ++ b.ps.map cw
  | .rail m p q => [Str.ofString "rail", b.nm, iT m, iT p, iT q] ++ [wtx b.px, wtx b.py] ++ [wtx b.x, wtx b.y] ++ b.ps.map cw
def a_ws (kd : Kd) : ASp := fun ds n Q => ∃ b : Bw, ds = [b.d] ∧ b.ok ∧ b.kn.kd = kd ∧ Q (.lst (b.ws.map D.str)) n
abbrev a_p_wall_words : ASp := a_ws .w
abbrev a_p_free_words : ASp := a_ws .f
abbrev a_p_rail_words : ASp := a_ws .r
theorem ok_p_wall_words (T : Tx K mg A) : FnOk P w K mg base CX0 3 A.f_p_wall_words A.fd_p_wall_words ["row"] (spOf K 1 a_p_wall_words) := by
  refine fn_mir [] 7 rfl (by decide) (by decide) T.F_p_wall_words sc_p_wall_words fun cdv Ar outer s H E hr => ?_
  refine ⟨_, _, (pss_cons (ps_asg (pv 0) (k_gtup (K := K) (m := 6) rfl rfl (pgs_cons (pg_name (i := 1) sc_p_wall_words.nd rfl (.inl rfl)) (pgs_cons (pg_name (i := 2) sc_p_wall_words.nd rfl (.inl rfl)) (pgs_cons (pg_name (i := 3) sc_p_wall_words.nd rfl (.inl rfl)) (pgs_cons (pg_name (i := 4) sc_p_wall_words.nd rfl (.inl rfl)) (pgs_cons (pg_name (i := 5) sc_p_wall_words.nd rfl (.inl rfl)) (pgs_cons (pg_name (i := 6) sc_p_wall_words.nd rfl (.inl rfl)) pgs_nil))))))))
    (pss_one (ps_ret (pe_op (k_add (K := K) rfl) (pe_op (k_add (K := K) rfl) (pe_lst (pa_cons pe_str (pa_cons (pv 1) pa_nil))) (pe_call (ok_p_spot_words (P := P) (K := K) T) (hr.mono (by decide)) (by rfl) T.g_p_spot_words T.F_p_spot_words.kp T.b_p_spot_words .nil pass0 (pa_cons (pv 5) pa_nil))) (pe_call (ok_p_corner_words (P := P) (K := K) T) (hr.mono (by decide)) (by rfl) T.g_p_corner_words T.F_p_corner_words.kp T.b_p_corner_words .nil pass0 (pa_cons (pv 2) pa_nil)))))), by infer_instance, fun ds n Q hl hA => ?_⟩
  obtain ⟨⟨nm, kn, ps, px, py, x, y⟩, rfl, ⟨ok, hl, hp, b1, b2, b3, b4, hn⟩, hk, q⟩ := hA
  cases kn <;> cases hk
  refine ⟨px, py, 1500, rfl, b1, b2, by decide, (show 2 + 2 ≤ 1000000 by decide), ps, rfl, hl, hp, ?_⟩
  refine ⟨by rw [List.length_map, List.length_map]; show 4 + ps.length ≤ 1000000; have hl' : ps.length ≤ 16 := hl; omega, ?_⟩
  have e : (Bw.mk nm .wall ps px py x y).ws.map D.str = [D.str (Str.ofString "wall"), D.str nm] ++ [.str (wtx px), .str (wtx py)] ++ (ps.map cw).map D.str := by
    show ([Str.ofString "wall", nm] ++ [wtx px, wtx py] ++ ps.map cw).map D.str = _
    rw [List.map_append, List.map_append]
    rfl
  rw [e] at q
  exact q
theorem ok_p_free_words (T : Tx K mg A) : FnOk P w K mg base CX0 3 A.f_p_free_words A.fd_p_free_words ["row"] (spOf K 1 a_p_free_words) := by
  refine fn_mir [] 7 rfl (by decide) (by decide) T.F_p_free_words sc_p_free_words fun cdv Ar outer s H E hr => ?_
  refine ⟨_, _, (pss_cons (ps_asg (pv 0) (k_gtup (K := K) (m := 6) rfl rfl (pgs_cons (pg_name (i := 1) sc_p_free_words.nd rfl (.inl rfl)) (pgs_cons (pg_name (i := 2) sc_p_free_words.nd rfl (.inl rfl)) (pgs_cons (pg_name (i := 3) sc_p_free_words.nd rfl (.inl rfl)) (pgs_cons (pg_name (i := 4) sc_p_free_words.nd rfl (.inl rfl)) (pgs_cons (pg_name (i := 5) sc_p_free_words.nd rfl (.inl rfl)) (pgs_cons (pg_name (i := 6) sc_p_free_words.nd rfl (.inl rfl)) pgs_nil))))))))
    (pss_one (ps_ret (pe_op (k_add (K := K) rfl) (pe_op (k_add (K := K) rfl) (pe_op (k_add (K := K) rfl) (pe_lst (pa_cons pe_str (pa_cons (pv 1) (pa_cons (pe_callTy k_str (by rfl) T.m_str (by decide +kernel) (pa_cons (pv 3) pa_nil)) pa_nil)))) (pe_call (ok_p_spot_words (P := P) (K := K) T) (hr.mono (by decide)) (by rfl) T.g_p_spot_words T.F_p_spot_words.kp T.b_p_spot_words .nil pass0 (pa_cons (pv 5) pa_nil))) (pe_call (ok_p_spot_words (P := P) (K := K) T) (hr.mono (by decide)) (by rfl) T.g_p_spot_words T.F_p_spot_words.kp T.b_p_spot_words .nil pass0 (pa_cons (pv 6) pa_nil))) (pe_call (ok_p_corner_words (P := P) (K := K) T) (hr.mono (by decide)) (by rfl) T.g_p_corner_words T.F_p_corner_words.kp T.b_p_corner_words .nil pass0 (pa_cons (pv 2) pa_nil)))))), by infer_instance, fun ds n Q hl hA => ?_⟩
  obtain ⟨⟨nm, kn, ps, px, py, x, y⟩, rfl, ⟨ok, hl, hp, b1, b2, b3, b4, hn⟩, hk, q⟩ := hA
  cases kn with
  | wall => cases hk
  | rail _ _ _ => cases hk
  | free m =>
  have hl' : ps.length ≤ 16 := hl
  refine ⟨bd_log ok.2 (by decide), px, py, 1500, rfl, b1, b2, by decide, (show 3 + 2 ≤ 1000000 by decide), x, y, 1500, rfl, b3, b4, by decide, (show 5 + 2 ≤ 1000000 by decide), ps, rfl, hl, hp, ?_⟩
  refine ⟨by rw [List.length_map, List.length_map]; show 7 + ps.length ≤ 1000000; omega, ?_⟩
  have e : (Bw.mk nm (.free m) ps px py x y).ws.map D.str = [D.str (Str.ofString "free"), D.str nm, D.str (iT m)] ++ [.str (wtx px), .str (wtx py)] ++ [.str (wtx x), .str (wtx y)] ++ (ps.map cw).map D.str := by
    show ([Str.ofString "free", nm, iT m] ++ [wtx px, wtx py] ++ [wtx x, wtx y] ++ ps.map cw).map D.str = _
    rw [List.map_append, List.map_append, List.map_append]
    rfl
  rw [e] at q
  exact q
theorem ok_p_rail_words (T : Tx K mg A) : FnOk P w K mg base CX0 3 A.f_p_rail_words A.fd_p_rail_words ["row"] (spOf K 1 a_p_rail_words) := by
  refine fn_mir [] 8 rfl (by decide) (by decide) T.F_p_rail_words sc_p_rail_words fun cdv Ar outer s H E hr => ?_
  refine ⟨_, _, (pss_cons (ps_asg (pv 0) (k_gtup (K := K) (m := 6) rfl rfl (pgs_cons (pg_name (i := 1) sc_p_rail_words.nd rfl (.inl rfl)) (pgs_cons (pg_name (i := 2) sc_p_rail_words.nd rfl (.inl rfl)) (pgs_cons (pg_name (i := 3) sc_p_rail_words.nd rfl (.inl rfl)) (pgs_cons (pg_name (i := 4) sc_p_rail_words.nd rfl (.inl rfl)) (pgs_cons (pg_name (i := 5) sc_p_rail_words.nd rfl (.inl rfl)) (pgs_cons (pg_name (i := 6) sc_p_rail_words.nd rfl (.inl rfl)) pgs_nil))))))))
    (pss_cons (ps_set (i := 7) sc_p_rail_words.nd rfl (.inl rfl) (pe_lst (pa_cons pe_str (pa_cons (pv 1) (pa_cons (pe_callTy k_str (by rfl) T.m_str (by decide +kernel) (pa_cons (pv 3) pa_nil)) (pa_cons (pe_callTy k_str (by rfl) T.m_str (by decide +kernel) (pa_cons (pe_ix (k_ix (K := K) rfl) (pv 4) pe_int (fun _ _ => rfl)) pa_nil)) (pa_cons (pe_callTy k_str (by rfl) T.m_str (by decide +kernel) (pa_cons (pe_ix (k_ix (K := K) rfl) (pv 4) pe_int (fun _ _ => rfl)) pa_nil)) pa_nil)))))))
    (pss_one (ps_ret (pe_op (k_add (K := K) rfl) (pe_op (k_add (K := K) rfl) (pe_op (k_add (K := K) rfl) (pv 7) (pe_call (ok_p_spot_words (P := P) (K := K) T) (hr.mono (by decide)) (by rfl) T.g_p_spot_words T.F_p_spot_words.kp T.b_p_spot_words .nil pass0 (pa_cons (pv 5) pa_nil))) (pe_call (ok_p_spot_words (P := P) (K := K) T) (hr.mono (by decide)) (by rfl) T.g_p_spot_words T.F_p_spot_words.kp T.b_p_spot_words .nil pass0 (pa_cons (pv 6) pa_nil))) (pe_call (ok_p_corner_words (P := P) (K := K) T) (hr.mono (by decide)) (by rfl) T.g_p_corner_words T.F_p_corner_words.kp T.b_p_corner_words .nil pass0 (pa_cons (pv 2) pa_nil))))))), by infer_instance, fun ds n Q hl hA => ?_⟩
  obtain ⟨⟨nm, kn, ps, px, py, x, y⟩, rfl, ⟨ok, hl, hp, b1, b2, b3, b4, hn⟩, hk, q⟩ := hA
  cases kn with
  | wall => cases hk
  | free _ => cases hk
  | rail m p1 p2 =>
  have hl' : ps.length ≤ 16 := hl
  refine ⟨bd_log ok.2.1 (by decide), bd_log ok.2.2.1 (by decide), bd_log ok.2.2.2 (by decide), px, py, 1500, rfl, b1, b2, by decide, (show 5 + 2 ≤ 1000000 by decide), x, y, 1500, rfl, b3, b4, by decide, (show 7 + 2 ≤ 1000000 by decide), ps, rfl, hl, hp, ?_⟩
  refine ⟨by rw [List.length_map, List.length_map]; show 9 + ps.length ≤ 1000000; omega, ?_⟩
  have e : (Bw.mk nm (.rail m p1 p2) ps px py x y).ws.map D.str = [D.str (Str.ofString "rail"), D.str nm, D.str (iT m), D.str (iT p1), D.str (iT p2)] ++ [.str (wtx px), .str (wtx py)] ++ [.str (wtx x), .str (wtx y)] ++ (ps.map cw).map D.str := by
    show ([Str.ofString "rail", nm, iT m, iT p1, iT p2] ++ [wtx px, wtx py] ++ [wtx x, wtx y] ++ ps.map cw).map D.str = _
    rw [List.map_append, List.map_append, List.map_append]
    rfl
  rw [e] at q
  exact q
theorem sum_le {ys : List Str} {k : Nat} (h : ∀ y ∈ ys, y.length ≤ k) : (ys.map (·.length)).sum ≤ ys.length * k := by
  induction ys with
  | nil => simp
  | cons y r ih =>
    have h1 := h y List.mem_cons_self
    have h2 := ih fun z hz => h z (List.mem_cons_of_mem _ hz)
    rw [List.map_cons, List.sum_cons, List.length_cons, Nat.add_mul, Nat.one_mul]
    omega
theorem ws_ok {b : Bw} (h : b.ok) : b.ws.length ≤ 25 ∧ ∀ y ∈ b.ws, y.length ≤ 4000 := by
  obtain ⟨nm, kn, ps, px, py, x, y⟩ := b
  obtain ⟨ok, hl, hp, b1, b2, b3, b4, hn⟩ := h
  have hl' : ps.length ≤ 16 := hl
  have hn' : nm.length ≤ 20 := hn
  have c1 := wtx_len b1 (by decide)
  have c2 := wtx_len b2 (by decide)
  have c3 := wtx_len b3 (by decide)
  have c4 := wtx_len b4 (by decide)
  have hc : ∀ z ∈ ps.map cw, z.length ≤ 4000 := fun z hz => by
    obtain ⟨p, hpm, rfl⟩ := List.mem_map.mp hz
    exact cw_len (hp p hpm)
  have w1 : (Str.ofString "wall").length ≤ 4000 := by decide +kernel
  have w2 : (Str.ofString "free").length ≤ 4000 := by decide +kernel
  have w3 : (Str.ofString "rail").length ≤ 4000 := by decide +kernel
  have it : ∀ {i : Int}, Bd 64 i → (iT i).length ≤ 4000 := fun hb => Nat.le_trans (iT_len (bd_log hb (by decide))) (by decide)
  cases kn with
  | wall =>
    refine ⟨by show ([Str.ofString "wall", nm] ++ [wtx px, wtx py] ++ ps.map cw).length ≤ 25; simp; omega, fun z hz => ?_⟩
    have hz' : z ∈ [Str.ofString "wall", nm] ++ [wtx px, wtx py] ++ ps.map cw := hz
    rcases List.mem_append.mp hz' with h | h
    · simp only [List.cons_append, List.nil_append, List.mem_cons, List.not_mem_nil, or_false] at h
      rcases h with rfl | rfl | rfl | rfl
      · exact w1
      · omega
      · exact c1
      · exact c2
    · exact hc z h
  | free m =>
    refine ⟨by show ([Str.ofString "free", nm, iT m] ++ [wtx px, wtx py] ++ [wtx x, wtx y] ++ ps.map cw).length ≤ 25; simp; omega, fun z hz => ?_⟩
    have hz' : z ∈ [Str.ofString "free", nm, iT m] ++ [wtx px, wtx py] ++ [wtx x, wtx y] ++ ps.map cw := hz
    rcases List.mem_append.mp hz' with h | h
    · simp only [List.cons_append, List.nil_append, List.mem_cons, List.not_mem_nil, or_false] at h
      rcases h with rfl | rfl | rfl | rfl | rfl | rfl | rfl
      · exact w2
      · omega
      · exact it ok.2
      · exact c1
      · exact c2
      · exact c3
      · exact c4
    · exact hc z h
  | rail m p1 p2 =>
    refine ⟨by show ([Str.ofString "rail", nm, iT m, iT p1, iT p2] ++ [wtx px, wtx py] ++ [wtx x, wtx y] ++ ps.map cw).length ≤ 25; simp; omega, fun z hz => ?_⟩
    have hz' : z ∈ [Str.ofString "rail", nm, iT m, iT p1, iT p2] ++ [wtx px, wtx py] ++ [wtx x, wtx y] ++ ps.map cw := hz
    rcases List.mem_append.mp hz' with h | h
    · simp only [List.cons_append, List.nil_append, List.mem_cons, List.not_mem_nil, or_false] at h
      rcases h with rfl | rfl | rfl | rfl | rfl | rfl | rfl | rfl | rfl
      · exact w3
      · omega
      · exact it ok.2.1
      · exact it ok.2.2.1
      · exact it ok.2.2.2
      · exact c1
      · exact c2
      · exact c3
      · exact c4
    · exact hc z h
def Bw.tx (b : Bw) : Str := Txt.join (Str.ofString " ") b.ws
theorem sp_len : (Str.ofString " ").length = 1 := by decide +kernel
theorem ws_fit {b : Bw} (h : b.ok) : (b.ws.map (·.length)).sum + b.ws.length * (Str.ofString " ").length ≤ 110000 := by
  obtain ⟨h1, h2⟩ := ws_ok h
  have h3 := sum_le h2
  rw [sp_len]
  have : b.ws.length * 4000 ≤ 25 * 4000 := Nat.mul_le_mul_right _ h1
  omega
def bodyD (A : Ad) (b : Bw) : D := .ins (b.kn.kd.cls A) bNs [b.d, .str b.nm, .int b.kn.m]
def a_str (A : Ad) (kd : Kd) : ASp := fun ds n Q => ∃ b : Bw, ds = [bodyD A b] ∧ b.ok ∧ b.kn.kd = kd ∧ Q (.str b.tx) n
theorem init_Wall (T : Tx K mg A) : InitC K A.c_Wall := ⟨T.cl_Wall, T.na_Wall_row, T.na_Wall_name, T.na_Wall_mass⟩
theorem init_Free (T : Tx K mg A) : InitC K A.c_Free := ⟨T.cl_Free, T.na_Free_row, T.na_Free_name, T.na_Free_mass⟩
theorem init_Railed (T : Tx K mg A) : InitC K A.c_Railed := ⟨T.cl_Railed, T.na_Railed_row, T.na_Railed_name, T.na_Railed_mass⟩
theorem ok_m_Wall___str__ (T : Tx K mg A) : FnOk P w K mg base CX0 5 A.f_m_Wall___str__ A.fd_m_Wall___str__ ["self"] (spOf K 1 (a_str A .w)) := by
  refine fn_mir [] 1 rfl (by decide) (by decide) T.F_m_Wall___str__ sc_m_Wall___str__ fun cdv Ar outer s H E hr => ?_
  refine ⟨_, _, (pss_one (ps_ret (k_join (K := K) rfl pe_str (pe_call (ok_p_wall_words (P := P) (K := K) T) (hr.mono (by decide)) (by rfl) T.g_p_wall_words T.F_p_wall_words.kp T.b_p_wall_words .nil pass0 (pa_cons (k_fld (K := K) rfl (pv 0) rfl) pa_nil))))), by infer_instance, fun ds n Q hl hA => ?_⟩
  obtain ⟨b, rfl, ok, hk, q⟩ := hA
  have hf := ws_fit ok
  obtain ⟨nm, kn, ps, px, py, x, y⟩ := b
  cases kn <;> cases hk
  exact ⟨⟨T.cl_Wall, T.na_Wall_row⟩, _, look_row, _, rfl, ok, rfl, _, rfl, Nat.le_trans hf (by decide), q⟩
theorem ok_m_Free___str__ (T : Tx K mg A) : FnOk P w K mg base CX0 5 A.f_m_Free___str__ A.fd_m_Free___str__ ["self"] (spOf K 1 (a_str A .f)) := by
  refine fn_mir [] 1 rfl (by decide) (by decide) T.F_m_Free___str__ sc_m_Free___str__ fun cdv Ar outer s H E hr => ?_
  refine ⟨_, _, (pss_one (ps_ret (k_join (K := K) rfl pe_str (pe_call (ok_p_free_words (P := P) (K := K) T) (hr.mono (by decide)) (by rfl) T.g_p_free_words T.F_p_free_words.kp T.b_p_free_words .nil pass0 (pa_cons (k_fld (K := K) rfl (pv 0) rfl) pa_nil))))), by infer_instance, fun ds n Q hl hA => ?_⟩
  obtain ⟨b, rfl, ok, hk, q⟩ := hA
  have hf := ws_fit ok
  obtain ⟨nm, kn, ps, px, py, x, y⟩ := b
  cases kn <;> cases hk
  exact ⟨⟨T.cl_Free, T.na_Free_row⟩, _, look_row, _, rfl, ok, rfl, _, rfl, Nat.le_trans hf (by decide), q⟩
theorem ok_m_Railed___str__ (T : Tx K mg A) : FnOk P w K mg base CX0 5 A.f_m_Railed___str__ A.fd_m_Railed___str__ ["self"] (spOf K 1 (a_str A .r)) := by
  refine fn_mir [] 1 rfl (by decide) (by decide) T.F_m_Railed___str__ sc_m_Railed___str__ fun cdv Ar outer s H E hr => ?_
  refine ⟨_, _, (pss_one (ps_ret (k_join (K := K) rfl pe_str (pe_call (ok_p_rail_words (P := P) (K := K) T) (hr.mono (by decide)) (by rfl) T.g_p_rail_words T.F_p_rail_words.kp T.b_p_rail_words .nil pass0 (pa_cons (k_fld (K := K) rfl (pv 0) rfl) pa_nil))))), by infer_instance, fun ds n Q hl hA => ?_⟩
  obtain ⟨b, rfl, ok, hk, q⟩ := hA
  have hf := ws_fit ok
  obtain ⟨nm, kn, ps, px, py, x, y⟩ := b
  cases kn <;> cases hk
  exact ⟨⟨T.cl_Railed, T.na_Railed_row⟩, _, look_row, _, rfl, ok, rfl, _, rfl, Nat.le_trans hf (by decide), q⟩
def a_p_body_of (A : Ad) : ASp := fun ds n Q => ∃ b : Bw, ds = [b.d] ∧ b.ok ∧ Q (bodyD A b) n
theorem ok_p_body_of (T : Tx K mg A) : FnOk P w K mg base CX0 3 A.f_p_body_of A.fd_p_body_of ["row"] (spOf K 1 (a_p_body_of A)) := by
  refine fn_mir [] 7 rfl (by decide) (by decide) T.F_p_body_of sc_p_body_of fun cdv Ar outer s H E hr => ?_
  refine ⟨_, _, (pss_cons (ps_asg (pv 0) (k_gtup (K := K) (m := 6) rfl rfl (pgs_cons (pg_name (i := 1) sc_p_body_of.nd rfl (.inl rfl)) (pgs_cons (pg_name (i := 2) sc_p_body_of.nd rfl (.inl rfl)) (pgs_cons (pg_name (i := 3) sc_p_body_of.nd rfl (.inl rfl)) (pgs_cons (pg_name (i := 4) sc_p_body_of.nd rfl (.inl rfl)) (pgs_cons (pg_name (i := 5) sc_p_body_of.nd rfl (.inl rfl)) (pgs_cons (pg_name (i := 6) sc_p_body_of.nd rfl (.inl rfl)) pgs_nil))))))))
    (pss_cons (ps_if (pt_cmpR (k_eq (K := K) rfl hr.units) (pv 3) pe_int (nomark _))
      (pss_one (ps_ret (pe_make T.mk_Wall (ok_m_Body___init__ (K := K) T) (hr.mono (by decide)) (by rfl) T.g_Wall T.b_m_Body___init__ .nil pass0 (pa_cons (pv 0) pa_nil))))
      pss_nil)
    (pss_cons (ps_if (pt_cmpR k_isN (pv 4) pe_non (nomark _))
      (pss_one (ps_ret (pe_make T.mk_Free (ok_m_Body___init__ (K := K) T) (hr.mono (by decide)) (by rfl) T.g_Free T.b_m_Body___init__ .nil pass0 (pa_cons (pv 0) pa_nil))))
      pss_nil)
    (pss_one (ps_ret (pe_make T.mk_Railed (ok_m_Body___init__ (K := K) T) (hr.mono (by decide)) (by rfl) T.g_Railed T.b_m_Body___init__ .nil pass0 (pa_cons (pv 0) pa_nil))))))), by infer_instance, fun ds n Q hl hA => ?_⟩
  obtain ⟨b, rfl, ok, q⟩ := hA
  obtain ⟨nm, kn, ps, px, py, x, y⟩ := b
  cases kn with
  | wall => exact ⟨fun _ => ⟨init_Wall T, q⟩, fun e => Bool.noConfusion e⟩
  | free m =>
    have hm : m ≠ 0 := fun z => by have : 1 ≤ m := ok.1.1; omega
    refine dIte (fun e => absurd e hm) (fun _ => ?_)
    exact ⟨fun _ => ⟨init_Free T, q⟩, fun e => Bool.noConfusion e⟩
  | rail m p1 p2 =>
    have hm : m ≠ 0 := fun z => by have : 1 ≤ m := ok.1.1; omega
    refine dIte (fun e => absurd e hm) (fun _ => ?_)
    exact ⟨fun e => Bool.noConfusion e, fun _ => ⟨init_Railed T, q⟩⟩
theorem own_s (T : Tx K mg A) : OwnS K [A.c_Wall, A.c_Free, A.c_Railed] A.f_m_Body___eq__ := ⟨fun C h => by
  simp only [List.mem_cons, List.not_mem_nil, or_false] at h
  rcases h with rfl | rfl | rfl
  · exact ⟨T.oe_eq_Wall, T.oe_fn, T.oe_ne_Wall, T.oe_ob_Wall, T.oe_tp_Wall, T.oe_ls_Wall, T.oe_st_Wall, T.oe_it_Wall, T.oe_bl_Wall, T.oe_nn_Wall⟩
  · exact ⟨T.oe_eq_Free, T.oe_fn, T.oe_ne_Free, T.oe_ob_Free, T.oe_tp_Free, T.oe_ls_Free, T.oe_st_Free, T.oe_it_Free, T.oe_bl_Free, T.oe_nn_Free⟩
  · exact ⟨T.oe_eq_Railed, T.oe_fn, T.oe_ne_Railed, T.oe_ob_Railed, T.oe_tp_Railed, T.oe_ls_Railed, T.oe_st_Railed, T.oe_it_Railed, T.oe_bl_Railed, T.oe_nn_Railed⟩, fun C h D h' => by
  simp only [List.mem_cons, List.not_mem_nil, or_false] at h h'
  rcases h with rfl | rfl | rfl <;> rcases h' with rfl | rfl | rfl
  · exact T.oe_nf_Wall_Wall
  · exact T.oe_nf_Wall_Free
  · exact T.oe_nf_Wall_Railed
  · exact T.oe_nf_Free_Wall
  · exact T.oe_nf_Free_Free
  · exact T.oe_nf_Free_Railed
  · exact T.oe_nf_Railed_Wall
  · exact T.oe_nf_Railed_Free
  · exact T.oe_nf_Railed_Railed⟩
def Bw.lay (b : Bw) : Prop := b.d.isD = true ∧ SeqAt.shaped b.d.pd = true
def a_m_Body___eq__ (A : Ad) : ASp := fun ds n Q => ∃ (b : Bw) (d : D), ds = [bodyD A b, d] ∧ b.lay ∧ ((∃ c : Bw, d = bodyD A c ∧ c.lay ∧ Q (.bl (PyData.eqv b.d.pd c.d.pd)) n) ∨ (plD d = true ∧ Q (.bl false) n))
theorem fld_row (T : Tx K mg A) (kd : Kd) : Cls K (kd.cls A) ∧ NoAttr K (kd.cls A) "row" := by
  cases kd
  · exact ⟨T.cl_Wall, T.na_Wall_row⟩
  · exact ⟨T.cl_Free, T.na_Free_row⟩
  · exact ⟨T.cl_Railed, T.na_Railed_row⟩
theorem isi_body (T : Tx K mg A) (kd : Kd) : InsC K (kd.cls A) ∧ ∃ b, PySem.W.kitOne K (.ref (kd.cls A)) (.ref A.c_Body) = some b ∧ b = true := by
  cases kd
  · exact ⟨⟨T.cl_Wall, T.in1_Wall, T.in2_Wall, T.in3_Wall, T.in4_Wall⟩, true, T.i_Wall_Body, rfl⟩
  · exact ⟨⟨T.cl_Free, T.in1_Free, T.in2_Free, T.in3_Free, T.in4_Free⟩, true, T.i_Free_Body, rfl⟩
  · exact ⟨⟨T.cl_Railed, T.in1_Railed, T.in2_Railed, T.in3_Railed, T.in4_Railed⟩, true, T.i_Railed_Body, rfl⟩
theorem ok_m_Body___eq__ (T : Tx K mg A) : FnOk P w K mg base CX0 1 A.f_m_Body___eq__ A.fd_m_Body___eq__ ["self", "other"] (spOf K 2 (a_m_Body___eq__ A)) := by
  refine fn_mir [] 2 rfl (by decide) (by decide) T.F_m_Body___eq__ sc_m_Body___eq__ fun cdv Ar outer s H E hr => ?_
  refine ⟨_, _, (pss_one (ps_ret (pe_and (pe_callB (k_isi (K := K) rfl) (by rfl) T.m_isinstance (by decide +kernel) (pa_cons (pv 1) (pa_cons (k_cls (by rfl) T.g_Body) pa_nil))) (pe_one (pe_cmpR (k_eq (K := K) rfl hr.units) (k_fld (K := K) rfl (pv 0) rfl) (k_fld (K := K) rfl (pv 1) rfl) (nomark _)))))), by infer_instance, fun ds n Q hl hA => ?_⟩
  obtain ⟨b, d, rfl, hb, h⟩ := hA
  rcases h with ⟨c, rfl, hc, q⟩ | ⟨hp, q⟩
  · obtain ⟨i1, t, i2, rfl⟩ := isi_body T c.kn.kd
    refine ⟨i1, true, i2, aT ?_⟩
    refine ⟨fld_row T b.kn.kd, _, look_row, ?_⟩
    refine ⟨fld_row T c.kn.kd, _, look_row, ?_⟩
    exact ⟨⟨hb.1, hc.1, hb.2, hc.2⟩, q⟩
  · refine isi_plain hp T.oe_ic T.oe_ty ?_
    exact aF q
def partD (a b : Int) : D := .tup [.int (a / gcdI a b), .int (b / gcdI a b)]
theorem part_sh {a b : Int} (hb : 0 < b) : partD a b = sh (Rat.divInt a b) := by
  obtain ⟨h1, h2, _, _⟩ := low_is (a := a) (b := b) hb
  exact sh_of h1 (by omega) h2
abbrev a_l_gcd : ASp := a_gcd
theorem ok_l_gcd (T : Tx K mg A) : FnOk P w K mg base CX0 1 A.f_l_gcd A.fd_l_gcd ["_law_one", "_law_other_here"] (spOf K 2 a_l_gcd) := by
  refine fn_mir [] 3 rfl (by decide) (by decide) T.F_l_gcd sc_l_gcd fun cdv Ar outer s H E hr => ?_
  refine ⟨_, _, (pss_cons (ps_set (i := 0) sc_l_gcd.nd rfl (.inl rfl) (pe_callB k_abs (by rfl) T.m_abs (by decide +kernel) (pa_cons (pv 0) pa_nil)))
    (pss_cons (ps_set (i := 1) sc_l_gcd.nd rfl (.inl rfl) (pe_callB k_abs (by rfl) T.m_abs (by decide +kernel) (pa_cons (pv 1) pa_nil)))
    (pss_cons (ps_while PassesOwn.never (pt_cmpR op_gt (pv 1) pe_int (nomark _))
      (pss_cons (ps_set (i := 2) sc_l_gcd.nd rfl (.inl rfl) (pe_op op_mod (pv 0) (pv 1)))
    (pss_cons (ps_set (i := 0) sc_l_gcd.nd rfl (.inl rfl) (pv 1))
    (pss_one (ps_set (i := 1) sc_l_gcd.nd rfl (.inl rfl) (pv 2))))))
    (pss_one (ps_ret (pv 0)))))), by infer_instance, fun ds n Q hl hA => ?_⟩
  obtain ⟨a, b, rfl, q⟩ := hA
  refine ⟨fun m ρ n' => ∃ (x y : Nat) (z : Option D), ρ = [some (.int (x : Int)), some (.int (y : Int)), z] ∧ m = y ∧ n' = n ∧ Nat.gcd x y = Nat.gcd a.natAbs b.natAbs, ⟨_, a.natAbs, b.natAbs, none, by rw [← abs_nat, ← abs_nat]; rfl, rfl, rfl, rfl⟩, ?_⟩
  rintro m _ _ ⟨x, y, z, rfl, rfl, rfl, g⟩
  refine dIte (fun h => ?_) (fun h => ?_)
  · refine ⟨(show (0 : Int) < m by omega), x % m, Nat.mod_lt _ (by omega), m, x % m, _, rfl, rfl, rfl, ?_⟩
    rw [← g, Nat.gcd_comm x m, Nat.gcd_rec m x, Nat.gcd_comm]
  · have hm : m = 0 := by omega
    subst hm
    have e : (x : Int) = gcdI a b := by
      unfold gcdI
      rw [← g, Nat.gcd_zero_right]
    show Q (.int (x : Int)) _
    rw [e]
    exact q
@[irreducible] def a_l_part : ASp := fun ds n Q => ∃ (a b : Int) (k : Nat), ds = [.int a, .int b] ∧ 0 < gcdI a b ∧ Bd k (gcdI a b) ∧ k < 9000 ∧ Q (partD a b) n
theorem ok_l_part (T : Tx K mg A) : FnOk P w K mg base CX0 2 A.f_l_part A.fd_l_part ["_law_top", "_law_bottom"] (spOf K 2 a_l_part) := by
  refine fn_mir [] 3 rfl (by decide) (by decide) T.F_l_part sc_l_part fun cdv Ar outer s H E hr => ?_
  refine ⟨_, _, (pss_cons (ps_set (i := 2) sc_l_part.nd rfl (.inl rfl) (pe_call (ok_l_gcd (P := P) (K := K) T) (hr.mono (by decide)) (by rfl) T.g_l_gcd T.F_l_gcd.kp T.b_l_gcd .nil pass0 (pa_cons (pv 0) (pa_cons (pv 1) pa_nil))))
    (pss_one (ps_ret (pe_tup (pa_cons (pe_op k_fdiv (pv 0) (pv 2)) (pa_cons (pe_op k_fdiv (pv 1) (pv 2)) pa_nil)))))), by infer_instance, fun ds n Q hl hA => ?_⟩
  unfold a_l_part at hA
  obtain ⟨a, b, k, rfl, g0, gb, hk, q⟩ := hA
  exact ⟨a, b, rfl, divA gb g0 hk, divA gb g0 hk, q⟩
theorem part_ok {a b : Int} {k n : Nat} {Q : D → Nat → Prop} (hb : 0 < b) (bb : Bd k b) (hk : k < 9000) (q : Q (sh (Rat.divInt a b)) n) : a_l_part [.int a, .int b] n Q := by
  unfold a_l_part
  exact ⟨a, b, k, rfl, gcdI_pos (by omega), gcdI_bd bb (by omega), hk, by rw [part_sh hb]; exact q⟩
theorem small_log {m : Int} (h0 : 0 < m) (h1 : m ≤ 4000000) : m.natAbs.log2 < 9000 := by
  have e : (2 : Nat) ^ 22 = 4194304 := by decide
  exact Nat.lt_of_lt_of_le (log2_lt (k := 22) (by omega) (by decide)) (by decide)
def a_l_number : ASp := fun ds n Q => ∃ s : Int, ds = [.deck, .int s] ∧ 0 ≤ s ∧ s ≤ 1000000 ∧ 2 ≤ n ∧ ∀ r, -s ≤ r → r ≤ s → Q (.int r) (n - 2)
theorem ok_l_number (T : Tx K mg A) : FnOk P w K mg base CX0 4 A.f_l_number A.fd_l_number ["_law_deck_here", "_law_span"] (spOf K 2 a_l_number) := by
  refine fn_mir [] 2 rfl (by decide) (by decide) T.F_l_number sc_l_number fun cdv Ar outer s H E hr => ?_
  refine ⟨_, _, (pss_one (ps_ret (pe_op op_sub (pe_op op_mod (pe_op (k_add (K := K) rfl) (pe_op k_mul pe_int (pe_call (ok_l_take (P := P) (K := K) T) (hr.mono (by decide)) (by rfl) T.g_l_take T.F_l_take.kp T.b_l_take .nil pass0 (pa_cons (pv 0) (pa_cons (pe_op (k_add (K := K) rfl) (pe_op k_mul pe_int (pv 1)) pe_int) pa_nil)))) (pe_call (ok_l_take (P := P) (K := K) T) (hr.mono (by decide)) (by rfl) T.g_l_take T.F_l_take.kp T.b_l_take .nil pass0 (pa_cons (pv 0) (pa_cons pe_int pa_nil)))) (pe_op (k_add (K := K) rfl) (pe_op k_mul pe_int (pv 1)) pe_int)) (pv 1)))), by infer_instance, fun ds n Q hl hA => ?_⟩
  obtain ⟨s, rfl, h0, h1, hn, q⟩ := hA
  refine ⟨.inl (.inl (by decide)), 2 * s + 1, rfl, by omega, small_log (by omega) (by omega), by omega, fun r l u => ?_⟩
  refine ⟨.inl (.inl (by decide)), 10007, rfl, by decide, by decide, by omega, fun r' l' u' => ?_⟩
  refine ⟨.inl (.inl (by decide)), (show (0 : Int) < 2 * s + 1 by omega), ?_⟩
  have m0 := Int.emod_nonneg (10007 * r + r') (show 2 * s + 1 ≠ 0 by omega)
  have m1 := Int.emod_lt_of_pos (10007 * r + r') (show 0 < 2 * s + 1 by omega)
  exact q _ (by omega) (by omega)
def a_l_drawn : ASp := fun ds n Q => ds = [.deck] ∧ 10 ≤ n ∧ ∀ (q : Rat) (n' : Nat), BdQ 102 q → n ≤ n' + 7 → Q (sh q) n'
theorem ok_l_drawn (T : Tx K mg A) : FnOk P w K mg base CX0 5 A.f_l_drawn A.fd_l_drawn ["_law_deck_here"] (spOf K 1 a_l_drawn) := by
  refine fn_mir [] 3 rfl (by decide) (by decide) T.F_l_drawn sc_l_drawn fun cdv Ar outer s H E hr => ?_
  refine ⟨_, _, (pss_cons (ps_set (i := 1) sc_l_drawn.nd rfl (.inl rfl) (pe_ix (k_ixS (K := K) rfl) (pe_lst (pa_cons pe_int (pa_cons pe_int (pa_cons (pe_op op_pow pe_int pe_int) (pa_cons (pe_op op_pow pe_int pe_int) pa_nil))))) (pe_call (ok_l_take (P := P) (K := K) T) (hr.mono (by decide)) (by rfl) T.g_l_take T.F_l_take.kp T.b_l_take .nil pass0 (pa_cons (pv 0) (pa_cons pe_int pa_nil))) (fun _ _ => rfl)))
    (pss_cons (ps_set (i := 2) sc_l_drawn.nd rfl (.inl rfl) (pe_op op_sub (pe_op op_mod (pe_op k_mul (pe_call (ok_l_number (P := P) (K := K) T) (hr.mono (by decide)) (by rfl) T.g_l_number T.F_l_number.kp T.b_l_number .nil pass0 (pa_cons (pv 0) (pa_cons (pe_op op_pow pe_int pe_int) pa_nil))) (pe_op op_pow (pe_op (k_add (K := K) rfl) pe_int (pe_call (ok_l_take (P := P) (K := K) T) (hr.mono (by decide)) (by rfl) T.g_l_take T.F_l_take.kp T.b_l_take .nil pass0 (pa_cons (pv 0) (pa_cons (pe_op op_pow pe_int pe_int) pa_nil)))) pe_int)) (pe_op (k_add (K := K) rfl) (pe_op k_mul pe_int (pv 1)) pe_int)) (pv 1)))
    (pss_one (ps_ret (pe_call (ok_l_part (P := P) (K := K) T) (hr.mono (by decide)) (by rfl) T.g_l_part T.F_l_part.kp T.b_l_part .nil pass0 (pa_cons (pv 2) (pa_cons (pe_op (k_add (K := K) rfl) pe_int (pe_call (ok_l_take (P := P) (K := K) T) (hr.mono (by decide)) (by rfl) T.g_l_take T.F_l_take.kp T.b_l_take .nil pass0 (pa_cons (pv 0) (pa_cons (pe_ix (k_ixS (K := K) rfl) (pe_lst (pa_cons pe_int (pa_cons pe_int (pa_cons pe_int (pa_cons (pe_op op_pow pe_int pe_int) pa_nil))))) (pe_call (ok_l_take (P := P) (K := K) T) (hr.mono (by decide)) (by rfl) T.g_l_take T.F_l_take.kp T.b_l_take .nil pass0 (pa_cons (pv 0) (pa_cons pe_int pa_nil))) (fun _ _ => rfl)) pa_nil)))) pa_nil))))))), by infer_instance, fun ds n Q hl hA => ?_⟩
  obtain ⟨rfl, hn, q⟩ := hA
  have e102 : (2 : Nat) ^ 102 = 5070602400912917605986812821504 := by decide
  refine ⟨⟨by decide, by decide, by decide⟩, ⟨by decide, by decide, by decide⟩, 4, rfl, by decide, by decide, by omega, fun r l u => ?_⟩
  obtain ⟨far, hf0, hf1, hat⟩ : ∃ far : Int, 1 ≤ far ∧ far ≤ 1000000000000000000000000000000 ∧ atI [D.int 1, D.int 9, D.int (10 ^ Int.toNat 6), D.int (10 ^ Int.toNat 30)] r = some (D.int far) := by
    obtain rfl | rfl | rfl | rfl : r = 0 ∨ r = 1 ∨ r = 2 ∨ r = 3 := by omega
    · exact ⟨1, by decide, by decide, rfl⟩
    · exact ⟨9, by decide, by decide, rfl⟩
    · exact ⟨10 ^ Int.toNat 6, by decide, by decide, rfl⟩
    · exact ⟨10 ^ Int.toNat 30, by decide, by decide, rfl⟩
  refine aIx_lst hat ?_
  refine ⟨⟨by decide, by decide, by decide⟩, 1000000, rfl, by decide, by decide, by omega, fun r3 l3 u3 => ?_⟩
  refine ⟨⟨by decide, by decide, by decide⟩, 1000000, rfl, by decide, by decide, by omega, fun r4 l4 u4 => ?_⟩
  refine ⟨⟨by decide, by decide, by omega⟩, .inl (.inl ⟨by omega, by omega⟩), .inl (.inl (by decide)), (show (0 : Int) < 2 * far + 1 by omega), ?_⟩
  have m0 := Int.emod_nonneg (r3 * (1 + r4) ^ Int.toNat 5) (show 2 * far + 1 ≠ 0 by omega)
  have m1 := Int.emod_lt_of_pos (r3 * (1 + r4) ^ Int.toNat 5) (show 0 < 2 * far + 1 by omega)
  have bnum : Bd 102 (r3 * (1 + r4) ^ Int.toNat 5 % (2 * far + 1) - far) := by
    unfold Bd
    omega
  refine ⟨⟨by decide, by decide, by decide⟩, 4, rfl, by decide, by decide, by omega, fun r6 l6 u6 => ?_⟩
  obtain ⟨lo, hl0, hl1, hat6⟩ : ∃ lo : Int, 1 ≤ lo ∧ lo ≤ 1000000 ∧ atI [D.int 1, D.int 2, D.int 60, D.int (10 ^ Int.toNat 6)] r6 = some (D.int lo) := by
    obtain rfl | rfl | rfl | rfl : r6 = 0 ∨ r6 = 1 ∨ r6 = 2 ∨ r6 = 3 := by omega
    · exact ⟨1, by decide, by decide, rfl⟩
    · exact ⟨2, by decide, by decide, rfl⟩
    · exact ⟨60, by decide, by decide, rfl⟩
    · exact ⟨10 ^ Int.toNat 6, by decide, by decide, rfl⟩
  refine aIx_lst hat6 ?_
  refine ⟨lo, rfl, by omega, small_log (by omega) (by omega), by omega, fun r7 l7 u7 => ?_⟩
  have bd7 : Bd 102 (1 + r7) := by
    unfold Bd
    omega
  refine part_ok (by omega) bd7 (by decide) ?_
  exact q _ _ (divInt_bd (show (0 : Int) < 1 + r7 by omega) bnum bd7) (by omega)
def leftI (a b c : Pt) : Int := (b.1 - a.1) * (c.2 - a.2) - (b.2 - a.2) * (c.1 - a.1)
def PtB (p : Pt) : Prop := -10000000 ≤ p.1 ∧ p.1 ≤ 10000000 ∧ -10000000 ≤ p.2 ∧ p.2 ≤ 10000000
def a_l_left : ASp := fun ds n Q => ∃ a b c : Pt, ds = [pt a, pt b, pt c] ∧ PtB a ∧ PtB b ∧ PtB c ∧ Q (.int (leftI a b c)) n
theorem ok_l_left (T : Tx K mg A) : FnOk P w K mg base CX0 1 A.f_l_left A.fd_l_left ["_law_a", "_law_b", "_law_c"] (spOf K 3 a_l_left) := by
  refine fn_mir [] 3 rfl (by decide) (by decide) T.F_l_left sc_l_left fun cdv Ar outer s H E hr => ?_
  refine ⟨_, _, (pss_one (ps_ret (pe_op op_sub (pe_op k_mul (pe_op op_sub (pe_ix (k_ix (K := K) rfl) (pv 1) pe_int (fun _ _ => rfl)) (pe_ix (k_ix (K := K) rfl) (pv 0) pe_int (fun _ _ => rfl))) (pe_op op_sub (pe_ix (k_ix (K := K) rfl) (pv 2) pe_int (fun _ _ => rfl)) (pe_ix (k_ix (K := K) rfl) (pv 0) pe_int (fun _ _ => rfl)))) (pe_op k_mul (pe_op op_sub (pe_ix (k_ix (K := K) rfl) (pv 1) pe_int (fun _ _ => rfl)) (pe_ix (k_ix (K := K) rfl) (pv 0) pe_int (fun _ _ => rfl))) (pe_op op_sub (pe_ix (k_ix (K := K) rfl) (pv 2) pe_int (fun _ _ => rfl)) (pe_ix (k_ix (K := K) rfl) (pv 0) pe_int (fun _ _ => rfl))))))), by infer_instance, fun ds n Q hl hA => ?_⟩
  obtain ⟨a, b, c, rfl, ba, bb, bc, q⟩ := hA
  unfold PtB at ba bb bc
  exact ⟨.inl (.inl ⟨by omega, by omega⟩), .inl (.inl ⟨by omega, by omega⟩), q⟩
def popR (p : Pt) : List Pt → List Pt
  | b :: a :: r => if leftI a b p ≤ 0 then popR p (a :: r) else b :: a :: r
  | s => s
def halfS (st : List Pt) (ps : List Pt) : List Pt := ps.foldl (fun st p => p :: popR p st) st
def halfR (ps : List Pt) : List Pt := halfS [] ps
theorem popR_sub (p : Pt) : ∀ st : List Pt, ∀ x ∈ popR p st, x ∈ st
  | [], x, h => h
  | [b], x, h => h
  | b :: a :: r, x, h => by
    unfold popR at h
    split at h
    · exact List.mem_cons_of_mem _ (popR_sub p (a :: r) x h)
    · exact h
theorem popR_len (p : Pt) : ∀ st : List Pt, (popR p st).length ≤ st.length
  | [] => Nat.le_refl _
  | [b] => Nat.le_refl _
  | b :: a :: r => by
    unfold popR
    split
    · exact Nat.le_succ_of_le (popR_len p (a :: r))
    · exact Nat.le_refl _
theorem halfS_sub : ∀ (ps st : List Pt), ∀ x ∈ halfS st ps, x ∈ st ∨ x ∈ ps
  | [], st, x, h => .inl h
  | p :: ps, st, x, h => by
    rcases halfS_sub ps (p :: popR p st) x h with h | h
    · rcases List.mem_cons.mp h with rfl | h
      · exact .inr List.mem_cons_self
      · exact .inl (popR_sub p st x h)
    · exact .inr (List.mem_cons_of_mem _ h)
theorem halfS_len : ∀ (ps st : List Pt), (halfS st ps).length ≤ st.length + ps.length
  | [], st => Nat.le_refl _
  | p :: ps, st => by
    have h1 := halfS_len ps (p :: popR p st)
    have h2 := popR_len p st
    rw [List.length_cons] at h1 ⊢
    show (halfS (p :: popR p st) ps).length ≤ _
    omega
theorem atI_m1 {xs : List D} {a b : D} : atI (xs ++ [a, b]) (-1) = some b := by
  have := atI_last (xs ++ [a]) b
  rw [List.append_assoc] at this
  exact this
theorem atI_m2 {xs : List D} {a b : D} : atI (xs ++ [a, b]) (-2) = some a := by
  have hl : (xs ++ [a, b]).length = xs.length + 2 := by simp
  unfold atI ixN
  rw [if_neg (by omega), if_pos (by omega), hl]
  show (xs ++ [a, b])[(-2 + ((xs.length + 2 : Nat) : Int)).toNat]? = some a
  have e : (-2 + ((xs.length + 2 : Nat) : Int)).toNat = xs.length := by omega
  rw [e, List.getElem?_append_right (Nat.le_refl _), Nat.sub_self]
  rfl
theorem cutL_last (xs : List D) (a : D) : cutL (xs ++ [a]) none (some (-1)) = xs := by
  unfold cutL
  have hl : (xs ++ [a]).length = xs.length + 1 := by simp
  rw [HT.sIx_none]
  have e : HT.sIx (xs ++ [a]).length (xs ++ [a]).length (some (-1)) = xs.length := by
    rw [hl]
    unfold HT.sIx
    simp
    omega
  rw [e, List.drop_zero, Nat.sub_zero, List.take_left]
def stk (st : List Pt) : List D := st.reverse.map pt
theorem stk_two (a b : Pt) (r : List Pt) : stk (b :: a :: r) = stk r ++ [pt a, pt b] := by
  unfold stk
  simp
theorem stk_one (a : Pt) (r : List Pt) : stk (a :: r) = stk r ++ [pt a] := by
  unfold stk
  simp
theorem stk_len (st : List Pt) : (stk st).length = st.length := by
  unfold stk
  rw [List.length_map, List.length_reverse]
def a_l_half : ASp := fun ds n Q => ∃ ps : List Pt, ds = [.lst (ps.map pt)] ∧ (∀ p ∈ ps, PtB p) ∧ ps.length ≤ 100 ∧ Q (.lst (stk (halfR ps).tail)) n
theorem ok_l_half (T : Tx K mg A) : FnOk P w K mg base CX0 2 A.f_l_half A.fd_l_half ["_law_points"] (spOf K 1 a_l_half) := by
  refine fn_mir [] 3 rfl (by decide) (by decide) T.F_l_half sc_l_half fun cdv Ar outer s H E hr => ?_
  refine ⟨_, _, (pss_cons (ps_set (i := 1) sc_l_half.nd rfl (.inl rfl) (pe_lst pa_nil))
    (pss_cons (ps_for PassesOwn.never rfl (k_iter (K := K) rfl (pv 0)) (pg_name (i := 2) sc_l_half.nd rfl (.inl rfl))
      (pss_cons (ps_while PassesOwn.never (PW.pt (pw_and (pt_cmpR op_gt (pe_callB (k_len (K := K) rfl) (by rfl) T.m_len (by decide +kernel) (pa_cons (pv 1) pa_nil)) pe_int (nomark _)) (pw_and1 (pt_cmpR op_le (pe_call (ok_l_left (P := P) (K := K) T) (hr.mono (by decide)) (by rfl) T.g_l_left T.F_l_left.kp T.b_l_left .nil pass0 (pa_cons (pe_ix (k_ixS (K := K) rfl) (pv 1) (pe_un un_neg pe_int) (fun _ _ => rfl)) (pa_cons (pe_ix (k_ixS (K := K) rfl) (pv 1) (pe_un un_neg pe_int) (fun _ _ => rfl)) (pa_cons (pv 2) pa_nil)))) pe_int (nomark _)))))
      (pss_one (ps_set (i := 1) sc_l_half.nd rfl (.inl rfl) (pe_slice (k_sl (K := K) rfl) (pv 1) po_none (po_some (pe_un un_neg pe_int))))))
    (pss_one (ps_set (i := 1) sc_l_half.nd rfl (.inl rfl) (pe_op (k_add (K := K) rfl) (pv 1) (pe_lst (pa_cons (pv 2) pa_nil)))))))
    (pss_one (ps_ret (pe_slice (k_sl (K := K) rfl) (pv 1) po_none (po_some (pe_un un_neg pe_int))))))), by infer_instance, fun ds n Q hl hA => ?_⟩
  obtain ⟨ps, rfl, hB, hlen, q⟩ := hA
  refine aFor_ind (fun ds ρ n' => n' = n ∧ ∃ (qs st : List Pt) (y : Option D), ds = qs.map pt ∧ ρ = [some (.lst (ps.map pt)), some (.lst (stk st)), y] ∧ halfS st qs = halfR ps ∧ (∀ p ∈ st, PtB p) ∧ (∀ p ∈ qs, PtB p) ∧ st.length + qs.length ≤ 100) ?_ ?_ ⟨rfl, ps, [], none, rfl, rfl, rfl, (fun p h => by cases h), hB, by simpa using hlen⟩
  · rintro d r _ n' ⟨rfl, qs, st, y, hq, rfl, he, hs, hqs, hl⟩ ih
    obtain ⟨p, qs, rfl, rfl, rfl⟩ : ∃ p qs', qs = p :: qs' ∧ d = pt p ∧ r = qs'.map pt := by
      cases qs with
      | nil => cases hq
      | cons p qs => cases hq; exact ⟨p, qs, rfl, rfl, rfl⟩
    have bp := hqs p List.mem_cons_self
    rw [List.length_cons] at hl
    refine ⟨fun m ρ m' => m' = n' ∧ ∃ st', ρ = [some (.lst (ps.map pt)), some (.lst (stk st')), some (pt p)] ∧ m = st'.length ∧ popR p st' = popR p st ∧ (∀ p ∈ st', PtB p) ∧ st'.length ≤ st.length, ⟨_, rfl, st, rfl, rfl, rfl, hs, Nat.le_refl _⟩, ?_⟩
    rintro m ρ k ⟨hk, st', rfl, rfl, hp, hs', hl'⟩
    subst hk
    have done : popR p st' = st' → k = k ∧ ∃ (qs' st : List Pt) (y : Option D), qs.map pt = qs'.map pt ∧ [some (D.lst (ps.map pt)), some (.lst (stk st' ++ [pt p])), some (pt p)] = [some (.lst (ps.map pt)), some (.lst (stk st)), y] ∧ halfS st qs' = halfR ps ∧ (∀ p ∈ st, PtB p) ∧ (∀ p ∈ qs', PtB p) ∧ st.length + qs'.length ≤ 100 := fun hfix => by
      refine ⟨rfl, qs, p :: st', _, rfl, by rw [stk_one], ?_, ?_, fun x hx => hqs x (List.mem_cons_of_mem _ hx), ?_⟩
      · rw [← he]
        show halfS (p :: st') qs = halfS (p :: popR p st) qs
        rw [← hp, hfix]
      · intro x hx
        rcases List.mem_cons.mp hx with rfl | hx
        · exact bp
        · exact hs' x hx
      · rw [List.length_cons]
        omega
    have hsz : (stk st').length + 1 ≤ 1000000 := by rw [stk_len]; omega
    match st', hp, hs', hl', done, hsz with
    | [], _, _, _, done, hsz => exact dIte (fun e => absurd e (by decide)) fun _ => aF ⟨hsz, ih _ _ (done rfl)⟩
    | [x], _, _, _, done, hsz => exact dIte (fun e => absurd e (show ¬ (1 : Int) < ((1 : Nat) : Int) by decide)) fun _ => aF ⟨hsz, ih _ _ (done rfl)⟩
    | b :: a :: r, hp, hs', hl', done, hsz =>
      rw [stk_two] at done hsz ⊢
      have hlen2 : (1 : Int) < ((stk r ++ [pt a, pt b]).length : Int) := by
        rw [List.length_append]
        show (1 : Int) < (((stk r).length + 2 : Nat) : Int)
        omega
      refine dIte (fun _ => ?_) fun e => absurd hlen2 e
      refine aIx_lst atI_m2 ?_
      refine aIx_lst atI_m1 ?_
      refine ⟨a, b, p, rfl, hs' a (List.mem_cons_of_mem _ List.mem_cons_self), hs' b List.mem_cons_self, bp, ?_⟩
      refine dIte (fun e => ?_) fun e => ?_
      · refine ⟨(a :: r).length, Nat.lt_succ_self _, rfl, a :: r, ?_, rfl, ?_, fun x hx => hs' x (List.mem_cons_of_mem _ hx), Nat.le_of_succ_le hl'⟩
        · have e2 : stk r ++ [pt a, pt b] = stk (a :: r) ++ [pt b] := by rw [stk_one, List.append_assoc]; rfl
          show [some (D.lst (ps.map pt)), some (.lst (cutL (stk r ++ [pt a, pt b]) none (some (-1)))), some (pt p)] = _
          rw [e2, cutL_last]
        · rw [← hp]
          conv => rhs; unfold popR
          rw [if_pos e]
      · refine ⟨hsz, ih _ _ (done ?_)⟩
        unfold popR
        rw [if_neg e]
  · rintro _ n' ⟨rfl, qs, st, y, hq, rfl, he, hs, hqs, hl⟩
    cases qs with
    | cons p qs => cases hq
    | nil =>
      have e : st = halfR ps := he
      subst e
      show Q (.lst (cutL (stk (halfR ps)) none (some (-1)))) _
      cases h : halfR ps with
      | nil => rw [h] at q; exact q
      | cons a r =>
        rw [h] at q
        rw [stk_one, cutL_last]
        exact q
def hullOf (rs : List Pt) : List Pt :=
  if ((halfR rs).tail.reverse ++ (halfR rs.reverse).tail.reverse).length < 3 then [(0, 0), (2, 0), (0, 2)] else (halfR rs).tail.reverse ++ (halfR rs.reverse).tail.reverse
def a_l_hull : ASp := fun ds n Q => ∃ ps : List Pt, ds = [.lst (ps.map pt)] ∧ (∀ p ∈ ps, PtB p) ∧ ps.length ≤ 50 ∧ ∀ rs : List Pt, rs.Perm ps → rs.Pairwise lexLe → Q (.lst ((hullOf rs).map pt)) n
theorem ok_l_hull (T : Tx K mg A) : FnOk P w K mg base CX0 3 A.f_l_hull A.fd_l_hull ["_law_points"] (spOf K 1 a_l_hull) := by
  refine fn_mir [] 3 rfl (by decide) (by decide) T.F_l_hull sc_l_hull fun cdv Ar outer s H E hr => ?_
  refine ⟨_, _, (pss_cons (ps_set (i := 1) sc_l_hull.nd rfl (.inl rfl) (pe_callB (k_sortP (K := K) rfl) (by rfl) T.m_sorted (by decide +kernel) (pa_cons (pv 0) pa_nil)))
    (pss_cons (ps_set (i := 2) sc_l_hull.nd rfl (.inl rfl) (pe_op (k_add (K := K) rfl) (pe_call (ok_l_half (P := P) (K := K) T) (hr.mono (by decide)) (by rfl) T.g_l_half T.F_l_half.kp T.b_l_half .nil pass0 (pa_cons (pv 1) pa_nil)) (pe_call (ok_l_half (P := P) (K := K) T) (hr.mono (by decide)) (by rfl) T.g_l_half T.F_l_half.kp T.b_l_half .nil pass0 (pa_cons (k_rev (K := K) rfl (pv 1)) pa_nil))))
    (pss_cons (ps_if (pt_cmpR op_lt (pe_callB (k_len (K := K) rfl) (by rfl) T.m_len (by decide +kernel) (pa_cons (pv 2) pa_nil)) pe_int (nomark _))
      (pss_one (ps_ret (pe_lst (pa_cons (pe_tup (pa_cons pe_int (pa_cons pe_int pa_nil))) (pa_cons (pe_tup (pa_cons pe_int (pa_cons pe_int pa_nil))) (pa_cons (pe_tup (pa_cons pe_int (pa_cons pe_int pa_nil))) pa_nil))))))
      pss_nil)
    (pss_one (ps_ret (pv 2)))))), by infer_instance, fun ds n Q hl hA => ?_⟩
  obtain ⟨ps, rfl, hB, hlen, q⟩ := hA
  refine ⟨ps, rfl, fun rs hp hpw => ?_⟩
  have hl := hp.length_eq
  have hBr : ∀ p ∈ rs, PtB p := fun p h => hB p (hp.mem_iff.mp h)
  refine ⟨rs, rfl, hBr, by omega, ?_⟩
  refine ⟨rs.reverse, ?_, fun p h => hBr p (List.mem_reverse.mp h), by rw [List.length_reverse]; omega, ?_⟩
  · rw [List.map_reverse]
  have n1 : (stk (halfR rs).tail).length ≤ 100 := by
    have := halfS_len rs []
    rw [stk_len, List.length_tail]
    unfold halfR
    simp at this
    omega
  have n2 : (stk (halfR rs.reverse).tail).length ≤ 100 := by
    have := halfS_len rs.reverse []
    rw [stk_len, List.length_tail]
    unfold halfR
    simp at this
    omega
  refine ⟨by omega, ?_⟩
  have e : stk (halfR rs).tail ++ stk (halfR rs.reverse).tail = ((halfR rs).tail.reverse ++ (halfR rs.reverse).tail.reverse).map pt := by
    unfold stk
    rw [List.map_append]
  have q2 := q rs hp hpw
  unfold hullOf at q2
  rw [e]
  refine dIte (fun h => ?_) fun h => ?_
  · rw [List.length_map] at h
    rw [if_pos (by omega)] at q2
    exact q2
  · rw [List.length_map] at h
    rw [if_neg (by omega)] at q2
    exact q2
theorem strOk_tl {z : Str} (h : ∀ c ∈ z.cps.toList, c < 0x110000) : PyData.canLay0 (.str z) = true := by
  unfold PyData.canLay0
  show (z.cps.all _) = true
  rw [Array.all_eq_true']
  intro c hc
  exact decide_eq_true (h c (Array.mem_toList_iff.mpr hc))
theorem joinL_mem (S : List Nat) : ∀ (ps : List (List Nat)) (c : Nat), c ∈ TL.joinL S ps → c ∈ S ∨ ∃ p ∈ ps, c ∈ p
  | [], c, h => by cases h
  | [p], c, h => .inr ⟨p, List.mem_cons_self, h⟩
  | p :: q :: r, c, h => by
    rcases List.mem_append.mp h with h | h
    · exact .inr ⟨p, List.mem_cons_self, h⟩
    · rcases List.mem_append.mp h with h | h
      · exact .inl h
      · rcases joinL_mem S (q :: r) c h with h | ⟨p', h1, h2⟩
        · exact .inl h
        · exact .inr ⟨p', List.mem_cons_of_mem _ h1, h2⟩
theorem letters_at {i : Int} (h0 : 0 ≤ i) (h1 : i < 26) : ∃ c, atI (Str.ofString "abcdefghijklmnopqrstuvwxyz").cps.toList i = some c ∧ c < 0x110000 := by
  obtain ⟨k, rfl⟩ := Int.eq_ofNat_of_zero_le h0
  have hk : k < 26 := by omega
  have : ∀ k < 26, ∃ c, atI (Str.ofString "abcdefghijklmnopqrstuvwxyz").cps.toList ((k : Nat) : Int) = some c ∧ c < 0x110000 := fun k hk => ⟨97 + k, by
    revert k
    decide +kernel, by omega⟩
  exact this k hk
theorem aIx_str {z : Str} {i : Int} {c n : Nat} {Q : D → Nat → Prop} (hl : z.length ≤ 1000000) (e : atI z.cps.toList i = some c) (q : Q (.str ⟨#[c]⟩) n) : aIxS (.str z) (.int i) n Q := by
  unfold aIxS
  refine ⟨hl, ?_⟩
  rw [e]
  exact q
theorem signs_ok {ys : List Str} (h : ∀ y ∈ ys, ∃ c : Nat, y = ⟨#[c]⟩ ∧ c < 0x110000) : (ys.map (·.length)).sum = ys.length ∧ PyData.canLay0 (.str (Txt.join (Str.ofString "") ys)) = true := by
  constructor
  · induction ys with
    | nil => rfl
    | cons y r ih =>
      obtain ⟨c, rfl, _⟩ := h y List.mem_cons_self
      rw [List.map_cons, List.sum_cons, ih fun z hz => h z (List.mem_cons_of_mem _ hz), List.length_cons]
      show 1 + r.length = _
      omega
  · refine strOk_tl fun c hc => ?_
    rw [TL.join_eq] at hc
    have hc2 : c ∈ TL.tl (Str.join (Str.ofString "") ys) := hc
    rw [TL.tl_join] at hc2
    rcases joinL_mem _ _ _ hc2 with h' | ⟨p, h1, h2⟩
    · have e0 : TL.tl (Str.ofString "") = [] := by decide +kernel
      rw [e0] at h'
      cases h'
    · obtain ⟨y, hy, rfl⟩ := List.mem_map.mp h1
      obtain ⟨c', rfl, hc'⟩ := h y hy
      have : c = c' := List.mem_singleton.mp h2
      omega
structure Ok2 (b : Bw) : Prop where
  kn : match b.kn with
    | .wall => b.x = 0 ∧ b.y = 0
    | .free m => 1 ≤ m ∧ Bd 40 m
    | .rail m p q => 1 ≤ m ∧ Bd 40 m ∧ Bd 40 p ∧ Bd 40 q
  len : b.ps.length ≤ 14
  ps : ∀ p ∈ b.ps, PtB p
  px : BdQ 300 b.px
  py : BdQ 300 b.py
  x : BdQ 300 b.x
  y : BdQ 300 b.y
  nl : b.nm.length ≤ 12
  ny : PyData.canLay0 (.str b.nm) = true
theorem hull_ok {rs : List Pt} (h : ∀ p ∈ rs, PtB p) (hl : rs.length ≤ 8) : (hullOf rs).length ≤ 14 ∧ ∀ p ∈ hullOf rs, PtB p := by
  have s1 : ∀ (l : List Pt), (∀ p ∈ l, PtB p) → l.length ≤ 8 → ((halfR l).tail.reverse).length ≤ 7 ∧ ∀ p ∈ (halfR l).tail.reverse, PtB p := fun l hB hl => by
    have h1 := halfS_len l []
    have h2 : (halfR l).length ≤ 8 := by
      unfold halfR
      simp only [List.length_nil] at h1
      omega
    refine ⟨by rw [List.length_reverse, List.length_tail]; omega, fun p hp => ?_⟩
    have hm := List.mem_of_mem_tail (List.mem_reverse.mp hp)
    rcases halfS_sub l [] p hm with z | z
    · cases z
    · exact hB p z
  obtain ⟨a1, a2⟩ := s1 rs h hl
  obtain ⟨b1, b2⟩ := s1 rs.reverse (fun p hp => h p (List.mem_reverse.mp hp)) (by rw [List.length_reverse]; exact hl)
  unfold hullOf
  split
  · refine ⟨by decide, fun p hp => ?_⟩
    have : p = (0, 0) ∨ p = (2, 0) ∨ p = (0, 2) := by simpa using hp
    rcases this with rfl | rfl | rfl <;> exact ⟨by decide, by decide, by decide, by decide⟩
  · refine ⟨by rw [List.length_append]; omega, fun p hp => ?_⟩
    rcases List.mem_append.mp hp with z | z
    · exact a2 p z
    · exact b2 p z
theorem joinE_len : ∀ ps : List (List Nat), (TL.joinL [] ps).length = (ps.map (·.length)).sum
  | [] => rfl
  | [p] => by simp [TL.joinL]
  | p :: q :: r => by
    have := joinE_len (q :: r)
    show (p ++ ([] ++ TL.joinL [] (q :: r))).length = _
    rw [List.nil_append, List.length_append, this]
    simp
theorem joinE_len0 (ys : List Str) : (Txt.join (Str.ofString "") ys).length = (ys.map (·.length)).sum := by
  have e0 : TL.tl (Str.ofString "") = [] := by decide +kernel
  have h : (TL.tl (Txt.join (Str.ofString "") ys)).length = (ys.map (·.length)).sum := by
    rw [TL.join_eq, TL.tl_join, e0, joinE_len, List.map_map]
    congr 1
  rw [← h]
  show (Txt.join (Str.ofString "") ys).cps.size = (Txt.join (Str.ofString "") ys).cps.toList.length
  simp
def a_l_row : ASp := fun ds n Q => ∃ kd : Int, ds = [.deck, .int kd] ∧ 300 ≤ n ∧ 0 ≤ kd ∧ kd < 3 ∧ ∀ (b : Bw) (n' : Nat), Ok2 b → n ≤ n' + 200 → Q b.d n'
theorem ok_l_row (T : Tx K mg A) : FnOk P w K mg base CX0 6 A.f_l_row A.fd_l_row ["_law_deck_here", "_law_kind"] (spOf K 2 a_l_row) := by
  refine fn_mir [] 16 rfl (by decide) (by decide) T.F_l_row sc_l_row fun cdv Ar outer s H E hr => ?_
  refine ⟨_, _, (pss_cons (ps_set (i := 2) sc_l_row.nd rfl (.inr rfl) pe_str)
    (pss_cons (ps_set (i := 3) sc_l_row.nd rfl (.inl rfl) (pe_ix (k_ixS (K := K) rfl) (pe_lst (pa_cons pe_int (pa_cons pe_int (pa_cons pe_int pa_nil)))) (pe_call (ok_l_take (P := P) (K := K) T) (hr.mono (by decide)) (by rfl) T.g_l_take T.F_l_take.kp T.b_l_take .nil pass0 (pa_cons (pv 0) (pa_cons pe_int pa_nil))) (fun _ _ => rfl)))
    (pss_cons (ps_set (i := 4) sc_l_row.nd rfl (.inl rfl) (k_join (K := K) rfl pe_str (pe_lc (own := [("_law_k", 15)]) rfl sc_l_row.nd (pi_range1 (by rfl) T.m_range (pa_cons (pv 3) pa_nil)) (blkOk_by (own := [("_law_k", 15)]) (N := ["_law_deck_here", "_law_kind", "_law_letters", "_law_long", "_law_name", "_law_span", "_law_many", "_law_shape", "_law_place", "_law_heavy", "_law_one", "_law_p", "_law_q", "_law_by", "_law_going", "_law_k"]) (sc := defScope s_l_row) (by decide +kernel)) (fun _ _ _ _ _ => (pg_name (i := 15) sc_l_row.nd rfl (Or.inl rfl))) (fun _ _ _ _ _ => pts_nil) (fun _ _ _ _ _ => (pe_ix (k_ixS (K := K) rfl) (pv 2) (pe_call (ok_l_take (P := P) (K := K) T) (hr.mono (by decide)) (by rfl) T.g_l_take T.F_l_take.kp T.b_l_take .nil pass0 (pa_cons (pv 0) (pa_cons pe_int pa_nil))) (fun _ _ => rfl))))))
    (pss_cons (ps_set (i := 5) sc_l_row.nd rfl (.inr rfl) (pe_ix (k_ixS (K := K) rfl) (pe_lst (pa_cons pe_int (pa_cons pe_int (pa_cons pe_int pa_nil)))) (pe_call (ok_l_take (P := P) (K := K) T) (hr.mono (by decide)) (by rfl) T.g_l_take T.F_l_take.kp T.b_l_take .nil pass0 (pa_cons (pv 0) (pa_cons pe_int pa_nil))) (fun _ _ => rfl)))
    (pss_cons (ps_set (i := 6) sc_l_row.nd rfl (.inl rfl) (pe_op (k_add (K := K) rfl) pe_int (pe_call (ok_l_take (P := P) (K := K) T) (hr.mono (by decide)) (by rfl) T.g_l_take T.F_l_take.kp T.b_l_take .nil pass0 (pa_cons (pv 0) (pa_cons pe_int pa_nil)))))
    (pss_cons (ps_set (i := 7) sc_l_row.nd rfl (.inl rfl) (pe_callTy (k_tuple (K := K) rfl) (by rfl) T.m_tuple (by decide +kernel) (pa_cons (pe_call (ok_l_hull (P := P) (K := K) T) (hr.mono (by decide)) (by rfl) T.g_l_hull T.F_l_hull.kp T.b_l_hull .nil pass0 (pa_cons (pe_lc (own := [("_law_k", 15)]) rfl sc_l_row.nd (pi_range1 (by rfl) T.m_range (pa_cons (pv 6) pa_nil)) (blkOk_by (own := [("_law_k", 15)]) (N := ["_law_deck_here", "_law_kind", "_law_letters", "_law_long", "_law_name", "_law_span", "_law_many", "_law_shape", "_law_place", "_law_heavy", "_law_one", "_law_p", "_law_q", "_law_by", "_law_going", "_law_k"]) (sc := defScope s_l_row) (by decide +kernel)) (fun _ _ _ _ _ => (pg_name (i := 15) sc_l_row.nd rfl (Or.inl rfl))) (fun _ _ _ _ _ => pts_nil) (fun _ _ _ _ _ => (pe_tup (pa_cons (pe_call (ok_l_number (P := P) (K := K) T) (hr.mono (by decide)) (by rfl) T.g_l_number T.F_l_number.kp T.b_l_number .nil pass0 (pa_cons (pv 0) (pa_cons (pv 5) pa_nil))) (pa_cons (pe_call (ok_l_number (P := P) (K := K) T) (hr.mono (by decide)) (by rfl) T.g_l_number T.F_l_number.kp T.b_l_number .nil pass0 (pa_cons (pv 0) (pa_cons (pv 5) pa_nil))) pa_nil))))) pa_nil)) pa_nil)))
    (pss_cons (ps_set (i := 8) sc_l_row.nd rfl (.inl rfl) (pe_tup (pa_cons (pe_call (ok_l_drawn (P := P) (K := K) T) (hr.mono (by decide)) (by rfl) T.g_l_drawn T.F_l_drawn.kp T.b_l_drawn .nil pass0 (pa_cons (pv 0) pa_nil)) (pa_cons (pe_call (ok_l_drawn (P := P) (K := K) T) (hr.mono (by decide)) (by rfl) T.g_l_drawn T.F_l_drawn.kp T.b_l_drawn .nil pass0 (pa_cons (pv 0) pa_nil)) pa_nil))))
    (pss_cons (ps_set (i := 9) sc_l_row.nd rfl (.inl rfl) (pe_ix (k_ixS (K := K) rfl) (pe_lst (pa_cons pe_int (pa_cons pe_int (pa_cons pe_int (pa_cons (pe_op (k_add (K := K) rfl) pe_int (pe_call (ok_l_take (P := P) (K := K) T) (hr.mono (by decide)) (by rfl) T.g_l_take T.F_l_take.kp T.b_l_take .nil pass0 (pa_cons (pv 0) (pa_cons pe_int pa_nil)))) pa_nil))))) (pe_call (ok_l_take (P := P) (K := K) T) (hr.mono (by decide)) (by rfl) T.g_l_take T.F_l_take.kp T.b_l_take .nil pass0 (pa_cons (pv 0) (pa_cons pe_int pa_nil))) (fun _ _ => rfl)))
    (pss_cons (ps_set (i := 10) sc_l_row.nd rfl (.inl rfl) (pe_call (ok_l_drawn (P := P) (K := K) T) (hr.mono (by decide)) (by rfl) T.g_l_drawn T.F_l_drawn.kp T.b_l_drawn .nil pass0 (pa_cons (pv 0) pa_nil)))
    (pss_cons (ps_set (i := 11) sc_l_row.nd rfl (.inl rfl) (pe_call (ok_l_number (P := P) (K := K) T) (hr.mono (by decide)) (by rfl) T.g_l_number T.F_l_number.kp T.b_l_number .nil pass0 (pa_cons (pv 0) (pa_cons (pe_ix (k_ixS (K := K) rfl) (pe_lst (pa_cons pe_int (pa_cons pe_int (pa_cons pe_int pa_nil)))) (pe_call (ok_l_take (P := P) (K := K) T) (hr.mono (by decide)) (by rfl) T.g_l_take T.F_l_take.kp T.b_l_take .nil pass0 (pa_cons (pv 0) (pa_cons pe_int pa_nil))) (fun _ _ => rfl)) pa_nil))))
    (pss_cons (ps_set (i := 12) sc_l_row.nd rfl (.inl rfl) (pe_call (ok_l_number (P := P) (K := K) T) (hr.mono (by decide)) (by rfl) T.g_l_number T.F_l_number.kp T.b_l_number .nil pass0 (pa_cons (pv 0) (pa_cons (pe_ix (k_ixS (K := K) rfl) (pe_lst (pa_cons pe_int (pa_cons pe_int (pa_cons pe_int pa_nil)))) (pe_call (ok_l_take (P := P) (K := K) T) (hr.mono (by decide)) (by rfl) T.g_l_take T.F_l_take.kp T.b_l_take .nil pass0 (pa_cons (pv 0) (pa_cons pe_int pa_nil))) (fun _ _ => rfl)) pa_nil))))
    (pss_cons (ps_if (pt_cmpR (k_eq (K := K) rfl hr.units) (pv 1) pe_int (nomark _))
      (pss_one (ps_ret (pe_tup (pa_cons (pv 4) (pa_cons (pv 7) (pa_cons pe_int (pa_cons pe_non (pa_cons (pv 8) (pa_cons (pe_tup (pa_cons (pe_tup (pa_cons pe_int (pa_cons pe_int pa_nil))) (pa_cons (pe_tup (pa_cons pe_int (pa_cons pe_int pa_nil))) pa_nil))) pa_nil)))))))))
      pss_nil)
    (pss_cons (ps_if (pt_cmpR (k_eq (K := K) rfl hr.units) (pv 1) pe_int (nomark _))
      (pss_one (ps_ret (pe_tup (pa_cons (pv 4) (pa_cons (pv 7) (pa_cons (pv 9) (pa_cons pe_non (pa_cons (pv 8) (pa_cons (pe_tup (pa_cons (pv 10) (pa_cons (pe_call (ok_l_drawn (P := P) (K := K) T) (hr.mono (by decide)) (by rfl) T.g_l_drawn T.F_l_drawn.kp T.b_l_drawn .nil pass0 (pa_cons (pv 0) pa_nil)) pa_nil))) pa_nil)))))))))
      pss_nil)
    (pss_cons (ps_if (PW.pt (pw_and (pt_cmpR (k_eq (K := K) rfl hr.units) (pv 11) pe_int (nomark _)) (pw_and1 (pt_cmpR (k_eq (K := K) rfl hr.units) (pv 12) pe_int (nomark _)))))
      (pss_one (ps_set (i := 11) sc_l_row.nd rfl (.inl rfl) (pe_un un_neg pe_int)))
      pss_nil)
    (pss_cons (ps_set (i := 13) sc_l_row.nd rfl (.inl rfl) (pe_call (ok_l_gcd (P := P) (K := K) T) (hr.mono (by decide)) (by rfl) T.g_l_gcd T.F_l_gcd.kp T.b_l_gcd .nil pass0 (pa_cons (pv 11) (pa_cons (pv 12) pa_nil))))
    (pss_cons (ps_set (i := 14) sc_l_row.nd rfl (.inl rfl) (pe_tup (pa_cons (pe_call (ok_l_part (P := P) (K := K) T) (hr.mono (by decide)) (by rfl) T.g_l_part T.F_l_part.kp T.b_l_part .nil pass0 (pa_cons (pe_op k_mul (pe_op k_fdiv (pv 11) (pv 13)) (pe_ix (k_ix (K := K) rfl) (pv 10) pe_int (fun _ _ => rfl))) (pa_cons (pe_ix (k_ix (K := K) rfl) (pv 10) pe_int (fun _ _ => rfl)) pa_nil))) (pa_cons (pe_call (ok_l_part (P := P) (K := K) T) (hr.mono (by decide)) (by rfl) T.g_l_part T.F_l_part.kp T.b_l_part .nil pass0 (pa_cons (pe_op k_mul (pe_op k_fdiv (pv 12) (pv 13)) (pe_ix (k_ix (K := K) rfl) (pv 10) pe_int (fun _ _ => rfl))) (pa_cons (pe_ix (k_ix (K := K) rfl) (pv 10) pe_int (fun _ _ => rfl)) pa_nil))) pa_nil))))
    (pss_one (ps_ret (pe_tup (pa_cons (pv 4) (pa_cons (pv 7) (pa_cons (pv 9) (pa_cons (pe_tup (pa_cons (pe_op k_fdiv (pv 11) (pv 13)) (pa_cons (pe_op k_fdiv (pv 12) (pv 13)) pa_nil))) (pa_cons (pv 8) (pa_cons (pv 14) pa_nil))))))))))))))))))))))))), by infer_instance, fun ds n Q hl hA => ?_⟩
  obtain ⟨kd, rfl, hn, k0, k3, q⟩ := hA
  simp only [startA, eSetAll, eSet, List.cons_append, List.nil_append]
  refine ⟨3, rfl, by decide, by decide, by omega, fun r l u => ?_⟩
  obtain ⟨k, hk1, hat⟩ : ∃ k : Nat, k ≤ 12 ∧ atI [D.int 1, D.int 2, D.int 11] r = some (D.int k) := by
    obtain rfl | rfl | rfl : r = 0 ∨ r = 1 ∨ r = 2 := by omega
    · exact ⟨1, by decide, rfl⟩
    · exact ⟨2, by decide, rfl⟩
    · exact ⟨11, by decide, rfl⟩
  refine aIx_lst hat ?_
  refine ⟨⟨by omega, by omega⟩, by rw [rangeD_length]; omega, ?_⟩
  refine aLc_ind (fun acc ds m => ∃ ys : List Str, acc = ys.map D.str ∧ (∀ y ∈ ys, ∃ c : Nat, y = ⟨#[c]⟩ ∧ c < 0x110000) ∧ ys.length + ds.length = k ∧ n ≤ m + 1 + ys.length) ?_ ?_ ⟨[], rfl, (fun y h => by cases h), by rw [rangeD_length]; simp, by simp; omega⟩
  · rintro acc d r m ⟨ys, rfl, hy, hl, hm⟩ ih
    rw [List.length_cons] at hl
    refine aT ⟨26, rfl, by decide, by decide, by omega, fun x l5 u5 => ?_⟩
    obtain ⟨ch, hch, hlt⟩ := letters_at l5 u5
    refine aIx_str (by decide +kernel) hch (ih _ _ ⟨ys ++ [⟨#[ch]⟩], by rw [List.map_append]; rfl, ?_, by rw [List.length_append]; simp; omega, by rw [List.length_append]; simp; omega⟩)
    intro y hy'
    rcases List.mem_append.mp hy' with h | h
    · exact hy y h
    · exact ⟨ch, List.mem_singleton.mp h, hlt⟩
  rintro acc m ⟨ys, rfl, hy, hl, hm⟩
  obtain ⟨s1, s2⟩ := signs_ok hy
  have e0 : (Str.ofString "").length = 0 := by decide +kernel
  rw [List.length_nil, Nat.add_zero] at hl
  refine ⟨ys, rfl, by rw [s1, e0]; omega, ?_⟩
  have nl : (Txt.join (Str.ofString "") ys).length ≤ 12 := by
    rw [joinE_len0 ys, s1]
    omega
  generalize Txt.join (Str.ofString "") ys = z at *
  refine ⟨3, rfl, by decide, by decide, by omega, fun r l u => ?_⟩
  obtain ⟨sp, hs0, hs1, hat⟩ : ∃ sp : Int, 0 ≤ sp ∧ sp ≤ 1000000 ∧ atI [D.int 3, D.int 9, D.int 999999] r = some (D.int sp) := by
    obtain rfl | rfl | rfl : r = 0 ∨ r = 1 ∨ r = 2 := by omega
    · exact ⟨3, by decide, by decide, rfl⟩
    · exact ⟨9, by decide, by decide, rfl⟩
    · exact ⟨999999, by decide, by decide, rfl⟩
  refine aIx_lst hat ?_
  refine ⟨6, rfl, by decide, by decide, by omega, fun mm lm um => ?_⟩
  refine ⟨⟨by omega, by omega⟩, by rw [rangeD_length]; omega, ?_⟩
  simp only [startA, eSetAll, eSet, List.cons_append, List.nil_append]
  refine aLc_ind (fun acc ds k2 => ∃ ps : List Pt, acc = ps.map pt ∧ (∀ p ∈ ps, PtB p) ∧ ps.length + ds.length = (3 + mm).toNat ∧ m ≤ k2 + 2 + 4 * ps.length) ?_ ?_ ⟨[], rfl, (fun y h => by cases h), by rw [rangeD_length]; simp, by simp; omega⟩
  · rintro acc d r k2 ⟨ps, rfl, hp, hl2, hk⟩ ih
    rw [List.length_cons] at hl2
    refine aT ⟨sp, rfl, hs0, hs1, by omega, fun x lx ux => ⟨sp, rfl, hs0, hs1, by omega, fun y ly uy => ?_⟩⟩
    refine ih _ _ ⟨ps ++ [(x, y)], by rw [List.map_append]; rfl, ?_, by rw [List.length_append]; simp; omega, by rw [List.length_append]; simp; omega⟩
    intro p hp'
    rcases List.mem_append.mp hp' with h | h
    · exact hp p h
    · rw [List.mem_singleton.mp h]
      exact ⟨by show -10000000 ≤ x; omega, by show x ≤ 10000000; omega, by show -10000000 ≤ y; omega, by show y ≤ 10000000; omega⟩
  rintro acc k2 ⟨ps, rfl, hp, hl2, hk⟩
  simp at hl2
  refine ⟨ps, rfl, hp, by omega, fun rs hperm hpw => ?_⟩
  have el := hperm.length_eq
  obtain ⟨hb1, hb2⟩ := hull_ok (rs := rs) (fun p h => hp p (hperm.mem_iff.mp h)) (by omega)
  generalize hullOf rs = cs at *
  simp only [startA, eSetAll, eSet, List.cons_append, List.nil_append]
  refine ⟨rfl, by omega, fun px n1 bx h1 => ⟨rfl, by omega, fun py n2 bY h2 => ?_⟩⟩
  refine ⟨999999, rfl, by decide, by decide, by omega, fun t lt ut => ?_⟩
  refine ⟨4, rfl, by decide, by decide, by omega, fun r lr ur => ?_⟩
  obtain ⟨hv, hv0, hv1, hat⟩ : ∃ hv : Int, 1 ≤ hv ∧ hv ≤ 1000000 ∧ atI [D.int 1, D.int 2, D.int 999999, D.int (1 + t)] r = some (D.int hv) := by
    obtain rfl | rfl | rfl | rfl : r = 0 ∨ r = 1 ∨ r = 2 ∨ r = 3 := by omega
    · exact ⟨1, by decide, by decide, rfl⟩
    · exact ⟨2, by decide, by decide, rfl⟩
    · exact ⟨999999, by decide, by decide, rfl⟩
    · exact ⟨1 + t, by omega, by omega, rfl⟩
  refine aIx_lst hat ?_
  refine ⟨rfl, by omega, fun one n3 bo h3 => ?_⟩
  simp only [startA, eSetAll, eSet, List.cons_append, List.nil_append]
  have far3 : ∀ r : Int, 0 ≤ r → r < 3 → ∃ far : Int, 0 ≤ far ∧ far ≤ 1000000 ∧ atI [D.int 1, D.int 5, D.int 1000000] r = some (D.int far) := fun r l u => by
    obtain rfl | rfl | rfl : r = 0 ∨ r = 1 ∨ r = 2 := by omega
    · exact ⟨1, by decide, by decide, rfl⟩
    · exact ⟨5, by decide, by decide, rfl⟩
    · exact ⟨1000000, by decide, by decide, rfl⟩
  refine ⟨3, rfl, by decide, by decide, by omega, fun r l u => ?_⟩
  obtain ⟨f1, f10, f11, hat⟩ := far3 r l u
  refine aIx_lst hat ?_
  refine ⟨f1, rfl, f10, f11, by omega, fun p lp up => ?_⟩
  refine ⟨3, rfl, by decide, by decide, by omega, fun r l u => ?_⟩
  obtain ⟨f2, f20, f21, hat⟩ := far3 r l u
  refine aIx_lst hat ?_
  refine ⟨f2, rfl, f20, f21, by omega, fun q' lq uq => ?_⟩
  simp only [startA, eSetAll, eSet, List.cons_append, List.nil_append]
  have b300 : ∀ {x : Rat}, BdQ 102 x → BdQ 300 x := fun h => ⟨h.1.le (by decide), h.2.le (by decide)⟩
  have z300 : BdQ 300 (0 : Rat) := ⟨by unfold Bd; decide, by show Bd 300 1; unfold Bd; decide⟩
  have bd40 : ∀ {x : Int}, -1000000 ≤ x → x ≤ 1000000 → Bd 40 x := fun h1 h2 => by
    unfold Bd
    have : (2 : Nat) ^ 40 = 1099511627776 := by decide
    omega
  refine dIte (p := kd = 0) (fun _ => ?_) fun e1 => dIte (p := kd = 1) (fun _ => ?_) fun e2 => ?_
  · exact q ⟨z, .wall, cs, px, py, 0, 0⟩ _ ⟨⟨rfl, rfl⟩, hb1, hb2, b300 bx, b300 bY, z300, z300, nl, s2⟩ (by omega)
  · refine ⟨rfl, by omega, fun y1 n4 by1 h4 => ?_⟩
    exact q ⟨z, .free hv, cs, px, py, one, y1⟩ _ ⟨⟨hv0, bd40 (by omega) hv1⟩, hb1, hb2, b300 bx, b300 bY, b300 bo, b300 by1, nl, s2⟩ (by omega)
  · have bits : ∀ {x : Int}, -1000000 ≤ x → x ≤ 1000000 → Bd 21 x := fun h1 h2 => by
      unfold Bd
      have : (2 : Nat) ^ 21 = 2097152 := by decide
      omega
    have bp := bits (x := p) (by omega) (by omega)
    have bq := bits (x := q') (by omega) (by omega)
    have fin : ∀ P : Int, Bd 21 P → ¬ (P = 0 ∧ q' = 0) → CDivA P (gcdI P q') ∧ CDivA q' (gcdI P q') ∧ CMulA (P / gcdI P q') one.num ∧ CMulA (q' / gcdI P q') one.num ∧ (∀ Q' n', Q' (sh (Rat.divInt (P / gcdI P q' * one.num) (one.den : Int))) n' → a_l_part [.int (P / gcdI P q' * one.num), .int (one.den : Int)] n' Q') ∧ (∀ Q' n', Q' (sh (Rat.divInt (q' / gcdI P q' * one.num) (one.den : Int))) n' → a_l_part [.int (q' / gcdI P q' * one.num), .int (one.den : Int)] n' Q') ∧ Ok2 ⟨z, .rail hv (P / gcdI P q') (q' / gcdI P q'), cs, px, py, Rat.divInt (P / gcdI P q' * one.num) (one.den : Int), Rat.divInt (q' / gcdI P q' * one.num) (one.den : Int)⟩ := fun P bP h0 => by
      have g0 := gcdI_pos2 h0
      have gb := gcdI_bd2 bP bq h0
      have d1 : Bd 21 (P / gcdI P q') := bP.of_le (div_natAbs_le g0 (gcdI_dvd_l _ _))
      have d2 : Bd 21 (q' / gcdI P q') := bq.of_le (div_natAbs_le g0 (gcdI_dvd_r _ _))
      have dp := den_pos one
      have m1 := d1.mul bo.1
      have m2 := d2.mul bo.1
      refine ⟨divA gb g0 (by decide), divA gb g0 (by decide), mulA d1 bo.1 (by decide) (by decide), mulA d2 bo.1 (by decide) (by decide), fun Q' n' h => part_ok dp bo.2 (by decide) h, fun Q' n' h => part_ok dp bo.2 (by decide) h, ⟨hv0, bd40 (by omega) hv1, d1.le (by decide), d2.le (by decide)⟩, hb1, hb2, b300 bx, b300 bY, ?_, ?_, nl, s2⟩
      · exact divInt_bd dp (m1.le (by decide)) (bo.2.le (by decide))
      · exact divInt_bd dp (m2.le (by decide)) (bo.2.le (by decide))
    have b1 : Bd 21 (-1 : Int) := by unfold Bd; decide
    refine dIte (p := p = 0) (fun e1 => dIte (p := q' = 0) (fun e2 => ?_) (fun e2 => ?_)) (fun e1 => aF ?_)
    · obtain ⟨c1, c2, c3, c4, c5, c6, ok⟩ := fin (-1) b1 (fun z => by have := z.1; omega)
      refine ⟨-1, q', rfl, c1, c3, c5 _ _ ⟨c2, c4, c6 _ _ ?_⟩⟩
      exact ⟨c1, c2, q _ _ ok (by omega)⟩
    · obtain ⟨c1, c2, c3, c4, c5, c6, ok⟩ := fin p bp (fun z => e2 z.2)
      refine ⟨p, q', rfl, c1, c3, c5 _ _ ⟨c2, c4, c6 _ _ ?_⟩⟩
      exact ⟨c1, c2, q _ _ ok (by omega)⟩
    · obtain ⟨c1, c2, c3, c4, c5, c6, ok⟩ := fin p bp (fun z => e1 z.1)
      refine ⟨p, q', rfl, c1, c3, c5 _ _ ⟨c2, c4, c6 _ _ ?_⟩⟩
      exact ⟨c1, c2, q _ _ ok (by omega)⟩
structure Dy (m : Nat) (d : D) : Prop where
  isd : d.isD = true
  lay : PyData.canLay0 d.pd = true
  dep : PyData.depth d.pd ≤ m
theorem dy_all {m : Nat} : ∀ {ds : List D}, (∀ x ∈ ds, Dy m x) → isDAll ds = true ∧ PyData.canLayAll0 (pdAll ds) = true ∧ PyData.depthAll (pdAll ds) ≤ m
  | [], _ => ⟨rfl, rfl, Nat.zero_le _⟩
  | d :: ds, h => by
    have g := h d List.mem_cons_self
    obtain ⟨g1, g2, g3⟩ := dy_all (ds := ds) fun x hx => h x (List.mem_cons_of_mem _ hx)
    refine ⟨?_, ?_, ?_⟩
    · show (d.isD && isDAll ds) = true
      rw [g.isd, g1]
      rfl
    · show (PyData.canLay0 d.pd && PyData.canLayAll0 (pdAll ds)) = true
      rw [g.lay, g2]
      rfl
    · show max (PyData.depth d.pd) (PyData.depthAll (pdAll ds)) ≤ m
      exact Nat.max_le.mpr ⟨g.dep, g3⟩
theorem Dy.tup {m : Nat} {ds : List D} (h : ∀ x ∈ ds, Dy m x) : Dy (m + 1) (.tup ds) := by
  obtain ⟨h1, h2, h3⟩ := dy_all h
  exact ⟨h1, h2, Nat.succ_le_succ h3⟩
theorem Dy.lst {m : Nat} {ds : List D} (h : ∀ x ∈ ds, Dy m x) : Dy (m + 1) (.lst ds) := by
  obtain ⟨h1, h2, h3⟩ := dy_all h
  exact ⟨h1, h2, Nat.succ_le_succ h3⟩
theorem Dy.le {m k : Nat} {d : D} (h : Dy m d) (l : m ≤ k) : Dy k d := ⟨h.isd, h.lay, Nat.le_trans h.dep l⟩
theorem Dy.int {m : Nat} (i : Int) : Dy m (.int i) := ⟨rfl, rfl, Nat.zero_le _⟩
theorem Dy.sh (x : Rat) : Dy 1 (sh x) := Dy.tup fun d hd => by
  have : d = .int x.num ∨ d = .int (x.den : Int) := by simpa using hd
  rcases this with rfl | rfl <;> exact Dy.int _
theorem Dy.shaped {m : Nat} {d : D} (h : Dy m d) (hm : m ≤ 64) : SeqAt.shaped d.pd = true := by
  unfold SeqAt.shaped
  rw [h.lay, Bool.true_and]
  exact decide_eq_true (Nat.le_trans h.dep hm)
structure OkW (b : Bw) : Prop where
  ok : b.ok
  ny : PyData.canLay0 (.str b.nm) = true
  st : b.kn.kd = .w → b.x = 0 ∧ b.y = 0
theorem OkW.dy {b : Bw} (h : OkW b) : Dy 4 b.d := by
  have nd : Dy 3 (.str b.nm) := ⟨rfl, h.ny, Nat.zero_le _⟩
  have sp : ∀ x y : Rat, Dy 3 (spt x y) := fun x y => (Dy.tup (m := 1) fun d hd => by
    have : d = sh x ∨ d = sh y := by simpa using hd
    rcases this with rfl | rfl <;> exact Dy.sh _).le (by decide)
  have ps : Dy 3 (.tup (b.ps.map pt)) := (Dy.tup (m := 1) fun d hd => by
    obtain ⟨p, _, rfl⟩ := List.mem_map.mp hd
    exact (Dy.tup (m := 0) fun d hd => by
      have : d = .int p.1 ∨ d = .int p.2 := by simpa using hd
      rcases this with rfl | rfl <;> exact Dy.int _)).le (by decide)
  have rl : Dy 3 b.kn.rl := by
    cases b.kn with
    | wall => exact ⟨rfl, rfl, Nat.zero_le _⟩
    | free m => exact ⟨rfl, rfl, Nat.zero_le _⟩
    | rail m p q => exact (Dy.tup (m := 0) fun d hd => by
        have : d = .int p ∨ d = .int q := by simpa using hd
        rcases this with rfl | rfl <;> exact Dy.int _).le (by decide)
  refine Dy.tup (m := 3) fun d hd => ?_
  have : d = .str b.nm ∨ d = .tup (b.ps.map pt) ∨ d = .int b.kn.m ∨ d = b.kn.rl ∨ d = spt b.px b.py ∨ d = spt b.x b.y := by simpa [Bw.rw] using hd
  rcases this with rfl | rfl | rfl | rfl | rfl | rfl
  · exact nd
  · exact ps
  · exact Dy.int _
  · exact rl
  · exact sp _ _
  · exact sp _ _
theorem OkW.lay {b : Bw} (h : OkW b) : b.lay := ⟨h.dy.isd, h.dy.shaped (by decide)⟩
theorem PtB.ok {p : Pt} (h : PtB p) : PtOk p := by
  obtain ⟨h1, h2, h3, h4⟩ := h
  have e : (2 : Nat) ^ 64 = 18446744073709551616 := by decide
  exact ⟨by unfold Bd; omega, by unfold Bd; omega⟩
theorem BdQ.wd {x : Rat} (h : BdQ 300 x) : BdQ 1500 x := ⟨h.1.le (by decide), h.2.le (by decide)⟩
theorem Ok2.wd {b : Bw} (h : Ok2 b) : OkW b := by
  have k := h.kn
  refine ⟨⟨?_, Nat.le_trans h.len (by decide), fun p hp => (h.ps p hp).ok, h.px.wd, h.py.wd, h.x.wd, h.y.wd, Nat.le_trans h.nl (by decide)⟩, h.ny, fun e => ?_⟩
  · revert k
    cases b.kn with
    | wall => exact fun _ => trivial
    | free m => exact fun k => ⟨k.1, k.2.le (by decide)⟩
    | rail m p q => exact fun k => ⟨k.1, k.2.1.le (by decide), k.2.2.1.le (by decide), k.2.2.2.le (by decide)⟩
  · revert k e
    cases b.kn with
    | wall => exact fun k _ => k
    | free m => exact fun _ e => by cases e
    | rail m p q => exact fun _ e => by cases e
def a_l_added : ASp := fun ds n Q => ∃ x : Rat, ds = [sh x] ∧ BdQ 300 x ∧ ∀ y : Rat, BdQ 1500 y → Q (sh y) n
theorem ok_l_added (T : Tx K mg A) : FnOk P w K mg base CX0 3 A.f_l_added A.fd_l_added ["_law_one"] (spOf K 1 a_l_added) := by
  refine fn_mir [] 1 rfl (by decide) (by decide) T.F_l_added sc_l_added fun cdv Ar outer s H E hr => ?_
  refine ⟨_, _, (pss_one (ps_ret (pe_call (ok_l_part (P := P) (K := K) T) (hr.mono (by decide)) (by rfl) T.g_l_part T.F_l_part.kp T.b_l_part .nil pass0 (pa_cons (pe_op (k_add (K := K) rfl) (pe_ix (k_ix (K := K) rfl) (pv 0) pe_int (fun _ _ => rfl)) (pe_ix (k_ix (K := K) rfl) (pv 0) pe_int (fun _ _ => rfl))) (pa_cons (pe_ix (k_ix (K := K) rfl) (pv 0) pe_int (fun _ _ => rfl)) pa_nil))))), by infer_instance, fun ds n Q hl hA => ?_⟩
  obtain ⟨x, rfl, b, q⟩ := hA
  have dp := den_pos x
  have s : Bd 301 (x.num + (x.den : Int)) := b.1.add b.2
  exact part_ok dp b.2 (by decide) (q _ (divInt_bd dp (s.le (by decide)) (b.2.le (by decide))))
def a_l_other_rail : ASp := fun ds n Q => ∃ b : Bw, ds = [b.d] ∧ ((∃ m p q, b.kn = .rail m p q ∧ 1 ≤ m ∧ Q (.tup [.int (-p), .int (-q)]) n) ∨ (b.kn.kd ≠ .r ∧ Q .non n))
theorem ok_l_other_rail (T : Tx K mg A) : FnOk P w K mg base CX0 1 A.f_l_other_rail A.fd_l_other_rail ["_law_row_here"] (spOf K 1 a_l_other_rail) := by
  refine fn_mir [] 1 rfl (by decide) (by decide) T.F_l_other_rail sc_l_other_rail fun cdv Ar outer s H E hr => ?_
  refine ⟨_, _, (pss_cons (ps_if (PW.pt (pw_and (pt_cmpR op_gt (pe_ix (k_ix (K := K) rfl) (pv 0) pe_int (fun _ _ => rfl)) pe_int (nomark _)) (pw_and1 (pt_cmpR k_notN (pe_ix (k_ix (K := K) rfl) (pv 0) pe_int (fun _ _ => rfl)) pe_non (nomark _)))))
      (pss_one (ps_ret (pe_tup (pa_cons (pe_un un_neg (pe_ix (k_ix (K := K) rfl) (pe_ix (k_ix (K := K) rfl) (pv 0) pe_int (fun _ _ => rfl)) pe_int (fun _ _ => rfl))) (pa_cons (pe_un un_neg (pe_ix (k_ix (K := K) rfl) (pe_ix (k_ix (K := K) rfl) (pv 0) pe_int (fun _ _ => rfl)) pe_int (fun _ _ => rfl))) pa_nil)))))
      pss_nil)
    (pss_one (ps_ret pe_non))), by infer_instance, fun ds n Q hl hA => ?_⟩
  obtain ⟨b, rfl, h⟩ := hA
  obtain ⟨nm, kn, ps, px, py, x, y⟩ := b
  rcases h with ⟨m, p, q', e, hm, q⟩ | ⟨hk, q⟩
  · obtain rfl : kn = .rail m p q' := e
    refine dIte (p := m > 0) (fun _ => ?_) fun z => absurd (show m > 0 by omega) z
    exact aT q
  · cases kn with
    | wall => exact aF (aF q)
    | free m =>
      exact dIte (p := m > 0) (fun _ => aF q) fun _ => aF q
    | rail m p q' => exact absurd rfl hk
theorem zs_len : (Str.ofString "z").length = 1 := by decide +kernel
theorem canlay_z {z : Str} (h : PyData.canLay0 (.str z) = true) : PyData.canLay0 (.str (z ++ Str.ofString "z")) = true := by
  have h' : ∀ c ∈ z.cps.toList, c < 0x110000 := fun c hc => by
    have h2 : (z.cps.all fun c => decide (c < 0x110000)) = true := h
    rw [Array.all_eq_true'] at h2
    exact of_decide_eq_true (h2 c (Array.mem_toList_iff.mp hc))
  refine strOk_tl fun c hc => ?_
  have e : (z ++ Str.ofString "z").cps.toList = z.cps.toList ++ (Str.ofString "z").cps.toList := by
    show (z.cps ++ _).toList = _
    rw [Array.toList_append]
  rw [e] at hc
  rcases List.mem_append.mp hc with hc | hc
  · exact h' c hc
  · have : ∀ c ∈ (Str.ofString "z").cps.toList, c < 0x110000 := by decide +kernel
    exact this c hc
def a_l_other : ASp := fun ds n Q => ∃ b : Bw, ds = [.deck, b.d] ∧ Ok2 b ∧ 20 ≤ n ∧ ∀ (c : Bw) (n' : Nat), OkW c → n ≤ n' + 5 → Q c.d n'
theorem ok_l_other (T : Tx K mg A) : FnOk P w K mg base CX0 4 A.f_l_other A.fd_l_other ["_law_deck_here", "_law_row_here"] (spOf K 2 a_l_other) := by
  refine fn_mir [] 5 rfl (by decide) (by decide) T.F_l_other sc_l_other fun cdv Ar outer s H E hr => ?_
  refine ⟨_, _, (pss_cons (ps_set (i := 2) sc_l_other.nd rfl (.inl rfl) (pe_call (ok_l_take (P := P) (K := K) T) (hr.mono (by decide)) (by rfl) T.g_l_take T.F_l_take.kp T.b_l_take .nil pass0 (pa_cons (pv 0) (pa_cons pe_int pa_nil))))
    (pss_cons (ps_if (pt_cmpR (k_eq (K := K) rfl hr.units) (pv 2) pe_int (nomark _))
      (pss_one (ps_ret (pe_op (k_add (K := K) rfl) (pe_tup (pa_cons (pe_op (k_add (K := K) rfl) (pe_ix (k_ix (K := K) rfl) (pv 1) pe_int (fun _ _ => rfl)) pe_str) pa_nil)) (pe_slice (k_sl (K := K) rfl) (pv 1) (po_some pe_int) po_none))))
      pss_nil)
    (pss_cons (ps_if (pt_cmpR (k_eq (K := K) rfl hr.units) (pv 2) pe_int (nomark _))
      (pss_one (ps_ret (pe_op (k_add (K := K) rfl) (pe_op (k_add (K := K) rfl) (pe_slice (k_sl (K := K) rfl) (pv 1) po_none (po_some pe_int)) (pe_tup (pa_cons (pe_callTy (k_tuple (K := K) rfl) (by rfl) T.m_tuple (by decide +kernel) (pa_cons (pe_lc (own := [("_law_x", 3), ("_law_y", 4)]) rfl sc_l_other.nd (k_iter (K := K) rfl (pe_ix (k_ix (K := K) rfl) (pv 1) pe_int (fun _ _ => rfl))) (blkOk_by (own := [("_law_x", 3), ("_law_y", 4)]) (N := ["_law_deck_here", "_law_row_here", "_law_part_here", "_law_x", "_law_y"]) (sc := defScope s_l_other) (by decide +kernel)) (fun _ _ _ _ _ => (k_gtup (K := K) (m := 2) rfl rfl (pgs_cons (pg_name (i := 3) sc_l_other.nd rfl (Or.inl rfl)) (pgs_cons (pg_name (i := 4) sc_l_other.nd rfl (Or.inl rfl)) pgs_nil)))) (fun _ _ _ _ _ => pts_nil) (fun _ _ _ _ _ => (pe_tup (pa_cons (pe_op (k_add (K := K) rfl) (pv 3) pe_int) (pa_cons (pv 4) pa_nil))))) pa_nil)) pa_nil))) (pe_slice (k_sl (K := K) rfl) (pv 1) (po_some pe_int) po_none))))
      pss_nil)
    (pss_cons (ps_if (PW.pt (pw_and (pt_cmpR (k_eq (K := K) rfl hr.units) (pv 2) pe_int (nomark _)) (pw_and1 (pt_cmpR op_gt (pe_ix (k_ix (K := K) rfl) (pv 1) pe_int (fun _ _ => rfl)) pe_int (nomark _)))))
      (pss_one (ps_ret (pe_op (k_add (K := K) rfl) (pe_op (k_add (K := K) rfl) (pe_slice (k_sl (K := K) rfl) (pv 1) po_none (po_some pe_int)) (pe_tup (pa_cons (pe_op (k_add (K := K) rfl) (pe_ix (k_ix (K := K) rfl) (pv 1) pe_int (fun _ _ => rfl)) pe_int) pa_nil))) (pe_slice (k_sl (K := K) rfl) (pv 1) (po_some pe_int) po_none))))
      pss_nil)
    (pss_cons (ps_if (PW.pt (pw_and (pt_cmpR (k_eq (K := K) rfl hr.units) (pv 2) pe_int (nomark _)) (pw_and1 (pt_cmpR k_notN (pe_ix (k_ix (K := K) rfl) (pv 1) pe_int (fun _ _ => rfl)) pe_non (nomark _)))))
      (pss_one (ps_ret (pe_op (k_add (K := K) rfl) (pe_op (k_add (K := K) rfl) (pe_slice (k_sl (K := K) rfl) (pv 1) po_none (po_some pe_int)) (pe_tup (pa_cons (pe_ix (k_ixS (K := K) rfl) (pe_lst (pa_cons (pe_call (ok_l_other_rail (P := P) (K := K) T) (hr.mono (by decide)) (by rfl) T.g_l_other_rail T.F_l_other_rail.kp T.b_l_other_rail .nil pass0 (pa_cons (pv 1) pa_nil)) (pa_cons pe_non pa_nil))) (pe_call (ok_l_take (P := P) (K := K) T) (hr.mono (by decide)) (by rfl) T.g_l_take T.F_l_take.kp T.b_l_take .nil pass0 (pa_cons (pv 0) (pa_cons pe_int pa_nil))) (fun _ _ => rfl)) pa_nil))) (pe_slice (k_sl (K := K) rfl) (pv 1) (po_some pe_int) po_none))))
      pss_nil)
    (pss_cons (ps_if (PW.pt (pw_and (pt_cmpR (k_eq (K := K) rfl hr.units) (pv 2) pe_int (nomark _)) (pw_and (pt_cmpR op_gt (pe_ix (k_ix (K := K) rfl) (pv 1) pe_int (fun _ _ => rfl)) pe_int (nomark _)) (pw_and1 (pt_cmpR k_isN (pe_ix (k_ix (K := K) rfl) (pv 1) pe_int (fun _ _ => rfl)) pe_non (nomark _))))))
      (pss_one (ps_ret (pe_op (k_add (K := K) rfl) (pe_slice (k_sl (K := K) rfl) (pv 1) po_none (po_some pe_int)) (pe_tup (pa_cons (pe_tup (pa_cons (pe_call (ok_l_added (P := P) (K := K) T) (hr.mono (by decide)) (by rfl) T.g_l_added T.F_l_added.kp T.b_l_added .nil pass0 (pa_cons (pe_ix (k_ix (K := K) rfl) (pe_ix (k_ix (K := K) rfl) (pv 1) pe_int (fun _ _ => rfl)) pe_int (fun _ _ => rfl)) pa_nil)) (pa_cons (pe_ix (k_ix (K := K) rfl) (pe_ix (k_ix (K := K) rfl) (pv 1) pe_int (fun _ _ => rfl)) pe_int (fun _ _ => rfl)) pa_nil))) pa_nil)))))
      pss_nil)
    (pss_one (ps_ret (pe_op (k_add (K := K) rfl) (pe_op (k_add (K := K) rfl) (pe_slice (k_sl (K := K) rfl) (pv 1) po_none (po_some pe_int)) (pe_tup (pa_cons (pe_tup (pa_cons (pe_ix (k_ix (K := K) rfl) (pe_ix (k_ix (K := K) rfl) (pv 1) pe_int (fun _ _ => rfl)) pe_int (fun _ _ => rfl)) (pa_cons (pe_call (ok_l_added (P := P) (K := K) T) (hr.mono (by decide)) (by rfl) T.g_l_added T.F_l_added.kp T.b_l_added .nil pass0 (pa_cons (pe_ix (k_ix (K := K) rfl) (pe_ix (k_ix (K := K) rfl) (pv 1) pe_int (fun _ _ => rfl)) pe_int (fun _ _ => rfl)) pa_nil)) pa_nil))) pa_nil))) (pe_slice (k_sl (K := K) rfl) (pv 1) (po_some pe_int) po_none)))))))))), by infer_instance, fun ds n Q hl hA => ?_⟩
  obtain ⟨b, rfl, ok, hn, q⟩ := hA
  have w := ok.wd
  obtain ⟨nm, kn, ps, px, py, x, y⟩ := b
  refine ⟨6, rfl, by decide, by decide, by omega, fun kd lk uk => ?_⟩
  have inc : ∀ {m : Int}, Bd 40 m → Bd 64 (m + 1) := fun {m} h => by
    have e1 : (2 : Nat) ^ 40 = 1099511627776 := by decide
    have e2 : (2 : Nat) ^ 64 = 18446744073709551616 := by decide
    unfold Bd at *
    omega
  have neg : ∀ {m : Int}, Bd 40 m → Bd 64 (-m) := fun {m} h => by
    have e1 : (2 : Nat) ^ 40 = 1099511627776 := by decide
    have e2 : (2 : Nat) ^ 64 = 18446744073709551616 := by decide
    unfold Bd at *
    omega
  obtain rfl | rfl | rfl | rfl | rfl | rfl : kd = 0 ∨ kd = 1 ∨ kd = 2 ∨ kd = 3 ∨ kd = 4 ∨ kd = 5 := by omega
  · refine aT ?_
    refine ⟨by have := ok.nl; have := zs_len; show nm.length + (Str.ofString "z").length ≤ 1000000; have h12 : nm.length ≤ 12 := ok.nl; omega, ?_⟩
    refine ⟨fun z => absurd z.1 (show ¬ HT.sIx 6 0 (some 1) = 0 by decide), ?_⟩
    refine ⟨List.cons_ne_nil _ _, show 1 + 5 ≤ 1000000 by decide, ?_⟩
    exact q ⟨nm ++ Str.ofString "z", kn, ps, px, py, x, y⟩ _ ⟨⟨w.ok.1, w.ok.2.1, w.ok.2.2.1, w.ok.2.2.2.1, w.ok.2.2.2.2.1, w.ok.2.2.2.2.2.1, w.ok.2.2.2.2.2.2.1, by rw [str_app_len, zs_len]; have h12 : nm.length ≤ 12 := ok.nl; omega⟩, canlay_z w.ny, w.st⟩ (by omega)
  · refine aF (aT ?_)
    refine ⟨fun z => absurd z.2 (show ¬ HT.sIx 6 6 (some 1) = 6 by decide), ?_⟩
    refine ⟨by rw [List.length_map]; have h14 : ps.length ≤ 14 := ok.len; show ps.length ≤ 1000000; omega, ?_⟩
    refine aLc_ind (fun acc ds m => m = n - 1 ∧ ∃ us vs : List Pt, ps = us ++ vs ∧ ds = vs.map pt ∧ acc = (us.map fun p : Pt => ((p.1 + 1, p.2) : Pt)).map pt) ?_ ?_ ⟨rfl, [], ps, rfl, rfl, rfl⟩
    · rintro acc d r m ⟨rfl, us, vs, e0, e, rfl⟩ ih
      cases vs with
      | nil => cases e
      | cons v vs =>
      obtain ⟨rfl, rfl⟩ := List.cons.inj e
      refine aT (ih _ _ ⟨rfl, us ++ [v], vs, by rw [e0]; simp, rfl, by rw [List.map_append, List.map_append]; rfl⟩)
    rintro acc m ⟨rfl, us, vs, e0, e, rfl⟩
    cases vs with
    | cons v vs => cases e
    | nil =>
    rw [List.append_nil] at e0
    rw [← e0]
    refine ⟨List.cons_ne_nil _ _, show 1 + 1 ≤ 1000000 by decide, ?_⟩
    refine ⟨fun z => absurd z.1 (show ¬ HT.sIx 6 0 (some 2) = 0 by decide), ?_⟩
    refine ⟨List.cons_ne_nil _ _, show 2 + 4 ≤ 1000000 by decide, ?_⟩
    refine q ⟨nm, kn, ps.map fun p : Pt => ((p.1 + 1, p.2) : Pt), px, py, x, y⟩ _ ⟨⟨w.ok.1, by show (ps.map _).length ≤ 16; rw [List.length_map]; exact w.ok.2.1, fun p hp => ?_, w.ok.2.2.2.1, w.ok.2.2.2.2.1, w.ok.2.2.2.2.2.1, w.ok.2.2.2.2.2.2.1, w.ok.2.2.2.2.2.2.2⟩, w.ny, w.st⟩ (by omega)
    obtain ⟨p', hp', rfl⟩ := List.mem_map.mp hp
    obtain ⟨h1, h2, h3, h4⟩ := ok.ps p' hp'
    have e : (2 : Nat) ^ 64 = 18446744073709551616 := by decide
    exact ⟨by show Bd 64 (p'.1 + 1); unfold Bd; omega, by show Bd 64 p'.2; unfold Bd; omega⟩
  · refine aF (aF (aT ?_))
    cases kn with
    | wall =>
      refine aF (aF (aF (aF (aF ?_))))
      refine ⟨fun z => absurd z.2 (show ¬ HT.sIx 6 6 (some 4) = 6 by decide), ?_⟩
      refine ⟨py, rfl, ok.py, fun y' by' => ?_⟩
      refine ⟨List.cons_ne_nil _ _, show 4 + 1 ≤ 1000000 by decide, ?_⟩
      refine ⟨fun z => absurd z.1 (show ¬ HT.sIx 6 0 (some 5) = 0 by decide), ?_⟩
      refine ⟨List.cons_ne_nil _ _, show 5 + 1 ≤ 1000000 by decide, ?_⟩
      exact q ⟨nm, .wall, ps, px, y', x, y⟩ _ ⟨⟨w.ok.1, w.ok.2.1, w.ok.2.2.1, w.ok.2.2.2.1, by', w.ok.2.2.2.2.2.1, w.ok.2.2.2.2.2.2.1, w.ok.2.2.2.2.2.2.2⟩, w.ny, w.st⟩ (by omega)
    | free m =>
      obtain ⟨m1, m2⟩ := ok.kn
      refine dIte (p := m > 0) (fun hm => ?_) fun hm => absurd (show m > 0 by omega) hm
      refine ⟨fun z => absurd z.2 (show ¬ HT.sIx 6 6 (some 2) = 6 by decide), ?_⟩
      refine ⟨List.cons_ne_nil _ _, show 2 + 1 ≤ 1000000 by decide, ?_⟩
      refine ⟨fun z => absurd z.1 (show ¬ HT.sIx 6 0 (some 3) = 0 by decide), ?_⟩
      refine ⟨List.cons_ne_nil _ _, show 3 + 3 ≤ 1000000 by decide, ?_⟩
      exact q ⟨nm, .free (m + 1), ps, px, py, x, y⟩ _ ⟨⟨⟨show 1 ≤ m + 1 by omega, inc m2⟩, w.ok.2.1, w.ok.2.2.1, w.ok.2.2.2.1, w.ok.2.2.2.2.1, w.ok.2.2.2.2.2.1, w.ok.2.2.2.2.2.2.1, w.ok.2.2.2.2.2.2.2⟩, w.ny, fun e => by cases e⟩ (by omega)
    | rail m p1 p2 =>
      obtain ⟨m1, m2, m3, m4⟩ := ok.kn
      refine dIte (p := m > 0) (fun hm => ?_) fun hm => absurd (show m > 0 by omega) hm
      refine ⟨fun z => absurd z.2 (show ¬ HT.sIx 6 6 (some 2) = 6 by decide), ?_⟩
      refine ⟨List.cons_ne_nil _ _, show 2 + 1 ≤ 1000000 by decide, ?_⟩
      refine ⟨fun z => absurd z.1 (show ¬ HT.sIx 6 0 (some 3) = 0 by decide), ?_⟩
      refine ⟨List.cons_ne_nil _ _, show 3 + 3 ≤ 1000000 by decide, ?_⟩
      exact q ⟨nm, .rail (m + 1) p1 p2, ps, px, py, x, y⟩ _ ⟨⟨⟨show 1 ≤ m + 1 by omega, inc m2, m3.le (by decide), m4.le (by decide)⟩, w.ok.2.1, w.ok.2.2.1, w.ok.2.2.2.1, w.ok.2.2.2.2.1, w.ok.2.2.2.2.2.1, w.ok.2.2.2.2.2.2.1, w.ok.2.2.2.2.2.2.2⟩, w.ny, fun e => by cases e⟩ (by omega)
  · refine aF (aF (aF (aF (aT ?_))))
    cases kn with
    | wall =>
      refine aF (aF (aF ?_))
      refine ⟨fun z => absurd z.2 (show ¬ HT.sIx 6 6 (some 4) = 6 by decide), ?_⟩
      refine ⟨py, rfl, ok.py, fun y' by' => ?_⟩
      refine ⟨List.cons_ne_nil _ _, show 4 + 1 ≤ 1000000 by decide, ?_⟩
      refine ⟨fun z => absurd z.1 (show ¬ HT.sIx 6 0 (some 5) = 0 by decide), ?_⟩
      refine ⟨List.cons_ne_nil _ _, show 5 + 1 ≤ 1000000 by decide, ?_⟩
      exact q ⟨nm, .wall, ps, px, y', x, y⟩ _ ⟨⟨w.ok.1, w.ok.2.1, w.ok.2.2.1, w.ok.2.2.2.1, by', w.ok.2.2.2.2.2.1, w.ok.2.2.2.2.2.2.1, w.ok.2.2.2.2.2.2.2⟩, w.ny, w.st⟩ (by omega)
    | free m =>
      refine aF (aF (aF ?_))
      refine ⟨fun z => absurd z.2 (show ¬ HT.sIx 6 6 (some 4) = 6 by decide), ?_⟩
      refine ⟨py, rfl, ok.py, fun y' by' => ?_⟩
      refine ⟨List.cons_ne_nil _ _, show 4 + 1 ≤ 1000000 by decide, ?_⟩
      refine ⟨fun z => absurd z.1 (show ¬ HT.sIx 6 0 (some 5) = 0 by decide), ?_⟩
      refine ⟨List.cons_ne_nil _ _, show 5 + 1 ≤ 1000000 by decide, ?_⟩
      exact q ⟨nm, (.free m), ps, px, y', x, y⟩ _ ⟨⟨w.ok.1, w.ok.2.1, w.ok.2.2.1, w.ok.2.2.2.1, by', w.ok.2.2.2.2.2.1, w.ok.2.2.2.2.2.2.1, w.ok.2.2.2.2.2.2.2⟩, w.ny, w.st⟩ (by omega)
    | rail m p1 p2 =>
      obtain ⟨m1, m2, m3, m4⟩ := ok.kn
      refine aT ?_
      refine ⟨fun z => absurd z.2 (show ¬ HT.sIx 6 6 (some 3) = 6 by decide), ?_⟩
      refine ⟨⟨nm, .rail m p1 p2, ps, px, py, x, y⟩, rfl, .inl ⟨m, p1, p2, rfl, m1, ?_⟩⟩
      refine ⟨2, rfl, by decide, by decide, by omega, fun r lr ur => ?_⟩
      obtain rfl | rfl : r = 0 ∨ r = 1 := by omega
      · refine aIx_lst rfl ?_
        refine ⟨List.cons_ne_nil _ _, show 3 + 1 ≤ 1000000 by decide, ?_⟩
        refine ⟨fun z => absurd z.1 (show ¬ HT.sIx 6 0 (some 4) = 0 by decide), ?_⟩
        refine ⟨List.cons_ne_nil _ _, show 4 + 2 ≤ 1000000 by decide, ?_⟩
        exact q ⟨nm, .rail m (-p1) (-p2), ps, px, py, x, y⟩ _ ⟨⟨⟨m1, m2.le (by decide), neg m3, neg m4⟩, w.ok.2.1, w.ok.2.2.1, w.ok.2.2.2.1, w.ok.2.2.2.2.1, w.ok.2.2.2.2.2.1, w.ok.2.2.2.2.2.2.1, w.ok.2.2.2.2.2.2.2⟩, w.ny, fun e => by cases e⟩ (by omega)
      · refine aIx_lst rfl ?_
        refine ⟨List.cons_ne_nil _ _, show 3 + 1 ≤ 1000000 by decide, ?_⟩
        refine ⟨fun z => absurd z.1 (show ¬ HT.sIx 6 0 (some 4) = 0 by decide), ?_⟩
        refine ⟨List.cons_ne_nil _ _, show 4 + 2 ≤ 1000000 by decide, ?_⟩
        exact q ⟨nm, .free m, ps, px, py, x, y⟩ _ ⟨⟨⟨m1, m2.le (by decide)⟩, w.ok.2.1, w.ok.2.2.1, w.ok.2.2.2.1, w.ok.2.2.2.2.1, w.ok.2.2.2.2.2.1, w.ok.2.2.2.2.2.2.1, w.ok.2.2.2.2.2.2.2⟩, w.ny, fun e => by cases e⟩ (by omega)
  · refine aF (aF (aF (aF (aF (aF (aF (aF ?_)))))))
    refine ⟨fun z => absurd z.2 (show ¬ HT.sIx 6 6 (some 4) = 6 by decide), ?_⟩
    refine ⟨py, rfl, ok.py, fun y' by' => ?_⟩
    refine ⟨List.cons_ne_nil _ _, show 4 + 1 ≤ 1000000 by decide, ?_⟩
    refine ⟨fun z => absurd z.1 (show ¬ HT.sIx 6 0 (some 5) = 0 by decide), ?_⟩
    refine ⟨List.cons_ne_nil _ _, show 5 + 1 ≤ 1000000 by decide, ?_⟩
    exact q ⟨nm, kn, ps, px, y', x, y⟩ _ ⟨⟨w.ok.1, w.ok.2.1, w.ok.2.2.1, w.ok.2.2.2.1, by', w.ok.2.2.2.2.2.1, w.ok.2.2.2.2.2.2.1, w.ok.2.2.2.2.2.2.2⟩, w.ny, w.st⟩ (by omega)
  · refine aF (aF (aF (aF (aF (aF (aT ?_))))))
    cases kn with
    | wall =>
      refine aF (aF ?_)
      refine ⟨fun z => absurd z.2 (show ¬ HT.sIx 6 6 (some 4) = 6 by decide), ?_⟩
      refine ⟨py, rfl, ok.py, fun y' by' => ?_⟩
      refine ⟨List.cons_ne_nil _ _, show 4 + 1 ≤ 1000000 by decide, ?_⟩
      refine ⟨fun z => absurd z.1 (show ¬ HT.sIx 6 0 (some 5) = 0 by decide), ?_⟩
      refine ⟨List.cons_ne_nil _ _, show 5 + 1 ≤ 1000000 by decide, ?_⟩
      exact q ⟨nm, .wall, ps, px, y', x, y⟩ _ ⟨⟨w.ok.1, w.ok.2.1, w.ok.2.2.1, w.ok.2.2.2.1, by', w.ok.2.2.2.2.2.1, w.ok.2.2.2.2.2.2.1, w.ok.2.2.2.2.2.2.2⟩, w.ny, w.st⟩ (by omega)
    | free m =>
      obtain ⟨m1, m2⟩ := ok.kn
      refine dIte (p := m > 0) (fun hm => ?_) fun hm => absurd (show m > 0 by omega) hm
      refine aT ?_
      refine ⟨fun z => absurd z.2 (show ¬ HT.sIx 6 6 (some 5) = 6 by decide), ?_⟩
      refine ⟨x, rfl, ok.x, fun x' bx' => ?_⟩
      refine ⟨List.cons_ne_nil _ _, show 5 + 1 ≤ 1000000 by decide, ?_⟩
      exact q ⟨nm, .free m, ps, px, py, x', y⟩ _ ⟨⟨w.ok.1, w.ok.2.1, w.ok.2.2.1, w.ok.2.2.2.1, w.ok.2.2.2.2.1, bx', w.ok.2.2.2.2.2.2.1, w.ok.2.2.2.2.2.2.2⟩, w.ny, fun e => by cases e⟩ (by omega)
    | rail m p1 p2 =>
      obtain ⟨m1, m2, m3, m4⟩ := ok.kn
      refine dIte (p := m > 0) (fun hm => ?_) fun hm => absurd (show m > 0 by omega) hm
      refine aF ?_
      refine ⟨fun z => absurd z.2 (show ¬ HT.sIx 6 6 (some 4) = 6 by decide), ?_⟩
      refine ⟨py, rfl, ok.py, fun y' by' => ?_⟩
      refine ⟨List.cons_ne_nil _ _, show 4 + 1 ≤ 1000000 by decide, ?_⟩
      refine ⟨fun z => absurd z.1 (show ¬ HT.sIx 6 0 (some 5) = 0 by decide), ?_⟩
      refine ⟨List.cons_ne_nil _ _, show 5 + 1 ≤ 1000000 by decide, ?_⟩
      exact q ⟨nm, (.rail m p1 p2), ps, px, y', x, y⟩ _ ⟨⟨w.ok.1, w.ok.2.1, w.ok.2.2.1, w.ok.2.2.2.1, by', w.ok.2.2.2.2.2.1, w.ok.2.2.2.2.2.2.1, w.ok.2.2.2.2.2.2.2⟩, w.ny, w.st⟩ (by omega)
def a_l_word : ASp := fun ds n Q => ∃ (q : Rat) (k : Nat), ds = [sh q] ∧ BdQ k q ∧ k ≤ 1900 ∧ Q (.str (wtx q)) n
theorem ok_l_word (T : Tx K mg A) : FnOk P w K mg base CX0 1 A.f_l_word A.fd_l_word ["_law_one"] (spOf K 1 a_l_word) := by
  refine fn_mir [] 1 rfl (by decide) (by decide) T.F_l_word sc_l_word fun cdv Ar outer s H E hr => ?_
  refine ⟨_, _, (pss_cons (ps_if (pt_cmpR (k_eq (K := K) rfl hr.units) (pe_ix (k_ix (K := K) rfl) (pv 0) pe_int (fun _ _ => rfl)) pe_int (nomark _))
      (pss_one (ps_ret (pe_callTy k_str (by rfl) T.m_str (by decide +kernel) (pa_cons (pe_ix (k_ix (K := K) rfl) (pv 0) pe_int (fun _ _ => rfl)) pa_nil))))
      pss_nil)
    (pss_one (ps_ret (pe_op (k_add (K := K) rfl) (pe_op (k_add (K := K) rfl) (pe_callTy k_str (by rfl) T.m_str (by decide +kernel) (pa_cons (pe_ix (k_ix (K := K) rfl) (pv 0) pe_int (fun _ _ => rfl)) pa_nil)) pe_str) (pe_callTy k_str (by rfl) T.m_str (by decide +kernel) (pa_cons (pe_ix (k_ix (K := K) rfl) (pv 0) pe_int (fun _ _ => rfl)) pa_nil)))))), by infer_instance, fun ds n Q hl hA => ?_⟩
  obtain ⟨q, k, rfl, b, hk, Qk⟩ := hA
  have l1 := bd_log b.1 hk
  have l2 := bd_log b.2 hk
  have t1 := iT_len l1
  have t2 := iT_len l2
  have h3 := one_len
  refine dIte (fun e => ?_) fun e => ?_
  · refine ⟨l1, ?_⟩
    rw [show wtx q = iT q.num from if_pos e] at Qk
    exact Qk
  · rw [show wtx q = (iT q.num ++ Str.ofString "/") ++ iT (q.den : Int) from if_neg e] at Qk
    exact ⟨l1, by show (iT q.num).length + (Str.ofString "/").length ≤ _; omega, l2, by rw [str_app_len]; show (iT q.num).length + _ + (iT (q.den : Int)).length ≤ _; omega, Qk⟩
def a_l_line : ASp := fun ds n Q => ∃ b : Bw, ds = [b.d] ∧ b.ok ∧ Q (.str b.tx) n
theorem ok_l_line (T : Tx K mg A) : FnOk P w K mg base CX0 2 A.f_l_line A.fd_l_line ["_law_row_here"] (spOf K 1 a_l_line) := by
  refine fn_mir [] 5 rfl (by decide) (by decide) T.F_l_line sc_l_line fun cdv Ar outer s H E hr => ?_
  refine ⟨_, _, (pss_cons (ps_set (i := 1) sc_l_line.nd rfl (.inl rfl) (pe_lst (pa_cons (pe_call (ok_l_word (P := P) (K := K) T) (hr.mono (by decide)) (by rfl) T.g_l_word T.F_l_word.kp T.b_l_word .nil pass0 (pa_cons (pe_ix (k_ix (K := K) rfl) (pe_ix (k_ix (K := K) rfl) (pv 0) pe_int (fun _ _ => rfl)) pe_int (fun _ _ => rfl)) pa_nil)) (pa_cons (pe_call (ok_l_word (P := P) (K := K) T) (hr.mono (by decide)) (by rfl) T.g_l_word T.F_l_word.kp T.b_l_word .nil pass0 (pa_cons (pe_ix (k_ix (K := K) rfl) (pe_ix (k_ix (K := K) rfl) (pv 0) pe_int (fun _ _ => rfl)) pe_int (fun _ _ => rfl)) pa_nil)) pa_nil))))
    (pss_cons (ps_setLc (i := 2) (own := [("_law_x", 3), ("_law_y", 4)]) rfl sc_l_line.nd rfl rfl (sw_true rfl rfl rfl (by decide +kernel)) (k_iter (K := K) rfl (pe_ix (k_ix (K := K) rfl) (pv 0) pe_int (fun _ _ => rfl))) (blkOk_by (own := [("_law_x", 3), ("_law_y", 4)]) (N := ["_law_row_here", "_law_words", "_law_corners", "_law_x", "_law_y"]) (sc := defScope s_l_line) (by decide +kernel)) (fun _ _ _ _ _ => (k_gtup (K := K) (m := 2) rfl rfl (pgs_cons (pg_name (i := 3) sc_l_line.nd rfl (Or.inl rfl)) (pgs_cons (pg_name (i := 4) sc_l_line.nd rfl (Or.inl rfl)) pgs_nil)))) (fun _ _ _ _ _ => pts_nil) (fun _ _ _ _ _ => (pe_op (k_add (K := K) rfl) (pe_op (k_add (K := K) rfl) (pe_callTy k_str (by rfl) T.m_str (by decide +kernel) (pa_cons (pv 3) pa_nil)) pe_str) (pe_callTy k_str (by rfl) T.m_str (by decide +kernel) (pa_cons (pv 4) pa_nil)))))
    (pss_cons (ps_if (pt_cmpR (k_eq (K := K) rfl hr.units) (pe_ix (k_ix (K := K) rfl) (pv 0) pe_int (fun _ _ => rfl)) pe_int (nomark _))
      (pss_one (ps_ret (k_join (K := K) rfl pe_str (pe_op (k_add (K := K) rfl) (pe_op (k_add (K := K) rfl) (pe_lst (pa_cons pe_str (pa_cons (pe_ix (k_ix (K := K) rfl) (pv 0) pe_int (fun _ _ => rfl)) pa_nil))) (pv 1)) (pv 2)))))
      pss_nil)
    (pss_cons (ps_set (i := 1) sc_l_line.nd rfl (.inl rfl) (pe_op (k_add (K := K) rfl) (pe_op (k_add (K := K) rfl) (pv 1) (pe_lst (pa_cons (pe_call (ok_l_word (P := P) (K := K) T) (hr.mono (by decide)) (by rfl) T.g_l_word T.F_l_word.kp T.b_l_word .nil pass0 (pa_cons (pe_ix (k_ix (K := K) rfl) (pe_ix (k_ix (K := K) rfl) (pv 0) pe_int (fun _ _ => rfl)) pe_int (fun _ _ => rfl)) pa_nil)) (pa_cons (pe_call (ok_l_word (P := P) (K := K) T) (hr.mono (by decide)) (by rfl) T.g_l_word T.F_l_word.kp T.b_l_word .nil pass0 (pa_cons (pe_ix (k_ix (K := K) rfl) (pe_ix (k_ix (K := K) rfl) (pv 0) pe_int (fun _ _ => rfl)) pe_int (fun _ _ => rfl)) pa_nil)) pa_nil)))) (pv 2)))
    (pss_cons (ps_if (pt_cmpR k_isN (pe_ix (k_ix (K := K) rfl) (pv 0) pe_int (fun _ _ => rfl)) pe_non (nomark _))
      (pss_one (ps_ret (k_join (K := K) rfl pe_str (pe_op (k_add (K := K) rfl) (pe_lst (pa_cons pe_str (pa_cons (pe_ix (k_ix (K := K) rfl) (pv 0) pe_int (fun _ _ => rfl)) (pa_cons (pe_callTy k_str (by rfl) T.m_str (by decide +kernel) (pa_cons (pe_ix (k_ix (K := K) rfl) (pv 0) pe_int (fun _ _ => rfl)) pa_nil)) pa_nil)))) (pv 1)))))
      pss_nil)
    (pss_one (ps_ret (k_join (K := K) rfl pe_str (pe_op (k_add (K := K) rfl) (pe_lst (pa_cons pe_str (pa_cons (pe_ix (k_ix (K := K) rfl) (pv 0) pe_int (fun _ _ => rfl)) (pa_cons (pe_callTy k_str (by rfl) T.m_str (by decide +kernel) (pa_cons (pe_ix (k_ix (K := K) rfl) (pv 0) pe_int (fun _ _ => rfl)) pa_nil)) (pa_cons (pe_callTy k_str (by rfl) T.m_str (by decide +kernel) (pa_cons (pe_ix (k_ix (K := K) rfl) (pe_ix (k_ix (K := K) rfl) (pv 0) pe_int (fun _ _ => rfl)) pe_int (fun _ _ => rfl)) pa_nil)) (pa_cons (pe_callTy k_str (by rfl) T.m_str (by decide +kernel) (pa_cons (pe_ix (k_ix (K := K) rfl) (pe_ix (k_ix (K := K) rfl) (pv 0) pe_int (fun _ _ => rfl)) pe_int (fun _ _ => rfl)) pa_nil)) pa_nil)))))) (pv 1)))))))))), by infer_instance, fun ds n Q hl hA => ?_⟩
  obtain ⟨b, rfl, ok, q⟩ := hA
  have hf := ws_fit ok
  obtain ⟨nm, kn, ps, px, py, x, y⟩ := b
  obtain ⟨ok, hl, hp, b1, b2, b3, b4, hn⟩ := ok
  have hl' : ps.length ≤ 16 := hl
  refine ⟨px, 1500, rfl, b1, by decide, ⟨py, 1500, rfl, b2, by decide, ?_⟩⟩
  simp only [startA, eSetAll, eSet, List.cons_append, List.nil_append]
  refine ⟨by rw [List.length_map]; show ps.length ≤ 1000000; omega, ?_⟩
  refine aLc_ind (fun acc ds m => m = n ∧ ∃ (pre suf : List Pt), ps = pre ++ suf ∧ ds = suf.map pt ∧ acc = (pre.map cw).map D.str) ?_ ?_ ⟨rfl, [], ps, rfl, rfl, rfl⟩
  · rintro acc d r _ ⟨rfl, pre, suf, hs, e, rfl⟩ ih
    cases suf with
    | nil => cases e
    | cons p suf =>
    obtain ⟨rfl, rfl⟩ := List.cons.inj e
    have ok := hp p (by show p ∈ ps; rw [hs]; simp)
    have l1 := bd_log ok.1 (by decide)
    have l2 := bd_log ok.2 (by decide)
    have t1 := iT_len l1
    have t2 := iT_len l2
    have h3 := com_len
    refine aT ⟨l1, by show (iT p.1).length + (Str.ofString ",").length ≤ _; omega, l2, by rw [str_app_len]; show (iT p.1).length + _ + (iT p.2).length ≤ _; omega, ih _ _ ⟨rfl, pre ++ [p], suf, by rw [hs, List.append_assoc]; rfl, rfl, ?_⟩⟩
    rw [List.map_append, List.map_append]
    rfl
  rintro acc _ ⟨rfl, pre, suf, hs, e, rfl⟩
  cases suf with
  | cons p suf => cases e
  | nil =>
  rw [List.append_nil] at hs
  subst hs
  simp only [startA, eSetAll, eSet, List.cons_append, List.nil_append]
  have cl : ((ps.map cw).map D.str).length ≤ 16 := by rw [List.length_map, List.length_map]; exact hl'
  cases kn with
  | wall =>
    refine aT ?_
    refine ⟨show 2 + 2 ≤ 1000000 by decide, by show 4 + _ ≤ 1000000; omega, ?_⟩
    refine ⟨(Bw.mk nm .wall ps px py x y).ws, ?_, Nat.le_trans hf (by decide), q⟩
    show [D.str (Str.ofString "wall"), D.str nm] ++ [.str (wtx px), .str (wtx py)] ++ (ps.map cw).map D.str = ([Str.ofString "wall", nm] ++ [wtx px, wtx py] ++ ps.map cw).map D.str
    rw [List.map_append, List.map_append]
    rfl
  | free m =>
    have hm : m ≠ 0 := fun z => by have : 1 ≤ m := ok.1; omega
    refine dIte (p := m = 0) (fun e => absurd e hm) fun _ => ?_
    refine ⟨x, 1500, rfl, b3, by decide, ⟨y, 1500, rfl, b4, by decide, ?_⟩⟩
    refine ⟨show 2 + 2 ≤ 1000000 by decide, by show 4 + _ ≤ 1000000; omega, ?_⟩
    simp only [startA, eSetAll, eSet, List.cons_append, List.nil_append]
    refine aT ?_
    refine ⟨bd_log ok.2 (by decide), by show 3 + (((ps.map cw).map D.str).length + 4) ≤ 1000000; omega, ?_⟩
    refine ⟨(Bw.mk nm (.free m) ps px py x y).ws, ?_, Nat.le_trans hf (by decide), q⟩
    show [D.str (Str.ofString "free"), D.str nm, D.str (iT m)] ++ ([.str (wtx px), .str (wtx py)] ++ [.str (wtx x), .str (wtx y)] ++ (ps.map cw).map D.str) = ([Str.ofString "free", nm, iT m] ++ [wtx px, wtx py] ++ [wtx x, wtx y] ++ ps.map cw).map D.str
    rw [List.map_append, List.map_append, List.map_append]
    rfl
  | rail m p1 p2 =>
    have hm : m ≠ 0 := fun z => by have : 1 ≤ m := ok.1; omega
    refine dIte (p := m = 0) (fun e => absurd e hm) fun _ => ?_
    refine ⟨x, 1500, rfl, b3, by decide, ⟨y, 1500, rfl, b4, by decide, ?_⟩⟩
    refine ⟨show 2 + 2 ≤ 1000000 by decide, by show 4 + _ ≤ 1000000; omega, ?_⟩
    simp only [startA, eSetAll, eSet, List.cons_append, List.nil_append]
    refine aF ?_
    refine ⟨bd_log ok.2.1 (by decide), bd_log ok.2.2.1 (by decide), bd_log ok.2.2.2 (by decide), by show 5 + (((ps.map cw).map D.str).length + 4) ≤ 1000000; omega, ?_⟩
    refine ⟨(Bw.mk nm (.rail m p1 p2) ps px py x y).ws, ?_, Nat.le_trans hf (by decide), q⟩
    show [D.str (Str.ofString "rail"), D.str nm, D.str (iT m), D.str (iT p1), D.str (iT p2)] ++ ([.str (wtx px), .str (wtx py)] ++ [.str (wtx x), .str (wtx y)] ++ (ps.map cw).map D.str) = ([Str.ofString "rail", nm, iT m, iT p1, iT p2] ++ [wtx px, wtx py] ++ [wtx x, wtx y] ++ ps.map cw).map D.str
    rw [List.map_append, List.map_append, List.map_append]
    rfl
def a_l_made (A : Ad) : ASp := fun ds n Q => ∃ b : Bw, ds = [b.d] ∧ b.ok ∧ Q (bodyD A b) n
theorem ok_l_made (T : Tx K mg A) : FnOk P w K mg base CX0 3 A.f_l_made A.fd_l_made ["_law_row_here"] (spOf K 1 (a_l_made A)) := by
  refine fn_mir [] 1 rfl (by decide) (by decide) T.F_l_made sc_l_made fun cdv Ar outer s H E hr => ?_
  refine ⟨_, _, (pss_cons (ps_if (pt_cmpR (k_eq (K := K) rfl hr.units) (pe_ix (k_ix (K := K) rfl) (pv 0) pe_int (fun _ _ => rfl)) pe_int (nomark _))
      (pss_one (ps_ret (pe_make T.mk_Wall (ok_m_Body___init__ (K := K) T) (hr.mono (by decide)) (by rfl) T.g_Wall T.b_m_Body___init__ .nil pass0 (pa_cons (pv 0) pa_nil))))
      pss_nil)
    (pss_cons (ps_if (pt_cmpR k_isN (pe_ix (k_ix (K := K) rfl) (pv 0) pe_int (fun _ _ => rfl)) pe_non (nomark _))
      (pss_one (ps_ret (pe_make T.mk_Free (ok_m_Body___init__ (K := K) T) (hr.mono (by decide)) (by rfl) T.g_Free T.b_m_Body___init__ .nil pass0 (pa_cons (pv 0) pa_nil))))
      pss_nil)
    (pss_one (ps_ret (pe_make T.mk_Railed (ok_m_Body___init__ (K := K) T) (hr.mono (by decide)) (by rfl) T.g_Railed T.b_m_Body___init__ .nil pass0 (pa_cons (pv 0) pa_nil)))))), by infer_instance, fun ds n Q hl hA => ?_⟩
  obtain ⟨b, rfl, ok, q⟩ := hA
  obtain ⟨nm, kn, ps, px, py, x, y⟩ := b
  cases kn with
  | wall => exact aT ⟨init_Wall T, q⟩
  | free m =>
    have hm : m ≠ 0 := fun z => by have : 1 ≤ m := ok.1.1; omega
    refine dIte (fun e => absurd e hm) (fun _ => ?_)
    exact aT ⟨init_Free T, q⟩
  | rail m p1 p2 =>
    have hm : m ≠ 0 := fun z => by have : 1 ≤ m := ok.1.1; omega
    refine dIte (fun e => absurd e hm) (fun _ => ?_)
    exact aF ⟨init_Railed T, q⟩
theorem nIte {p : Prop} [Decidable p] {a b : Prop} (h : ¬ p → a) (g : p → b) : aIte (not (decide p)) a b := by
  by_cases e : p
  · rw [decide_eq_true e]
    exact aF (g e)
  · rw [decide_eq_false e]
    exact aT (h e)
theorem body_ins (A : Ad) (b : Bw) : insD [A.c_Wall, A.c_Free, A.c_Railed] (bodyD A b) := ⟨b.kn.kd.cls A, bNs, _, rfl, by cases b.kn <;> simp [Kn.kd, Kd.cls]⟩
def a_l_is_one (A : Ad) : ASp := fun ds n Q => ∃ b : Bw, ds = [bodyD A b, b.d] ∧ OkW b ∧ Q (.bl true) n
theorem ok_l_is_one (T : Tx K mg A) : FnOk P w K mg base CX0 8 A.f_l_is_one A.fd_l_is_one ["_law_body", "_law_row_here"] (spOf K 2 (a_l_is_one A)) := by
  refine fn_mir [] 4 rfl (by decide) (by decide) T.F_l_is_one sc_l_is_one fun cdv Ar outer s H E hr => ?_
  refine ⟨_, _, (pss_cons (ps_set (i := 2) sc_l_is_one.nd rfl (.inl rfl) (pe_callTy (k_strD (K := K) (cls := Kd.cls A) (B := a_str A) (call_strOwn T.mt_m_Wall___str__ (ok_m_Wall___str__ (K := K) T) (hr.mono (by decide)) T.b_m_Wall___str__ pass0) (call_strOwn T.mt_m_Free___str__ (ok_m_Free___str__ (K := K) T) (hr.mono (by decide)) T.b_m_Free___str__ pass0) (call_strOwn T.mt_m_Railed___str__ (ok_m_Railed___str__ (K := K) T) (hr.mono (by decide)) T.b_m_Railed___str__ pass0)) (by rfl) T.m_str (by decide +kernel) (pa_cons (pv 0) pa_nil)))
    (pss_cons (ps_if (PW.pt (pw_or (pt_not (pt_val (pe_callB (k_isi (K := K) rfl) (by rfl) T.m_isinstance (by decide +kernel) (pa_cons (pv 0) (pa_cons (k_cls (by rfl) T.g_Body) pa_nil))))) (pw_or (pt_not (pt_val (pe_callB (k_isi (K := K) rfl) (by rfl) T.m_isinstance (by decide +kernel) (pa_cons (pv 2) (pa_cons (k_ty (t := .str) (by rfl) T.m_str (by decide +kernel)) pa_nil))))) (pw_or1 (pt_cmpR (k_ne (K := K) rfl hr.units) (pv 2) (pe_call (ok_l_line (P := P) (K := K) T) (hr.mono (by decide)) (by rfl) T.g_l_line T.F_l_line.kp T.b_l_line .nil pass0 (pa_cons (pv 1) pa_nil)) (nomark _))))))
      (pss_one (ps_ret pe_bl))
      pss_nil)
    (pss_cons (ps_set (i := 3) sc_l_is_one.nd rfl (.inl rfl) (pe_lst (pa_cons (pe_callB (k_isi (K := K) rfl) (by rfl) T.m_isinstance (by decide +kernel) (pa_cons (pv 0) (pa_cons (k_cls (by rfl) T.g_Wall) pa_nil))) (pa_cons (pe_callB (k_isi (K := K) rfl) (by rfl) T.m_isinstance (by decide +kernel) (pa_cons (pv 0) (pa_cons (k_cls (by rfl) T.g_Free) pa_nil))) (pa_cons (pe_callB (k_isi (K := K) rfl) (by rfl) T.m_isinstance (by decide +kernel) (pa_cons (pv 0) (pa_cons (k_cls (by rfl) T.g_Railed) pa_nil))) pa_nil)))))
    (pss_cons (ps_if (pt_cmpR (k_ne (K := K) rfl hr.units) (pv 3) (pe_lst (pa_cons (pe_cmpR (k_eq (K := K) rfl hr.units) (pe_ix (k_ix (K := K) rfl) (pv 1) pe_int (fun _ _ => rfl)) pe_int (nomark _)) (pa_cons (pe_and (pe_cmpR op_gt (pe_ix (k_ix (K := K) rfl) (pv 1) pe_int (fun _ _ => rfl)) pe_int (nomark _)) (pe_one (pe_cmpR k_isN (pe_ix (k_ix (K := K) rfl) (pv 1) pe_int (fun _ _ => rfl)) pe_non (nomark _)))) (pa_cons (pe_cmpR k_notN (pe_ix (k_ix (K := K) rfl) (pv 1) pe_int (fun _ _ => rfl)) pe_non (nomark _)) pa_nil)))) (nomark _))
      (pss_one (ps_ret pe_bl))
      pss_nil)
    (pss_one (ps_ret (pe_and (pe_cmpR (k_eq (K := K) rfl hr.units) (k_fld (K := K) rfl (pv 0) rfl) (pe_ix (k_ix (K := K) rfl) (pv 1) pe_int (fun _ _ => rfl)) (nomark _)) (pe_and (pe_cmpR (k_eq (K := K) rfl hr.units) (k_fld (K := K) rfl (pv 0) rfl) (pe_ix (k_ix (K := K) rfl) (pv 1) pe_int (fun _ _ => rfl)) (nomark _)) (pe_one (pe_cmpR (k_eq (K := K) rfl hr.units) (k_fld (K := K) rfl (pv 0) rfl) (pv 1) (nomark _))))))))))), by infer_instance, fun ds n Q hl hA => ?_⟩
  obtain ⟨b, rfl, ok, q⟩ := hA
  have lay := ok.lay
  have hq : Q (.bl (PyData.eqv b.d.pd b.d.pd)) n := by
    rw [SeqAt.eqv_refl _ (SeqAt.canLay_of_shaped lay.2)]
    exact q
  refine ⟨b.kn.kd, bNs, _, rfl, b, rfl, ok.ok, rfl, ⟨b.tx, rfl⟩, ?_⟩
  simp only [startA, eSetAll, eSet, List.cons_append, List.nil_append]
  obtain ⟨i1, t, i2, rfl⟩ := isi_body T b.kn.kd
  refine ⟨i1, true, i2, aF ?_⟩
  refine aF ?_
  refine ⟨b, rfl, ok.ok, nIte (fun h => absurd rfl h) fun _ => ?_⟩
  obtain ⟨nm, kn, ps, px, py, x, y⟩ := b
  have w := ok.ok
  cases kn with
  | wall =>
    refine ⟨i1, true, T.i_Wall_Wall, i1, false, T.i_Wall_Free, i1, false, T.i_Wall_Railed, ?_⟩
    refine aF ?_
    refine ⟨⟨rfl, rfl, rfl, rfl⟩, aF ?_⟩
    simp only [startA, eSetAll, eSet, List.cons_append, List.nil_append]
    refine ⟨⟨T.cl_Wall, T.na_Wall_name⟩, _, look_name, dIte (fun _ => ?_) fun h => absurd rfl h⟩
    refine ⟨⟨T.cl_Wall, T.na_Wall_mass⟩, _, look_mass, dIte (fun _ => ?_) fun h => absurd rfl h⟩
    refine ⟨⟨T.cl_Wall, T.na_Wall_row⟩, _, look_row, ?_⟩
    exact ⟨⟨lay.1, lay.1, lay.2, lay.2⟩, hq⟩
  | free m =>
    have hm : 1 ≤ m := w.1.1
    refine ⟨i1, false, T.i_Free_Wall, i1, true, T.i_Free_Free, i1, false, T.i_Free_Railed, ?_⟩
    refine dIte (p := m > 0) (fun _ => ?_) fun h => absurd (show m > 0 by omega) h
    refine ⟨⟨rfl, rfl, rfl, rfl⟩, ?_⟩
    refine (show aIte (!PyData.eqv (D.lst [.bl false, .bl true, .bl false]).pd (D.lst [.bl (decide (m = 0)), .bl true, .bl false]).pd) _ _ from ?_)
    rw [decide_eq_false (show ¬ m = 0 by omega)]
    refine aF ?_
    simp only [startA, eSetAll, eSet, List.cons_append, List.nil_append]
    refine ⟨⟨T.cl_Free, T.na_Free_name⟩, _, look_name, dIte (fun _ => ?_) fun h => absurd rfl h⟩
    refine ⟨⟨T.cl_Free, T.na_Free_mass⟩, _, look_mass, dIte (fun _ => ?_) fun h => absurd rfl h⟩
    refine ⟨⟨T.cl_Free, T.na_Free_row⟩, _, look_row, ?_⟩
    exact ⟨⟨lay.1, lay.1, lay.2, lay.2⟩, hq⟩
  | rail m p1 p2 =>
    have hm : 1 ≤ m := w.1.1
    refine ⟨i1, false, T.i_Railed_Wall, i1, false, T.i_Railed_Free, i1, true, T.i_Railed_Railed, ?_⟩
    refine dIte (p := m > 0) (fun _ => ?_) fun h => absurd (show m > 0 by omega) h
    refine ⟨⟨rfl, rfl, rfl, rfl⟩, ?_⟩
    refine (show aIte (!PyData.eqv (D.lst [.bl false, .bl false, .bl true]).pd (D.lst [.bl (decide (m = 0)), .bl false, .bl true]).pd) _ _ from ?_)
    rw [decide_eq_false (show ¬ m = 0 by omega)]
    refine aF ?_
    simp only [startA, eSetAll, eSet, List.cons_append, List.nil_append]
    refine ⟨⟨T.cl_Railed, T.na_Railed_name⟩, _, look_name, dIte (fun _ => ?_) fun h => absurd rfl h⟩
    refine ⟨⟨T.cl_Railed, T.na_Railed_mass⟩, _, look_mass, dIte (fun _ => ?_) fun h => absurd rfl h⟩
    refine ⟨⟨T.cl_Railed, T.na_Railed_row⟩, _, look_row, ?_⟩
    exact ⟨⟨lay.1, lay.1, lay.2, lay.2⟩, hq⟩
def a_l_nothing_else (A : Ad) : ASp := fun ds n Q => ∃ b : Bw, ds = [bodyD A b, b.d] ∧ OkW b ∧ Q (.bl true) n
theorem ok_l_nothing_else (T : Tx K mg A) : FnOk P w K mg base CX0 8 A.f_l_nothing_else A.fd_l_nothing_else ["_law_body", "_law_row_here"] (spOf K 2 (a_l_nothing_else A)) := by
  refine fn_mir [] 3 rfl (by decide) (by decide) T.F_l_nothing_else sc_l_nothing_else fun cdv Ar outer s H E hr => ?_
  refine ⟨_, _, (pss_cons (ps_for PassesOwn.never rfl (k_iter (K := K) rfl (pe_lst (pa_cons (pv 1) (pa_cons (pe_call (ok_l_line (P := P) (K := K) T) (hr.mono (by decide)) (by rfl) T.g_l_line T.F_l_line.kp T.b_l_line .nil pass0 (pa_cons (pv 1) pa_nil)) (pa_cons (pe_ix (k_ix (K := K) rfl) (pv 1) pe_int (fun _ _ => rfl)) (pa_cons pe_non (pa_cons pe_int (pa_cons pe_bl (pa_cons (pe_lst (pa_cons (pv 1) pa_nil)) (pa_cons (pe_tup pa_nil) pa_nil)))))))))) (pg_name (i := 2) sc_l_nothing_else.nd rfl (.inl rfl))
      (pss_one (ps_if (PW.pt (pw_or (pt_cmpR (k_eqO (K := K) rfl (ok_m_Body___eq__ (P := P) (K := K) T) T.b_m_Body___eq__ (hr.mono (by decide)) (own_s T)) (pv 0) (pv 2) (nomark _)) (pw_or1 (pt_cmpR (k_bkO (K := K) rfl (ok_m_Body___eq__ (P := P) (K := K) T) T.b_m_Body___eq__ (hr.mono (by decide)) (own_s T)) (pv 2) (pv 0) (nomark _)))))
      (pss_one (ps_ret pe_bl))
      pss_nil)))
    (pss_one (ps_ret pe_bl))), by infer_instance, fun ds n Q hl hA => ?_⟩
  obtain ⟨b, rfl, ok, q⟩ := hA
  refine ⟨b, rfl, ok.ok, ?_⟩
  refine aFor_ind (fun ds ρ m => m = n ∧ (∀ d ∈ ds, plD d = true) ∧ ∃ y2, ρ = [some (bodyD A b), some b.d, y2]) ?_ ?_ ⟨rfl, fun d hd => ?_, _, rfl⟩
  · rintro d r _ m ⟨rfl, hp, y2, rfl⟩ ih
    have hd := hp d List.mem_cons_self
    refine ⟨body_ins A b, .inl hd, b, d, rfl, ok.lay, .inr ⟨hd, false, rfl, ?_⟩⟩
    refine aF ?_
    refine ⟨hd, body_ins A b, b, d, rfl, ok.lay, .inr ⟨hd, false, rfl, ?_⟩⟩
    exact aF (ih _ _ ⟨rfl, fun z hz => hp z (List.mem_cons_of_mem _ hz), _, rfl⟩)
  · rintro _ m ⟨rfl, _, y2, rfl⟩
    exact q
  · have : d = b.d ∨ d = .str b.tx ∨ d = .str b.nm ∨ d = .non ∨ d = .int 0 ∨ d = .bl true ∨ d = .lst [b.d] ∨ d = .tup [] := by simpa [Bw.rw] using hd
    rcases this with rfl | rfl | rfl | rfl | rfl | rfl | rfl | rfl <;> rfl
theorem room65 {k : Nat} {A : Around} (r : Room k A) : A.units + 65 < cLine := by
  have := r.un
  omega
theorem ok_law (T : Tx K mg A) : FnOk P w K mg base CX0 12 A.f_law A.fd_law ["_law_script"] (sp_law K) := by
  refine law_mir [] 12 1 rfl (by decide) (by decide) T.F_law sc_law fun cdv Ar outer s H E hr => ?_
  refine ⟨_, _, (pss_cons (ps_set (i := 1) sc_law.nd rfl (.inl rfl) (pe_call (ok_l_deck (P := P) (K := K) T) (hr.mono (by decide)) (by rfl) T.g_l_deck T.F_l_deck.kp T.b_l_deck .nil pass0 (pa_cons (pv 0) pa_nil)))
    (pss_cons (ps_set (i := 2) sc_law.nd rfl (.inl rfl) (pe_call (ok_l_take (P := P) (K := K) T) (hr.mono (by decide)) (by rfl) T.g_l_take T.F_l_take.kp T.b_l_take .nil pass0 (pa_cons (pv 1) (pa_cons pe_int pa_nil))))
    (pss_cons (ps_set (i := 3) sc_law.nd rfl (.inl rfl) (pe_call (ok_l_take (P := P) (K := K) T) (hr.mono (by decide)) (by rfl) T.g_l_take T.F_l_take.kp T.b_l_take .nil pass0 (pa_cons (pv 1) (pa_cons pe_int pa_nil))))
    (pss_cons (ps_set (i := 4) sc_law.nd rfl (.inl rfl) (pe_call (ok_l_row (P := P) (K := K) T) (hr.mono (by decide)) (by rfl) T.g_l_row T.F_l_row.kp T.b_l_row .nil pass0 (pa_cons (pv 1) (pa_cons (pv 2) pa_nil))))
    (pss_cons (ps_set (i := 5) sc_law.nd rfl (.inl rfl) (pe_call (ok_l_row (P := P) (K := K) T) (hr.mono (by decide)) (by rfl) T.g_l_row T.F_l_row.kp T.b_l_row .nil pass0 (pa_cons (pv 1) (pa_cons (pe_op op_mod (pe_op (k_add (K := K) rfl) (pe_op (k_add (K := K) rfl) (pv 2) pe_int) (pe_call (ok_l_take (P := P) (K := K) T) (hr.mono (by decide)) (by rfl) T.g_l_take T.F_l_take.kp T.b_l_take .nil pass0 (pa_cons (pv 1) (pa_cons pe_int pa_nil)))) pe_int) pa_nil))))
    (pss_cons (ps_set (i := 6) sc_law.nd rfl (.inl rfl) (pv 4))
    (pss_cons (ps_if (pt_cmpR op_gt (pv 3) pe_int (nomark _))
      (pss_one (ps_set (i := 6) sc_law.nd rfl (.inl rfl) (pe_call (ok_l_other (P := P) (K := K) T) (hr.mono (by decide)) (by rfl) T.g_l_other T.F_l_other.kp T.b_l_other .nil pass0 (pa_cons (pv 1) (pa_cons (pv 4) pa_nil)))))
      pss_nil)
    (pss_cons (ps_set (i := 7) sc_law.nd rfl (.inl rfl) (pe_lst (pa_cons (pe_call (ok_p_body_of (P := P) (K := K) T) (hr.mono (by decide)) (by rfl) T.g_p_body_of T.F_p_body_of.kp T.b_p_body_of .nil pass0 (pa_cons (pv 4) pa_nil)) (pa_cons (pe_call (ok_l_made (P := P) (K := K) T) (hr.mono (by decide)) (by rfl) T.g_l_made T.F_l_made.kp T.b_l_made .nil pass0 (pa_cons (pv 6) pa_nil)) (pa_cons (pe_call (ok_p_body_of (P := P) (K := K) T) (hr.mono (by decide)) (by rfl) T.g_p_body_of T.F_p_body_of.kp T.b_p_body_of .nil pass0 (pa_cons (pv 5) pa_nil)) (pa_cons (pe_call (ok_l_made (P := P) (K := K) T) (hr.mono (by decide)) (by rfl) T.g_l_made T.F_l_made.kp T.b_l_made .nil pass0 (pa_cons (pv 5) pa_nil)) (pa_cons (pe_call (ok_l_made (P := P) (K := K) T) (hr.mono (by decide)) (by rfl) T.g_l_made T.F_l_made.kp T.b_l_made .nil pass0 (pa_cons (pv 4) pa_nil)) (pa_cons (pe_call (ok_p_body_of (P := P) (K := K) T) (hr.mono (by decide)) (by rfl) T.g_p_body_of T.F_p_body_of.kp T.b_p_body_of .nil pass0 (pa_cons (pv 6) pa_nil)) pa_nil))))))))
    (pss_cons (ps_set (i := 8) sc_law.nd rfl (.inl rfl) (pe_lst (pa_cons (pv 4) (pa_cons (pv 6) (pa_cons (pv 5) (pa_cons (pv 5) (pa_cons (pv 4) (pa_cons (pv 6) pa_nil))))))))
    (pss_cons (ps_for PassesOwn.never rfl (pi_range1 (by rfl) T.m_range (pa_cons pe_int pa_nil)) (pg_name (i := 9) sc_law.nd rfl (.inl rfl))
      (pss_one (ps_for PassesOwn.never rfl (pi_range1 (by rfl) T.m_range (pa_cons pe_int pa_nil)) (pg_name (i := 10) sc_law.nd rfl (.inl rfl))
      (pss_cons (ps_set (i := 11) sc_law.nd rfl (.inl rfl) (pe_cmpR (k_eqO (K := K) rfl (ok_m_Body___eq__ (P := P) (K := K) T) T.b_m_Body___eq__ (hr.mono (by decide)) (own_s T)) (pe_ix (k_ixS (K := K) rfl) (pv 7) (pv 9) (fun _ _ => rfl)) (pe_ix (k_ixS (K := K) rfl) (pv 7) (pv 10) (fun _ _ => rfl)) (nomark _)))
    (pss_cons (ps_if (PW.pt (pw_or (pt_not (pt_val (pe_callB (k_isi (K := K) rfl) (by rfl) T.m_isinstance (by decide +kernel) (pa_cons (pv 11) (pa_cons (k_ty (t := .bl) (by rfl) T.m_bool (by decide +kernel)) pa_nil))))) (pw_or1 (pt_cmpR (k_ne (K := K) rfl hr.units) (pv 11) (pe_cmpR (k_eq (K := K) rfl hr.units) (pe_ix (k_ixS (K := K) rfl) (pv 8) (pv 9) (fun _ _ => rfl)) (pe_ix (k_ixS (K := K) rfl) (pv 8) (pv 10) (fun _ _ => rfl)) (nomark _)) (nomark _)))))
      (pss_one (ps_ret pe_bl))
      pss_nil)
    (pss_one (ps_if (pt_cmpR (k_eq (K := K) rfl hr.units) (pe_cmpR (k_neO (K := K) rfl (ok_m_Body___eq__ (P := P) (K := K) T) T.b_m_Body___eq__ (hr.mono (by decide)) (own_s T)) (pe_ix (k_ixS (K := K) rfl) (pv 7) (pv 9) (fun _ _ => rfl)) (pe_ix (k_ixS (K := K) rfl) (pv 7) (pv 10) (fun _ _ => rfl)) (nomark _)) (pv 11) (nomark _))
      (pss_one (ps_ret pe_bl))
      pss_nil)))))))
    (pss_cons (ps_if (PW.pt (pw_or (pt_cmpR (k_ne (K := K) rfl hr.units) (pe_cmpR (k_inO (K := K) rfl (ok_m_Body___eq__ (P := P) (K := K) T) T.b_m_Body___eq__ (hr.mono (by decide)) (own_s T)) (pe_ix (k_ix (K := K) rfl) (pv 7) pe_int (fun _ _ => rfl)) (pe_lst (pa_cons (pe_ix (k_ix (K := K) rfl) (pv 7) pe_int (fun _ _ => rfl)) (pa_cons (pe_ix (k_ix (K := K) rfl) (pv 7) pe_int (fun _ _ => rfl)) pa_nil))) (by rfl)) (pe_cmpR (k_inD (K := K) rfl (room65 hr)) (pv 6) (pe_lst (pa_cons (pv 5) (pa_cons (pv 4) pa_nil))) (by rfl)) (nomark _)) (pw_or1 (pt_cmpR (k_notInO (K := K) rfl (ok_m_Body___eq__ (P := P) (K := K) T) T.b_m_Body___eq__ (hr.mono (by decide)) (own_s T)) (pe_ix (k_ix (K := K) rfl) (pv 7) pe_int (fun _ _ => rfl)) (pe_lst (pa_cons (pe_ix (k_ix (K := K) rfl) (pv 7) pe_int (fun _ _ => rfl)) pa_nil)) (by rfl)))))
      (pss_one (ps_ret pe_bl))
      pss_nil)
    (pss_cons (ps_for PassesOwn.never rfl (pi_range1 (by rfl) T.m_range (pa_cons pe_int pa_nil)) (pg_name (i := 9) sc_law.nd rfl (.inl rfl))
      (pss_one (ps_if (PW.pt (pw_or (pt_not (pt_val (pe_call (ok_l_is_one (P := P) (K := K) T) (hr.mono (by decide)) (by rfl) T.g_l_is_one T.F_l_is_one.kp T.b_l_is_one .nil pass0 (pa_cons (pe_ix (k_ixS (K := K) rfl) (pv 7) (pv 9) (fun _ _ => rfl)) (pa_cons (pe_ix (k_ixS (K := K) rfl) (pv 8) (pv 9) (fun _ _ => rfl)) pa_nil))))) (pw_or1 (pt_not (pt_val (pe_call (ok_l_nothing_else (P := P) (K := K) T) (hr.mono (by decide)) (by rfl) T.g_l_nothing_else T.F_l_nothing_else.kp T.b_l_nothing_else .nil pass0 (pa_cons (pe_ix (k_ixS (K := K) rfl) (pv 7) (pv 9) (fun _ _ => rfl)) (pa_cons (pe_ix (k_ixS (K := K) rfl) (pv 8) (pv 9) (fun _ _ => rfl)) pa_nil))))))))
      (pss_one (ps_ret pe_bl))
      pss_nil)))
    (pss_one (ps_ret pe_bl)))))))))))))), by infer_instance, ?_⟩
  refine ⟨3, rfl, by decide, by decide, by decide, fun kd lk uk => ?_⟩
  refine ⟨4, rfl, by decide, by decide, by decide, fun ow lo uo => ?_⟩
  refine ⟨kd, rfl, by decide, lk, uk, fun b0 n1 ok0 h1 => ?_⟩
  simp only [startA, eSetAll, eSet, List.cons_append, List.nil_append]
  refine ⟨2, rfl, by decide, by decide, by omega, fun t lt ut => ?_⟩
  refine ⟨(show (0 : Int) < 3 by decide), (kd + 1 + t) % 3, rfl, by omega, Int.emod_nonneg _ (by decide), Int.emod_lt_of_pos _ (by decide), fun b2 n2 ok2 h2 => ?_⟩
  simp only [startA, eSetAll, eSet, List.cons_append, List.nil_append]
  have w0 := ok0.wd
  have w2 := ok2.wd
  refine dIte (p := ow > 0) (fun _ => ?_) fun _ => ?_
  · refine ⟨b0, rfl, ok0, by omega, fun b1 n3 w1 h3 => ?_⟩
    simp only [startA, eSetAll, eSet, List.cons_append, List.nil_append]
    refine ⟨b0, rfl, w0.ok, b1, rfl, w1.ok, b2, rfl, w2.ok, b2, rfl, w2.ok, b0, rfl, w0.ok, b1, rfl, w1.ok, ?_⟩
    simp only [startA, eSetAll, eSet, List.cons_append, List.nil_append]
    obtain ⟨BL, hBL, hOK⟩ : ∃ BL : List Bw, BL = [b0, b1, b2, b2, b0, b1] ∧ ∀ b ∈ BL, OkW b := ⟨_, rfl, by
      intro b hb
      have : b = b0 ∨ b = b1 ∨ b = b2 ∨ b = b2 ∨ b = b0 ∨ b = b1 := by simpa using hb
      rcases this with rfl | rfl | rfl | rfl | rfl | rfl
      · exact w0
      · exact w1
      · exact w2
      · exact w2
      · exact w0
      · exact w1⟩
    have len6 : BL.length = 6 := by rw [hBL]; rfl
    have at7 : ∀ k : Nat, k < 6 → ∃ b, b ∈ BL ∧ atI (BL.map (bodyD A)) (k : Int) = some (bodyD A b) ∧ atI (BL.map Bw.d) (k : Int) = some b.d := fun k hk => ⟨BL[k], List.getElem_mem (by omega), atI_nat (by rw [List.getElem?_map, List.getElem?_eq_getElem (by omega)]; rfl), atI_nat (by rw [List.getElem?_map, List.getElem?_eq_getElem (by omega)]; rfl)⟩
    have rg : ∀ d ∈ rangeD 0 6, ∃ k : Nat, d = .int (k : Int) ∧ k < 6 := fun d hd => by
      have : d = .int 0 ∨ d = .int 1 ∨ d = .int 2 ∨ d = .int 3 ∨ d = .int 4 ∨ d = .int 5 := by simpa [rangeD] using hd
      rcases this with rfl | rfl | rfl | rfl | rfl | rfl
      · exact ⟨0, rfl, by decide⟩
      · exact ⟨1, rfl, by decide⟩
      · exact ⟨2, rfl, by decide⟩
      · exact ⟨3, rfl, by decide⟩
      · exact ⟨4, rfl, by decide⟩
      · exact ⟨5, rfl, by decide⟩
    refine ⟨⟨by decide, by decide⟩, ?_⟩
    simp only [startA, eSetAll, eSet, List.cons_append, List.nil_append]
    refine aFor_ind (fun ds ρ m => m = n3 ∧ (∀ d ∈ ds, ∃ k : Nat, d = .int (k : Int) ∧ k < 6) ∧ ∃ y0 y9 y10 y11 : Option D, ρ = [y0, some .deck, some (.int kd), some (.int ow), some b0.d, some b2.d, some b1.d, some (.lst (BL.map (bodyD A))), some (.lst (BL.map Bw.d)), y9, y10, y11]) ?_ ?_ ⟨rfl, rg, _, _, _, _, by rw [hBL]; rfl⟩
    · rintro d r _ m ⟨rfl, hp, y0, y9, y10, y11, rfl⟩ ih
      obtain ⟨k, rfl, hk⟩ := hp _ List.mem_cons_self
      obtain ⟨bk, mk, ak1, ak2⟩ := at7 k hk
      have wk := hOK bk mk
      refine ⟨⟨by decide, by decide⟩, ?_⟩
      simp only [startA, eSetAll, eSet, List.cons_append, List.nil_append]
      refine aFor_ind (fun ds ρ m' => m' = m ∧ (∀ d ∈ ds, ∃ k : Nat, d = .int (k : Int) ∧ k < 6) ∧ ∃ y0 y10 y11 : Option D, ρ = [y0, some .deck, some (.int kd), some (.int ow), some b0.d, some b2.d, some b1.d, some (.lst (BL.map (bodyD A))), some (.lst (BL.map Bw.d)), some (.int (k : Int)), y10, y11]) ?_ ?_ ⟨rfl, rg, _, _, _, rfl⟩
      · rintro d r _ m' ⟨rfl, hp', z0, z10, z11, rfl⟩ ih'
        obtain ⟨j, rfl, hj⟩ := hp' _ List.mem_cons_self
        obtain ⟨bj, mj, aj1, aj2⟩ := at7 j hj
        have wj := hOK bj mj
        refine aIx_lst ak1 (aIx_lst aj1 ?_)
        refine ⟨body_ins A bk, .inr (body_ins A bj), bk, bodyD A bj, rfl, wk.lay, .inl ⟨bj, rfl, wj.lay, _, rfl, ?_⟩⟩
        simp only [startA, eSetAll, eSet, List.cons_append, List.nil_append]
        refine aF ?_
        refine aIx_lst ak2 (aIx_lst aj2 ⟨⟨wk.lay.1, wj.lay.1, wk.lay.2, wj.lay.2⟩, ?_⟩)
        refine (show aIte (!(PyData.eqv bk.d.pd bj.d.pd == PyData.eqv bk.d.pd bj.d.pd)) _ _ from ?_)
        rw [beq_self_eq_true]
        refine aF ?_
        refine aIx_lst ak1 (aIx_lst aj1 ?_)
        refine ⟨body_ins A bk, .inr (body_ins A bj), bk, bodyD A bj, rfl, wk.lay, .inl ⟨bj, rfl, wj.lay, _, rfl, ?_⟩⟩
        refine (show aIte ((!PyData.eqv bk.d.pd bj.d.pd) == PyData.eqv bk.d.pd bj.d.pd) _ _ from ?_)
        have ne : ((!PyData.eqv bk.d.pd bj.d.pd) == PyData.eqv bk.d.pd bj.d.pd) = false := by cases PyData.eqv bk.d.pd bj.d.pd <;> rfl
        rw [ne]
        exact aF (ih' _ _ ⟨rfl, fun z hz => hp' z (List.mem_cons_of_mem _ hz), _, _, _, rfl⟩)
      · rintro _ m' ⟨rfl, _, z0, z10, z11, rfl⟩
        exact ih _ _ ⟨rfl, fun z hz => hp z (List.mem_cons_of_mem _ hz), _, _, _, _, rfl⟩
    · rintro _ m ⟨rfl, _, y0, y9, y10, y11, rfl⟩
      have ps : PlD [b2.d, b0.d] b1.d := by
        have dl : Dy 5 (.lst [b2.d, b0.d]) := Dy.lst fun d hd => by
          have : d = b2.d ∨ d = b0.d := by simpa using hd
          rcases this with rfl | rfl
          · exact w2.dy
          · exact w0.dy
        exact ⟨w1.lay.1, dl.isd, w1.lay.2, dl.shaped (by decide)⟩
      have row : ∀ b : Bw, OkW b → rowD [A.c_Wall, A.c_Free, A.c_Railed] (bodyD A b) b.d := fun b w => ⟨b.kn.kd.cls A, _, _, _, rfl, by cases b.kn <;> simp [Kn.kd, Kd.cls], w.lay.1, SeqAt.canLay_of_shaped w.lay.2⟩
      have refl : PyData.eqv b2.d.pd b2.d.pd = true := SeqAt.eqv_refl _ (SeqAt.canLay_of_shaped w2.lay.2)
      have anyE : anyD [b2.d, b0.d] b1.d = (PyData.eqv b2.d.pd b1.d.pd || (PyData.eqv b0.d.pd b1.d.pd || false)) := rfl
      have same : ∀ r : D, r.pd = b1.d.pd → PyData.eqv r.pd b1.d.pd = true := fun r e => by
        rw [e]
        exact SeqAt.eqv_refl _ (SeqAt.canLay_of_shaped w1.lay.2)
      rw [hBL]
      refine ⟨b1.d, [bodyD A b2, bodyD A b0], row b1 w1, rfl, b2.d, row b2 w2, fun e => ?_, b2, bodyD A b1, rfl, w2.lay, .inl ⟨b1, rfl, w1.lay, _, rfl, fun hb => ?_, fun hb => ⟨b0.d, row b0 w0, fun e => ?_, b0, bodyD A b1, rfl, w0.lay, .inl ⟨b1, rfl, w1.lay, _, rfl, fun hb2 => ?_, fun hb2 => ?_⟩⟩⟩⟩
      · have av : anyD [b2.d, b0.d] b1.d = true := by rw [anyE, same _ e]; rfl
        refine ⟨[b2.d, b0.d], rfl, ps, ?_⟩
        refine (show aIte (!(true == anyD [b2.d, b0.d] b1.d)) _ _ from ?_)
        rw [av]
        refine aF ?_
        refine ⟨b2.d, [bodyD A b2], row b2 w2, rfl, b2.d, row b2 w2, fun _ => aF ?_, b2, bodyD A b2, rfl, w2.lay, .inl ⟨b2, rfl, w2.lay, _, rfl, fun _ => aF ?_, fun hb => absurd (hb.symm.trans refl) (by decide)⟩⟩
        all_goals
          refine ⟨⟨by decide, by decide⟩, ?_⟩
          refine aFor_ind (fun ds ρ m => (∀ d ∈ ds, ∃ k : Nat, d = .int (k : Int) ∧ k < 6) ∧ ∃ y0 y9 y10 y11 : Option D, ρ = [y0, some .deck, some (.int kd), some (.int ow), some b0.d, some b2.d, some b1.d, some (.lst (BL.map (bodyD A))), some (.lst (BL.map Bw.d)), y9, y10, y11]) ?_ ?_ ⟨rg, _, _, _, _, by rw [hBL]⟩
          · rintro d r _ m ⟨hp, y0, y9, y10, y11, rfl⟩ ih
            obtain ⟨k, rfl, hk⟩ := hp _ List.mem_cons_self
            obtain ⟨bk, mk, ak1, ak2⟩ := at7 k hk
            have wk := hOK bk mk
            refine aIx_lst ak1 (aIx_lst ak2 ⟨bk, rfl, wk, aF ?_⟩)
            refine aIx_lst ak1 (aIx_lst ak2 ⟨bk, rfl, wk, aF ?_⟩)
            exact ih _ _ ⟨fun z hz => hp z (List.mem_cons_of_mem _ hz), _, _, _, _, rfl⟩
          · rintro _ m ⟨_, y0, y9, y10, y11, rfl⟩
            rfl
      · have av : anyD [b2.d, b0.d] b1.d = true := by rw [anyE, hb]; rfl
        refine ⟨[b2.d, b0.d], rfl, ps, ?_⟩
        refine (show aIte (!(true == anyD [b2.d, b0.d] b1.d)) _ _ from ?_)
        rw [av]
        refine aF ?_
        refine ⟨b2.d, [bodyD A b2], row b2 w2, rfl, b2.d, row b2 w2, fun _ => aF ?_, b2, bodyD A b2, rfl, w2.lay, .inl ⟨b2, rfl, w2.lay, _, rfl, fun _ => aF ?_, fun hb => absurd (hb.symm.trans refl) (by decide)⟩⟩
        all_goals
          refine ⟨⟨by decide, by decide⟩, ?_⟩
          refine aFor_ind (fun ds ρ m => (∀ d ∈ ds, ∃ k : Nat, d = .int (k : Int) ∧ k < 6) ∧ ∃ y0 y9 y10 y11 : Option D, ρ = [y0, some .deck, some (.int kd), some (.int ow), some b0.d, some b2.d, some b1.d, some (.lst (BL.map (bodyD A))), some (.lst (BL.map Bw.d)), y9, y10, y11]) ?_ ?_ ⟨rg, _, _, _, _, by rw [hBL]⟩
          · rintro d r _ m ⟨hp, y0, y9, y10, y11, rfl⟩ ih
            obtain ⟨k, rfl, hk⟩ := hp _ List.mem_cons_self
            obtain ⟨bk, mk, ak1, ak2⟩ := at7 k hk
            have wk := hOK bk mk
            refine aIx_lst ak1 (aIx_lst ak2 ⟨bk, rfl, wk, aF ?_⟩)
            refine aIx_lst ak1 (aIx_lst ak2 ⟨bk, rfl, wk, aF ?_⟩)
            exact ih _ _ ⟨fun z hz => hp z (List.mem_cons_of_mem _ hz), _, _, _, _, rfl⟩
          · rintro _ m ⟨_, y0, y9, y10, y11, rfl⟩
            rfl
      · have av : anyD [b2.d, b0.d] b1.d = true := by rw [anyE, same _ e]; cases PyData.eqv b2.d.pd b1.d.pd <;> rfl
        refine ⟨[b2.d, b0.d], rfl, ps, ?_⟩
        refine (show aIte (!(true == anyD [b2.d, b0.d] b1.d)) _ _ from ?_)
        rw [av]
        refine aF ?_
        refine ⟨b2.d, [bodyD A b2], row b2 w2, rfl, b2.d, row b2 w2, fun _ => aF ?_, b2, bodyD A b2, rfl, w2.lay, .inl ⟨b2, rfl, w2.lay, _, rfl, fun _ => aF ?_, fun hb => absurd (hb.symm.trans refl) (by decide)⟩⟩
        all_goals
          refine ⟨⟨by decide, by decide⟩, ?_⟩
          refine aFor_ind (fun ds ρ m => (∀ d ∈ ds, ∃ k : Nat, d = .int (k : Int) ∧ k < 6) ∧ ∃ y0 y9 y10 y11 : Option D, ρ = [y0, some .deck, some (.int kd), some (.int ow), some b0.d, some b2.d, some b1.d, some (.lst (BL.map (bodyD A))), some (.lst (BL.map Bw.d)), y9, y10, y11]) ?_ ?_ ⟨rg, _, _, _, _, by rw [hBL]⟩
          · rintro d r _ m ⟨hp, y0, y9, y10, y11, rfl⟩ ih
            obtain ⟨k, rfl, hk⟩ := hp _ List.mem_cons_self
            obtain ⟨bk, mk, ak1, ak2⟩ := at7 k hk
            have wk := hOK bk mk
            refine aIx_lst ak1 (aIx_lst ak2 ⟨bk, rfl, wk, aF ?_⟩)
            refine aIx_lst ak1 (aIx_lst ak2 ⟨bk, rfl, wk, aF ?_⟩)
            exact ih _ _ ⟨fun z hz => hp z (List.mem_cons_of_mem _ hz), _, _, _, _, rfl⟩
          · rintro _ m ⟨_, y0, y9, y10, y11, rfl⟩
            rfl
      · have av : anyD [b2.d, b0.d] b1.d = true := by rw [anyE, hb2]; cases PyData.eqv b2.d.pd b1.d.pd <;> rfl
        refine ⟨[b2.d, b0.d], rfl, ps, ?_⟩
        refine (show aIte (!(true == anyD [b2.d, b0.d] b1.d)) _ _ from ?_)
        rw [av]
        refine aF ?_
        refine ⟨b2.d, [bodyD A b2], row b2 w2, rfl, b2.d, row b2 w2, fun _ => aF ?_, b2, bodyD A b2, rfl, w2.lay, .inl ⟨b2, rfl, w2.lay, _, rfl, fun _ => aF ?_, fun hb => absurd (hb.symm.trans refl) (by decide)⟩⟩
        all_goals
          refine ⟨⟨by decide, by decide⟩, ?_⟩
          refine aFor_ind (fun ds ρ m => (∀ d ∈ ds, ∃ k : Nat, d = .int (k : Int) ∧ k < 6) ∧ ∃ y0 y9 y10 y11 : Option D, ρ = [y0, some .deck, some (.int kd), some (.int ow), some b0.d, some b2.d, some b1.d, some (.lst (BL.map (bodyD A))), some (.lst (BL.map Bw.d)), y9, y10, y11]) ?_ ?_ ⟨rg, _, _, _, _, by rw [hBL]⟩
          · rintro d r _ m ⟨hp, y0, y9, y10, y11, rfl⟩ ih
            obtain ⟨k, rfl, hk⟩ := hp _ List.mem_cons_self
            obtain ⟨bk, mk, ak1, ak2⟩ := at7 k hk
            have wk := hOK bk mk
            refine aIx_lst ak1 (aIx_lst ak2 ⟨bk, rfl, wk, aF ?_⟩)
            refine aIx_lst ak1 (aIx_lst ak2 ⟨bk, rfl, wk, aF ?_⟩)
            exact ih _ _ ⟨fun z hz => hp z (List.mem_cons_of_mem _ hz), _, _, _, _, rfl⟩
          · rintro _ m ⟨_, y0, y9, y10, y11, rfl⟩
            rfl
      · have av : anyD [b2.d, b0.d] b1.d = false := by rw [anyE, hb, hb2]; rfl
        refine ⟨[b2.d, b0.d], rfl, ps, ?_⟩
        refine (show aIte (!(false == anyD [b2.d, b0.d] b1.d)) _ _ from ?_)
        rw [av]
        refine aF ?_
        refine ⟨b2.d, [bodyD A b2], row b2 w2, rfl, b2.d, row b2 w2, fun _ => aF ?_, b2, bodyD A b2, rfl, w2.lay, .inl ⟨b2, rfl, w2.lay, _, rfl, fun _ => aF ?_, fun hb => absurd (hb.symm.trans refl) (by decide)⟩⟩
        all_goals
          refine ⟨⟨by decide, by decide⟩, ?_⟩
          refine aFor_ind (fun ds ρ m => (∀ d ∈ ds, ∃ k : Nat, d = .int (k : Int) ∧ k < 6) ∧ ∃ y0 y9 y10 y11 : Option D, ρ = [y0, some .deck, some (.int kd), some (.int ow), some b0.d, some b2.d, some b1.d, some (.lst (BL.map (bodyD A))), some (.lst (BL.map Bw.d)), y9, y10, y11]) ?_ ?_ ⟨rg, _, _, _, _, by rw [hBL]⟩
          · rintro d r _ m ⟨hp, y0, y9, y10, y11, rfl⟩ ih
            obtain ⟨k, rfl, hk⟩ := hp _ List.mem_cons_self
            obtain ⟨bk, mk, ak1, ak2⟩ := at7 k hk
            have wk := hOK bk mk
            refine aIx_lst ak1 (aIx_lst ak2 ⟨bk, rfl, wk, aF ?_⟩)
            refine aIx_lst ak1 (aIx_lst ak2 ⟨bk, rfl, wk, aF ?_⟩)
            exact ih _ _ ⟨fun z hz => hp z (List.mem_cons_of_mem _ hz), _, _, _, _, rfl⟩
          · rintro _ m ⟨_, y0, y9, y10, y11, rfl⟩
            rfl
  · simp only [startA, eSetAll, eSet, List.cons_append, List.nil_append]
    refine ⟨b0, rfl, w0.ok, b0, rfl, w0.ok, b2, rfl, w2.ok, b2, rfl, w2.ok, b0, rfl, w0.ok, b0, rfl, w0.ok, ?_⟩
    simp only [startA, eSetAll, eSet, List.cons_append, List.nil_append]
    obtain ⟨BL, hBL, hOK⟩ : ∃ BL : List Bw, BL = [b0, b0, b2, b2, b0, b0] ∧ ∀ b ∈ BL, OkW b := ⟨_, rfl, by
      intro b hb
      have : b = b0 ∨ b = b0 ∨ b = b2 ∨ b = b2 ∨ b = b0 ∨ b = b0 := by simpa using hb
      rcases this with rfl | rfl | rfl | rfl | rfl | rfl
      · exact w0
      · exact w0
      · exact w2
      · exact w2
      · exact w0
      · exact w0⟩
    have len6 : BL.length = 6 := by rw [hBL]; rfl
    have at7 : ∀ k : Nat, k < 6 → ∃ b, b ∈ BL ∧ atI (BL.map (bodyD A)) (k : Int) = some (bodyD A b) ∧ atI (BL.map Bw.d) (k : Int) = some b.d := fun k hk => ⟨BL[k], List.getElem_mem (by omega), atI_nat (by rw [List.getElem?_map, List.getElem?_eq_getElem (by omega)]; rfl), atI_nat (by rw [List.getElem?_map, List.getElem?_eq_getElem (by omega)]; rfl)⟩
    have rg : ∀ d ∈ rangeD 0 6, ∃ k : Nat, d = .int (k : Int) ∧ k < 6 := fun d hd => by
      have : d = .int 0 ∨ d = .int 1 ∨ d = .int 2 ∨ d = .int 3 ∨ d = .int 4 ∨ d = .int 5 := by simpa [rangeD] using hd
      rcases this with rfl | rfl | rfl | rfl | rfl | rfl
      · exact ⟨0, rfl, by decide⟩
      · exact ⟨1, rfl, by decide⟩
      · exact ⟨2, rfl, by decide⟩
      · exact ⟨3, rfl, by decide⟩
      · exact ⟨4, rfl, by decide⟩
      · exact ⟨5, rfl, by decide⟩
    refine ⟨⟨by decide, by decide⟩, ?_⟩
    simp only [startA, eSetAll, eSet, List.cons_append, List.nil_append]
    refine aFor_ind (fun ds ρ m => m = n2 ∧ (∀ d ∈ ds, ∃ k : Nat, d = .int (k : Int) ∧ k < 6) ∧ ∃ y0 y9 y10 y11 : Option D, ρ = [y0, some .deck, some (.int kd), some (.int ow), some b0.d, some b2.d, some b0.d, some (.lst (BL.map (bodyD A))), some (.lst (BL.map Bw.d)), y9, y10, y11]) ?_ ?_ ⟨rfl, rg, _, _, _, _, by rw [hBL]; rfl⟩
    · rintro d r _ m ⟨rfl, hp, y0, y9, y10, y11, rfl⟩ ih
      obtain ⟨k, rfl, hk⟩ := hp _ List.mem_cons_self
      obtain ⟨bk, mk, ak1, ak2⟩ := at7 k hk
      have wk := hOK bk mk
      refine ⟨⟨by decide, by decide⟩, ?_⟩
      simp only [startA, eSetAll, eSet, List.cons_append, List.nil_append]
      refine aFor_ind (fun ds ρ m' => m' = m ∧ (∀ d ∈ ds, ∃ k : Nat, d = .int (k : Int) ∧ k < 6) ∧ ∃ y0 y10 y11 : Option D, ρ = [y0, some .deck, some (.int kd), some (.int ow), some b0.d, some b2.d, some b0.d, some (.lst (BL.map (bodyD A))), some (.lst (BL.map Bw.d)), some (.int (k : Int)), y10, y11]) ?_ ?_ ⟨rfl, rg, _, _, _, rfl⟩
      · rintro d r _ m' ⟨rfl, hp', z0, z10, z11, rfl⟩ ih'
        obtain ⟨j, rfl, hj⟩ := hp' _ List.mem_cons_self
        obtain ⟨bj, mj, aj1, aj2⟩ := at7 j hj
        have wj := hOK bj mj
        refine aIx_lst ak1 (aIx_lst aj1 ?_)
        refine ⟨body_ins A bk, .inr (body_ins A bj), bk, bodyD A bj, rfl, wk.lay, .inl ⟨bj, rfl, wj.lay, _, rfl, ?_⟩⟩
        simp only [startA, eSetAll, eSet, List.cons_append, List.nil_append]
        refine aF ?_
        refine aIx_lst ak2 (aIx_lst aj2 ⟨⟨wk.lay.1, wj.lay.1, wk.lay.2, wj.lay.2⟩, ?_⟩)
        refine (show aIte (!(PyData.eqv bk.d.pd bj.d.pd == PyData.eqv bk.d.pd bj.d.pd)) _ _ from ?_)
        rw [beq_self_eq_true]
        refine aF ?_
        refine aIx_lst ak1 (aIx_lst aj1 ?_)
        refine ⟨body_ins A bk, .inr (body_ins A bj), bk, bodyD A bj, rfl, wk.lay, .inl ⟨bj, rfl, wj.lay, _, rfl, ?_⟩⟩
        refine (show aIte ((!PyData.eqv bk.d.pd bj.d.pd) == PyData.eqv bk.d.pd bj.d.pd) _ _ from ?_)
        have ne : ((!PyData.eqv bk.d.pd bj.d.pd) == PyData.eqv bk.d.pd bj.d.pd) = false := by cases PyData.eqv bk.d.pd bj.d.pd <;> rfl
        rw [ne]
        exact aF (ih' _ _ ⟨rfl, fun z hz => hp' z (List.mem_cons_of_mem _ hz), _, _, _, rfl⟩)
      · rintro _ m' ⟨rfl, _, z0, z10, z11, rfl⟩
        exact ih _ _ ⟨rfl, fun z hz => hp z (List.mem_cons_of_mem _ hz), _, _, _, _, rfl⟩
    · rintro _ m ⟨rfl, _, y0, y9, y10, y11, rfl⟩
      have ps : PlD [b2.d, b0.d] b0.d := by
        have dl : Dy 5 (.lst [b2.d, b0.d]) := Dy.lst fun d hd => by
          have : d = b2.d ∨ d = b0.d := by simpa using hd
          rcases this with rfl | rfl
          · exact w2.dy
          · exact w0.dy
        exact ⟨w0.lay.1, dl.isd, w0.lay.2, dl.shaped (by decide)⟩
      have row : ∀ b : Bw, OkW b → rowD [A.c_Wall, A.c_Free, A.c_Railed] (bodyD A b) b.d := fun b w => ⟨b.kn.kd.cls A, _, _, _, rfl, by cases b.kn <;> simp [Kn.kd, Kd.cls], w.lay.1, SeqAt.canLay_of_shaped w.lay.2⟩
      have refl : PyData.eqv b2.d.pd b2.d.pd = true := SeqAt.eqv_refl _ (SeqAt.canLay_of_shaped w2.lay.2)
      have anyE : anyD [b2.d, b0.d] b0.d = (PyData.eqv b2.d.pd b0.d.pd || (PyData.eqv b0.d.pd b0.d.pd || false)) := rfl
      have same : ∀ r : D, r.pd = b0.d.pd → PyData.eqv r.pd b0.d.pd = true := fun r e => by
        rw [e]
        exact SeqAt.eqv_refl _ (SeqAt.canLay_of_shaped w0.lay.2)
      rw [hBL]
      refine ⟨b0.d, [bodyD A b2, bodyD A b0], row b0 w0, rfl, b2.d, row b2 w2, fun e => ?_, b2, bodyD A b0, rfl, w2.lay, .inl ⟨b0, rfl, w0.lay, _, rfl, fun hb => ?_, fun hb => ⟨b0.d, row b0 w0, fun e => ?_, b0, bodyD A b0, rfl, w0.lay, .inl ⟨b0, rfl, w0.lay, _, rfl, fun hb2 => ?_, fun hb2 => ?_⟩⟩⟩⟩
      · have av : anyD [b2.d, b0.d] b0.d = true := by rw [anyE, same _ e]; rfl
        refine ⟨[b2.d, b0.d], rfl, ps, ?_⟩
        refine (show aIte (!(true == anyD [b2.d, b0.d] b0.d)) _ _ from ?_)
        rw [av]
        refine aF ?_
        refine ⟨b2.d, [bodyD A b2], row b2 w2, rfl, b2.d, row b2 w2, fun _ => aF ?_, b2, bodyD A b2, rfl, w2.lay, .inl ⟨b2, rfl, w2.lay, _, rfl, fun _ => aF ?_, fun hb => absurd (hb.symm.trans refl) (by decide)⟩⟩
        all_goals
          refine ⟨⟨by decide, by decide⟩, ?_⟩
          refine aFor_ind (fun ds ρ m => (∀ d ∈ ds, ∃ k : Nat, d = .int (k : Int) ∧ k < 6) ∧ ∃ y0 y9 y10 y11 : Option D, ρ = [y0, some .deck, some (.int kd), some (.int ow), some b0.d, some b2.d, some b0.d, some (.lst (BL.map (bodyD A))), some (.lst (BL.map Bw.d)), y9, y10, y11]) ?_ ?_ ⟨rg, _, _, _, _, by rw [hBL]⟩
          · rintro d r _ m ⟨hp, y0, y9, y10, y11, rfl⟩ ih
            obtain ⟨k, rfl, hk⟩ := hp _ List.mem_cons_self
            obtain ⟨bk, mk, ak1, ak2⟩ := at7 k hk
            have wk := hOK bk mk
            refine aIx_lst ak1 (aIx_lst ak2 ⟨bk, rfl, wk, aF ?_⟩)
            refine aIx_lst ak1 (aIx_lst ak2 ⟨bk, rfl, wk, aF ?_⟩)
            exact ih _ _ ⟨fun z hz => hp z (List.mem_cons_of_mem _ hz), _, _, _, _, rfl⟩
          · rintro _ m ⟨_, y0, y9, y10, y11, rfl⟩
            rfl
      · have av : anyD [b2.d, b0.d] b0.d = true := by rw [anyE, hb]; rfl
        refine ⟨[b2.d, b0.d], rfl, ps, ?_⟩
        refine (show aIte (!(true == anyD [b2.d, b0.d] b0.d)) _ _ from ?_)
        rw [av]
        refine aF ?_
        refine ⟨b2.d, [bodyD A b2], row b2 w2, rfl, b2.d, row b2 w2, fun _ => aF ?_, b2, bodyD A b2, rfl, w2.lay, .inl ⟨b2, rfl, w2.lay, _, rfl, fun _ => aF ?_, fun hb => absurd (hb.symm.trans refl) (by decide)⟩⟩
        all_goals
          refine ⟨⟨by decide, by decide⟩, ?_⟩
          refine aFor_ind (fun ds ρ m => (∀ d ∈ ds, ∃ k : Nat, d = .int (k : Int) ∧ k < 6) ∧ ∃ y0 y9 y10 y11 : Option D, ρ = [y0, some .deck, some (.int kd), some (.int ow), some b0.d, some b2.d, some b0.d, some (.lst (BL.map (bodyD A))), some (.lst (BL.map Bw.d)), y9, y10, y11]) ?_ ?_ ⟨rg, _, _, _, _, by rw [hBL]⟩
          · rintro d r _ m ⟨hp, y0, y9, y10, y11, rfl⟩ ih
            obtain ⟨k, rfl, hk⟩ := hp _ List.mem_cons_self
            obtain ⟨bk, mk, ak1, ak2⟩ := at7 k hk
            have wk := hOK bk mk
            refine aIx_lst ak1 (aIx_lst ak2 ⟨bk, rfl, wk, aF ?_⟩)
            refine aIx_lst ak1 (aIx_lst ak2 ⟨bk, rfl, wk, aF ?_⟩)
            exact ih _ _ ⟨fun z hz => hp z (List.mem_cons_of_mem _ hz), _, _, _, _, rfl⟩
          · rintro _ m ⟨_, y0, y9, y10, y11, rfl⟩
            rfl
      · have av : anyD [b2.d, b0.d] b0.d = true := by rw [anyE, same _ e]; cases PyData.eqv b2.d.pd b0.d.pd <;> rfl
        refine ⟨[b2.d, b0.d], rfl, ps, ?_⟩
        refine (show aIte (!(true == anyD [b2.d, b0.d] b0.d)) _ _ from ?_)
        rw [av]
        refine aF ?_
        refine ⟨b2.d, [bodyD A b2], row b2 w2, rfl, b2.d, row b2 w2, fun _ => aF ?_, b2, bodyD A b2, rfl, w2.lay, .inl ⟨b2, rfl, w2.lay, _, rfl, fun _ => aF ?_, fun hb => absurd (hb.symm.trans refl) (by decide)⟩⟩
        all_goals
          refine ⟨⟨by decide, by decide⟩, ?_⟩
          refine aFor_ind (fun ds ρ m => (∀ d ∈ ds, ∃ k : Nat, d = .int (k : Int) ∧ k < 6) ∧ ∃ y0 y9 y10 y11 : Option D, ρ = [y0, some .deck, some (.int kd), some (.int ow), some b0.d, some b2.d, some b0.d, some (.lst (BL.map (bodyD A))), some (.lst (BL.map Bw.d)), y9, y10, y11]) ?_ ?_ ⟨rg, _, _, _, _, by rw [hBL]⟩
          · rintro d r _ m ⟨hp, y0, y9, y10, y11, rfl⟩ ih
            obtain ⟨k, rfl, hk⟩ := hp _ List.mem_cons_self
            obtain ⟨bk, mk, ak1, ak2⟩ := at7 k hk
            have wk := hOK bk mk
            refine aIx_lst ak1 (aIx_lst ak2 ⟨bk, rfl, wk, aF ?_⟩)
            refine aIx_lst ak1 (aIx_lst ak2 ⟨bk, rfl, wk, aF ?_⟩)
            exact ih _ _ ⟨fun z hz => hp z (List.mem_cons_of_mem _ hz), _, _, _, _, rfl⟩
          · rintro _ m ⟨_, y0, y9, y10, y11, rfl⟩
            rfl
      · have av : anyD [b2.d, b0.d] b0.d = true := by rw [anyE, hb2]; cases PyData.eqv b2.d.pd b0.d.pd <;> rfl
        refine ⟨[b2.d, b0.d], rfl, ps, ?_⟩
        refine (show aIte (!(true == anyD [b2.d, b0.d] b0.d)) _ _ from ?_)
        rw [av]
        refine aF ?_
        refine ⟨b2.d, [bodyD A b2], row b2 w2, rfl, b2.d, row b2 w2, fun _ => aF ?_, b2, bodyD A b2, rfl, w2.lay, .inl ⟨b2, rfl, w2.lay, _, rfl, fun _ => aF ?_, fun hb => absurd (hb.symm.trans refl) (by decide)⟩⟩
        all_goals
          refine ⟨⟨by decide, by decide⟩, ?_⟩
          refine aFor_ind (fun ds ρ m => (∀ d ∈ ds, ∃ k : Nat, d = .int (k : Int) ∧ k < 6) ∧ ∃ y0 y9 y10 y11 : Option D, ρ = [y0, some .deck, some (.int kd), some (.int ow), some b0.d, some b2.d, some b0.d, some (.lst (BL.map (bodyD A))), some (.lst (BL.map Bw.d)), y9, y10, y11]) ?_ ?_ ⟨rg, _, _, _, _, by rw [hBL]⟩
          · rintro d r _ m ⟨hp, y0, y9, y10, y11, rfl⟩ ih
            obtain ⟨k, rfl, hk⟩ := hp _ List.mem_cons_self
            obtain ⟨bk, mk, ak1, ak2⟩ := at7 k hk
            have wk := hOK bk mk
            refine aIx_lst ak1 (aIx_lst ak2 ⟨bk, rfl, wk, aF ?_⟩)
            refine aIx_lst ak1 (aIx_lst ak2 ⟨bk, rfl, wk, aF ?_⟩)
            exact ih _ _ ⟨fun z hz => hp z (List.mem_cons_of_mem _ hz), _, _, _, _, rfl⟩
          · rintro _ m ⟨_, y0, y9, y10, y11, rfl⟩
            rfl
      · have av : anyD [b2.d, b0.d] b0.d = false := by rw [anyE, hb, hb2]; rfl
        refine ⟨[b2.d, b0.d], rfl, ps, ?_⟩
        refine (show aIte (!(false == anyD [b2.d, b0.d] b0.d)) _ _ from ?_)
        rw [av]
        refine aF ?_
        refine ⟨b2.d, [bodyD A b2], row b2 w2, rfl, b2.d, row b2 w2, fun _ => aF ?_, b2, bodyD A b2, rfl, w2.lay, .inl ⟨b2, rfl, w2.lay, _, rfl, fun _ => aF ?_, fun hb => absurd (hb.symm.trans refl) (by decide)⟩⟩
        all_goals
          refine ⟨⟨by decide, by decide⟩, ?_⟩
          refine aFor_ind (fun ds ρ m => (∀ d ∈ ds, ∃ k : Nat, d = .int (k : Int) ∧ k < 6) ∧ ∃ y0 y9 y10 y11 : Option D, ρ = [y0, some .deck, some (.int kd), some (.int ow), some b0.d, some b2.d, some b0.d, some (.lst (BL.map (bodyD A))), some (.lst (BL.map Bw.d)), y9, y10, y11]) ?_ ?_ ⟨rg, _, _, _, _, by rw [hBL]⟩
          · rintro d r _ m ⟨hp, y0, y9, y10, y11, rfl⟩ ih
            obtain ⟨k, rfl, hk⟩ := hp _ List.mem_cons_self
            obtain ⟨bk, mk, ak1, ak2⟩ := at7 k hk
            have wk := hOK bk mk
            refine aIx_lst ak1 (aIx_lst ak2 ⟨bk, rfl, wk, aF ?_⟩)
            refine aIx_lst ak1 (aIx_lst ak2 ⟨bk, rfl, wk, aF ?_⟩)
            exact ih _ _ ⟨fun z hz => hp z (List.mem_cons_of_mem _ hz), _, _, _, _, rfl⟩
          · rintro _ m ⟨_, y0, y9, y10, y11, rfl⟩
            rfl
end
set_option maxHeartbeats 0 in
theorem all_hd {w : World} {K : PySem.W.Frag} {h : Heap} {mg : Str → Option Value} {fa : Addr} (X : K.In h) (G : h.Ns mainGlobals mg) (hfa : mg "law" = some (.ref fa)) (c : HF.Says hdD K)
    : ∃ fd : FuncData, (∀ (s : Shared) (v : Value), BindsTo s fd ⟨[v], []⟩ [("_law_script", v)]) ∧ ∀ base : Heap, K.In base → base.Ns mainGlobals mg → FnOk LW.prog w K mg base CX0 12 fa fd ["_law_script"] (sp_law K) := by
  have lk0 := c.look 0 (l := ck0 K) rfl
  have lk1 := c.look 1 (l := ck1 K) rfl
  have lk2 := c.look 2 (l := ck2 K) rfl
  have lk3 := c.look 3 (l := ck3 K) rfl
  have lk4 := c.look 4 (l := ck4 K) rfl
  have lk5 := c.look 5 (l := ck5 K) rfl
  have lk6 := c.look 6 (l := ck6 K) rfl
  have lk7 := c.look 7 (l := ck7 K) rfl
  have lk8 := c.look 8 (l := ck8 K) rfl
  have lk9 := c.look 9 (l := ck9 K) rfl
  have lk10 := c.look 10 (l := ck10 K) rfl
  have lk11 := c.look 11 (l := ck11 K) rfl
  have lk12 := c.look 12 (l := ck12 K) rfl
  have e := hfa.symm.trans (He.glo_ok X G (HF.get lk2 4 rfl))
  cases e
  obtain ⟨fd_p_share_text, F_p_share_text⟩ := c.def_ 0 (d := dd_p_share_text) rfl
  have F_p_share_text : Fun K "share_text" "share_text" s_p_share_text (He.ga K "share_text") fd_p_share_text := HF.fun_of F_p_share_text
  obtain ⟨fd_p_spot_words, F_p_spot_words⟩ := c.def_ 1 (d := dd_p_spot_words) rfl
  have F_p_spot_words : Fun K "spot_words" "spot_words" s_p_spot_words (He.ga K "spot_words") fd_p_spot_words := HF.fun_of F_p_spot_words
  obtain ⟨fd_p_corner_words, F_p_corner_words⟩ := c.def_ 2 (d := dd_p_corner_words) rfl
  have F_p_corner_words : Fun K "corner_words" "corner_words" s_p_corner_words (He.ga K "corner_words") fd_p_corner_words := HF.fun_of F_p_corner_words
  obtain ⟨fd_p_wall_words, F_p_wall_words⟩ := c.def_ 3 (d := dd_p_wall_words) rfl
  have F_p_wall_words : Fun K "wall_words" "wall_words" s_p_wall_words (He.ga K "wall_words") fd_p_wall_words := HF.fun_of F_p_wall_words
  obtain ⟨fd_p_free_words, F_p_free_words⟩ := c.def_ 4 (d := dd_p_free_words) rfl
  have F_p_free_words : Fun K "free_words" "free_words" s_p_free_words (He.ga K "free_words") fd_p_free_words := HF.fun_of F_p_free_words
  obtain ⟨fd_p_rail_words, F_p_rail_words⟩ := c.def_ 5 (d := dd_p_rail_words) rfl
  have F_p_rail_words : Fun K "rail_words" "rail_words" s_p_rail_words (He.ga K "rail_words") fd_p_rail_words := HF.fun_of F_p_rail_words
  obtain ⟨fd_p_body_of, F_p_body_of⟩ := c.def_ 6 (d := dd_p_body_of) rfl
  have F_p_body_of : Fun K "body_of" "body_of" s_p_body_of (He.ga K "body_of") fd_p_body_of := HF.fun_of F_p_body_of
  obtain ⟨fd_l_cell, F_l_cell⟩ := c.def_ 7 (d := dd_l_cell) rfl
  have F_l_cell : Fun K "_law_cell" "_law_cell" s_l_cell (He.ga K "_law_cell") fd_l_cell := HF.fun_of F_l_cell
  obtain ⟨fd_l_mixed, F_l_mixed⟩ := c.def_ 8 (d := dd_l_mixed) rfl
  have F_l_mixed : Fun K "_law_mixed" "_law_mixed" s_l_mixed (He.ga K "_law_mixed") fd_l_mixed := HF.fun_of F_l_mixed
  obtain ⟨fd_l_deck, F_l_deck⟩ := c.def_ 9 (d := dd_l_deck) rfl
  have F_l_deck : Fun K "_law_deck" "_law_deck" s_l_deck (He.ga K "_law_deck") fd_l_deck := HF.fun_of F_l_deck
  obtain ⟨fd_l_take, F_l_take⟩ := c.def_ 10 (d := dd_l_take) rfl
  have F_l_take : Fun K "_law_take" "_law_take" s_l_take (He.ga K "_law_take") fd_l_take := HF.fun_of F_l_take
  obtain ⟨fd_l_gcd, F_l_gcd⟩ := c.def_ 11 (d := dd_l_gcd) rfl
  have F_l_gcd : Fun K "_law_gcd" "_law_gcd" s_l_gcd (He.ga K "_law_gcd") fd_l_gcd := HF.fun_of F_l_gcd
  obtain ⟨fd_l_left, F_l_left⟩ := c.def_ 12 (d := dd_l_left) rfl
  have F_l_left : Fun K "_law_left" "_law_left" s_l_left (He.ga K "_law_left") fd_l_left := HF.fun_of F_l_left
  obtain ⟨fd_l_half, F_l_half⟩ := c.def_ 13 (d := dd_l_half) rfl
  have F_l_half : Fun K "_law_half" "_law_half" s_l_half (He.ga K "_law_half") fd_l_half := HF.fun_of F_l_half
  obtain ⟨fd_l_hull, F_l_hull⟩ := c.def_ 14 (d := dd_l_hull) rfl
  have F_l_hull : Fun K "_law_hull" "_law_hull" s_l_hull (He.ga K "_law_hull") fd_l_hull := HF.fun_of F_l_hull
  obtain ⟨fd_l_number, F_l_number⟩ := c.def_ 15 (d := dd_l_number) rfl
  have F_l_number : Fun K "_law_number" "_law_number" s_l_number (He.ga K "_law_number") fd_l_number := HF.fun_of F_l_number
  obtain ⟨fd_l_whole, F_l_whole⟩ := c.def_ 16 (d := dd_l_whole) rfl
  have F_l_whole : Fun K "_law_whole" "_law_whole" s_l_whole (He.ga K "_law_whole") fd_l_whole := HF.fun_of F_l_whole
  obtain ⟨fd_l_part, F_l_part⟩ := c.def_ 17 (d := dd_l_part) rfl
  have F_l_part : Fun K "_law_part" "_law_part" s_l_part (He.ga K "_law_part") fd_l_part := HF.fun_of F_l_part
  obtain ⟨fd_l_drawn, F_l_drawn⟩ := c.def_ 18 (d := dd_l_drawn) rfl
  have F_l_drawn : Fun K "_law_drawn" "_law_drawn" s_l_drawn (He.ga K "_law_drawn") fd_l_drawn := HF.fun_of F_l_drawn
  obtain ⟨fd_l_row, F_l_row⟩ := c.def_ 19 (d := dd_l_row) rfl
  have F_l_row : Fun K "_law_row" "_law_row" s_l_row (He.ga K "_law_row") fd_l_row := HF.fun_of F_l_row
  obtain ⟨fd_l_added, F_l_added⟩ := c.def_ 20 (d := dd_l_added) rfl
  have F_l_added : Fun K "_law_added" "_law_added" s_l_added (He.ga K "_law_added") fd_l_added := HF.fun_of F_l_added
  obtain ⟨fd_l_other_rail, F_l_other_rail⟩ := c.def_ 21 (d := dd_l_other_rail) rfl
  have F_l_other_rail : Fun K "_law_other_rail" "_law_other_rail" s_l_other_rail (He.ga K "_law_other_rail") fd_l_other_rail := HF.fun_of F_l_other_rail
  obtain ⟨fd_l_other, F_l_other⟩ := c.def_ 22 (d := dd_l_other) rfl
  have F_l_other : Fun K "_law_other" "_law_other" s_l_other (He.ga K "_law_other") fd_l_other := HF.fun_of F_l_other
  obtain ⟨fd_l_word, F_l_word⟩ := c.def_ 23 (d := dd_l_word) rfl
  have F_l_word : Fun K "_law_word" "_law_word" s_l_word (He.ga K "_law_word") fd_l_word := HF.fun_of F_l_word
  obtain ⟨fd_l_line, F_l_line⟩ := c.def_ 24 (d := dd_l_line) rfl
  have F_l_line : Fun K "_law_line" "_law_line" s_l_line (He.ga K "_law_line") fd_l_line := HF.fun_of F_l_line
  obtain ⟨fd_l_made, F_l_made⟩ := c.def_ 25 (d := dd_l_made) rfl
  have F_l_made : Fun K "_law_made" "_law_made" s_l_made (He.ga K "_law_made") fd_l_made := HF.fun_of F_l_made
  obtain ⟨fd_l_is_one, F_l_is_one⟩ := c.def_ 26 (d := dd_l_is_one) rfl
  have F_l_is_one : Fun K "_law_is_one" "_law_is_one" s_l_is_one (He.ga K "_law_is_one") fd_l_is_one := HF.fun_of F_l_is_one
  obtain ⟨fd_l_nothing_else, F_l_nothing_else⟩ := c.def_ 27 (d := dd_l_nothing_else) rfl
  have F_l_nothing_else : Fun K "_law_nothing_else" "_law_nothing_else" s_l_nothing_else (He.ga K "_law_nothing_else") fd_l_nothing_else := HF.fun_of F_l_nothing_else
  obtain ⟨fd_law, F_law⟩ := c.def_ 28 (d := dd_law) rfl
  have F_law : Fun K "law" "law" s_law (He.ga K "law") fd_law := HF.fun_of F_law
  obtain ⟨fd_m_Body___init__, F_m_Body___init__⟩ := c.def_ 29 (d := dd_m_Body___init__) rfl
  have F_m_Body___init__ : Fun K "__init__" "Body.__init__" s_m_Body___init__ (He.ma K (He.ga K "Wall") "__init__") fd_m_Body___init__ := HF.fun_of F_m_Body___init__
  obtain ⟨fd_m_Body___eq__, F_m_Body___eq__⟩ := c.def_ 30 (d := dd_m_Body___eq__) rfl
  have F_m_Body___eq__ : Fun K "__eq__" "Body.__eq__" s_m_Body___eq__ (He.ma K (He.ga K "Body") "__eq__") fd_m_Body___eq__ := HF.fun_of F_m_Body___eq__
  obtain ⟨fd_m_Wall___str__, F_m_Wall___str__⟩ := c.def_ 31 (d := dd_m_Wall___str__) rfl
  have F_m_Wall___str__ : Fun K "__str__" "Wall.__str__" s_m_Wall___str__ (He.ma K (He.ga K "Wall") "__str__") fd_m_Wall___str__ := HF.fun_of F_m_Wall___str__
  obtain ⟨fd_m_Free___str__, F_m_Free___str__⟩ := c.def_ 32 (d := dd_m_Free___str__) rfl
  have F_m_Free___str__ : Fun K "__str__" "Free.__str__" s_m_Free___str__ (He.ma K (He.ga K "Free") "__str__") fd_m_Free___str__ := HF.fun_of F_m_Free___str__
  obtain ⟨fd_m_Railed___str__, F_m_Railed___str__⟩ := c.def_ 33 (d := dd_m_Railed___str__) rfl
  have F_m_Railed___str__ : Fun K "__str__" "Railed.__str__" s_m_Railed___str__ (He.ma K (He.ga K "Railed") "__str__") fd_m_Railed___str__ := HF.fun_of F_m_Railed___str__
  let A0 : Ad := { f_p_share_text := (He.ga K "share_text"), fd_p_share_text := fd_p_share_text, f_p_spot_words := (He.ga K "spot_words"), fd_p_spot_words := fd_p_spot_words, f_p_corner_words := (He.ga K "corner_words"), fd_p_corner_words := fd_p_corner_words, f_p_wall_words := (He.ga K "wall_words"), fd_p_wall_words := fd_p_wall_words, f_p_free_words := (He.ga K "free_words"), fd_p_free_words := fd_p_free_words, f_p_rail_words := (He.ga K "rail_words"), fd_p_rail_words := fd_p_rail_words, f_p_body_of := (He.ga K "body_of"), fd_p_body_of := fd_p_body_of, f_l_cell := (He.ga K "_law_cell"), fd_l_cell := fd_l_cell, f_l_mixed := (He.ga K "_law_mixed"), fd_l_mixed := fd_l_mixed, f_l_deck := (He.ga K "_law_deck"), fd_l_deck := fd_l_deck, f_l_take := (He.ga K "_law_take"), fd_l_take := fd_l_take, f_l_gcd := (He.ga K "_law_gcd"), fd_l_gcd := fd_l_gcd, f_l_left := (He.ga K "_law_left"), fd_l_left := fd_l_left, f_l_half := (He.ga K "_law_half"), fd_l_half := fd_l_half, f_l_hull := (He.ga K "_law_hull"), fd_l_hull := fd_l_hull, f_l_number := (He.ga K "_law_number"), fd_l_number := fd_l_number, f_l_whole := (He.ga K "_law_whole"), fd_l_whole := fd_l_whole, f_l_part := (He.ga K "_law_part"), fd_l_part := fd_l_part, f_l_drawn := (He.ga K "_law_drawn"), fd_l_drawn := fd_l_drawn, f_l_row := (He.ga K "_law_row"), fd_l_row := fd_l_row, f_l_added := (He.ga K "_law_added"), fd_l_added := fd_l_added, f_l_other_rail := (He.ga K "_law_other_rail"), fd_l_other_rail := fd_l_other_rail, f_l_other := (He.ga K "_law_other"), fd_l_other := fd_l_other, f_l_word := (He.ga K "_law_word"), fd_l_word := fd_l_word, f_l_line := (He.ga K "_law_line"), fd_l_line := fd_l_line, f_l_made := (He.ga K "_law_made"), fd_l_made := fd_l_made, f_l_is_one := (He.ga K "_law_is_one"), fd_l_is_one := fd_l_is_one, f_l_nothing_else := (He.ga K "_law_nothing_else"), fd_l_nothing_else := fd_l_nothing_else, f_law := (He.ga K "law"), fd_law := fd_law, c_Body := (He.ga K "Body"), c_Wall := (He.ga K "Wall"), c_Free := (He.ga K "Free"), c_Railed := (He.ga K "Railed"), f_m_Body___init__ := (He.ma K (He.ga K "Wall") "__init__"), fd_m_Body___init__ := fd_m_Body___init__, f_m_Body___eq__ := (He.ma K (He.ga K "Body") "__eq__"), fd_m_Body___eq__ := fd_m_Body___eq__, f_m_Wall___str__ := (He.ma K (He.ga K "Wall") "__str__"), fd_m_Wall___str__ := fd_m_Wall___str__, f_m_Free___str__ := (He.ma K (He.ga K "Free") "__str__"), fd_m_Free___str__ := fd_m_Free___str__, f_m_Railed___str__ := (He.ma K (He.ga K "Railed") "__str__"), fd_m_Railed___str__ := fd_m_Railed___str__ }
  have T : Tx K mg A0 := { F_p_share_text := F_p_share_text, b_p_share_text := F_p_share_text.binds (ps := ["one"]) fun _ _ _ _ _ _ us hl => match us, hl with | [_], _ => rfl, g_p_share_text := He.glo_ok X G (HF.get lk0 0 rfl), F_p_spot_words := F_p_spot_words, b_p_spot_words := F_p_spot_words.binds (ps := ["spot"]) fun _ _ _ _ _ _ us hl => match us, hl with | [_], _ => rfl, g_p_spot_words := He.glo_ok X G (HF.get lk0 1 rfl), F_p_corner_words := F_p_corner_words, b_p_corner_words := F_p_corner_words.binds (ps := ["shape"]) fun _ _ _ _ _ _ us hl => match us, hl with | [_], _ => rfl, g_p_corner_words := He.glo_ok X G (HF.get lk0 2 rfl), F_p_wall_words := F_p_wall_words, b_p_wall_words := F_p_wall_words.binds (ps := ["row"]) fun _ _ _ _ _ _ us hl => match us, hl with | [_], _ => rfl, g_p_wall_words := He.glo_ok X G (HF.get lk0 3 rfl), F_p_free_words := F_p_free_words, b_p_free_words := F_p_free_words.binds (ps := ["row"]) fun _ _ _ _ _ _ us hl => match us, hl with | [_], _ => rfl, g_p_free_words := He.glo_ok X G (HF.get lk0 4 rfl), F_p_rail_words := F_p_rail_words, b_p_rail_words := F_p_rail_words.binds (ps := ["row"]) fun _ _ _ _ _ _ us hl => match us, hl with | [_], _ => rfl, g_p_rail_words := He.glo_ok X G (HF.get lk0 5 rfl), F_p_body_of := F_p_body_of, b_p_body_of := F_p_body_of.binds (ps := ["row"]) fun _ _ _ _ _ _ us hl => match us, hl with | [_], _ => rfl, g_p_body_of := He.glo_ok X G (HF.get lk0 6 rfl), F_l_cell := F_l_cell, b_l_cell := F_l_cell.binds (ps := ["_law_script", "_law_k"]) fun _ _ _ _ _ _ us hl => match us, hl with | [_, _], _ => rfl, g_l_cell := He.glo_ok X G (HF.get lk0 7 rfl), F_l_mixed := F_l_mixed, b_l_mixed := F_l_mixed.binds (ps := ["_law_script", "_law_k", "_law_many"]) fun _ _ _ _ _ _ us hl => match us, hl with | [_, _, _], _ => rfl, g_l_mixed := He.glo_ok X G (HF.get lk0 8 rfl), F_l_deck := F_l_deck, b_l_deck := F_l_deck.binds (ps := ["_law_script"]) fun _ _ _ _ _ _ us hl => match us, hl with | [_], _ => rfl, g_l_deck := He.glo_ok X G (HF.get lk0 9 rfl), F_l_take := F_l_take, b_l_take := F_l_take.binds (ps := ["_law_deck_here", "_law_many"]) fun _ _ _ _ _ _ us hl => match us, hl with | [_, _], _ => rfl, g_l_take := He.glo_ok X G (HF.get lk0 10 rfl), F_l_gcd := F_l_gcd, b_l_gcd := F_l_gcd.binds (ps := ["_law_one", "_law_other_here"]) fun _ _ _ _ _ _ us hl => match us, hl with | [_, _], _ => rfl, g_l_gcd := He.glo_ok X G (HF.get lk0 11 rfl), F_l_left := F_l_left, b_l_left := F_l_left.binds (ps := ["_law_a", "_law_b", "_law_c"]) fun _ _ _ _ _ _ us hl => match us, hl with | [_, _, _], _ => rfl, g_l_left := He.glo_ok X G (HF.get lk1 0 rfl), F_l_half := F_l_half, b_l_half := F_l_half.binds (ps := ["_law_points"]) fun _ _ _ _ _ _ us hl => match us, hl with | [_], _ => rfl, g_l_half := He.glo_ok X G (HF.get lk1 1 rfl), F_l_hull := F_l_hull, b_l_hull := F_l_hull.binds (ps := ["_law_points"]) fun _ _ _ _ _ _ us hl => match us, hl with | [_], _ => rfl, g_l_hull := He.glo_ok X G (HF.get lk1 2 rfl), F_l_number := F_l_number, b_l_number := F_l_number.binds (ps := ["_law_deck_here", "_law_span"]) fun _ _ _ _ _ _ us hl => match us, hl with | [_, _], _ => rfl, g_l_number := He.glo_ok X G (HF.get lk1 3 rfl), F_l_whole := F_l_whole, b_l_whole := F_l_whole.binds (ps := ["_law_thing"]) fun _ _ _ _ _ _ us hl => match us, hl with | [_], _ => rfl, g_l_whole := He.glo_ok X G (HF.get lk1 4 rfl), F_l_part := F_l_part, b_l_part := F_l_part.binds (ps := ["_law_top", "_law_bottom"]) fun _ _ _ _ _ _ us hl => match us, hl with | [_, _], _ => rfl, g_l_part := He.glo_ok X G (HF.get lk1 5 rfl), F_l_drawn := F_l_drawn, b_l_drawn := F_l_drawn.binds (ps := ["_law_deck_here"]) fun _ _ _ _ _ _ us hl => match us, hl with | [_], _ => rfl, g_l_drawn := He.glo_ok X G (HF.get lk1 6 rfl), F_l_row := F_l_row, b_l_row := F_l_row.binds (ps := ["_law_deck_here", "_law_kind"]) fun _ _ _ _ _ _ us hl => match us, hl with | [_, _], _ => rfl, g_l_row := He.glo_ok X G (HF.get lk1 7 rfl), F_l_added := F_l_added, b_l_added := F_l_added.binds (ps := ["_law_one"]) fun _ _ _ _ _ _ us hl => match us, hl with | [_], _ => rfl, g_l_added := He.glo_ok X G (HF.get lk1 8 rfl), F_l_other_rail := F_l_other_rail, b_l_other_rail := F_l_other_rail.binds (ps := ["_law_row_here"]) fun _ _ _ _ _ _ us hl => match us, hl with | [_], _ => rfl, g_l_other_rail := He.glo_ok X G (HF.get lk1 9 rfl), F_l_other := F_l_other, b_l_other := F_l_other.binds (ps := ["_law_deck_here", "_law_row_here"]) fun _ _ _ _ _ _ us hl => match us, hl with | [_, _], _ => rfl, g_l_other := He.glo_ok X G (HF.get lk1 10 rfl), F_l_word := F_l_word, b_l_word := F_l_word.binds (ps := ["_law_one"]) fun _ _ _ _ _ _ us hl => match us, hl with | [_], _ => rfl, g_l_word := He.glo_ok X G (HF.get lk1 11 rfl), F_l_line := F_l_line, b_l_line := F_l_line.binds (ps := ["_law_row_here"]) fun _ _ _ _ _ _ us hl => match us, hl with | [_], _ => rfl, g_l_line := He.glo_ok X G (HF.get lk2 0 rfl), F_l_made := F_l_made, b_l_made := F_l_made.binds (ps := ["_law_row_here"]) fun _ _ _ _ _ _ us hl => match us, hl with | [_], _ => rfl, g_l_made := He.glo_ok X G (HF.get lk2 1 rfl), F_l_is_one := F_l_is_one, b_l_is_one := F_l_is_one.binds (ps := ["_law_body", "_law_row_here"]) fun _ _ _ _ _ _ us hl => match us, hl with | [_, _], _ => rfl, g_l_is_one := He.glo_ok X G (HF.get lk2 2 rfl), F_l_nothing_else := F_l_nothing_else, b_l_nothing_else := F_l_nothing_else.binds (ps := ["_law_body", "_law_row_here"]) fun _ _ _ _ _ _ us hl => match us, hl with | [_, _], _ => rfl, g_l_nothing_else := He.glo_ok X G (HF.get lk2 3 rfl), F_law := F_law, b_law := F_law.binds (ps := ["_law_script"]) fun _ _ _ _ _ _ us hl => match us, hl with | [_], _ => rfl, g_law := He.glo_ok X G (HF.get lk2 4 rfl), m_abs := He.free_ok X G (HF.get lk2 5 rfl), m_bool := He.free_ok X G (HF.get lk2 6 rfl), m_int := He.free_ok X G (HF.get lk2 7 rfl), m_isinstance := He.free_ok X G (HF.get lk2 8 rfl), m_len := He.free_ok X G (HF.get lk2 9 rfl), m_range := He.free_ok X G (HF.get lk2 10 rfl), m_sorted := He.free_ok X G (HF.get lk2 11 rfl), m_str := He.free_ok X G (HF.get lk3 0 rfl), m_tuple := He.free_ok X G (HF.get lk3 1 rfl), g_Body := He.glo_ok X G (HF.get lk3 2 rfl), g_Wall := He.glo_ok X G (HF.get lk3 3 rfl), g_Free := He.glo_ok X G (HF.get lk3 4 rfl), g_Railed := He.glo_ok X G (HF.get lk3 5 rfl), F_m_Body___init__ := F_m_Body___init__, b_m_Body___init__ := F_m_Body___init__.binds (ps := ["self", "row"]) fun _ _ _ _ _ _ us hl => match us, hl with | [_, _], _ => rfl, F_m_Body___eq__ := F_m_Body___eq__, b_m_Body___eq__ := F_m_Body___eq__.binds (ps := ["self", "other"]) fun _ _ _ _ _ _ us hl => match us, hl with | [_, _], _ => rfl, mt_m_Body___eq__ := ⟨(He.eqO_ok (HF.get lk3 6 rfl)), (HF.get lk3 7 rfl), (HF.get lk3 8 rfl)⟩, F_m_Wall___str__ := F_m_Wall___str__, b_m_Wall___str__ := F_m_Wall___str__.binds (ps := ["self"]) fun _ _ _ _ _ _ us hl => match us, hl with | [_], _ => rfl, mt_m_Wall___str__ := ⟨(He.eqO_ok (HF.get lk3 9 rfl)), (HF.get lk3 10 rfl), (HF.get lk3 11 rfl)⟩, F_m_Free___str__ := F_m_Free___str__, b_m_Free___str__ := F_m_Free___str__.binds (ps := ["self"]) fun _ _ _ _ _ _ us hl => match us, hl with | [_], _ => rfl, mt_m_Free___str__ := ⟨(He.eqO_ok (HF.get lk4 0 rfl)), (HF.get lk4 1 rfl), (HF.get lk4 2 rfl)⟩, F_m_Railed___str__ := F_m_Railed___str__, b_m_Railed___str__ := F_m_Railed___str__.binds (ps := ["self"]) fun _ _ _ _ _ _ us hl => match us, hl with | [_], _ => rfl, mt_m_Railed___str__ := ⟨(He.eqO_ok (HF.get lk4 3 rfl)), (HF.get lk4 4 rfl), (HF.get lk4 5 rfl)⟩, na_Wall_row := (He.eqO_ok (HF.get lk4 6 rfl)), na_Wall_name := (He.eqO_ok (HF.get lk4 7 rfl)), na_Wall_mass := (He.eqO_ok (HF.get lk4 8 rfl)), cl_Wall := ⟨(HF.get lk4 9 rfl), (HF.get lk4 10 rfl), (HF.get lk4 11 rfl), (He.eqO_ok (HF.get lk5 0 rfl))⟩, mk_Wall := ⟨(HF.get lk5 1 rfl), (He.eqO_ok (HF.get lk5 2 rfl)), (HF.get lk5 3 rfl), (HF.get lk5 4 rfl)⟩, na_Free_row := (He.eqO_ok (HF.get lk5 5 rfl)), na_Free_name := (He.eqO_ok (HF.get lk5 6 rfl)), na_Free_mass := (He.eqO_ok (HF.get lk5 7 rfl)), cl_Free := ⟨(HF.get lk5 8 rfl), (HF.get lk5 9 rfl), (HF.get lk5 10 rfl), (He.eqO_ok (HF.get lk5 11 rfl))⟩, mk_Free := ⟨(HF.get lk6 0 rfl), (He.eqO_ok (HF.get lk6 1 rfl)), (HF.get lk5 3 rfl), (HF.get lk6 2 rfl)⟩, na_Railed_row := (He.eqO_ok (HF.get lk6 3 rfl)), na_Railed_name := (He.eqO_ok (HF.get lk6 4 rfl)), na_Railed_mass := (He.eqO_ok (HF.get lk6 5 rfl)), cl_Railed := ⟨(HF.get lk6 6 rfl), (HF.get lk6 7 rfl), (HF.get lk6 8 rfl), (He.eqO_ok (HF.get lk6 9 rfl))⟩, mk_Railed := ⟨(HF.get lk6 10 rfl), (He.eqO_ok (HF.get lk6 11 rfl)), (HF.get lk5 3 rfl), (HF.get lk7 0 rfl)⟩, oe_fn := (HF.get lk3 7 rfl), oe_ic := (HF.get lk7 1 rfl), oe_ty := (HF.eqV_ok (HF.get lk7 2 rfl)), oe_eq_Wall := (He.eqO_ok (HF.get lk7 3 rfl)), oe_ne_Wall := (He.eqO_ok (HF.get lk7 4 rfl)), oe_ob_Wall := (HF.eqB_ok (HF.get lk7 5 rfl)), oe_tp_Wall := (HF.eqB_ok (HF.get lk7 6 rfl)), oe_ls_Wall := (HF.eqB_ok (HF.get lk7 7 rfl)), oe_st_Wall := (HF.eqB_ok (HF.get lk7 8 rfl)), oe_it_Wall := (HF.eqB_ok (HF.get lk7 9 rfl)), oe_bl_Wall := (HF.eqB_ok (HF.get lk7 10 rfl)), oe_nn_Wall := (HF.eqB_ok (HF.get lk7 11 rfl)), oe_nf_Wall_Wall := (HF.get lk8 0 rfl), oe_nf_Wall_Free := (HF.get lk8 1 rfl), oe_nf_Wall_Railed := (HF.get lk8 2 rfl), oe_eq_Free := (He.eqO_ok (HF.get lk8 3 rfl)), oe_ne_Free := (He.eqO_ok (HF.get lk8 4 rfl)), oe_ob_Free := (HF.eqB_ok (HF.get lk8 5 rfl)), oe_tp_Free := (HF.eqB_ok (HF.get lk8 6 rfl)), oe_ls_Free := (HF.eqB_ok (HF.get lk8 7 rfl)), oe_st_Free := (HF.eqB_ok (HF.get lk8 8 rfl)), oe_it_Free := (HF.eqB_ok (HF.get lk8 9 rfl)), oe_bl_Free := (HF.eqB_ok (HF.get lk8 10 rfl)), oe_nn_Free := (HF.eqB_ok (HF.get lk8 11 rfl)), oe_nf_Free_Wall := (HF.get lk9 0 rfl), oe_nf_Free_Free := (HF.get lk9 1 rfl), oe_nf_Free_Railed := (HF.get lk9 2 rfl), oe_eq_Railed := (He.eqO_ok (HF.get lk9 3 rfl)), oe_ne_Railed := (He.eqO_ok (HF.get lk9 4 rfl)), oe_ob_Railed := (HF.eqB_ok (HF.get lk9 5 rfl)), oe_tp_Railed := (HF.eqB_ok (HF.get lk9 6 rfl)), oe_ls_Railed := (HF.eqB_ok (HF.get lk9 7 rfl)), oe_st_Railed := (HF.eqB_ok (HF.get lk9 8 rfl)), oe_it_Railed := (HF.eqB_ok (HF.get lk9 9 rfl)), oe_bl_Railed := (HF.eqB_ok (HF.get lk9 10 rfl)), oe_nn_Railed := (HF.eqB_ok (HF.get lk9 11 rfl)), oe_nf_Railed_Wall := (HF.get lk10 0 rfl), oe_nf_Railed_Free := (HF.get lk10 1 rfl), oe_nf_Railed_Railed := (HF.get lk10 2 rfl), in1_Wall := (He.eqO_ok (HF.get lk10 3 rfl)), in2_Wall := (He.eqO_ok (HF.get lk10 4 rfl)), in3_Wall := (HF.eqB_ok (HF.get lk10 5 rfl)), in4_Wall := (HF.eqB_ok (HF.get lk10 6 rfl)), in1_Free := (He.eqO_ok (HF.get lk10 7 rfl)), in2_Free := (He.eqO_ok (HF.get lk10 4 rfl)), in3_Free := (HF.eqB_ok (HF.get lk10 5 rfl)), in4_Free := (HF.eqB_ok (HF.get lk10 8 rfl)), in1_Railed := (He.eqO_ok (HF.get lk10 9 rfl)), in2_Railed := (He.eqO_ok (HF.get lk10 4 rfl)), in3_Railed := (HF.eqB_ok (HF.get lk10 5 rfl)), in4_Railed := (HF.eqB_ok (HF.get lk10 10 rfl)), i_Wall_Wall := kit_ref (HF.get lk11 0 rfl) (HF.eqV_ok (HF.get lk11 1 rfl)) (HF.eqB_ok (HF.get lk10 11 rfl)) (HF.eqB_ok (HF.get lk10 11 rfl)), i_Wall_Free := kit_ref (HF.get lk11 2 rfl) (HF.eqV_ok (HF.get lk11 3 rfl)) (HF.eqB_ok (HF.get lk11 4 rfl)) (HF.eqB_ok (HF.get lk10 11 rfl)), i_Wall_Railed := kit_ref (HF.get lk11 5 rfl) (HF.eqV_ok (HF.get lk11 6 rfl)) (HF.eqB_ok (HF.get lk11 7 rfl)) (HF.eqB_ok (HF.get lk10 11 rfl)), i_Wall_Body := kit_ref (HF.get lk7 1 rfl) (HF.eqV_ok (HF.get lk7 2 rfl)) (HF.eqB_ok (HF.get lk11 8 rfl)) (HF.eqB_ok (HF.get lk10 11 rfl)), i_Free_Wall := kit_ref (HF.get lk11 0 rfl) (HF.eqV_ok (HF.get lk11 1 rfl)) (HF.eqB_ok (HF.get lk11 10 rfl)) (HF.eqB_ok (HF.get lk11 9 rfl)), i_Free_Free := kit_ref (HF.get lk11 2 rfl) (HF.eqV_ok (HF.get lk11 3 rfl)) (HF.eqB_ok (HF.get lk11 9 rfl)) (HF.eqB_ok (HF.get lk11 9 rfl)), i_Free_Railed := kit_ref (HF.get lk11 5 rfl) (HF.eqV_ok (HF.get lk11 6 rfl)) (HF.eqB_ok (HF.get lk11 11 rfl)) (HF.eqB_ok (HF.get lk11 9 rfl)), i_Free_Body := kit_ref (HF.get lk7 1 rfl) (HF.eqV_ok (HF.get lk7 2 rfl)) (HF.eqB_ok (HF.get lk12 0 rfl)) (HF.eqB_ok (HF.get lk11 9 rfl)), i_Railed_Wall := kit_ref (HF.get lk11 0 rfl) (HF.eqV_ok (HF.get lk11 1 rfl)) (HF.eqB_ok (HF.get lk12 2 rfl)) (HF.eqB_ok (HF.get lk12 1 rfl)), i_Railed_Free := kit_ref (HF.get lk11 2 rfl) (HF.eqV_ok (HF.get lk11 3 rfl)) (HF.eqB_ok (HF.get lk12 3 rfl)) (HF.eqB_ok (HF.get lk12 1 rfl)), i_Railed_Railed := kit_ref (HF.get lk11 5 rfl) (HF.eqV_ok (HF.get lk11 6 rfl)) (HF.eqB_ok (HF.get lk12 1 rfl)) (HF.eqB_ok (HF.get lk12 1 rfl)), i_Railed_Body := kit_ref (HF.get lk7 1 rfl) (HF.eqV_ok (HF.get lk7 2 rfl)) (HF.eqB_ok (HF.get lk12 4 rfl)) (HF.eqB_ok (HF.get lk12 1 rfl)) }
  refine ⟨fd_law, fun s v => ?_, fun base _ _ => ok_law (A := A0) T⟩
  obtain ⟨⟨oc, od, kV, doc, pm, an, cdv, ct, osl, rfl, _⟩, _⟩ := F_law
  exact .of_eq rfl
end R
open PySem PySem.W PyProof.Rows
set_option maxRecDepth 100000 in
set_option maxHeartbeats 0 in
theorem PySem.Challenge.cw_restbodies_k12_bodies_alike_holds : PySem.Challenge.rw_restbodies_k12_bodies_alike.Holds := by
  w_on; o_law
  refine HandSHeadRun.head_any (r := R.RR) (q := view R.RR.prog [36]) (H := R.HF.hook R.hdD) (ob := R.HF.ob R.hdD) (M := 40000) (loose := R.loose) (d := HandSHeadRun.topDef R.RR.prog 36) (kwd := []) (R.HF.ob_eq R.hdD) (by kernel_rfl) (fun s => by kernel_rfl) R.topRun (by kernel_rfl) (by kernel_rfl) (by kernel_rfl) (by rfl) (by first | assumption | decide +kernel) (by decide +kernel) ⟨rfl, rfl, rfl, rfl, rfl, by decide +kernel⟩ ?hw ?hc
  case hw => w_witness2
  case hc =>
    refine L2.walk_ofE (l := PySem.Challenge.rw_restbodies_k12_bodies_alike) (n := 63) (k := 12) (x := "_law_script") (CX := L2.CX0) rfl (by decide) (by kernel_rfl) ⟨rfl, by decide, by decide⟩ ?F (fun _ _ _ _ z => z)
    intro w mg fa h Y G hmg0
    obtain ⟨K, KX, c⟩ := Y
    have hmg : mg ("law" : PySem.Str) = some (.ref fa) := by
      have e : (HandSHeadRun.topDef R.RR.prog 36).name = ("law" : PySem.Str) := by kernel_rfl
      rw [← e]
      exact hmg0
    obtain ⟨fd, hb, hF⟩ := R.all_hd (w := w) KX G hmg c
    exact ⟨K, fd, R.sp_law K, KX, hb, fun H a ns hl hO hS => ⟨a, ns, rfl, hO, hS, hl, fun _ => rfl⟩, hF⟩
