import PyProof.Rows.All
import Wide.All
import OpenK.AllK
import Wide.FinOn
import HandS.ForMost
import HandS.More
import HandS.IsInst
import HandS.FStr
import HandS.Star
import HandS.Wide
import HandS.TupAny
import HandS.Walk
import PySem.Challenge.RW_conceptworlds_k01_concepts
set_option Elab.async false
set_option maxRecDepth 100000
set_option linter.all false
namespace K1
open PySem L2
def top (i : Nat) : Stmt := PySem.Challenge.pw_conceptworlds_k01_concepts.main.body.getD i (.Pass ⟨0, 0, 0, 0⟩)
/-- a def of the program's top: where it stands, and that its name names it -/
structure Tx (K : PySem.W.Frag) (mg : Str → Option Value) (x : Str) (st : Stmt) (ps : List Str) : Type where
  f : Addr
  fd : FuncData
  F : Fun K x x st f fd
  m : mg x = some (.ref f)
  b : Binds K fd ps []
abbrev s_is_word : Stmt := top 7
theorem sc_is_word : FnScope ["thing", "sign"] ["thing"] (defScope s_is_word) := ⟨rfl, rfl, rfl, by decide +kernel, rfl, by decide +kernel, by decide +kernel⟩
abbrev s_is_concept : Stmt := top 8
theorem sc_is_concept : FnScope ["thing"] ["thing"] (defScope s_is_concept) := ⟨rfl, rfl, rfl, by decide +kernel, rfl, by decide +kernel, by decide +kernel⟩
abbrev s_is_nested : Stmt := top 9
theorem sc_is_nested : FnScope ["thing", "levels", "part"] ["thing", "levels"] (defScope s_is_nested) := ⟨rfl, rfl, rfl, by decide +kernel, rfl, by decide +kernel, by decide +kernel⟩
abbrev s_need_concept : Stmt := top 10
theorem sc_need_concept : FnScope ["thing"] ["thing"] (defScope s_need_concept) := ⟨rfl, rfl, rfl, by decide +kernel, rfl, by decide +kernel, by decide +kernel⟩
abbrev s_need_concepts : Stmt := top 11
theorem sc_need_concepts : FnScope ["things", "thing"] ["things"] (defScope s_need_concepts) := ⟨rfl, rfl, rfl, by decide +kernel, rfl, by decide +kernel, by decide +kernel⟩
abbrev s_inner : Stmt := top 12
theorem sc_inner : FnScope ["concept"] ["concept"] (defScope s_inner) := ⟨rfl, rfl, rfl, by decide +kernel, rfl, by decide +kernel, by decide +kernel⟩
abbrev s_gather : Stmt := top 13
theorem sc_gather : FnScope ["concept", "found", "told", "pieces", "part", "piece"] ["concept", "found"] (defScope s_gather) := ⟨rfl, rfl, rfl, by decide +kernel, rfl, by decide +kernel, by decide +kernel⟩
abbrev s_text_of : Stmt := top 14
theorem sc_text_of : FnScope ["concept"] ["concept"] (defScope s_text_of) := ⟨rfl, rfl, rfl, by decide +kernel, rfl, by decide +kernel, by decide +kernel⟩
abbrev s_depth_of : Stmt := top 15
theorem sc_depth_of : FnScope ["concept", "deepest", "part"] ["concept"] (defScope s_depth_of) := ⟨rfl, rfl, rfl, by decide +kernel, rfl, by decide +kernel, by decide +kernel⟩
abbrev s_size_of : Stmt := top 16
theorem sc_size_of : FnScope ["concept", "total", "part"] ["concept"] (defScope s_size_of) := ⟨rfl, rfl, rfl, by decide +kernel, rfl, by decide +kernel, by decide +kernel⟩
abbrev s_collect_words : Stmt := top 17
theorem sc_collect_words : FnScope ["concept", "names", "roles", "part"] ["concept", "names", "roles"] (defScope s_collect_words) := ⟨rfl, rfl, rfl, by decide +kernel, rfl, by decide +kernel, by decide +kernel⟩
abbrev s_told_words : Stmt := top 18
theorem sc_told_words : FnScope ["names", "roles"] ["names", "roles"] (defScope s_told_words) := ⟨rfl, rfl, rfl, by decide +kernel, rfl, by decide +kernel, by decide +kernel⟩
abbrev s_parts : Stmt := top 19
theorem sc_parts : FnScope ["concept", "found", "told"] ["concept"] (defScope s_parts) := ⟨rfl, rfl, rfl, by decide +kernel, rfl, by decide +kernel, by decide +kernel⟩
abbrev s_size : Stmt := top 20
theorem sc_size : FnScope ["concept"] ["concept"] (defScope s_size) := ⟨rfl, rfl, rfl, by decide +kernel, rfl, by decide +kernel, by decide +kernel⟩
abbrev s_depth : Stmt := top 21
theorem sc_depth : FnScope ["concept"] ["concept"] (defScope s_depth) := ⟨rfl, rfl, rfl, by decide +kernel, rfl, by decide +kernel, by decide +kernel⟩
abbrev s_text : Stmt := top 22
theorem sc_text : FnScope ["concept"] ["concept"] (defScope s_text) := ⟨rfl, rfl, rfl, by decide +kernel, rfl, by decide +kernel, by decide +kernel⟩
abbrev s_words_in : Stmt := top 23
theorem sc_words_in : FnScope ["concepts", "names", "roles", "concept"] ["concepts"] (defScope s_words_in) := ⟨rfl, rfl, rfl, by decide +kernel, rfl, by decide +kernel, by decide +kernel⟩
abbrev s_law_cell_at : Stmt := top 25
theorem sc_law_cell_at : FnScope ["script", "k"] ["script", "k"] (defScope s_law_cell_at) := ⟨rfl, rfl, rfl, by decide +kernel, rfl, by decide +kernel, by decide +kernel⟩
abbrev s_law_draw : Stmt := top 26
theorem sc_law_draw : FnScope ["cell", "k", "bound", "primes"] ["cell", "k", "bound"] (defScope s_law_draw) := ⟨rfl, rfl, rfl, by decide +kernel, rfl, by decide +kernel, by decide +kernel⟩
abbrev s_law_number : Stmt := top 27
theorem sc_law_number : FnScope ["cell", "k", "bound", "power", "lap", "remains", "small"] ["cell", "k", "bound"] (defScope s_law_number) := ⟨rfl, rfl, rfl, by decide +kernel, rfl, by decide +kernel, by decide +kernel⟩
abbrev s_law_next : Stmt := top 28
theorem sc_law_next : FnScope ["draw", "bound", "at", "cell"] ["draw", "bound"] (defScope s_law_next) := ⟨rfl, rfl, rfl, by decide +kernel, rfl, by decide +kernel, by decide +kernel⟩
abbrev s_law_pick : Stmt := top 29
theorem sc_law_pick : FnScope ["draw", "things"] ["draw", "things"] (defScope s_law_pick) := ⟨rfl, rfl, rfl, by decide +kernel, rfl, by decide +kernel, by decide +kernel⟩
abbrev s_law_word : Stmt := top 30
theorem sc_law_word : FnScope ["draw", "letters", "many", "word", "turn"] ["draw"] (defScope s_law_word) := ⟨rfl, rfl, rfl, by decide +kernel, rfl, by decide +kernel, by decide +kernel⟩
abbrev s_law_vocab : Stmt := top 31
theorem sc_law_vocab : FnScope ["draw", "many", "found", "turn", "word", "spare", "one"] ["draw", "many"] (defScope s_law_vocab) := ⟨rfl, rfl, rfl, by decide +kernel, rfl, by decide +kernel, by decide +kernel⟩
abbrev s_law_atom : Stmt := top 32
theorem sc_law_atom : FnScope ["draw", "names", "turn"] ["draw", "names"] (defScope s_law_atom) := ⟨rfl, rfl, rfl, by decide +kernel, rfl, by decide +kernel, by decide +kernel⟩
abbrev s_law_concept : Stmt := top 33
theorem sc_law_concept : FnScope ["draw", "names", "roles", "deep", "turn", "pieces"] ["draw", "names", "roles", "deep"] (defScope s_law_concept) := ⟨rfl, rfl, rfl, by decide +kernel, rfl, by decide +kernel, by decide +kernel⟩
abbrev s_law_parts : Stmt := top 34
theorem sc_law_parts : FnScope ["concept", "found", "part"] ["concept"] (defScope s_law_parts) := ⟨rfl, rfl, rfl, by decide +kernel, rfl, by decide +kernel, by decide +kernel⟩
abbrev s_law_depth : Stmt := top 35
theorem sc_law_depth : FnScope ["concept", "part"] ["concept"] (defScope s_law_depth) := ⟨rfl, rfl, rfl, by decide +kernel, rfl, by decide +kernel, by decide +kernel⟩
abbrev s_law_size : Stmt := top 36
theorem sc_law_size : FnScope ["concept", "part"] ["concept"] (defScope s_law_size) := ⟨rfl, rfl, rfl, by decide +kernel, rfl, by decide +kernel, by decide +kernel⟩
abbrev s_law_text : Stmt := top 37
theorem sc_law_text : FnScope ["concept", "rows", "part", "row"] ["concept"] (defScope s_law_text) := ⟨rfl, rfl, rfl, by decide +kernel, rfl, by decide +kernel, by decide +kernel⟩
abbrev s_law_ordered : Stmt := top 38
theorem sc_law_ordered : FnScope ["concepts", "rows", "concept", "at", "one", "row"] ["concepts"] (defScope s_law_ordered) := ⟨rfl, rfl, rfl, by decide +kernel, rfl, by decide +kernel, by decide +kernel⟩
abbrev s_law_words : Stmt := top 39
theorem sc_law_words : FnScope ["concepts", "names", "roles", "concept", "part"] ["concepts"] (defScope s_law_words) := ⟨rfl, rfl, rfl, by decide +kernel, rfl, by decide +kernel, by decide +kernel⟩
abbrev s_law_spoilt : Stmt := top 40
theorem sc_law_spoilt : FnScope ["draw", "concept", "word"] ["draw", "concept"] (defScope s_law_spoilt) := ⟨rfl, rfl, rfl, by decide +kernel, rfl, by decide +kernel, by decide +kernel⟩
abbrev s_law : Stmt := top 41
theorem sc_law : FnScope ["script", "draw", "names", "roles", "found", "concept", "bad", "good", "rest", "turn", "one", "word"] ["script"] (defScope s_law) := ⟨rfl, rfl, rfl, by decide +kernel, rfl, by decide +kernel, by decide +kernel⟩
/-- what the top has written -/
structure Defs (K : PySem.W.Frag) (mg : Str → Option Value) : Type where
  d_is_word : Tx K mg "is_word" s_is_word ["thing"]
  d_is_concept : Tx K mg "is_concept" s_is_concept ["thing"]
  d_is_nested : Tx K mg "_is_nested" s_is_nested ["thing", "levels"]
  d_need_concept : Tx K mg "need_concept" s_need_concept ["thing"]
  d_need_concepts : Tx K mg "need_concepts" s_need_concepts ["things"]
  d_inner : Tx K mg "inner" s_inner ["concept"]
  d_gather : Tx K mg "gather" s_gather ["concept", "found"]
  d_text_of : Tx K mg "text_of" s_text_of ["concept"]
  d_depth_of : Tx K mg "depth_of" s_depth_of ["concept"]
  d_size_of : Tx K mg "size_of" s_size_of ["concept"]
  d_collect_words : Tx K mg "collect_words" s_collect_words ["concept", "names", "roles"]
  d_told_words : Tx K mg "told_words" s_told_words ["names", "roles"]
  d_parts : Tx K mg "parts" s_parts ["concept"]
  d_size : Tx K mg "size" s_size ["concept"]
  d_depth : Tx K mg "depth" s_depth ["concept"]
  d_text : Tx K mg "text" s_text ["concept"]
  d_law_cell_at : Tx K mg "_law_cell_at" s_law_cell_at ["script", "k"]
  d_law_draw : Tx K mg "_law_draw" s_law_draw ["cell", "k", "bound"]
  d_law_number : Tx K mg "_law_number" s_law_number ["cell", "k", "bound"]
  d_law_next : Tx K mg "_law_next" s_law_next ["draw", "bound"]
  d_law_pick : Tx K mg "_law_pick" s_law_pick ["draw", "things"]
  d_law_word : Tx K mg "_law_word" s_law_word ["draw"]
  d_law_vocab : Tx K mg "_law_vocab" s_law_vocab ["draw", "many"]
  d_law_atom : Tx K mg "_law_atom" s_law_atom ["draw", "names"]
  d_law_concept : Tx K mg "_law_concept" s_law_concept ["draw", "names", "roles", "deep"]
  d_law_parts : Tx K mg "_law_parts" s_law_parts ["concept"]
  d_law_depth : Tx K mg "_law_depth" s_law_depth ["concept"]
  d_law_size : Tx K mg "_law_size" s_law_size ["concept"]
  d_law_text : Tx K mg "_law_text" s_law_text ["concept"]
  d_law_ordered : Tx K mg "_law_ordered" s_law_ordered ["concepts"]
  d_law_words : Tx K mg "_law_words" s_law_words ["concepts"]
  d_law_spoilt : Tx K mg "_law_spoilt" s_law_spoilt ["draw", "concept"]
  d_law : Tx K mg "law" s_law ["script"]
  wi : Addr
  wi_m : mg "words_in" = some (.ref wi)
  wi_k : PySem.W.keepIn K (.ref wi) = true
  wi_l : ∃ (oc : Value) (od : Option Addr) (kV doc pm : Value) (an : Option Addr) (cdv ct : Value) (osl : Array (Option Value)), K.lookup wi = some ⟨oc, od, .func (PySem.W.fnOf "words_in" "words_in" (defArgs s_words_in) (defBody s_words_in) (defScope s_words_in) .none kV doc pm an cdv ct), osl⟩ ∧ PySem.W.codeIn K cdv "words_in" = true
  law_b : ∀ (s : Shared) (v : Value), BindsTo s d_law.fd ⟨[v], []⟩ [("script", v)]
  nw : Addr
  nw_m : mg "NO_WORDS" = some (.ref nw)
  nw_l : SqT K (fun _ => none) nw [.str "all", .str "none", .str "some"]
  lo_m : ∃ t, mg "LONGEST" = some (.int 12 t)
  de_m : ∃ t, mg "DEEPEST" = some (.int 100 t)
  z_isinstance : mg "isinstance" = none
  z_str : mg "str" = none
  z_len : mg "len" = none
  z_tuple : mg "tuple" = none
  z_max : mg "max" = none
  z_sorted : mg "sorted" = none
  z_range : mg "range" = none
  z_int : mg "int" = none
  z_sum : mg "sum" = none
  z_enumerate : mg "enumerate" = none
  z_any : mg "any" = none
end K1
namespace K1
open PySem L2
/-! ### the data: concepts as trees -/
inductive Con where
  | atom (s : Str)
  | ex (r : Str) (c : Con)
  | and2 (a b : Con)
  | and3 (a b c : Con)
abbrev cs (x : Str) : List Nat := x.cps.toList
theorem str_ext {a b : Str} (h : cs a = cs b) : a = b := by
  cases a; cases b
  simp only [cs, Array.toList_inj] at h
  rw [h]
def letters (l : List Nat) : Bool := l.all fun c => decide (97 ≤ c) && decide (c ≤ 122)
def noWords : List Str := ["all", "none", "some"]
def wordOk (s : Str) : Bool := decide (1 ≤ s.length) && decide (s.length ≤ 12) && !decide (s ∈ noWords) && letters (cs s)
def nest : Con → Nat
  | .atom _ => 0
  | .ex _ c => nest c + 1
  | .and2 a b => max (nest a) (nest b) + 1
  | .and3 a b c => max (nest a) (max (nest b) (nest c)) + 1
def nodes : Con → Nat
  | .atom _ => 1
  | .ex _ c => nodes c + 1
  | .and2 a b => nodes a + nodes b + 1
  | .and3 a b c => nodes a + (nodes b + nodes c) + 1
/-- the words of a concept are told ones -/
def In (N R : List Str) : Con → Prop
  | .atom s => s = "all" ∨ s = "none" ∨ s ∈ N
  | .ex r c => r ∈ R ∧ In N R c
  | .and2 a b => In N R a ∧ In N R b
  | .and3 a b c => In N R a ∧ In N R b ∧ In N R c
def Good (c : Con) : Prop := ∃ N R, (∀ x ∈ N, wordOk x = true) ∧ (∀ x ∈ R, wordOk x = true) ∧ In N R c
/-- texts -/
def isAnd : Con → Bool
  | .and2 _ _ => true
  | .and3 _ _ _ => true
  | _ => false
def wrap (b : Bool) (l : List Nat) : List Nat := if b then 40 :: (l ++ [41]) else l
def txt : Con → List Nat
  | .atom s => cs s
  | .ex r c => [115, 111, 109, 101, 32] ++ (cs r ++ (32 :: wrap (isAnd c) (txt c)))
  | .and2 a b => wrap (isAnd a) (txt a) ++ ([32, 38, 32] ++ wrap (isAnd b) (txt b))
  | .and3 a b c => wrap (isAnd a) (txt a) ++ ([32, 38, 32] ++ (wrap (isAnd b) (txt b) ++ ([32, 38, 32] ++ wrap (isAnd c) (txt c))))
abbrev par (c : Con) : List Nat := wrap (isAnd c) (txt c)
def End (x : List Nat) : Prop := ∀ c r, x = c :: r → c = 32 ∨ c = 41
theorem end_nil : End [] := fun _ _ h => nomatch h
theorem end_32 {x} : End (32 :: x) := fun c r h => .inl (by injection h with h _; exact h.symm)
theorem end_41 {x} : End (41 :: x) := fun c r h => .inr (by injection h with h _; exact h.symm)
theorem split_letters : ∀ {s t x y : List Nat}, letters s = true → letters t = true → End x → End y → s ++ x = t ++ y → s = t ∧ x = y
  | [], [], x, y, _, _, _, _, h => ⟨rfl, h⟩
  | [], d :: t, x, y, _, ht, ex, _, h => by
    simp [letters] at ht
    rcases ex d (t ++ y) h with rfl | rfl <;> omega
  | c :: s, [], x, y, hs, _, _, ey, h => by
    simp [letters] at hs
    rcases ey c (s ++ x) h.symm with rfl | rfl <;> omega
  | c :: s, d :: t, x, y, hs, ht, ex, ey, h => by
    simp only [List.cons_append, List.cons.injEq] at h
    simp only [letters, List.all_cons, Bool.and_eq_true] at hs ht
    obtain ⟨h1, h2⟩ := split_letters (s := s) (t := t) hs.2 ht.2 ex ey h.2
    exact ⟨by rw [h.1, h1], h2⟩
/-- what a word of a concept is -/
def Wd (s : Str) : Prop := letters (cs s) = true ∧ cs s ≠ [] ∧ cs s ≠ [115, 111, 109, 101]
def Wf : Con → Prop
  | .atom s => Wd s
  | .ex r c => Wd r ∧ Wf c
  | .and2 a b => Wf a ∧ Wf b
  | .and3 a b c => Wf a ∧ Wf b ∧ Wf c
theorem par_atom {s : Str} : par (.atom s) = cs s := rfl
theorem par_ex {r : Str} {c : Con} : par (.ex r c) = [115, 111, 109, 101, 32] ++ (cs r ++ (32 :: par c)) := rfl
theorem par_and2 {a b : Con} : par (.and2 a b) = 40 :: ((par a ++ ([32, 38, 32] ++ par b)) ++ [41]) := rfl
theorem par_and3 {a b c : Con} : par (.and3 a b c) = 40 :: ((par a ++ ([32, 38, 32] ++ (par b ++ ([32, 38, 32] ++ par c)))) ++ [41]) := rfl
theorem atom_ex {s r : Str} {c : Con} {x y : List Nat} (hs : Wd s) (ex : End x) (h : par (.atom s) ++ x = par (.ex r c) ++ y) : False := by
  rw [par_atom, par_ex] at h
  have h' : cs s ++ x = [115, 111, 109, 101] ++ (32 :: (cs r ++ (32 :: par c) ++ y)) := by rw [h]; simp
  exact hs.2.2 (split_letters hs.1 (by decide) ex end_32 h').1
theorem atom_40 {s : Str} {x y : List Nat} (hs : Wd s) (h : cs s ++ x = 40 :: y) : False := by
  cases e : cs s with
  | nil => exact hs.2.1 e
  | cons c l =>
    rw [e] at h
    have h1 := hs.1
    rw [e] at h1
    simp only [List.cons_append, List.cons.injEq] at h
    simp [letters] at h1
    omega
theorem par_inj : ∀ (a b : Con) (x y : List Nat), Wf a → Wf b → End x → End y → par a ++ x = par b ++ y → a = b ∧ x = y
  | .atom s, .atom t, x, y, ha, hb, ex, ey, h => by
    obtain ⟨h1, h2⟩ := split_letters (show letters (cs s) = true from ha.1) (show letters (cs t) = true from hb.1) ex ey h
    exact ⟨by rw [str_ext h1], h2⟩
  | .atom s, .ex r c, x, y, ha, _, ex, _, h => (atom_ex ha ex h).elim
  | .atom s, .and2 p q, x, y, ha, _, ex, _, h => (atom_40 ha (show cs s ++ x = 40 :: _ from h)).elim
  | .atom s, .and3 p q r, x, y, ha, _, ex, _, h => (atom_40 ha (show cs s ++ x = 40 :: _ from h)).elim
  | .ex r c, .atom t, x, y, _, hb, _, ey, h => (atom_ex hb ey h.symm).elim
  | .ex r c, .ex r' c', x, y, ha, hb, ex, ey, h => by
    rw [par_ex, par_ex] at h
    simp only [List.append_assoc, List.cons_append, List.nil_append, List.cons.injEq, true_and] at h
    obtain ⟨h1, h2⟩ := split_letters ha.1.1 hb.1.1 end_32 end_32 h
    simp only [List.cons.injEq, true_and] at h2
    obtain ⟨h3, h4⟩ := par_inj c c' x y ha.2 hb.2 ex ey h2
    exact ⟨by rw [str_ext h1, h3], h4⟩
  | .ex r c, .and2 p q, x, y, _, _, _, _, h => by
    rw [par_ex, par_and2] at h
    simp at h
  | .ex r c, .and3 p q s, x, y, _, _, _, _, h => by
    rw [par_ex, par_and3] at h
    simp at h
  | .and2 p q, .atom t, x, y, _, hb, _, ey, h => (atom_40 hb (show cs t ++ y = 40 :: _ from h.symm)).elim
  | .and2 p q, .ex r c, x, y, _, _, _, _, h => by
    rw [par_ex, par_and2] at h
    simp at h
  | .and2 p q, .and2 p' q', x, y, ha, hb, ex, ey, h => by
    rw [par_and2, par_and2] at h
    simp only [List.append_assoc, List.cons_append, List.nil_append, List.cons.injEq, true_and] at h
    obtain ⟨h1, h2⟩ := par_inj p p' _ _ ha.1 hb.1 end_32 end_32 h
    simp only [List.cons.injEq, true_and] at h2
    obtain ⟨h3, h4⟩ := par_inj q q' _ _ ha.2 hb.2 end_41 end_41 h2
    simp only [List.cons.injEq, true_and] at h4
    exact ⟨by rw [h1, h3], h4⟩
  | .and2 p q, .and3 p' q' s, x, y, ha, hb, ex, ey, h => by
    rw [par_and2, par_and3] at h
    simp only [List.append_assoc, List.cons_append, List.nil_append, List.cons.injEq, true_and] at h
    obtain ⟨h1, h2⟩ := par_inj p p' _ _ ha.1 hb.1 end_32 end_32 h
    simp only [List.cons.injEq, true_and] at h2
    obtain ⟨h3, h4⟩ := par_inj q q' _ _ ha.2 hb.2.1 end_41 end_32 h2
    simp at h4
  | .and3 p q s, .atom t, x, y, _, hb, _, ey, h => (atom_40 hb (show cs t ++ y = 40 :: _ from h.symm)).elim
  | .and3 p q s, .ex r c, x, y, _, _, _, _, h => by
    rw [par_ex, par_and3] at h
    simp at h
  | .and3 p q s, .and2 p' q', x, y, ha, hb, ex, ey, h => by
    rw [par_and2, par_and3] at h
    simp only [List.append_assoc, List.cons_append, List.nil_append, List.cons.injEq, true_and] at h
    obtain ⟨h1, h2⟩ := par_inj p p' _ _ ha.1 hb.1 end_32 end_32 h
    simp only [List.cons.injEq, true_and] at h2
    obtain ⟨h3, h4⟩ := par_inj q q' _ _ ha.2.1 hb.2 end_32 end_41 h2
    simp at h4
  | .and3 p q s, .and3 p' q' s', x, y, ha, hb, ex, ey, h => by
    rw [par_and3, par_and3] at h
    simp only [List.append_assoc, List.cons_append, List.nil_append, List.cons.injEq, true_and] at h
    obtain ⟨h1, h2⟩ := par_inj p p' _ _ ha.1 hb.1 end_32 end_32 h
    simp only [List.cons.injEq, true_and] at h2
    obtain ⟨h3, h4⟩ := par_inj q q' _ _ ha.2.1 hb.2.1 end_32 end_32 h2
    simp only [List.cons.injEq, true_and] at h4
    obtain ⟨h5, h6⟩ := par_inj s s' _ _ ha.2.2 hb.2.2 end_41 end_41 h4
    simp only [List.cons.injEq, true_and] at h6
    exact ⟨by rw [h1, h3, h5], h6⟩
/-- an and's text begins with its first part's and goes on with a blank -/
theorem txt_and {a : Con} (h : isAnd a = true) : ∃ p r, txt a = par p ++ (32 :: r) ∧ (Wf a → Wf p) := by
  cases a with
  | atom s => cases h
  | ex r c => cases h
  | and2 p q => exact ⟨p, 38 :: 32 :: par q, rfl, fun w => w.1⟩
  | and3 p q s => exact ⟨p, 38 :: 32 :: (par q ++ ([32, 38, 32] ++ par s)), rfl, fun w => w.1⟩
theorem par_no {c : Con} (h : isAnd c = false) : par c = txt c := by
  unfold par wrap
  rw [h]
  rfl
theorem txt_inj {a b : Con} (ha : Wf a) (hb : Wf b) (h : txt a = txt b) : a = b := by
  have key : ∀ c d : Con, Wf c → Wf d → isAnd c = true → isAnd d = false → txt c = txt d → False := by
    intro c d hc hd h1 h2 e
    obtain ⟨p, r, e1, w⟩ := txt_and h1
    have z : par p ++ (32 :: r) = par d ++ [] := by rw [List.append_nil, par_no h2, ← e, e1]
    have z2 := (par_inj p d _ _ (w hc) hd end_32 end_nil z).2
    cases z2
  cases h1 : isAnd a with
  | true =>
    cases h2 : isAnd b with
    | true =>
      have z : par a ++ [] = par b ++ [] := by
        unfold par wrap
        rw [h1, h2, h]
      exact (par_inj a b _ _ ha hb end_nil end_nil z).1
    | false => exact (key a b ha hb h1 h2 h).elim
  | false =>
    cases h2 : isAnd b with
    | true => exact (key b a hb ha h2 h1 h.symm).elim
    | false =>
      have z : par a ++ [] = par b ++ [] := by rw [List.append_nil, List.append_nil, par_no h1, par_no h2, h]
      exact (par_inj a b _ _ ha hb end_nil end_nil z).1
theorem wd_of {s : Str} (h : wordOk s = true) : Wd s := by
  unfold wordOk at h
  simp only [Bool.and_eq_true, decide_eq_true_eq, Bool.not_eq_true', decide_eq_false_iff_not] at h
  obtain ⟨⟨⟨h1, h2⟩, h3⟩, h4⟩ := h
  refine ⟨h4, fun e => ?_, fun e => ?_⟩
  · have : s.length = (cs s).length := rfl
    rw [e] at this
    simp at this
    omega
  · have : s = ("some" : Str) := str_ext (by rw [e]; decide +kernel)
    exact h3 (by rw [this]; decide +kernel)
theorem wf_of {N R : List Str} (hN : ∀ x ∈ N, wordOk x = true) (hR : ∀ x ∈ R, wordOk x = true) : ∀ {c : Con}, In N R c → Wf c
  | .atom s, h => by
    rcases h with h | h | h
    · rw [h]; exact ⟨by decide +kernel, by decide +kernel, by decide +kernel⟩
    · rw [h]; exact ⟨by decide +kernel, by decide +kernel, by decide +kernel⟩
    · exact wd_of (hN _ h)
  | .ex r c, h => ⟨wd_of (hR _ h.1), wf_of hN hR h.2⟩
  | .and2 a b, h => ⟨wf_of hN hR h.1, wf_of hN hR h.2⟩
  | .and3 a b c, h => ⟨wf_of hN hR h.1, wf_of hN hR h.2.1, wf_of hN hR h.2.2⟩
/-! ### ascending lists -/
def ltb (a b : Str) : Bool := PySem.Spec.ltCps (cs a) (cs b)
theorem ltc_irrefl : ∀ a : List Nat, PySem.Spec.ltCps a a = false
  | [] => rfl
  | a :: r => by simp [PySem.Spec.ltCps, ltc_irrefl r]
theorem ltc_trans : ∀ {a b c : List Nat}, PySem.Spec.ltCps a b = true → PySem.Spec.ltCps b c = true → PySem.Spec.ltCps a c = true
  | [], [], _, h, _ => by simp [PySem.Spec.ltCps] at h
  | [], _ :: _, [], _, h => by simp [PySem.Spec.ltCps] at h
  | [], _ :: _, _ :: _, _, _ => rfl
  | _ :: _, [], _, h, _ => by simp [PySem.Spec.ltCps] at h
  | _ :: _, _ :: _, [], _, h => by simp [PySem.Spec.ltCps] at h
  | a :: r, b :: t, c :: u, h1, h2 => by
    simp only [PySem.Spec.ltCps, Bool.or_eq_true, Bool.and_eq_true, decide_eq_true_eq, beq_iff_eq] at h1 h2 ⊢
    rcases h1 with h1 | ⟨rfl, h1⟩
    · rcases h2 with h2 | ⟨rfl, h2⟩
      · exact .inl (by omega)
      · exact .inl h1
    · rcases h2 with h2 | ⟨rfl, h2⟩
      · exact .inl h2
      · exact .inr ⟨rfl, ltc_trans h1 h2⟩
theorem ltc_total : ∀ {a b : List Nat}, PySem.Spec.ltCps a b = false → PySem.Spec.ltCps b a = false → a = b
  | [], [], _, _ => rfl
  | [], _ :: _, h, _ => by simp [PySem.Spec.ltCps] at h
  | _ :: _, [], _, h => by simp [PySem.Spec.ltCps] at h
  | a :: r, b :: t, h1, h2 => by
    simp only [PySem.Spec.ltCps, Bool.or_eq_false_iff, Bool.and_eq_false_imp, decide_eq_false_iff_not, beq_iff_eq] at h1 h2
    have e : a = b := by omega
    subst e
    rw [ltc_total (h1.2 rfl) (h2.2 rfl)]
theorem ltb_irrefl (a : Str) : ltb a a = false := ltc_irrefl _
theorem ltb_trans {a b c : Str} (h : ltb a b = true) (h' : ltb b c = true) : ltb a c = true := ltc_trans h h'
theorem ltb_total {a b : Str} (h : ltb a b = false) (h' : ltb b a = false) : a = b := str_ext (ltc_total h h')
theorem leb_trans {a b c : Str} (h : ltb b a = false) (h' : ltb c b = false) : ltb c a = false := by
  cases q : ltb c a with
  | false => rfl
  | true =>
    cases q2 : ltb b c with
    | true => rw [ltb_trans q2 q] at h; cases h
    | false =>
      have e := ltb_total h' q2
      subst e
      rw [h] at q
      cases q
def Asc (l : List Str) : Prop := l.Pairwise fun a b => ltb a b = true
def Weak (l : List Str) : Prop := l.Pairwise fun a b => ltb b a = false
theorem rising_weak : ∀ {p : Str} {l : List Str}, PyProof.Rows.risingS p l = true → Weak (p :: l)
  | p, [], _ => List.pairwise_singleton _ _
  | p, x :: r, h => by
    unfold PyProof.Rows.risingS at h
    simp only [Bool.and_eq_true, Bool.not_eq_true'] at h
    have ih := rising_weak h.2
    refine List.pairwise_cons.mpr ⟨fun y hy => ?_, ih⟩
    rcases List.mem_cons.mp hy with rfl | hy
    · exact h.1
    · exact leb_trans h.1 ((List.pairwise_cons.mp ih).1 y hy)
theorem weak_of {l : List Str} (h : PyProof.Rows.sortedS l = true) : Weak l := by
  cases l with
  | nil => exact List.Pairwise.nil
  | cons x r => exact rising_weak h
theorem asc_of {l : List Str} (h : Weak l) (nd : l.Nodup) : Asc l := by
  refine (h.and nd).imp ?_
  intro a b ⟨h1, h2⟩
  cases q : ltb a b with
  | true => rfl
  | false => exact (h2 (ltb_total q h1)).elim
theorem asc_uniq : ∀ {l m : List Str}, Asc l → Asc m → (∀ x, x ∈ l ↔ x ∈ m) → l = m
  | [], [], _, _, _ => rfl
  | [], y :: m, _, _, h => absurd ((h y).mpr (List.mem_cons_self ..)) (by simp)
  | x :: l, [], _, _, h => absurd ((h x).mp (List.mem_cons_self ..)) (by simp)
  | x :: l, y :: m, h1, h2, h => by
    have a1 := List.pairwise_cons.mp h1
    have a2 := List.pairwise_cons.mp h2
    have e : x = y := by
      rcases List.mem_cons.mp ((h x).mp (List.mem_cons_self ..)) with e | e
      · exact e
      · rcases List.mem_cons.mp ((h y).mpr (List.mem_cons_self ..)) with e' | e'
        · exact e'.symm
        · have q := ltb_trans (a1.1 y e') (a2.1 x e)
          rw [ltb_irrefl] at q
          cases q
    subst e
    rw [asc_uniq a1.2 a2.2 fun z => ?_]
    constructor
    · intro hz
      rcases List.mem_cons.mp ((h z).mp (List.mem_cons_of_mem _ hz)) with e | e
      · subst e
        have q := a1.1 z hz
        rw [ltb_irrefl] at q
        cases q
      · exact e
    · intro hz
      rcases List.mem_cons.mp ((h z).mpr (List.mem_cons_of_mem _ hz)) with e | e
      · subst e
        have q := a2.1 z hz
        rw [ltb_irrefl] at q
        cases q
      · exact e
/-! ### sizes -/
theorem nest_le_nodes : ∀ c : Con, nest c ≤ nodes c
  | .atom _ => Nat.zero_le _
  | .ex _ c => Nat.succ_le_succ (nest_le_nodes c)
  | .and2 a b => by have := nest_le_nodes a; have := nest_le_nodes b; unfold nest nodes; omega
  | .and3 a b c => by have := nest_le_nodes a; have := nest_le_nodes b; have := nest_le_nodes c; unfold nest nodes; omega
theorem nodes_pos : ∀ c : Con, 1 ≤ nodes c
  | .atom _ => Nat.le_refl _
  | .ex _ c => by unfold nodes; omega
  | .and2 a b => by unfold nodes; omega
  | .and3 a b c => by unfold nodes; omega
theorem word_len {s : Str} (h : wordOk s = true) : (cs s).length ≤ 12 := by
  unfold wordOk at h
  simp only [Bool.and_eq_true, decide_eq_true_eq] at h
  exact h.1.1.2
theorem wrap_len (b : Bool) (l : List Nat) : (wrap b l).length ≤ l.length + 2 := by
  unfold wrap
  split <;> simp
theorem txt_len {N R : List Str} (hN : ∀ x ∈ N, wordOk x = true) (hR : ∀ x ∈ R, wordOk x = true) : ∀ {c : Con}, In N R c → (txt c).length + 2 ≤ 24 * nodes c
  | .atom s, h => by
    have : (cs s).length ≤ 12 := by
      rcases h with h | h | h
      · rw [h]; decide +kernel
      · rw [h]; decide +kernel
      · exact word_len (hN _ h)
    simp only [txt, nodes]
    omega
  | .ex r c, h => by
    have := txt_len hN hR h.2
    have := word_len (hR _ h.1)
    have := wrap_len (isAnd c) (txt c)
    simp only [txt, nodes, List.length_append, List.length_cons, List.length_nil]
    omega
  | .and2 a b, h => by
    have := txt_len hN hR h.1
    have := txt_len hN hR h.2
    have := wrap_len (isAnd a) (txt a)
    have := wrap_len (isAnd b) (txt b)
    simp only [txt, nodes, List.length_append, List.length_cons, List.length_nil]
    omega
  | .and3 a b c, h => by
    have := txt_len hN hR h.1
    have := txt_len hN hR h.2.1
    have := txt_len hN hR h.2.2
    have := wrap_len (isAnd a) (txt a)
    have := wrap_len (isAnd b) (txt b)
    have := wrap_len (isAnd c) (txt c)
    simp only [txt, nodes, List.length_append, List.length_cons, List.length_nil]
    omega
/-! ### parts, depth, size, words -/
def prt : Con → List Con
  | .atom s => [.atom s]
  | .ex r c => .ex r c :: prt c
  | .and2 a b => .and2 a b :: (prt a ++ prt b)
  | .and3 a b c => .and3 a b c :: (prt a ++ (prt b ++ prt c))
theorem prt_len : ∀ c : Con, (prt c).length = nodes c
  | .atom _ => rfl
  | .ex r c => by simp [prt, nodes, prt_len c]
  | .and2 a b => by simp [prt, nodes, prt_len a, prt_len b]
  | .and3 a b c => by simp [prt, nodes, prt_len a, prt_len b, prt_len c]
theorem prt_self : ∀ c : Con, c ∈ prt c
  | .atom _ => by simp [prt]
  | .ex r c => by simp [prt]
  | .and2 a b => by simp [prt]
  | .and3 a b c => by simp [prt]
theorem prt_in {N R : List Str} : ∀ {c : Con}, In N R c → ∀ p ∈ prt c, In N R p
  | .atom s, h, p, hp => by simp only [prt, List.mem_singleton] at hp; subst hp; exact h
  | .ex r c, h, p, hp => by
    simp only [prt, List.mem_cons] at hp
    rcases hp with rfl | hp
    · exact h
    · exact prt_in h.2 p hp
  | .and2 a b, h, p, hp => by
    simp only [prt, List.mem_cons, List.mem_append] at hp
    rcases hp with rfl | hp | hp
    · exact h
    · exact prt_in h.1 p hp
    · exact prt_in h.2 p hp
  | .and3 a b c, h, p, hp => by
    simp only [prt, List.mem_cons, List.mem_append] at hp
    rcases hp with rfl | hp | hp | hp
    · exact h
    · exact prt_in h.1 p hp
    · exact prt_in h.2.1 p hp
    · exact prt_in h.2.2 p hp
def dep : Con → Int
  | .atom _ => 0
  | .ex _ c => dep c + 1
  | .and2 a b => max (dep a) (dep b)
  | .and3 a b c => max (dep a) (max (dep b) (dep c))
theorem dep_nn : ∀ c : Con, 0 ≤ dep c
  | .atom _ => Int.le_refl _
  | .ex _ c => by have := dep_nn c; unfold dep; omega
  | .and2 a b => by have := dep_nn a; unfold dep; omega
  | .and3 a b c => by have := dep_nn a; unfold dep; omega
def siz : Con → Int
  | .atom s => if s = "all" ∨ s = "none" then 0 else 1
  | .ex _ c => 1 + siz c
  | .and2 a b => siz a + siz b
  | .and3 a b c => siz a + siz b + siz c
/-- a name that a concept is -/
def isName (s : Str) : Prop := ¬ (s = "all" ∨ s = "none")
def nms : Con → List Str
  | .atom s => if s = "all" ∨ s = "none" then [] else [s]
  | .ex _ c => nms c
  | .and2 a b => nms a ++ nms b
  | .and3 a b c => nms a ++ (nms b ++ nms c)
def rls : Con → List Str
  | .atom _ => []
  | .ex r c => r :: rls c
  | .and2 a b => rls a ++ rls b
  | .and3 a b c => rls a ++ (rls b ++ rls c)
theorem nms_in {N R : List Str} : ∀ {c : Con}, In N R c → ∀ x ∈ nms c, x ∈ N
  | .atom s, h, x, hx => by
    unfold nms at hx
    split at hx
    · simp at hx
    · rename_i q
      simp only [List.mem_singleton] at hx
      subst hx
      rcases h with h | h | h
      · exact (q (.inl h)).elim
      · exact (q (.inr h)).elim
      · exact h
  | .ex r c, h, x, hx => nms_in h.2 x hx
  | .and2 a b, h, x, hx => by
    simp only [nms, List.mem_append] at hx
    rcases hx with hx | hx
    · exact nms_in h.1 x hx
    · exact nms_in h.2 x hx
  | .and3 a b c, h, x, hx => by
    simp only [nms, List.mem_append] at hx
    rcases hx with hx | hx | hx
    · exact nms_in h.1 x hx
    · exact nms_in h.2.1 x hx
    · exact nms_in h.2.2 x hx
theorem rls_in {N R : List Str} : ∀ {c : Con}, In N R c → ∀ x ∈ rls c, x ∈ R
  | .atom s, h, x, hx => by simp [rls] at hx
  | .ex r c, h, x, hx => by
    simp only [rls, List.mem_cons] at hx
    rcases hx with rfl | hx
    · exact h.1
    · exact rls_in h.2 x hx
  | .and2 a b, h, x, hx => by
    simp only [rls, List.mem_append] at hx
    rcases hx with hx | hx
    · exact rls_in h.1 x hx
    · exact rls_in h.2 x hx
  | .and3 a b c, h, x, hx => by
    simp only [rls, List.mem_append] at hx
    rcases hx with hx | hx | hx
    · exact rls_in h.1 x hx
    · exact rls_in h.2.1 x hx
    · exact rls_in h.2.2 x hx
/-- a list without repeats whose members are all in another one is no longer than it -/
theorem nodup_le : ∀ {l m : List Str}, l.Nodup → (∀ x ∈ l, x ∈ m) → l.length ≤ m.length
  | [], _, _, _ => Nat.zero_le _
  | x :: l, m, nd, h => by
    have h1 := List.nodup_cons.mp nd
    have hx := h x (List.mem_cons_self ..)
    have ih := nodup_le (l := l) (m := m.erase x) h1.2 fun y hy => by
      have ne : y ≠ x := fun e => h1.1 (e ▸ hy)
      exact (List.mem_erase_of_ne ne).mpr (h y (List.mem_cons_of_mem _ hy))
    rw [List.length_erase_of_mem hx] at ih
    have pos : 0 < m.length := List.length_pos_of_mem hx
    rw [List.length_cons]
    omega
end K1
namespace K1
open PySem L2
/-! ### what stands in the heap -/
theorem same_new {H : Hp} {p : Addr} (h : H p = none) (o : HO) : Same H (upd H p o) := fun b u q => by rw [upd_ne (ne_of_none q h)]; exact q
theorem Same.tup {H H' : Hp} {K : PySem.W.Frag} {a : Addr} {xs : List V} (e : Same H H') (h : SqT K H a xs) : SqT K H' a xs := by
  rcases h with (h | ⟨o, h⟩) | h
  · exact .inl (.inl (e _ _ h))
  · exact .inl (.inr ⟨o, e _ _ h⟩)
  · exact .inr h
theorem sqt_k {H' : Hp} {K : PySem.W.Frag} {a : Addr} {xs : List V} (h : SqT K (fun _ => none) a xs) : SqT K H' a xs := by
  rcases h with (h | ⟨o, h⟩) | h
  · cases h
  · cases h
  · exact .inr h
theorem take_more {α : Type} : ∀ {l : List α} {i : Nat} {x : α}, l[i]? = some x → l.take (i + 1) = l.take i ++ [x]
  | [], i, x, h => by simp at h
  | a :: l, 0, x, h => by
    have e : a = x := Option.some.inj h
    subst e
    rfl
  | a :: l, i + 1, x, h => by
    have ih := take_more (l := l) (i := i) (x := x) h
    show a :: l.take (i + 1) = a :: l.take i ++ [x]
    rw [ih]
    rfl
theorem paired_get {α β : Type} {F : α → β → Prop} : ∀ {xs : List α} {us : List β} {i : Nat} {u : β}, Paired F xs us → us[i]? = some u → ∃ x, xs[i]? = some x ∧ F x u
  | _, _, _, _, .nil, e => by simp at e
  | _, _, 0, _, .cons r _, e => by simp at e; subst e; exact ⟨_, rfl, r⟩
  | _, _, i + 1, u, .cons _ t, e => by
    obtain ⟨x, h1, h2⟩ := paired_get (i := i) (u := u) t (by simpa using e)
    exact ⟨x, by simpa using h1, h2⟩
theorem paired_get2 {α β : Type} {F : α → β → Prop} : ∀ {xs : List α} {us : List β} {i : Nat} {x : α}, Paired F xs us → xs[i]? = some x → ∃ u, us[i]? = some u ∧ F x u
  | _, _, _, _, .nil, e => by simp at e
  | _, _, 0, _, .cons r _, e => by simp at e; subst e; exact ⟨_, rfl, r⟩
  | _, _, i + 1, x, .cons _ t, e => by
    obtain ⟨u, h1, h2⟩ := paired_get2 (i := i) (x := x) t (by simpa using e)
    exact ⟨u, by simpa using h1, h2⟩
theorem paired_len {α β : Type} {F : α → β → Prop} : ∀ {xs : List α} {us : List β}, Paired F xs us → xs.length = us.length
  | _, _, .nil => rfl
  | _, _, .cons _ t => by simp [paired_len t]
theorem paired_snoc {α β : Type} {F : α → β → Prop} {x : α} {u : β} (h : F x u) : ∀ {xs : List α} {us : List β}, Paired F xs us → Paired F (xs ++ [x]) (us ++ [u])
  | _, _, .nil => .cons h .nil
  | _, _, .cons r t => .cons r (paired_snoc h t)
/-- a value that isinstance may be asked of -/
def Pl (H : Hp) : V → Prop
  | .non => True
  | .bl _ => True
  | .int _ => True
  | .str s => s.length ≤ 1000
  | .ref a => (∃ xs, H a = some (.lst xs)) ∨ ∃ xs, H a = some (.tup xs)
  | _ => False
theorem Pl.same {H H' : Hp} (e : Same H H') : ∀ {v : V}, Pl H v → Pl H' v
  | .non, h => h
  | .bl _, h => h
  | .int _, h => h
  | .str _, h => h
  | .ref a, h => by
    rcases h with ⟨xs, h⟩ | ⟨xs, h⟩
    · exact .inl ⟨xs, e _ _ h⟩
    · exact .inr ⟨xs, e _ _ h⟩
  | .byt _, h => h.elim
  | .flt _, h => h.elim
  | .ty _, h => h.elim
def isStr : V → Bool
  | .str _ => true
  | _ => false
def isTup (H : Hp) : V → Bool
  | .ref a => match H a with
    | some (.tup _) => true
    | _ => false
  | _ => false
theorem kbs1 : kitB "NoneType" "str" = some false := by decide +kernel
theorem kbs2 : kitB "bool" "str" = some false := by decide +kernel
theorem kbs3 : kitB "int" "str" = some false := by decide +kernel
theorem kbs4 : kitB "str" "str" = some true := by decide +kernel
theorem kbs5 : kitB "list" "str" = some false := by decide +kernel
theorem kbs6 : kitB "tuple" "str" = some false := by decide +kernel
theorem kbt1 : kitB "NoneType" "tuple" = some false := by decide +kernel
theorem kbt2 : kitB "bool" "tuple" = some false := by decide +kernel
theorem kbt3 : kitB "int" "tuple" = some false := by decide +kernel
theorem kbt4 : kitB "str" "tuple" = some false := by decide +kernel
theorem kbt5 : kitB "list" "tuple" = some false := by decide +kernel
theorem kbt6 : kitB "tuple" "tuple" = some true := by decide +kernel
theorem isTup_lst {H : Hp} {a : Addr} {xs : List V} (h : H a = some (.lst xs)) : isTup H (.ref a) = false := by simp [isTup, h]
theorem isTup_tup {H : Hp} {a : Addr} {xs : List V} (h : H a = some (.tup xs)) : isTup H (.ref a) = true := by simp [isTup, h]
theorem pl_str {K : PySem.W.Frag} {H : Hp} : ∀ {v : V}, Pl H v → ∃ t, TyX K H v t ∧ PySem.W.kitOne K t (.type "str") = some (isStr v)
  | .non, _ => ⟨_, .base .non, kit_ty kbs1⟩
  | .bl b, _ => ⟨_, .base (.bl b), kit_ty kbs2⟩
  | .int i, _ => ⟨_, .base (.int i), kit_ty kbs3⟩
  | .str s, _ => ⟨_, .base (.str s), kit_ty kbs4⟩
  | .ref a, h => by
    rcases h with ⟨xs, h⟩ | ⟨xs, h⟩
    · exact ⟨_, .base (.lst h), kit_ty kbs5⟩
    · exact ⟨_, .base (.tup h), kit_ty kbs6⟩
  | .byt _, h => h.elim
  | .flt _, h => h.elim
  | .ty _, h => h.elim
theorem pl_tup {K : PySem.W.Frag} {H : Hp} : ∀ {v : V}, Pl H v → ∃ t, TyX K H v t ∧ PySem.W.kitOne K t (.type "tuple") = some (isTup H v)
  | .non, _ => ⟨_, .base .non, kit_ty kbt1⟩
  | .bl b, _ => ⟨_, .base (.bl b), kit_ty kbt2⟩
  | .int i, _ => ⟨_, .base (.int i), kit_ty kbt3⟩
  | .str s, _ => ⟨_, .base (.str s), kit_ty kbt4⟩
  | .ref a, h => by
    rcases h with ⟨xs, h⟩ | ⟨xs, h⟩
    · exact ⟨_, .base (.lst h), by rw [isTup_lst h]; exact kit_ty kbt5⟩
    · exact ⟨_, .base (.tup h), by rw [isTup_tup h]; exact kit_ty kbt6⟩
  | .byt _, h => h.elim
  | .flt _, h => h.elim
  | .ty _, h => h.elim
def isWordV : V → Bool
  | .str s => wordOk s
  | _ => false
/-- what _is_nested answers -/
def nestedB (H : Hp) : Nat → V → Bool
  | 0, .str s => decide (s = "all" ∨ s = "none") || wordOk s
  | 0, _ => false
  | n + 1, .str s => decide (s = "all" ∨ s = "none") || wordOk s
  | n + 1, .ref a => match H a with
    | some (.tup (.str k :: x :: y :: r)) =>
      if k = "some" then decide (r = []) && (isWordV x && nestedB H n y)
      else if k = "and" then (x :: y :: r).all (nestedB H n) else false
    | _ => false
  | _ + 1, _ => false
theorem nestedB_str {H : Hp} {n : Nat} {s : Str} : nestedB H n (.str s) = (decide (s = "all" ∨ s = "none") || wordOk s) := by cases n <;> rfl
/-- known so deep that it can be asked -/
def Kn (H : Hp) : Nat → V → Prop
  | 0, v => Pl H v ∧ ∀ a xs, v = .ref a → H a ≠ some (.tup xs)
  | m + 1, v => Pl H v ∧ ∀ a xs, v = .ref a → H a = some (.tup xs) → ∀ x ∈ xs, Kn H m x
theorem Kn.pl {H : Hp} : ∀ {m : Nat} {v : V}, Kn H m v → Pl H v
  | 0, _, h => h.1
  | _ + 1, _, h => h.1
theorem Kn.same {H H' : Hp} (e : Same H H') : ∀ {m : Nat} {v : V}, Kn H m v → Kn H' m v
  | 0, v, h => ⟨h.1.same e, fun a xs hv q => by
    subst hv
    rcases h.1 with ⟨ys, g⟩ | ⟨ys, g⟩
    · rw [e _ _ g] at q; cases q
    · exact h.2 _ _ rfl g⟩
  | m + 1, v, h => ⟨h.1.same e, fun a xs hv q x hx => by
    subst hv
    rcases h.1 with ⟨ys, g⟩ | ⟨ys, g⟩
    · rw [e _ _ g] at q; cases q
    · have q' := e _ _ g
      rw [q] at q'
      cases q'
      exact Kn.same e (h.2 _ _ rfl g x hx)⟩
theorem nestedB_same {H H' : Hp} (e : Same H H') : ∀ {n m : Nat} {v : V}, Kn H m v → nestedB H' n v = nestedB H n v
  | n, m, .str s, _ => by rw [nestedB_str, nestedB_str]
  | 0, m, .ref a, _ => rfl
  | n + 1, m, .ref a, h => by
    rcases h.pl with ⟨ys, g⟩ | ⟨ys, g⟩
    · simp only [nestedB, g, e _ _ g]
    · have hk : ∀ x ∈ ys, ∃ m', Kn H m' x := by
        cases m with
        | zero => exact (h.2 _ _ rfl g).elim
        | succ m => exact fun x hx => ⟨m, h.2 _ _ rfl g x hx⟩
      simp only [nestedB, g, e _ _ g]
      split
      · rename_i k x y r hz
        cases hz
        have key : ∀ z ∈ (x :: y :: r), nestedB H' n z = nestedB H n z := fun z hz => by
          obtain ⟨m', q⟩ := hk z (List.mem_cons_of_mem _ hz)
          exact nestedB_same e q
        rw [key y (by simp)]
        have e2 : (x :: y :: r).all (nestedB H' n) = (x :: y :: r).all (nestedB H n) := by
          rw [Bool.eq_iff_iff, List.all_eq_true, List.all_eq_true]
          exact ⟨fun z w hw => (key w hw) ▸ z w hw, fun z w hw => (key w hw).symm ▸ z w hw⟩
        rw [e2]
      · rfl
  | 0, m, .non, _ => rfl
  | 0, m, .bl _, _ => rfl
  | 0, m, .int _, _ => rfl
  | 0, m, .byt _, _ => rfl
  | 0, m, .flt _, _ => rfl
  | 0, m, .ty _, _ => rfl
  | n + 1, m, .non, _ => rfl
  | n + 1, m, .bl _, _ => rfl
  | n + 1, m, .int _, _ => rfl
  | n + 1, m, .byt _, _ => rfl
  | n + 1, m, .flt _, _ => rfl
  | n + 1, m, .ty _, _ => rfl
/-- the value v stands for the concept c -/
def ConAt (H : Hp) : Con → V → Prop
  | .atom s, v => v = .str s ∧ s.length ≤ 12
  | .ex r c, v => ∃ p u, v = .ref p ∧ H p = some (.tup [.str "some", .str r, u]) ∧ ConAt H c u ∧ r.length ≤ 12
  | .and2 a b, v => ∃ p u1 u2, v = .ref p ∧ H p = some (.tup [.str "and", u1, u2]) ∧ ConAt H a u1 ∧ ConAt H b u2
  | .and3 a b c, v => ∃ p u1 u2 u3, v = .ref p ∧ H p = some (.tup [.str "and", u1, u2, u3]) ∧ ConAt H a u1 ∧ ConAt H b u2 ∧ ConAt H c u3
theorem ConAt.same {H H' : Hp} (e : Same H H') : ∀ {c : Con} {v : V}, ConAt H c v → ConAt H' c v
  | .atom s, v, h => h
  | .ex r c, v, ⟨p, u, h1, h2, h3, h9⟩ => ⟨p, u, h1, e _ _ h2, h3.same e, h9⟩
  | .and2 a b, v, ⟨p, u1, u2, h1, h2, h3, h4⟩ => ⟨p, u1, u2, h1, e _ _ h2, h3.same e, h4.same e⟩
  | .and3 a b c, v, ⟨p, u1, u2, u3, h1, h2, h3, h4, h5⟩ => ⟨p, u1, u2, u3, h1, e _ _ h2, h3.same e, h4.same e, h5.same e⟩
def kids : Con → List Con
  | .atom _ => []
  | .ex _ c => [c]
  | .and2 a b => [a, b]
  | .and3 a b c => [a, b, c]
theorem con_pl {H : Hp} : ∀ {c : Con} {v : V}, ConAt H c v → Pl H v
  | .atom s, v, h => by
    obtain ⟨rfl, h⟩ := h
    exact Nat.le_trans h (by decide)
  | .ex r c, v, ⟨p, u, h1, h2, h3, h9⟩ => by subst h1; exact .inr ⟨_, h2⟩
  | .and2 a b, v, ⟨p, u1, u2, h1, h2, _⟩ => by subst h1; exact .inr ⟨_, h2⟩
  | .and3 a b c, v, ⟨p, u1, u2, u3, h1, h2, _⟩ => by subst h1; exact .inr ⟨_, h2⟩
theorem kn_str {H : Hp} {m : Nat} {s : Str} (h : s.length ≤ 1000) : Kn H m (.str s) := by
  cases m with
  | zero => exact ⟨h, fun _ _ z => nomatch z⟩
  | succ m => exact ⟨h, fun _ _ z => nomatch z⟩
theorem con_kn {H : Hp} : ∀ {c : Con} {v : V} {m : Nat}, ConAt H c v → nest c ≤ m → Kn H m v
  | .atom s, v, m, h, _ => by
    obtain ⟨rfl, h⟩ := h
    exact kn_str (Nat.le_trans h (by decide))
  | .ex r c, v, m, ⟨p, u, h1, h2, h3, h9⟩, hm => by
    subst h1
    cases m with
    | zero => exact absurd hm (by simp [nest])
    | succ m =>
      refine ⟨.inr ⟨_, h2⟩, fun a xs e q x hx => ?_⟩
      cases e
      rw [h2] at q
      cases q
      simp only [List.mem_cons, List.not_mem_nil, or_false] at hx
      rcases hx with rfl | rfl | rfl
      · exact kn_str (by decide +kernel)
      · exact kn_str (Nat.le_trans h9 (by decide))
      · exact con_kn h3 (by simp only [nest] at hm; omega)
  | .and2 a b, v, m, ⟨p, u1, u2, h1, h2, h3, h4⟩, hm => by
    subst h1
    cases m with
    | zero => exact absurd hm (by simp [nest])
    | succ m =>
      refine ⟨.inr ⟨_, h2⟩, fun a xs e q x hx => ?_⟩
      cases e
      rw [h2] at q
      cases q
      simp only [List.mem_cons, List.not_mem_nil, or_false] at hx
      simp only [nest] at hm
      rcases hx with rfl | rfl | rfl
      · exact kn_str (by decide +kernel)
      · exact con_kn h3 (by omega)
      · exact con_kn h4 (by omega)
  | .and3 a b c, v, m, ⟨p, u1, u2, u3, h1, h2, h3, h4, h5⟩, hm => by
    subst h1
    cases m with
    | zero => exact absurd hm (by simp [nest])
    | succ m =>
      refine ⟨.inr ⟨_, h2⟩, fun a xs e q x hx => ?_⟩
      cases e
      rw [h2] at q
      cases q
      simp only [List.mem_cons, List.not_mem_nil, or_false] at hx
      simp only [nest] at hm
      rcases hx with rfl | rfl | rfl | rfl
      · exact kn_str (by decide +kernel)
      · exact con_kn h3 (by omega)
      · exact con_kn h4 (by omega)
      · exact con_kn h5 (by omega)
theorem con_nested {N R : List Str} (hN : ∀ x ∈ N, wordOk x = true) (hR : ∀ x ∈ R, wordOk x = true) {H : Hp} : ∀ {c : Con} {v : V} {n : Nat}, In N R c → ConAt H c v → nest c ≤ n → nestedB H n v = true
  | .atom s, v, n, hi, h, _ => by
    obtain ⟨rfl, h'⟩ := h
    rw [nestedB_str]
    rcases hi with h | h | h
    · rw [h]; decide +kernel
    · rw [h]; decide +kernel
    · rw [hN _ h, Bool.or_true]
  | .ex r c, v, n, hi, ⟨p, u, h1, h2, h3, h9⟩, hm => by
    subst h1
    cases n with
    | zero => exact absurd hm (by simp [nest])
    | succ n =>
      have ih := con_nested hN hR hi.2 h3 (n := n) (by simp only [nest] at hm; omega)
      simp [nestedB, h2, isWordV, hR _ hi.1, ih]
  | .and2 a b, v, n, hi, ⟨p, u1, u2, h1, h2, h3, h4⟩, hm => by
    subst h1
    cases n with
    | zero => exact absurd hm (by simp [nest])
    | succ n =>
      simp only [nest] at hm
      have i1 := con_nested hN hR hi.1 h3 (n := n) (by omega)
      have i2 := con_nested hN hR hi.2 h4 (n := n) (by omega)
      have e : ¬ (("and" : Str) = "some") := by decide +kernel
      simp [nestedB, h2, i1, i2, e]
  | .and3 a b c, v, n, hi, ⟨p, u1, u2, u3, h1, h2, h3, h4, h5⟩, hm => by
    subst h1
    cases n with
    | zero => exact absurd hm (by simp [nest])
    | succ n =>
      simp only [nest] at hm
      have i1 := con_nested hN hR hi.1 h3 (n := n) (by omega)
      have i2 := con_nested hN hR hi.2.1 h4 (n := n) (by omega)
      have i3 := con_nested hN hR hi.2.2 h5 (n := n) (by omega)
      have e : ¬ (("and" : Str) = "some") := by decide +kernel
      simp [nestedB, h2, i1, i2, i3, e]
end K1
namespace K1
open PySem L2
theorem inV_str (s : Str) : ∀ l : List Str, inV (.str s) (l.map V.str) = decide (s ∈ l)
  | [] => by simp [inV]
  | x :: l => by
    have ih := inV_str s l
    unfold inV at ih ⊢
    rw [List.map_cons, List.any_cons, ih]
    by_cases h : x = s
    · subst h; simp [eqV]
    · have h' : ¬ s = x := fun e => h e.symm
      simp [eqV, h, h']
theorem flat_strs : ∀ l : List Str, (l.map V.str).all flatV = true
  | [] => rfl
  | x :: l => by rw [List.map_cons, List.all_cons, flat_strs l]; rfl
section
variable {X : Cx}
/-- a text in a list or tuple of texts -/
def rInT (K : PySem.W.Frag) (neg : Bool) : R2 := fun x y H Q => ∃ (s : Str) (p : Addr) (l : List Str), x = .str s ∧ y = .ref p ∧ (SqL K H p (l.map V.str) ∨ SqT K H p (l.map V.str)) ∧ Q (.bl (if neg then !decide (s ∈ l) else decide (s ∈ l))) H
theorem op_inT : OpR X (compareOp .In) (rInT X.K false) := by
  intro pins s σ H x y v u Q I rx ry h
  obtain ⟨z, p, l, rfl, rfl, hq, q⟩ := h
  exact op_in_seq pins s σ H _ _ v u Q I rx ry ⟨p, l.map V.str, rfl, hq, rfl, flat_strs l, by rw [inV_str]; exact q⟩
theorem op_notInT : OpR X (compareOp .NotIn) (rInT X.K true) := by
  intro pins s σ H x y v u Q I rx ry h
  obtain ⟨z, p, l, rfl, rfl, hq, q⟩ := h
  exact op_notIn_seq pins s σ H _ _ v u Q I rx ry ⟨p, l.map V.str, rfl, hq, rfl, flat_strs l, by rw [inV_str]; exact q⟩
end
/-- the same within a comprehension -/
theorem op_inTK {X : Cx} {K : PySem.W.Frag} (h : X.K = K) : OpR X (compareOp .In) (rInT K false) := by subst h; exact op_inT
theorem op_notInTK {X : Cx} {K : PySem.W.Frag} (h : X.K = K) : OpR X (compareOp .NotIn) (rInT K true) := by subst h; exact op_notInT
theorem ix_listK {X : Cx} {K : PySem.W.Frag} (h : X.K = K) : IxR X (rIxL K) := by subst h; exact ix_list
theorem lt_a (c : Nat) : decide (([c] : List Nat) < ("a" : Str).cps.toList) = decide (c < 97) := by
  have e : ("a" : Str).cps.toList = [97] := by decide +kernel
  rw [e]
  by_cases h : c < 97
  · rw [decide_eq_true h]
    exact decide_eq_true (List.Lex.rel h)
  · rw [decide_eq_false h, decide_eq_false]
    intro z
    cases z with
    | rel z => exact h z
    | cons z => cases z
theorem lt_z (c : Nat) : decide (("z" : Str).cps.toList < ([c] : List Nat)) = decide (122 < c) := by
  have e : ("z" : Str).cps.toList = [122] := by decide +kernel
  rw [e]
  by_cases h : 122 < c
  · rw [decide_eq_true h]
    exact decide_eq_true (List.Lex.rel h)
  · rw [decide_eq_false h, decide_eq_false]
    intro z
    cases z with
    | rel z => exact h z
    | cons z => cases z
theorem letters_snoc {l : List Nat} {c : Nat} : letters (l ++ [c]) = (letters l && (decide (97 ≤ c) && decide (c ≤ 122))) := by
  unfold letters
  rw [List.all_append]
  simp
theorem letters_get {l : List Nat} {i c : Nat} (h : letters l = true) (hc : l[i]? = some c) : 97 ≤ c ∧ c ≤ 122 := by
  unfold letters at h
  rw [List.all_eq_true] at h
  have := h c (List.mem_of_getElem? hc)
  simpa using this
end K1
namespace K1
open PySem L2
section
variable {P : Program} {w : World} {K : PySem.W.Frag} {mg : Str → Option Value} {base : Heap}
/-! ### is_word -/
def spIsWord : Sp := fun vs H Q _ => ∃ v, vs = [v] ∧ Pl H v ∧ Q (.bl (isWordV v)) H
theorem ok_is_word (D : Defs K mg) : FnOk P w K mg base CX0 1 D.d_is_word.f D.d_is_word.fd ["thing"] spIsWord := by
  refine D.d_is_word.F.ok sc_is_word (fun vs H Q E h => ?_) (fun cdv A outer s H vs Q E hr h => ?_)
  · obtain ⟨v, rfl, _⟩ := h
    rfl
  obtain ⟨v, rfl, hp, q⟩ := h
  obtain ⟨tL, hL⟩ := D.lo_m
  refine ⟨_, pss_cons (ps_if (PW.pt (pw_or (pt_not (pt_val (pe_callB call_isi (by rfl) D.z_isinstance (by decide +kernel) (pa_cons (pv 0) (pa_cons (pe_bltn (v := .ty "str") (by rfl) D.z_str (by decide +kernel) rfl) pa_nil)))))
      (pw_or (pt_not (pt_chain op_le op_le pe_int (pe_callB call_len_str (by rfl) D.z_len PySem.boot_len (pa_cons (pv 0) pa_nil)) (pe_glob (v := .int 12) (by rfl) hL ⟨_, rfl⟩)))
        (pw_or1 (pt_cmpR op_inT (pv 0) (pe_glob (v := .ref D.nw) (by rfl) D.nw_m rfl) (by rfl))))))
      (pss_one (ps_ret pe_bl)) pss_nil)
    (pss_cons (ps_for PassesOwn.never rfl (pi_str (pv 0)) (pg_name (i := 1) sc_is_word.nd rfl (Or.inl rfl))
        (pss_one (ps_if (pt_not (pt_chain op_le_str op_le_str pe_str (pv 1) pe_str)) (pss_one (ps_ret pe_bl)) pss_nil)))
    (pss_one (ps_ret pe_bl))), ?_⟩
  obtain ⟨t, ty, kt⟩ := pl_str (K := K) hp
  refine ⟨_, rfl, _, _, _, _, _, rfl, .ty _, ty, kt, _, rfl, ?_⟩
  cases e : isStr v with
  | false =>
    refine iteT (iteT ?_)
    have e2 : isWordV v = false := by cases v <;> first | rfl | (cases e)
    rw [← e2]
    exact q
  | true =>
    obtain ⟨s, rfl⟩ : ∃ s, v = .str s := by cases v <;> first | exact ⟨_, rfl⟩ | (cases e)
    have hl : s.length ≤ 1000 := hp
    refine iteF ?_
    refine ⟨_, rfl, _, rfl, Nat.le_of_lt (small1000 hl), _, _, rfl, rfl, _, rfl, ?_⟩
    have ret : ∀ b, wordOk s = b → Q (.bl b) H := fun b hb => by rw [← hb]; exact q
    by_cases c1 : (1 : Int) ≤ (s.length : Int)
    · rw [decide_eq_true c1]
      refine iteT ⟨_, _, rfl, rfl, _, rfl, ?_⟩
      by_cases c2 : (s.length : Int) ≤ 12
      · rw [decide_eq_true c2]
        refine iteF ⟨_, rfl, s, D.nw, noWords, rfl, rfl, .inr (sqt_k D.nw_l), _, rfl, ?_⟩
        by_cases c3 : s ∈ noWords
        · rw [decide_eq_true c3]
          refine iteT ?_
          refine ret _ ?_
          unfold wordOk
          rw [decide_eq_true c3]
          simp
        rw [decide_eq_false c3]
        refine iteF ?_
        have all : letters (cs s) = true → wordOk s = true := fun hz => by
          unfold wordOk
          rw [decide_eq_true (show 1 ≤ s.length by omega), decide_eq_true (show s.length ≤ 12 by omega), decide_eq_false c3, hz]
          rfl
        have some_no : letters (cs s) = false → wordOk s = false := fun hz => by
          unfold wordOk
          rw [hz, Bool.and_false]
        refine ⟨_, rfl, s, rfl, for_it walk_str (fun i σ H2 => H2 = H ∧ (∃ o, σ = [some (.str s), o]) ∧ letters ((cs s).take i) = true) ⟨rfl, ⟨none, rfl⟩, rfl⟩ (fun _ _ _ _ _ => trivial) ?_ ?_⟩
        · rintro i x σ H1 H2 hi ⟨rfl, ⟨o, rfl⟩, hle⟩ ⟨rfl, c, hc, rfl⟩
          have hc' : (cs s)[i]? = some c := by rw [Array.getElem?_toList]; exact hc
          refine ⟨_, rfl, _, _, rfl, rfl, _, rfl, ?_⟩
          rw [lt_a]
          by_cases d1 : c < 97
          · rw [decide_eq_true d1]
            refine iteF ⟨_, rfl, ?_⟩
            refine iteT (ret _ (some_no ?_))
            cases hz : letters (cs s) with
            | false => rfl
            | true => have := letters_get hz hc'; omega
          · rw [decide_eq_false d1]
            refine iteT ⟨_, _, rfl, rfl, _, rfl, ?_⟩
            rw [lt_z]
            by_cases d2 : 122 < c
            · rw [decide_eq_true d2]
              refine iteT (ret _ (some_no ?_))
              cases hz : letters (cs s) with
              | false => rfl
              | true => have := letters_get hz hc'; omega
            · rw [decide_eq_false d2]
              refine iteF ⟨rfl, ⟨_, rfl⟩, ?_⟩
              rw [take_more hc', letters_snoc, hle, decide_eq_true (show 97 ≤ c by omega), decide_eq_true (show c ≤ 122 by omega)]
              rfl
        · rintro σ H1 ⟨rfl, ⟨o, rfl⟩, hle⟩
          refine ret _ (all ?_)
          have e : (cs s).take s.cps.size = cs s := by rw [List.take_of_length_le]; simp
          rw [e] at hle
          exact hle
      · rw [decide_eq_false c2]
        refine iteT (iteT ?_)
        refine ret _ ?_
        unfold wordOk
        rw [decide_eq_false (show ¬ s.length ≤ 12 by omega)]
        simp
    · rw [decide_eq_false c1]
      refine iteF ⟨_, rfl, ?_⟩
      refine iteT (iteT ?_)
      refine ret _ ?_
      unfold wordOk
      rw [decide_eq_false (show ¬ 1 ≤ s.length by omega)]
      simp
end
end K1
namespace K1
open PySem L2
section
variable {P : Program} {w : World} {K : PySem.W.Frag} {mg : Str → Option Value} {base : Heap}
theorem none_left {CX : CXT} {k : Nat} {f : Addr} {fd : FuncData} {ps : List Str} {sp : Sp} (no : ∀ vs H Q E, ¬ sp vs H Q E) : FnOk P w K mg base CX k f fd ps sp :=
  ⟨fun vs H Q E h => absurd h (no vs H Q E), fun A outer s H args us vs Q E _ _ _ _ h => absurd h (no vs H Q E)⟩
/-! ### _is_nested -/
def spN : Nat → Sp
  | 0 => fun _ _ _ _ => False
  | n + 1 => fun vs H Q _ => ∃ (v : V) (L : Nat), vs = [v, .int (L : Int)] ∧ Kn H n v ∧ ∀ H', Same H H' → Q (.bl (nestedB H L v)) H'
theorem ok_nested (D : Defs K mg) : ∀ n, FnOk P w K mg base CX0 (n + 1) D.d_is_nested.f D.d_is_nested.fd ["thing", "levels"] (spN n)
  | 0 => none_left fun _ _ _ _ h => h
  | n + 1 => by
    have G := ok_nested D n
    have GW := ok_is_word (P := P) (w := w) (base := base) D
    refine D.d_is_nested.F.ok sc_is_nested (fun vs H Q E h => ?_) (fun cdv A outer s H vs Q E hr h => ?_)
    · obtain ⟨v, L, rfl, _⟩ := h
      rfl
    obtain ⟨v, L, rfl, hk, q⟩ := h
    have hr1 : Room 1 _ := hr.mono (by omega)
    refine ⟨_, pss_cons (ps_if (pt_val (pe_callB call_isi (by rfl) D.z_isinstance (by decide +kernel) (pa_cons (pv 0) (pa_cons (pe_bltn (v := .ty "str") (by rfl) D.z_str (by decide +kernel) rfl) pa_nil))))
        (pss_one (ps_ret (pe_or (pe_cmpR op_inT (pv 0) (pe_tup (pa_cons pe_str (pa_cons pe_str pa_nil))) (by rfl)) (pe_one (pe_call GW hr1 rfl D.d_is_word.m D.d_is_word.F.kp D.d_is_word.b .nil pass0 (pa_cons (pv 0) pa_nil)))))) pss_nil)
      (pss_cons (ps_if (PW.pt (pw_or (pt_not (pt_val (pe_callB call_isi (by rfl) D.z_isinstance (by decide +kernel) (pa_cons (pv 0) (pa_cons (pe_bltn (v := .ty "tuple") (by rfl) D.z_tuple (by decide +kernel) rfl) pa_nil)))))
          (pw_or (pt_cmpR op_eq (pv 1) pe_int (nomark _))
          (pw_or (pt_cmpR op_lt (pe_callB call_len_seq (by rfl) D.z_len PySem.boot_len (pa_cons (pv 0) pa_nil)) pe_int (nomark _))
          (pw_or1 (pt_not (pt_val (pe_callB call_isi (by rfl) D.z_isinstance (by decide +kernel) (pa_cons (pe_ix ix_tup (pv 0) pe_int (fun _ _ => rfl)) (pa_cons (pe_bltn (v := .ty "str") (by rfl) D.z_str (by decide +kernel) rfl) pa_nil))))))))))
        (pss_one (ps_ret pe_bl)) pss_nil)
      (pss_cons (ps_if (pt_cmpR op_eq (pe_ix ix_tup (pv 0) pe_int (fun _ _ => rfl)) pe_str (nomark _))
        (pss_one (ps_ret (pe_and (pe_cmpR op_eq (pe_callB call_len_seq (by rfl) D.z_len PySem.boot_len (pa_cons (pv 0) pa_nil)) pe_int (nomark _))
          (pe_and (pe_call GW hr1 rfl D.d_is_word.m D.d_is_word.F.kp D.d_is_word.b .nil pass0 (pa_cons (pe_ix ix_tup (pv 0) pe_int (fun _ _ => rfl)) pa_nil))
          (pe_one (pe_call G hr rfl D.d_is_nested.m D.d_is_nested.F.kp D.d_is_nested.b .nil pass0 (pa_cons (pe_ix ix_tup (pv 0) pe_int (fun _ _ => rfl)) (pa_cons (pe_op op_sub (pv 1) pe_int) pa_nil)))))))) pss_nil)
      (pss_cons (ps_if (pt_cmpR op_ne (pe_ix ix_tup (pv 0) pe_int (fun _ _ => rfl)) pe_str (nomark _)) (pss_one (ps_ret pe_bl)) pss_nil)
      (pss_cons (ps_for PassesOwn.never rfl (pi_tup (pe_slice sl_tup (pv 0) (po_some pe_int) po_none)) (pg_name (i := 2) sc_is_nested.nd rfl (Or.inl rfl))
        (pss_one (ps_if (pt_not (pt_val (pe_call G hr rfl D.d_is_nested.m D.d_is_nested.F.kp D.d_is_nested.b .nil pass0 (pa_cons (pv 2) (pa_cons (pe_op op_sub (pv 1) pe_int) pa_nil))))) (pss_one (ps_ret pe_bl)) pss_nil)))
      (pss_one (ps_ret pe_bl)))))), ?_⟩
    obtain ⟨t, ty, kt⟩ := pl_str (K := K) hk.pl
    refine ⟨_, rfl, _, _, _, _, _, rfl, .ty _, ty, kt, _, rfl, ?_⟩
    cases e : isStr v with
    | true =>
      obtain ⟨s, rfl⟩ : ∃ s, v = .str s := by cases v <;> first | exact ⟨_, rfl⟩ | (cases e)
      rw [nestedB_str] at q
      refine iteT ⟨_, rfl, (by show 2 ≤ sizeLine; decide), fun p hp => ⟨s, p, ["all", "none"], rfl, rfl, .inr (SqT.of upd_same), _, rfl, ?_⟩⟩
      have em : decide (s ∈ (["all", "none"] : List Str)) = decide (s = "all" ∨ s = "none") := by simp
      by_cases c : s = "all" ∨ s = "none"
      · rw [em, decide_eq_true c]
        refine iteT ?_
        rw [decide_eq_true c] at q
        exact q _ (same_new hp _)
      · rw [em, decide_eq_false c]
        refine iteF ⟨_, rfl, _, rfl, hk.pl.same (same_new hp _), ?_⟩
        rw [decide_eq_false c] at q
        exact q _ (same_new hp _)
    | false =>
      refine iteF ?_
      obtain ⟨t2, ty2, kt2⟩ := pl_tup (K := K) hk.pl
      refine ⟨_, rfl, _, _, _, _, _, rfl, .ty _, ty2, kt2, _, rfl, ?_⟩
      have ret : ∀ b, nestedB H L v = b → Q (.bl b) H := fun b hb => by rw [← hb]; exact q H (Same.refl H)
      cases e2 : isTup H v with
      | false =>
        refine iteT (iteT (ret _ ?_))
        cases L with
        | zero => cases v <;> first | rfl | (cases e)
        | succ L =>
          cases v <;> first | rfl | (cases e) | skip
          rename_i a
          rcases hk.pl with ⟨xs, g⟩ | ⟨xs, g⟩
          · simp [nestedB, g]
          · rw [isTup_tup g] at e2
            cases e2
      | true =>
        obtain ⟨a, xs, rfl, ha⟩ : ∃ a xs, v = .ref a ∧ H a = some (.tup xs) := by
          cases v <;> first | (cases e2) | skip
          rename_i a
          rcases hk.pl with ⟨xs, g⟩ | ⟨xs, g⟩
          · rw [isTup_lst g] at e2
            cases e2
          · exact ⟨a, xs, rfl, g⟩
        refine iteF ⟨_, rfl, rfl, _, rfl, ?_⟩
        cases L with
        | zero =>
          rw [decide_eq_true (show V.int ((0 : Nat) : Int) = V.int 0 from rfl)]
          exact iteT (iteT (ret _ rfl))
        | succ L =>
          rw [decide_eq_false (show ¬ V.int ((L + 1 : Nat) : Int) = V.int 0 from fun z => by injection z with z; omega)]
          refine iteF ⟨_, rfl, a, xs, rfl, .inr (SqT.of ha), _, _, rfl, rfl, _, rfl, ?_⟩
          by_cases c3 : (xs.length : Int) < 3
          · rw [decide_eq_true c3]
            refine iteT (iteT (ret _ ?_))
            rcases xs with _ | ⟨x0, _ | ⟨x1, _ | ⟨x2, r⟩⟩⟩
            · simp [nestedB, ha]
            · cases x0 <;> simp [nestedB, ha]
            · cases x0 <;> simp [nestedB, ha]
            · simp only [List.length_cons] at c3; omega
          · rw [decide_eq_false c3]
            refine iteF ?_
            rcases xs with _ | ⟨x0, _ | ⟨x1, _ | ⟨x2, r⟩⟩⟩
            · exact absurd (by decide : ((0 : Nat) : Int) < 3) c3
            · exact absurd (by decide : ((1 : Nat) : Int) < 3) c3
            · exact absurd (by decide : ((2 : Nat) : Int) < 3) c3
            cases n with
            | zero => exact (hk.2 _ _ rfl ha).elim
            | succ n =>
              have hx := hk.2 _ _ rfl ha
              obtain ⟨t3, ty3, kt3⟩ := pl_str (K := K) (hx x0 (by simp)).pl
              refine ⟨_, rfl, a, _, _, x0, rfl, rfl, SqT.of ha, atI_nat (j := 0) rfl, _, _, _, _, _, rfl, .ty _, ty3, kt3, _, rfl, ?_⟩
              cases e4 : isStr x0 with
              | false =>
                refine iteT (ret _ ?_)
                cases x0 <;> first | (simp [nestedB, ha]; done) | (cases e4)
              | true =>
                obtain ⟨k, rfl⟩ : ∃ s, x0 = .str s := by cases x0 <;> first | exact ⟨_, rfl⟩ | (cases e4)
                refine iteF ?_
                refine ⟨_, rfl, a, _, _, _, rfl, rfl, SqT.of ha, atI_nat (j := 0) rfl, rfl, _, rfl, ?_⟩
                have lev : ((L + 1 : Nat) : Int) - 1 = (L : Int) := by omega
                have levs : ∀ x : V, ([x, V.int (((L + 1 : Nat) : Int) - 1)] ++ []) = [x, V.int (L : Int)] := fun x => by rw [lev]; rfl
                by_cases ck : k = "some"
                · subst ck
                  rw [decide_eq_true (show V.str ("some" : Str) = V.str "some" from rfl)]
                  refine iteT ⟨_, rfl, a, _, rfl, .inr (SqT.of ha), rfl, _, rfl, ?_⟩
                  have eN : nestedB H (L + 1) (.ref a) = (decide (r = []) && (isWordV x1 && nestedB H L x2)) := by simp [nestedB, ha]
                  by_cases cr : r = []
                  · subst cr
                    rw [decide_eq_true (by rfl)]
                    refine iteT ⟨_, rfl, a, _, _, x1, rfl, rfl, SqT.of ha, atI_nat (j := 1) rfl, _, rfl, (hx x1 (by simp)).pl, _, rfl, ?_⟩
                    cases cw : isWordV x1 with
                    | false =>
                      refine iteF (ret _ ?_)
                      rw [eN, cw]
                      rfl
                    | true =>
                      refine iteT ⟨_, rfl, a, _, _, x2, rfl, rfl, SqT.of ha, atI_nat (j := 2) rfl, _, rfl, _, _, rfl, rfl, x2, L, levs x2, hx x2 (by simp), fun H' g => ?_⟩
                      have z := q H' g
                      rw [eN, cw] at z
                      exact z
                  · have nz : ¬ V.int ((((V.str "some" :: x1 :: x2 :: r).length : Nat) : Int)) = V.int 3 := fun z => by
                      injection z with z
                      simp only [List.length_cons] at z
                      exact cr (List.length_eq_zero_iff.mp (by omega))
                    rw [decide_eq_false nz]
                    refine iteF (ret _ ?_)
                    rw [eN, decide_eq_false cr]
                    rfl
                · rw [decide_eq_false (show ¬ V.str k = V.str "some" from fun z => ck (by injection z))]
                  refine iteF ⟨_, rfl, a, _, _, _, rfl, rfl, SqT.of ha, atI_nat (j := 0) rfl, rfl, _, rfl, ?_⟩
                  by_cases ca : k = "and"
                  · subst ca
                    rw [decide_eq_true (show V.str ("and" : Str) = V.str "and" from rfl)]
                    refine iteF ?_
                    have eN : nestedB H (L + 1) (.ref a) = (x1 :: x2 :: r).all (nestedB H L) := by simp [nestedB, ha, ck]
                    refine ⟨_, rfl, _, rfl, a, _, rfl, SqT.of ha, (by rintro ⟨z, _⟩; simp [HT.sIx] at z), fun p hp => ?_⟩
                    have eC : cutV (V.str "and" :: x1 :: x2 :: r) (some 1) none = x1 :: x2 :: r := by simp [cutV, HT.sIx]
                    have g0 : Same H (upd H p (.tup (cutV (V.str "and" :: x1 :: x2 :: r) (some 1) none))) := same_new hp _
                    rw [eC] at g0
                    have hp' : (upd H p (.tup (cutV (V.str "and" :: x1 :: x2 :: r) (some 1) none))) = upd H p (.tup (x1 :: x2 :: r)) := by rw [eC]
                    rw [hp']
                    refine ⟨p, rfl, ⟨_, SqT.of upd_same⟩, for_tup (xs := x1 :: x2 :: r) (fun i σ H2 => Same (upd H p (.tup (x1 :: x2 :: r))) H2 ∧ (∃ o, σ = [some (.ref a), some (.int ((L + 1 : Nat) : Int)), o]) ∧ ((x1 :: x2 :: r).take i).all (nestedB H L) = true)
                      ⟨Same.refl _, ⟨none, rfl⟩, rfl⟩ (fun i σ H2 _ hh => SqT.of (hh.1 _ _ upd_same)) ?_ ?_⟩
                    · rintro i x σ H2 hi ⟨g, ⟨o, rfl⟩, hall⟩
                      have gg := g0.trans g
                      have hkx : Kn H n x := hx x (List.mem_cons_of_mem _ (List.mem_of_getElem? hi))
                      refine ⟨_, rfl, _, rfl, _, _, rfl, rfl, x, L, levs x, hkx.same gg, fun H3 g3 => ⟨_, rfl, ?_⟩⟩
                      rw [nestedB_same gg hkx]
                      cases cx : nestedB H L x with
                      | false =>
                        refine iteT ?_
                        have z := q H3 (gg.trans g3)
                        rw [eN] at z
                        have e0 : (x1 :: x2 :: r).all (nestedB H L) = false := by
                          rw [← Bool.not_eq_true, List.all_eq_true]
                          intro zz
                          have := zz x (List.mem_of_getElem? hi)
                          rw [cx] at this
                          cases this
                        rw [e0] at z
                        exact z
                      | true =>
                        refine iteF ⟨g.trans g3, ⟨_, rfl⟩, ?_⟩
                        rw [take_more hi, List.all_append, hall]
                        simp [cx]
                    · rintro σ H2 ⟨g, ⟨o, rfl⟩, hall⟩
                      have z := q H2 (g0.trans g)
                      rw [eN] at z
                      rw [List.take_length] at hall
                      rw [hall] at z
                      exact z
                  · rw [decide_eq_false (show ¬ V.str k = V.str "and" from fun z => ca (by injection z))]
                    refine iteT (ret _ ?_)
                    simp [nestedB, ha, ck, ca]
end
end K1
namespace K1
open PySem L2
section
variable {P : Program} {w : World} {K : PySem.W.Frag} {mg : Str → Option Value} {base : Heap}
/-! ### is_concept, need_concept, need_concepts -/
def spIsC : Sp := fun vs H Q _ => ∃ v, vs = [v] ∧ Kn H 9 v ∧ ∀ H', Same H H' → Q (.bl (nestedB H 100 v)) H'
theorem ok_is_concept (D : Defs K mg) : FnOk P w K mg base CX0 12 D.d_is_concept.f D.d_is_concept.fd ["thing"] spIsC := by
  have G := ok_nested (P := P) (w := w) (base := base) D 10
  obtain ⟨tD, hD⟩ := D.de_m
  refine D.d_is_concept.F.ok sc_is_concept (fun vs H Q E h => ?_) (fun cdv A outer s H vs Q E hr h => ?_)
  · obtain ⟨v, rfl, _⟩ := h
    rfl
  obtain ⟨v, rfl, hk, q⟩ := h
  refine ⟨_, pss_one (ps_ret (pe_call G hr rfl D.d_is_nested.m D.d_is_nested.F.kp D.d_is_nested.b .nil pass0 (pa_cons (pv 0) (pa_cons (pe_glob (v := .int 100) (by rfl) hD ⟨_, rfl⟩) pa_nil)))), ?_⟩
  exact ⟨_, rfl, v, 100, rfl, hk, q⟩
def spNeed : Sp := fun vs H Q _ => ∃ v, vs = [v] ∧ Kn H 9 v ∧ nestedB H 100 v = true ∧ ∀ H', Same H H' → Q .non H'
theorem ok_need (D : Defs K mg) : FnOk P w K mg base CX0 13 D.d_need_concept.f D.d_need_concept.fd ["thing"] spNeed := by
  have G := ok_is_concept (P := P) (w := w) (base := base) D
  refine D.d_need_concept.F.ok sc_need_concept (fun vs H Q E h => ?_) (fun cdv A outer s H vs Q E hr h => ?_)
  · obtain ⟨v, rfl, _⟩ := h
    rfl
  obtain ⟨v, rfl, hk, hn, q⟩ := h
  refine ⟨_, pss_one (ps_if (pt_not (pt_val (pe_call G hr rfl D.d_is_concept.m D.d_is_concept.F.kp D.d_is_concept.b .nil pass0 (pa_cons (pv 0) pa_nil)))) (pss_one ps_never) pss_nil), ?_⟩
  refine ⟨_, rfl, v, rfl, hk, fun H' g => ⟨_, rfl, ?_⟩⟩
  rw [hn]
  exact iteF (q H' g)
def spNeeds : Sp := fun vs H Q _ => ∃ p ws, vs = [.ref p] ∧ H p = some (.tup ws) ∧ (∀ v ∈ ws, Kn H 9 v ∧ nestedB H 100 v = true) ∧ ∀ H', Same H H' → Q .non H'
theorem ok_needs (D : Defs K mg) : FnOk P w K mg base CX0 14 D.d_need_concepts.f D.d_need_concepts.fd ["things"] spNeeds := by
  have G := ok_need (P := P) (w := w) (base := base) D
  refine D.d_need_concepts.F.ok sc_need_concepts (fun vs H Q E h => ?_) (fun cdv A outer s H vs Q E hr h => ?_)
  · obtain ⟨p, ws, rfl, _⟩ := h
    rfl
  obtain ⟨p, ws, rfl, hp, hk, q⟩ := h
  refine ⟨_, pss_one (ps_for PassesOwn.never rfl (pi_tup (pv 0)) (pg_name (i := 1) sc_need_concepts.nd rfl (Or.inl rfl))
    (pss_one (ps_expr (pe_call G hr rfl D.d_need_concept.m D.d_need_concept.F.kp D.d_need_concept.b .nil pass0 (pa_cons (pv 1) pa_nil))))), ?_⟩
  refine ⟨_, rfl, p, rfl, ⟨_, SqT.of hp⟩, for_tup (xs := ws) (fun i σ H2 => Same H H2 ∧ ∃ o, σ = [some (.ref p), o]) ⟨Same.refl _, ⟨none, rfl⟩⟩ (fun i σ H2 _ hh => SqT.of (hh.1 _ _ hp)) ?_ ?_⟩
  · rintro i x σ H2 hi ⟨g, ⟨o, rfl⟩⟩
    obtain ⟨k1, k2⟩ := hk x (List.mem_of_getElem? hi)
    exact ⟨_, rfl, x, rfl, k1.same g, (by rw [nestedB_same g k1]; exact k2), fun H3 g3 => ⟨g.trans g3, ⟨_, rfl⟩⟩⟩
  · rintro σ H2 ⟨g, ⟨o, rfl⟩⟩
    exact q H2 g
/-! ### inner -/
def KidsAt (H : Hp) (c : Con) (ws : List V) : Prop := Paired (ConAt H) (kids c) ws
theorem kids_same {H H' : Hp} (e : Same H H') : ∀ {ks : List Con} {ws : List V}, Paired (ConAt H) ks ws → Paired (ConAt H') ks ws
  | _, _, .nil => .nil
  | _, _, .cons r t => .cons (r.same e) (kids_same e t)
def spInner : Sp := fun vs H Q _ => ∃ v c, vs = [v] ∧ ConAt H c v ∧ ∀ p ws H', Same H H' → H' p = some (.tup ws) → Paired (ConAt H') (kids c) ws → Q (.ref p) H'
theorem ok_inner (D : Defs K mg) : FnOk P w K mg base CX0 1 D.d_inner.f D.d_inner.fd ["concept"] spInner := by
  refine D.d_inner.F.ok sc_inner (fun vs H Q E h => ?_) (fun cdv A outer s H vs Q E hr h => ?_)
  · obtain ⟨v, c, rfl, _⟩ := h
    rfl
  obtain ⟨v, c, rfl, hc, q⟩ := h
  refine ⟨_, pss_cons (ps_if (pt_val (pe_callB call_isi (by rfl) D.z_isinstance (by decide +kernel) (pa_cons (pv 0) (pa_cons (pe_bltn (v := .ty "str") (by rfl) D.z_str (by decide +kernel) rfl) pa_nil)))) (pss_one (ps_ret (pe_tup pa_nil))) pss_nil)
    (pss_one (ps_ret (pe_ifExp (pt_cmpR op_eq (pe_ix ix_tup (pv 0) pe_int (fun _ _ => rfl)) pe_str (nomark _)) (pe_slice sl_tup (pv 0) (po_some pe_int) po_none) (pe_slice sl_tup (pv 0) (po_some pe_int) po_none)))), ?_⟩
  obtain ⟨t, ty, kt⟩ := pl_str (K := K) (con_pl hc)
  refine ⟨_, rfl, _, _, _, _, _, rfl, .ty _, ty, kt, _, rfl, ?_⟩
  have sl1 : ∀ (x : V) (xs : List V), cutV (x :: xs) (some 1) none = xs := fun x xs => by simp [cutV, HT.sIx]
  have sl2 : ∀ (x y : V) (xs : List V), cutV (x :: y :: xs) (some 2) none = xs := fun x y xs => by simp [cutV, HT.sIx]
  cases c with
  | atom a =>
    obtain ⟨rfl, hl⟩ := hc
    refine iteT ⟨(by show 0 ≤ sizeLine; decide), fun p hp => ?_⟩
    exact q p [] _ (same_new hp _) upd_same .nil
  | ex r c =>
    obtain ⟨a, u, rfl, ha, hu, hl⟩ := hc
    refine iteF ⟨_, rfl, a, _, _, _, rfl, rfl, SqT.of ha, atI_nat (j := 0) rfl, rfl, _, rfl, ?_⟩
    rw [decide_eq_true (show V.str ("some" : Str) = V.str "some" from rfl)]
    refine iteT ⟨_, rfl, _, rfl, a, _, rfl, SqT.of ha, (by rintro ⟨z, _⟩; simp [HT.sIx] at z), fun p hp => ?_⟩
    rw [sl2]
    exact q p [u] _ (same_new hp _) upd_same (.cons (hu.same (same_new hp _)) .nil)
  | and2 x y =>
    obtain ⟨a, u1, u2, rfl, ha, h1, h2⟩ := hc
    refine iteF ⟨_, rfl, a, _, _, _, rfl, rfl, SqT.of ha, atI_nat (j := 0) rfl, rfl, _, rfl, ?_⟩
    rw [decide_eq_false (show ¬ V.str ("and" : Str) = V.str "some" from fun z => absurd (V.str.inj z) (by decide +kernel))]
    refine iteF ⟨_, rfl, _, rfl, a, _, rfl, SqT.of ha, (by rintro ⟨z, _⟩; simp [HT.sIx] at z), fun p hp => ?_⟩
    rw [sl1]
    exact q p [u1, u2] _ (same_new hp _) upd_same (.cons (h1.same (same_new hp _)) (.cons (h2.same (same_new hp _)) .nil))
  | and3 x y z =>
    obtain ⟨a, u1, u2, u3, rfl, ha, h1, h2, h3⟩ := hc
    refine iteF ⟨_, rfl, a, _, _, _, rfl, rfl, SqT.of ha, atI_nat (j := 0) rfl, rfl, _, rfl, ?_⟩
    rw [decide_eq_false (show ¬ V.str ("and" : Str) = V.str "some" from fun z => absurd (V.str.inj z) (by decide +kernel))]
    refine iteF ⟨_, rfl, _, rfl, a, _, rfl, SqT.of ha, (by rintro ⟨z, _⟩; simp [HT.sIx] at z), fun p hp => ?_⟩
    rw [sl1]
    exact q p [u1, u2, u3] _ (same_new hp _) upd_same (.cons (h1.same (same_new hp _)) (.cons (h2.same (same_new hp _)) (.cons (h3.same (same_new hp _)) .nil)))
end
end K1
namespace K1
open PySem L2
/-! ### texts as Str -/
def sOf (l : List Nat) : Str := ⟨l.toArray⟩
theorem cs_sOf (l : List Nat) : cs (sOf l) = l := by simp [sOf, cs]
theorem sOf_cs (s : Str) : sOf (cs s) = s := str_ext (cs_sOf _)
theorem len_sOf (l : List Nat) : (sOf l).length = l.length := by simp [sOf, Str.length]
theorem len_cs (s : Str) : s.length = (cs s).length := rfl
theorem cs_app (a b : Str) : cs (a ++ b) = cs a ++ cs b := PyProof.Rows.cps_toList_append a b
theorem len_app (a b : Str) : (a ++ b).length = a.length + b.length := by
  rw [len_cs, cs_app, List.length_append]
  rfl
def tS (c : Con) : Str := sOf (txt c)
def pS (c : Con) : Str := sOf (par c)
theorem tS_atom {s : Str} : tS (.atom s) = s := sOf_cs s
theorem pS_eq {c : Con} (h : isAnd c = false) : pS c = tS c := by unfold pS tS; rw [par_no h]
theorem cs_empty : cs Str.empty = [] := rfl
theorem cs_some : cs ("some " : Str) = [115, 111, 109, 101, 32] := by decide +kernel
theorem cs_sp : cs (" " : Str) = [32] := by decide +kernel
theorem cs_lp : cs ("(" : Str) = [40] := by decide +kernel
theorem cs_rp : cs (")" : Str) = [41] := by decide +kernel
theorem cs_amp : cs (" & " : Str) = [32, 38, 32] := by decide +kernel
/-- f'({piece})' -/
theorem paren_is {c : Con} (h : isAnd c = true) : Str.empty ++ "(" ++ tS c ++ ")" = pS c := str_ext (by
  rw [cs_app, cs_app, cs_app, cs_empty, cs_lp, cs_rp]
  unfold tS pS
  rw [cs_sOf, cs_sOf]
  unfold par wrap
  rw [h]
  rfl)
theorem paren_is2 {c : Con} (h : isAnd c = true) : ("(" : Str) ++ tS c ++ ")" = pS c := str_ext (by
  rw [cs_app, cs_app, cs_lp, cs_rp]
  unfold tS pS
  rw [cs_sOf, cs_sOf]
  unfold par wrap
  rw [h]
  rfl)
theorem ex_is {r : Str} {c : Con} : Str.empty ++ "some " ++ r ++ " " ++ pS c = tS (.ex r c) := str_ext (by
  rw [cs_app, cs_app, cs_app, cs_app, cs_empty, cs_some, cs_sp]
  unfold tS pS
  rw [cs_sOf, cs_sOf]
  simp [txt])
theorem ex_is2 {r : Str} {c : Con} : ("some " : Str) ++ r ++ " " ++ pS c = tS (.ex r c) := str_ext (by
  rw [cs_app, cs_app, cs_app, cs_some, cs_sp]
  unfold tS pS
  rw [cs_sOf, cs_sOf]
  simp [txt])
theorem join2 {a b : Con} : PySem.Txt.join " & " [pS a, pS b] = tS (.and2 a b) := str_ext (by
  rw [TL.join_eq]
  show TL.tl (Str.join " & " [pS a, pS b]) = _
  rw [TL.tl_join]
  show TL.joinL (cs " & ") [cs (pS a), cs (pS b)] = _
  rw [cs_amp]
  unfold tS pS
  rw [cs_sOf, cs_sOf, cs_sOf]
  rfl)
theorem join3 {a b c : Con} : PySem.Txt.join " & " [pS a, pS b, pS c] = tS (.and3 a b c) := str_ext (by
  rw [TL.join_eq]
  show TL.tl (Str.join " & " [pS a, pS b, pS c]) = _
  rw [TL.tl_join]
  show TL.joinL (cs " & ") [cs (pS a), cs (pS b), cs (pS c)] = _
  rw [cs_amp]
  unfold tS pS
  rw [cs_sOf, cs_sOf, cs_sOf, cs_sOf]
  rfl)
theorem con_len {H : Hp} : ∀ {c : Con} {v : V}, ConAt H c v → (txt c).length + 2 ≤ 24 * nodes c
  | .atom s, v, ⟨_, h⟩ => by
    have : (cs s).length ≤ 12 := h
    simp only [txt, nodes]
    omega
  | .ex r c, v, ⟨_, _, _, _, h, hr⟩ => by
    have := con_len h
    have : (cs r).length ≤ 12 := hr
    have := wrap_len (isAnd c) (txt c)
    simp only [txt, nodes, List.length_append, List.length_cons, List.length_nil]
    omega
  | .and2 a b, v, ⟨_, _, _, _, _, h1, h2⟩ => by
    have := con_len h1
    have := con_len h2
    have := wrap_len (isAnd a) (txt a)
    have := wrap_len (isAnd b) (txt b)
    simp only [txt, nodes, List.length_append, List.length_cons, List.length_nil]
    omega
  | .and3 a b c, v, ⟨_, _, _, _, _, _, h1, h2, h3⟩ => by
    have := con_len h1
    have := con_len h2
    have := con_len h3
    have := wrap_len (isAnd a) (txt a)
    have := wrap_len (isAnd b) (txt b)
    have := wrap_len (isAnd c) (txt c)
    simp only [txt, nodes, List.length_append, List.length_cons, List.length_nil]
    omega
theorem tS_inj {a b : Con} (ha : Wf a) (hb : Wf b) (h : tS a = tS b) : a = b := txt_inj ha hb (by have := congrArg cs h; unfold tS at this; rwa [cs_sOf, cs_sOf] at this)
/-! ### heaps that keep what stands, but for a few places -/
/-- tuples stay -/
def TSame (H H' : Hp) : Prop := ∀ b xs, H b = some (.tup xs) → H' b = some (.tup xs)
theorem Same.t {H H' : Hp} (e : Same H H') : TSame H H' := fun b xs h => e b _ h
theorem TSame.trans {H H1 H2 : Hp} (a : TSame H H1) (b : TSame H1 H2) : TSame H H2 := fun c xs h => b c xs (a c xs h)
theorem TSame.refl (H : Hp) : TSame H H := fun _ _ h => h
theorem ConAt.t {H H' : Hp} (e : TSame H H') : ∀ {c : Con} {v : V}, ConAt H c v → ConAt H' c v
  | .atom s, v, h => h
  | .ex r c, v, ⟨p, u, h1, h2, h3, h9⟩ => ⟨p, u, h1, e _ _ h2, h3.t e, h9⟩
  | .and2 a b, v, ⟨p, u1, u2, h1, h2, h3, h4⟩ => ⟨p, u1, u2, h1, e _ _ h2, h3.t e, h4.t e⟩
  | .and3 a b c, v, ⟨p, u1, u2, u3, h1, h2, h3, h4, h5⟩ => ⟨p, u1, u2, u3, h1, e _ _ h2, h3.t e, h4.t e, h5.t e⟩
theorem paired_t {H H' : Hp} (e : TSame H H') : ∀ {ks : List Con} {ws : List V}, Paired (ConAt H) ks ws → Paired (ConAt H') ks ws
  | _, _, .nil => .nil
  | _, _, .cons r t => .cons (r.t e) (paired_t e t)
/-- all but what stands at the places of D -/
def But (D : List Addr) (H H' : Hp) : Prop := ∀ b o, b ∉ D → H b = some o → H' b = some o
theorem But.of {D : List Addr} {H H' : Hp} (e : Same H H') : But D H H' := fun b o _ h => e b o h
theorem But.trans {D : List Addr} {H H1 H2 : Hp} (a : But D H H1) (b : But D H1 H2) : But D H H2 := fun c o n h => b c o n (a c o n h)
theorem But.refl {D : List Addr} (H : Hp) : But D H H := fun _ _ _ h => h
theorem But.put {D : List Addr} {H : Hp} {d : Addr} {o : HO} (hd : d ∈ D) : But D H (L2.upd H d o) := fun b u n h => by
  rw [upd_ne (fun e => n (by rw [e]; exact hd))]
  exact h
theorem But.new {D : List Addr} {H : Hp} {d : Addr} {o : HO} (hd : H d = none) : But D H (L2.upd H d o) := But.of (same_new hd o)
theorem But.mono {D D' : List Addr} {H H' : Hp} (a : But D H H') (h : ∀ x ∈ D, x ∈ D') : But D' H H' := fun b o n q => a b o (fun z => n (h b z)) q
/-- a place that was not there may be changed -/
theorem But.drop {D : List Addr} {l : Addr} {H H' : Hp} (a : But (l :: D) H H') (h : H l = none) : But D H H' := fun b o n q => a b o (fun z => by
  rcases List.mem_cons.mp z with rfl | z
  · rw [h] at q; cases q
  · exact n z) q
theorem But.t {D : List Addr} {H H' : Hp} (a : But D H H') (h : ∀ d ∈ D, ∀ xs, H d ≠ some (.tup xs)) : TSame H H' := fun b xs q => a b _ (fun z => h b z xs q) q
/-! ### a dict of texts -/
structure Dk (H : Hp) (d : Addr) (ks : List Str) (kvs : List (Key × V)) : Prop where
  at_ : H d = some (.dK kvs)
  keys : kvs.map (·.1) = ks.map Sum.inr
  nd : ks.Nodup
theorem Dk.len {H : Hp} {d : Addr} {ks : List Str} {kvs : List (Key × V)} (h : Dk H d ks kvs) : kvs.length = ks.length := by
  have := congrArg List.length h.keys
  simpa using this
def addS (ks : List Str) (s : Str) : List Str := if s ∈ ks then ks else ks ++ [s]
theorem mem_addS {ks : List Str} {s x : Str} : x ∈ addS ks s ↔ x ∈ ks ∨ x = s := by
  unfold addS
  split
  · constructor
    · exact .inl
    · rintro (h | rfl)
      · exact h
      · assumption
  · simp
theorem nd_addS {ks : List Str} {s : Str} (h : ks.Nodup) : (addS ks s).Nodup := by
  unfold addS
  split
  · exact h
  · rename_i n
    exact List.nodup_append.mpr ⟨h, by simp, fun a ha b hb e => n (by simp only [List.mem_singleton] at hb; rw [← hb, ← e]; exact ha)⟩
theorem len_addS {ks : List Str} {s : Str} : (addS ks s).length ≤ ks.length + 1 := by
  unfold addS
  split <;> simp
theorem Dk.any {H : Hp} {d : Addr} {ks : List Str} {kvs : List (Key × V)} (h : Dk H d ks kvs) (s : Str) : (kvs.any fun kv => decide (kv.1 = (Sum.inr s : Key))) = decide (s ∈ ks) := by
  rw [Bool.eq_iff_iff, List.any_eq_true, decide_eq_true_eq]
  have hk : (Sum.inr s : Key) ∈ kvs.map (·.1) ↔ s ∈ ks := by
    rw [h.keys, List.mem_map]
    constructor
    · rintro ⟨x, hx, e⟩
      cases e
      exact hx
    · exact fun hx => ⟨s, hx, rfl⟩
  rw [← hk, List.mem_map]
  constructor
  · rintro ⟨kv, h1, h2⟩
    exact ⟨kv, h1, of_decide_eq_true h2⟩
  · rintro ⟨kv, h1, h2⟩
    exact ⟨kv, h1, decide_eq_true h2⟩
theorem Dk.put {H : Hp} {d : Addr} {ks : List Str} {kvs : List (Key × V)} (h : Dk H d ks kvs) (s : Str) (v : V) : Dk (upd H d (.dK (putK kvs (Sum.inr s) v))) d (addS ks s) (putK kvs (Sum.inr s) v) := by
  refine ⟨upd_same, ?_, nd_addS h.nd⟩
  unfold putK addS
  rw [h.any s]
  by_cases c : s ∈ ks
  · rw [if_pos (decide_eq_true c), if_pos c, ← h.keys, List.map_map]
    refine List.map_congr_left fun kv _ => ?_
    show (if kv.1 = (Sum.inr s : Key) then (kv.1, v) else kv).1 = kv.1
    split <;> rfl
  · rw [decide_eq_false c, if_neg Bool.false_ne_true, if_neg c, List.map_append, h.keys, List.map_append]
    rfl
theorem Dk.some {H : Hp} {d : Addr} {ks : List Str} {kvs : List (Key × V)} (h : Dk H d ks kvs) {s : Str} (hs : s ∈ ks) : ∃ v, valV kvs (Sum.inr s : Key) = some v := by
  have := valV_any (Sum.inr s : Key) kvs
  rw [h.any s, decide_eq_true hs] at this
  exact Option.isSome_iff_exists.mp this.symm
theorem Dk.same {H H' : Hp} {d : Addr} {ks : List Str} {kvs : List (Key × V)} (h : Dk H d ks kvs) (e : H' d = H d) : Dk H' d ks kvs := ⟨e.trans h.at_, h.keys, h.nd⟩
end K1
namespace K1
open PySem L2
theorem and_ne_some : ¬ V.str ("and" : Str) = V.str "some" := fun z => absurd (V.str.inj z) (by decide +kernel)
theorem one_ne_and (c : Nat) : ¬ V.str ⟨#[c]⟩ = V.str "and" := fun z => by
  have e := congrArg Str.length (V.str.inj z)
  have e2 : ("and" : Str).length = 3 := by decide +kernel
  rw [e2] at e
  exact absurd (show (1 : Nat) = 3 from e) (by decide)
/-- the values of a dict of texts stand for concepts with these texts -/
def GoodV (H : Hp) (kvs : List (Key × V)) : Prop := ∀ (s : Str) (v : V), valV kvs (Sum.inr s : Key) = some v → ∃ p, Wf p ∧ s = tS p ∧ ConAt H p v
theorem GoodV.t {H H' : Hp} {kvs : List (Key × V)} (g : GoodV H kvs) (e : TSame H H') : GoodV H' kvs := fun s v h => by
  obtain ⟨p, h1, h2, h3⟩ := g s v h
  exact ⟨p, h1, h2, h3.t e⟩
theorem GoodV.put {H H' : Hp} {kvs : List (Key × V)} {c : Con} {v : V} (g : GoodV H kvs) (e : TSame H H') (w : Wf c) (h : ConAt H c v) : GoodV H' (putK kvs (Sum.inr (tS c)) v) := fun s y hy => by
  rw [valV_put] at hy
  by_cases z : (Sum.inr s : Key) = Sum.inr (tS c)
  · rw [if_pos z] at hy
    cases hy
    cases z
    exact ⟨c, w, rfl, h.t e⟩
  · rw [if_neg z] at hy
    obtain ⟨p, h1, h2, h3⟩ := g s y hy
    exact ⟨p, h1, h2, h3.t e⟩
theorem kid_wf {c : Con} (h : Wf c) : ∀ k ∈ kids c, Wf k := by
  cases c with
  | atom s => intro k hk; cases hk
  | ex r c => intro k hk; simp only [kids, List.mem_singleton] at hk; subst hk; exact h.2
  | and2 a b =>
    intro k hk
    simp only [kids, List.mem_cons, List.not_mem_nil, or_false] at hk
    rcases hk with rfl | rfl
    · exact h.1
    · exact h.2
  | and3 a b c =>
    intro k hk
    simp only [kids, List.mem_cons, List.not_mem_nil, or_false] at hk
    rcases hk with rfl | rfl | rfl
    · exact h.1
    · exact h.2.1
    · exact h.2.2
theorem kid_nest {c : Con} : ∀ k ∈ kids c, nest k + 1 ≤ nest c := by
  cases c with
  | atom s => intro k hk; cases hk
  | ex r c => intro k hk; simp only [kids, List.mem_singleton] at hk; subst hk; exact Nat.le_refl _
  | and2 a b =>
    intro k hk
    simp only [kids, List.mem_cons, List.not_mem_nil, or_false] at hk
    rcases hk with rfl | rfl <;> (simp only [nest]; omega)
  | and3 a b c =>
    intro k hk
    simp only [kids, List.mem_cons, List.not_mem_nil, or_false] at hk
    rcases hk with rfl | rfl | rfl <;> (simp only [nest]; omega)
def nodesL (l : List Con) : Nat := (l.map nodes).sum
theorem nodesL_kids {c : Con} : nodesL (kids c) + 1 = nodes c := by
  cases c <;> simp [nodesL, kids, nodes] <;> omega
theorem nodesL_snoc {l : List Con} {k : Con} : nodesL (l ++ [k]) = nodesL l + nodes k := by simp [nodesL]
theorem nodesL_take {l : List Con} : ∀ i, nodesL (l.take i) ≤ nodesL l := by
  induction l with
  | nil => intro i; simp [nodesL]
  | cons x l ih =>
    intro i
    cases i with
    | zero => simp [nodesL]
    | succ i => have := ih i; simp only [nodesL, List.take_succ_cons, List.map_cons, List.sum_cons] at this ⊢; omega
theorem prt_kids {c : Con} : prt c = c :: ((kids c).map prt).flatten := by
  cases c <;> simp [prt, kids]
theorem mem_prt {c p : Con} : p ∈ prt c ↔ p = c ∨ ∃ k ∈ kids c, p ∈ prt k := by
  rw [prt_kids]
  simp only [List.mem_cons, List.mem_flatten, List.mem_map]
  constructor
  · rintro (h | ⟨l, ⟨k, hk, rfl⟩, hp⟩)
    · exact .inl h
    · exact .inr ⟨k, hk, hp⟩
  · rintro (h | ⟨k, hk, hp⟩)
    · exact .inl h
    · exact .inr ⟨_, ⟨k, hk, rfl⟩, hp⟩
section
variable {P : Program} {w : World} {K : PySem.W.Frag} {mg : Str → Option Value} {base : Heap}
/-! ### gather -/
def spG : Nat → Sp
  | 0 => fun _ _ _ _ => False
  | n + 1 => fun vs H Q _ => ∃ (v : V) (c : Con) (d : Addr) (ks : List Str) (kvs : List (Key × V)), vs = [v, .ref d] ∧ ConAt H c v ∧ Wf c ∧ nest c ≤ n ∧ nodes c ≤ 100 ∧ Dk H d ks kvs ∧ GoodV H kvs ∧ ks.length + nodes c ≤ 1000 ∧
    ∀ H' ks' kvs', But [d] H H' → Dk H' d ks' kvs' → GoodV H' kvs' → ks'.length ≤ ks.length + nodes c → (∀ s, s ∈ ks' ↔ s ∈ ks ∨ ∃ p ∈ prt c, s = tS p) → Q (.str (tS c)) H'
theorem ok_gather (D : Defs K mg) : ∀ n, FnOk P w K mg base CX0 (n + 1) D.d_gather.f D.d_gather.fd ["concept", "found"] (spG n)
  | 0 => none_left fun _ _ _ _ h => h
  | n + 1 => by
    have G := ok_gather D n
    have GI := ok_inner (P := P) (w := w) (base := base) D
    refine D.d_gather.F.ok sc_gather (fun vs H Q E h => ?_) (fun cdv A outer s H vs Q E hr h => ?_)
    · obtain ⟨v, c, d, ks, kvs, rfl, _⟩ := h
      rfl
    obtain ⟨v, c, d, ks, kvs, rfl, hc, hw, hn, hno, hd, hg, hl, q⟩ := h
    have hr1 : Room 1 _ := hr.mono (by omega)
    have hu := hu_of hr
    refine ⟨_, pss_cons (ps_set (i := 2) sc_gather.nd rfl (Or.inl rfl) (pv 0))
      (pss_cons (ps_if (pt_not (pt_val (pe_callB call_isi (by rfl) D.z_isinstance (by decide +kernel) (pa_cons (pv 0) (pa_cons (pe_bltn (v := .ty "str") (by rfl) D.z_str (by decide +kernel) rfl) pa_nil)))))
        (pss_cons (ps_set (i := 3) sc_gather.nd rfl (Or.inl rfl) (pe_lst pa_nil))
        (pss_cons (ps_for PassesOwn.never rfl (pi_tup (pe_call GI hr1 rfl D.d_inner.m D.d_inner.F.kp D.d_inner.b .nil pass0 (pa_cons (pv 0) pa_nil))) (pg_name (i := 4) sc_gather.nd rfl (Or.inl rfl))
          (pss_cons (ps_set (i := 5) sc_gather.nd rfl (Or.inl rfl) (pe_call G hr rfl D.d_gather.m D.d_gather.F.kp D.d_gather.b .nil pass0 (pa_cons (pv 4) (pa_cons (pv 1) pa_nil))))
          (pss_one (ps_expr (pe_bm PySem.F.plainAttrs_list PySem.F.slot_list_append PySem.F.type_list_append mt_append (pv 3) (pa_cons
            (pe_ifExp (pt_cmpR op_eq (pe_ix ix_seq (pv 4) pe_int (fun _ _ => rfl)) pe_str (nomark _)) (pe_joined (.cons pe_str (.cons (pe_fmt (pv 5)) (.cons pe_str .nil)))) (pv 5)) pa_nil))))))
        (pss_one (ps_set (i := 2) sc_gather.nd rfl (Or.inl rfl) (pe_ifExp (pt_cmpR op_eq (pe_ix ix_tup (pv 0) pe_int (fun _ _ => rfl)) pe_str (nomark _))
          (pe_joined (.cons pe_str (.cons (pe_fmt (pe_ix ix_tup (pv 0) pe_int (fun _ _ => rfl))) (.cons pe_str (.cons (pe_fmt (pe_ix ix_list (pv 3) pe_int (fun _ _ => rfl))) .nil)))))
          (pe_join pe_str (pv 3)))))))
        pss_nil)
      (pss_cons (ps_dput hu (pv 1) (pv 2) (pv 0) rfl)
      (pss_one (ps_ret (pv 2))))), ?_⟩
    have td : ∀ xs, H d ≠ some (.tup xs) := fun xs z => by rw [hd.at_] at z; cases z
    have fin : ∀ H2 ks2 kvs2, But [d] H H2 → Dk H2 d ks2 kvs2 → GoodV H2 kvs2 → ks2.length + 1 ≤ ks.length + nodes c → (∀ s, s ∈ ks2 ↔ s ∈ ks ∨ ∃ k ∈ kids c, ∃ p ∈ prt k, s = tS p) →
        Q (.str (tS c)) (upd H2 d (.dK (putK kvs2 (Sum.inr (tS c)) v))) := by
      intro H2 ks2 kvs2 b h2 g2 l2 m2
      have t1 : TSame H H2 := b.t fun e he => by simp only [List.mem_singleton] at he; subst he; exact td
      have t2 : TSame H2 (upd H2 d (.dK (putK kvs2 (Sum.inr (tS c)) v))) := (But.put (D := [d]) (by simp)).t fun e he xs z => by
        simp only [List.mem_singleton] at he
        subst he
        rw [h2.at_] at z
        cases z
      refine q _ (addS ks2 (tS c)) _ (b.trans (But.put (by simp))) (h2.put _ _) (g2.put t2 hw (hc.t t1)) (Nat.le_trans len_addS l2) fun s => ?_
      rw [mem_addS, m2 s]
      constructor
      · rintro ((h | ⟨k, hk, p, hp, e⟩) | e)
        · exact .inl h
        · exact .inr ⟨p, mem_prt.mpr (.inr ⟨k, hk, hp⟩), e⟩
        · exact .inr ⟨c, prt_self c, e⟩
      · rintro (h | ⟨p, hp, e⟩)
        · exact .inl (.inl h)
        · rcases mem_prt.mp hp with rfl | ⟨k, hk, hp⟩
          · exact .inr e
          · exact .inl (.inr ⟨k, hk, p, hp, e⟩)
    obtain ⟨t, ty, kt⟩ := pl_str (K := K) (con_pl hc)
    refine ⟨_, rfl, _, rfl, _, _, _, _, _, rfl, .ty _, ty, kt, _, rfl, ?_⟩
    by_cases ec : ∃ s, c = .atom s
    · obtain ⟨s, rfl⟩ := ec
      obtain ⟨rfl, hs⟩ := id hc
      have z := fin H ks kvs (But.refl H) hd hg (by simp only [nodes]; omega) fun x => by simp [kids]
      rw [tS_atom] at z
      refine iteF ⟨_, rfl, _, rfl, _, rfl, d, _, rfl, DPut.k (k := Sum.inr s) hd.at_ (by rw [hd.len]; exact small1000 (by omega)), _, rfl, ?_⟩
      exact z
    have es : isStr v = false := by
      cases c with
      | atom s => exact (ec ⟨s, rfl⟩).elim
      | ex r c => obtain ⟨p, u, rfl, _⟩ := hc; rfl
      | and2 a b => obtain ⟨p, u, u', rfl, _⟩ := hc; rfl
      | and3 a b c => obtain ⟨p, u, u', u'', rfl, _⟩ := hc; rfl
    rw [es]
    refine iteT ⟨(by show 0 ≤ sizeLine; decide), fun l hlz => ?_⟩
    have hdl : d ≠ l := ne_of_none hd.at_ hlz
    have s0 : Same H (upd H l (.lst [])) := same_new hlz _
    refine ⟨_, rfl, v, c, rfl, hc.same s0, fun p ws H1 g1 hp hk => ⟨p, rfl, ⟨_, SqT.of hp⟩, ?_⟩⟩
    have hl1 : H1 l = some (.lst []) := g1 _ _ upd_same
    have hd1 : H1 d = H d := by rw [hd.at_]; exact g1 _ _ (by rw [upd_ne hdl]; exact hd.at_)
    have g01 : Same H H1 := s0.trans g1
    have nt1 : ∀ e ∈ [l, d], ∀ xs, H1 e ≠ some (.tup xs) := fun e he xs z => by
      simp only [List.mem_cons, List.not_mem_nil, or_false] at he
      rcases he with rfl | rfl
      · rw [hl1] at z; cases z
      · rw [hd1, hd.at_] at z; cases z
    refine for_tup (xs := ws) (fun i σ H2 => But [l, d] H1 H2 ∧ (∃ o4 o5, σ = [some v, some (.ref d), some v, some (.ref l), o4, o5]) ∧ H2 l = some (.lst (((kids c).take i).map fun k => V.str (pS k))) ∧
        ∃ ks2 kvs2, Dk H2 d ks2 kvs2 ∧ GoodV H2 kvs2 ∧ ks2.length ≤ ks.length + nodesL ((kids c).take i) ∧ ∀ s, s ∈ ks2 ↔ s ∈ ks ∨ ∃ k ∈ (kids c).take i, ∃ p ∈ prt k, s = tS p)
      ⟨But.refl _, ⟨none, none, rfl⟩, hl1, ks, kvs, hd.same hd1, hg.t (Same.t g01), by simp [nodesL], fun s => by simp⟩ (fun i σ H2 _ hh => SqT.of (hh.1 _ _ (fun z => by
        simp only [List.mem_cons, List.not_mem_nil, or_false] at z
        rcases z with rfl | rfl
        · rw [hl1] at hp; cases hp
        · rw [hd1, hd.at_] at hp; cases hp) hp)) ?_ ?_
    · rintro i x σ H2 hi ⟨b2, ⟨o4, o5, rfl⟩, hl2, ks2, kvs2, hd2, hg2, hz2, hm2⟩
      obtain ⟨k, hk1, hk2⟩ := paired_get hk hi
      have kin : k ∈ kids c := List.mem_of_getElem? hk1
      have kn := kid_nest k kin
      have ke : (kids c).take (i + 1) = (kids c).take i ++ [k] := take_more hk1
      have kno : nodesL ((kids c).take i) + nodes k ≤ nodesL (kids c) := by
        have := nodesL_take (l := kids c) (i + 1)
        rw [ke, nodesL_snoc] at this
        exact this
      have nk := nodesL_kids (c := c)
      cases n with
      | zero => omega
      | succ n =>
        have hx2 : ConAt H2 k x := hk2.t (b2.t nt1)
        refine ⟨_, rfl, _, rfl, x, k, d, ks2, kvs2, rfl, hx2, kid_wf hw k kin, by omega, by omega, hd2, hg2, by omega, fun H3 ks3 kvs3 b3 hd3 hg3 hz3 hm3 => ?_⟩
        have hl3 : H3 l = some (.lst (((kids c).take i).map fun k => V.str (pS k))) := b3 _ _ (by simp; exact fun z => hdl z.symm) hl2
        have t23 : TSame H2 H3 := b3.t fun e he xs z => by simp only [List.mem_singleton] at he; subst he; rw [hd2.at_] at z; cases z
        have hlen : (((kids c).take i).map fun k => V.str (pS k)).length < sizeLine := small1000 (by
          rw [List.length_map, List.length_take]
          cases c <;> simp only [kids, List.length_cons, List.length_nil] <;> omega)
        have sk : (tS k).length ≤ 2400 := by
          have := con_len hx2
          unfold tS
          rw [len_sOf]
          omega
        have done : But [l, d] H1 (upd H3 l (.lst ((((kids c).take i).map fun k => V.str (pS k)) ++ [V.str (pS k)]))) ∧ (∃ o4 o5, [some v, some (V.ref d), some v, some (V.ref l), some x, some (V.str (tS k))] = [some v, some (V.ref d), some v, some (V.ref l), o4, o5]) ∧
            (upd H3 l (.lst ((((kids c).take i).map fun k => V.str (pS k)) ++ [V.str (pS k)]))) l = some (.lst (((kids c).take (i + 1)).map fun k => V.str (pS k))) ∧
            ∃ ks2 kvs2, Dk (upd H3 l (.lst ((((kids c).take i).map fun k => V.str (pS k)) ++ [V.str (pS k)]))) d ks2 kvs2 ∧ GoodV (upd H3 l (.lst ((((kids c).take i).map fun k => V.str (pS k)) ++ [V.str (pS k)]))) kvs2 ∧ ks2.length ≤ ks.length + nodesL ((kids c).take (i + 1)) ∧ ∀ s, s ∈ ks2 ↔ s ∈ ks ∨ ∃ k ∈ (kids c).take (i + 1), ∃ p ∈ prt k, s = tS p := by
          refine ⟨(b2.trans (b3.mono (by simp))).trans (But.put (by simp)), ⟨_, _, rfl⟩, ?_, ks3, kvs3, hd3.same (upd_ne hdl), hg3.t ?_, ?_, fun s => ?_⟩
          · rw [upd_same, ke, List.map_append]
            rfl
          · exact (But.put (D := [l]) (by simp)).t fun e he xs z => by
              simp only [List.mem_singleton] at he
              subst he
              rw [hl3] at z
              cases z
          · rw [ke, nodesL_snoc]
            omega
          · rw [hm3 s, hm2 s, ke]
            constructor
            · rintro ((h | ⟨k', hk', h⟩) | h)
              · exact .inl h
              · exact .inr ⟨k', List.mem_append_left _ hk', h⟩
              · exact .inr ⟨k, by simp, h⟩
            · rintro (h | ⟨k', hk', h⟩)
              · exact .inl (.inl h)
              · rcases List.mem_append.mp hk' with hk' | hk'
                · exact .inl (.inr ⟨k', hk', h⟩)
                · simp only [List.mem_singleton] at hk'
                  subst hk'
                  exact .inr h
        refine ⟨_, rfl, .inl ⟨rfl, _, SqL.of hl3⟩, _, rfl, ?_⟩
        have hx3 := hx2.t t23
        cases ea : isAnd k with
        | true =>
          obtain ⟨a, xs, rfl, ha⟩ : ∃ a xs, x = .ref a ∧ H3 a = some (.tup (V.str "and" :: xs)) := by
            cases k with
            | atom s => cases ea
            | ex r c => cases ea
            | and2 a b => obtain ⟨p, u, u', rfl, h, _⟩ := hx3; exact ⟨_, _, rfl, h⟩
            | and3 a b c => obtain ⟨p, u, u', u'', rfl, h, _⟩ := hx3; exact ⟨_, _, rfl, h⟩
          refine .inr (.inl ⟨a, _, _, _, rfl, rfl, SqT.of ha, atI_nat (j := 0) rfl, rfl, _, rfl, ?_⟩)
          rw [decide_eq_true (show V.str ("and" : Str) = V.str "and" from rfl)]
          refine iteT ⟨_, rfl, ?_, _, rfl, .inl ⟨_, rfl, ?_, _, rfl, ?_, _, rfl, ?_, ?_⟩⟩
          · decide +kernel
          · exact Nat.le_trans sk (by decide)
          · rw [len_app]
            exact Nat.le_trans (Nat.add_le_add (show (Str.empty ++ "(" : Str).length ≤ 1 by decide +kernel) sk) (by decide)
          · rw [len_app, len_app]
            exact Nat.le_trans (Nat.add_le_add (Nat.add_le_add (show (Str.empty ++ "(" : Str).length ≤ 1 by decide +kernel) sk) (show (")" : Str).length ≤ 1 by decide +kernel)) (by decide)
          rw [paren_is ea]
          exact ⟨l, _, _, rfl, rfl, hl3, hlen, done⟩
        | false =>
          have eP := pS_eq ea
          rw [← eP] at *
          cases k with
          | and2 a b => cases ea
          | and3 a b c => cases ea
          | atom s =>
            obtain ⟨rfl, hs⟩ := hx3
            have w := kid_wf hw _ kin
            obtain ⟨ch, hch⟩ : ∃ ch, (cs s)[0]? = some ch := by
              cases es2 : cs s with
              | nil => exact (w.2.1 es2).elim
              | cons ch r => exact ⟨ch, rfl⟩
            refine .inr (.inr ⟨s, 0, ch, rfl, rfl, Nat.le_trans hs (by decide), atI_nat (j := 0) hch, rfl, _, rfl, ?_⟩)
            rw [decide_eq_false (one_ne_and ch)]
            exact iteF ⟨_, rfl, l, _, _, rfl, rfl, hl3, hlen, done⟩
          | ex r c =>
            obtain ⟨a, u, rfl, ha, _⟩ := hx3
            refine .inr (.inl ⟨a, _, _, _, rfl, rfl, SqT.of ha, atI_nat (j := 0) rfl, rfl, _, rfl, ?_⟩)
            rw [decide_eq_false (show ¬ V.str ("some" : Str) = V.str "and" from fun z => absurd (V.str.inj z) (by decide +kernel))]
            exact iteF ⟨_, rfl, l, _, _, rfl, rfl, hl3, hlen, done⟩
    · rintro σ H2 ⟨b2, ⟨o4, o5, rfl⟩, hl2, ks2, kvs2, hd2, hg2, hz2, hm2⟩
      have e : (kids c).take ws.length = kids c := by rw [← paired_len hk, List.take_length]
      rw [e] at hl2 hz2 hm2
      have t02 : TSame H H2 := (Same.t g01).trans (b2.t nt1)
      have b02 : But [d] H H2 := ((But.of g01).trans b2).drop hlz
      have nk := nodesL_kids (c := c)
      have z := fin H2 ks2 kvs2 b02 hd2 hg2 (by omega) hm2
      have hlt : kvs2.length < sizeLine := by
        rw [hd2.len]
        exact small1000 (by omega)
      have sz : ∀ k u, ConAt H2 k u → nodes k ≤ 100 → (pS k).length ≤ 2402 := fun k u h1 h2 => by
        have := con_len h1
        have := wrap_len (isAnd k) (txt k)
        unfold pS
        rw [len_sOf]
        show (wrap (isAnd k) (txt k)).length ≤ 2402
        omega
      cases c with
      | atom s => exact (ec ⟨s, rfl⟩).elim
      | ex r c =>
        obtain ⟨a, u, rfl, ha, hu2, hrl⟩ := hc.t t02
        have l1 := sz c u hu2 (by simp only [nodes] at hno; omega)
        have c5 : (Str.empty ++ "some " : Str).length = 5 := by decide +kernel
        have c1 : (" " : Str).length = 1 := by decide +kernel
        refine ⟨_, rfl, a, _, _, _, rfl, rfl, SqT.of ha, atI_nat (j := 0) rfl, rfl, _, rfl, ?_⟩
        rw [decide_eq_true (show V.str ("some" : Str) = V.str "some" from rfl)]
        refine iteT ⟨_, rfl, ?_, _, rfl, a, _, _, _, rfl, rfl, SqT.of ha, atI_nat (j := 1) rfl, .inl ⟨r, rfl, ?_, _, rfl, ?_, _, rfl, ?_, _, rfl, l, _, _, _, rfl, rfl, SqL.of hl2, atI_nat (j := 0) rfl, .inl ⟨_, rfl, ?_, _, rfl, ?_, ?_⟩⟩⟩
        · decide +kernel
        · exact Nat.le_trans hrl (by decide)
        · rw [len_app, c5]
          exact Nat.le_of_lt (small1000 (by omega))
        · rw [len_app, len_app, c5, c1]
          exact Nat.le_of_lt (small1000 (by omega))
        · exact Nat.le_trans l1 (by decide)
        · rw [len_app, len_app, len_app, c5, c1]
          exact Nat.le_trans (Nat.add_le_add (Nat.add_le_add (Nat.add_le_add (Nat.le_refl 5) hrl) (Nat.le_refl 1)) l1) (by decide)
        rw [ex_is]
        refine ⟨_, rfl, _, rfl, _, rfl, d, _, rfl, DPut.k (k := Sum.inr (tS (.ex r c))) hd2.at_ hlt, _, rfl, ?_⟩
        exact z
      | and2 x y =>
        obtain ⟨a, u1, u2, rfl, ha, h1, h2⟩ := hc.t t02
        simp only [nodes] at hno
        have l1 := sz x u1 h1 (by omega)
        have l2 := sz y u2 h2 (by omega)
        have c3 : (" & " : Str).length = 3 := by decide +kernel
        refine ⟨_, rfl, a, _, _, _, rfl, rfl, SqT.of ha, atI_nat (j := 0) rfl, rfl, _, rfl, ?_⟩
        rw [decide_eq_false and_ne_some]
        refine iteF ⟨⟨_, rfl⟩, _, rfl, _, l, [pS x, pS y], rfl, rfl, .inl (SqL.of hl2), ?_, ?_⟩
        · simp only [List.map_cons, List.map_nil, List.sum_cons, List.sum_nil, List.length_cons, List.length_nil, c3]
          omega
        rw [join2]
        refine ⟨_, rfl, _, rfl, _, rfl, d, _, rfl, DPut.k (k := Sum.inr (tS (.and2 x y))) hd2.at_ hlt, _, rfl, ?_⟩
        exact z
      | and3 x y x3 =>
        obtain ⟨a, u1, u2, u3, rfl, ha, h1, h2, h3⟩ := hc.t t02
        simp only [nodes] at hno
        have l1 := sz x u1 h1 (by omega)
        have l2 := sz y u2 h2 (by omega)
        have l3 := sz x3 u3 h3 (by omega)
        have c3 : (" & " : Str).length = 3 := by decide +kernel
        refine ⟨_, rfl, a, _, _, _, rfl, rfl, SqT.of ha, atI_nat (j := 0) rfl, rfl, _, rfl, ?_⟩
        rw [decide_eq_false and_ne_some]
        refine iteF ⟨⟨_, rfl⟩, _, rfl, _, l, [pS x, pS y, pS x3], rfl, rfl, .inl (SqL.of hl2), ?_, ?_⟩
        · simp only [List.map_cons, List.map_nil, List.sum_cons, List.sum_nil, List.length_cons, List.length_nil, c3]
          omega
        rw [join3]
        refine ⟨_, rfl, _, rfl, _, rfl, d, _, rfl, DPut.k (k := Sum.inr (tS (.and3 x y x3))) hd2.at_ hlt, _, rfl, ?_⟩
        exact z
end
end K1
namespace K1
open PySem L2
def depL (l : List Con) : Int := l.foldl (fun m k => if dep k > m then dep k else m) 0
theorem depL_snoc {l : List Con} {k : Con} : depL (l ++ [k]) = if dep k > depL l then dep k else depL l := by unfold depL; rw [List.foldl_append]; rfl
def sizL (l : List Con) : Int := l.foldl (fun m k => m + siz k) 0
theorem fold_add : ∀ (l : List Con) (a : Int), l.foldl (fun m k => m + siz k) a = a + sizL l
  | [], a => by simp [sizL]
  | x :: l, a => by
    unfold sizL
    rw [List.foldl_cons, List.foldl_cons, fold_add l (a + siz x), fold_add l (0 + siz x)]
    omega
theorem sizL_snoc {l : List Con} {k : Con} : sizL (l ++ [k]) = sizL l + siz k := by unfold sizL; rw [List.foldl_append]; rfl
def isEx : Con → Bool
  | .ex _ _ => true
  | _ => false
theorem dep_kids {c : Con} : dep c = depL (kids c) + (if isEx c then 1 else 0) := by
  cases c with
  | atom s => rfl
  | ex r c => have := dep_nn c; simp only [dep, depL, kids, isEx, List.foldl_cons, List.foldl_nil]; split <;> simp <;> omega
  | and2 a b => have := dep_nn a; have := dep_nn b; simp only [dep, depL, kids, isEx, List.foldl_cons, List.foldl_nil]; (repeat split) <;> simp <;> omega
  | and3 a b c => have := dep_nn a; have := dep_nn b; have := dep_nn c; simp only [dep, depL, kids, isEx, List.foldl_cons, List.foldl_nil]; (repeat split) <;> simp <;> omega
theorem siz_kids {c : Con} (h : ∀ s, c ≠ .atom s) : siz c = (if isEx c then 1 else 0) + sizL (kids c) := by
  cases c with
  | atom s => exact (h s rfl).elim
  | ex r c => simp [siz, sizL, kids, isEx]
  | and2 a b => simp [siz, sizL, kids, isEx]
  | and3 a b c => simp [siz, sizL, kids, isEx]
theorem some_is : decide (V.str ("some" : Str) = V.str "some") = true := by decide +kernel
theorem and_is : decide (V.str ("and" : Str) = V.str "some") = false := by decide +kernel
/-- what a concept that is no text is -/
theorem con_head {H : Hp} {c : Con} {v : V} (h : ConAt H c v) (n : ∀ s, c ≠ .atom s) : ∃ a x xs, v = .ref a ∧ H a = some (.tup (.str x :: xs)) ∧ decide (V.str x = V.str "some") = isEx c := by
  cases c with
  | atom s => exact (n s rfl).elim
  | ex r c =>
    obtain ⟨p, u, rfl, h, _⟩ := h
    exact ⟨p, _, _, rfl, h, some_is⟩
  | and2 a b =>
    obtain ⟨p, u, u', rfl, h, _⟩ := h
    exact ⟨p, _, _, rfl, h, and_is⟩
  | and3 a b c =>
    obtain ⟨p, u, u', u'', rfl, h, _⟩ := h
    exact ⟨p, _, _, rfl, h, and_is⟩
theorem con_str {H : Hp} {c : Con} {v : V} (h : ConAt H c v) (n : ∀ s, c ≠ .atom s) : isStr v = false := by
  obtain ⟨a, x, xs, rfl, _⟩ := con_head h n
  rfl
theorem atom_or (c : Con) : (∃ s, c = .atom s) ∨ ∀ s, c ≠ .atom s := by
  cases c with
  | atom s => exact .inl ⟨s, rfl⟩
  | ex r c => exact .inr fun s h => nomatch h
  | and2 a b => exact .inr fun s h => nomatch h
  | and3 a b c => exact .inr fun s h => nomatch h
section
variable {P : Program} {w : World} {K : PySem.W.Frag} {mg : Str → Option Value} {base : Heap}
/-! ### text_of -/
def spTextOf : Sp := fun vs H Q _ => ∃ v c, vs = [v] ∧ ConAt H c v ∧ Wf c ∧ nest c ≤ 8 ∧ nodes c ≤ 100 ∧ ∀ H', Same H H' → Q (.str (tS c)) H'
theorem ok_text_of (D : Defs K mg) : FnOk P w K mg base CX0 11 D.d_text_of.f D.d_text_of.fd ["concept"] spTextOf := by
  have G := ok_gather (P := P) (w := w) (base := base) D 9
  refine D.d_text_of.F.ok sc_text_of (fun vs H Q E h => ?_) (fun cdv A outer s H vs Q E hr h => ?_)
  · obtain ⟨v, c, rfl, _⟩ := h
    rfl
  obtain ⟨v, c, rfl, hc, hw, h1, h2, q⟩ := h
  refine ⟨_, (pss_one (ps_ret (pe_call G hr rfl D.d_gather.m D.d_gather.F.kp D.d_gather.b .nil pass0 (pa_cons (pv 0) (pa_cons pe_dnewK pa_nil))))), ?_⟩
  refine ⟨_, rfl, fun d hd => ⟨v, c, d, [], [], rfl, hc.same (same_new hd _), hw, h1, h2, ⟨upd_same, rfl, List.nodup_nil⟩, fun s v h => by simp [valV] at h, by simp; omega, fun H' ks' kvs' b _ _ _ _ => ?_⟩⟩
  exact q H' fun e o z => b e o (by simp only [List.mem_singleton]; exact ne_of_none z hd) (same_new hd _ e o z)
/-! ### depth_of -/
def spDep : Nat → Sp
  | 0 => fun _ _ _ _ => False
  | n + 1 => fun vs H Q _ => ∃ v c, vs = [v] ∧ ConAt H c v ∧ nest c ≤ n ∧ ∀ H', Same H H' → Q (.int (dep c)) H'
theorem ok_depth_of (D : Defs K mg) : ∀ n, FnOk P w K mg base CX0 (n + 1) D.d_depth_of.f D.d_depth_of.fd ["concept"] (spDep n)
  | 0 => none_left fun _ _ _ _ h => h
  | n + 1 => by
    have G := ok_depth_of D n
    have GI := ok_inner (P := P) (w := w) (base := base) D
    refine D.d_depth_of.F.ok sc_depth_of (fun vs H Q E h => ?_) (fun cdv A outer s H vs Q E hr h => ?_)
    · obtain ⟨v, c, rfl, _⟩ := h
      rfl
    obtain ⟨v, c, rfl, hc, hn, q⟩ := h
    have hr1 : Room 1 _ := hr.mono (by omega)
    refine ⟨_, (pss_cons (ps_set (i := 1) sc_depth_of.nd rfl (Or.inl rfl) pe_int)
      (pss_cons (ps_for PassesOwn.never rfl (pi_tup (pe_call GI hr1 rfl D.d_inner.m D.d_inner.F.kp D.d_inner.b .nil pass0 (pa_cons (pv 0) pa_nil))) (pg_name (i := 2) sc_depth_of.nd rfl (Or.inl rfl)) (pss_one (ps_set (i := 1) sc_depth_of.nd rfl (Or.inl rfl) (pe_callB (call_max2 rfl) (by rfl) D.z_max (by decide +kernel) (pa_cons (pv 1) (pa_cons (pe_call G hr rfl D.d_depth_of.m D.d_depth_of.F.kp D.d_depth_of.b .nil pass0 (pa_cons (pv 2) pa_nil)) pa_nil))))))
      (pss_one (ps_ret (pe_ifExp (PW.pt (pw_and (pt_not (pt_val (pe_callB call_isi (by rfl) D.z_isinstance (by decide +kernel) (pa_cons (pv 0) (pa_cons (pe_bltn (v := .ty "str") (by rfl) D.z_str (by decide +kernel) rfl) pa_nil))))) (pw_and1 (pt_cmpR op_eq (pe_ix ix_tup (pv 0) pe_int (fun _ _ => rfl)) pe_str (nomark _))))) (pe_op op_add (pv 1) pe_int) (pv 1)))))), ?_⟩
    refine ⟨_, rfl, v, c, rfl, hc, fun p ws H1 g1 hp hk => ⟨p, rfl, ⟨_, SqT.of hp⟩, for_tup (xs := ws) (fun i σ H2 => Same H1 H2 ∧ ∃ o, σ = [some v, some (.int (depL ((kids c).take i))), o]) ⟨Same.refl _, none, rfl⟩ (fun i σ H2 _ hh => SqT.of (hh.1 _ _ hp)) ?_ ?_⟩⟩
    · rintro i x σ H2 hi ⟨g, o, rfl⟩
      obtain ⟨k, hk1, hk2⟩ := paired_get hk hi
      have kn := kid_nest k (List.mem_of_getElem? hk1)
      cases n with
      | zero => omega
      | succ n =>
        refine ⟨_, rfl, _, rfl, x, k, rfl, hk2.same g, by omega, fun H3 g3 => ⟨_, _, rfl, ?_⟩⟩
        refine ⟨g.trans g3, some x, ?_⟩
        rw [take_more hk1, depL_snoc]
        rfl
    · rintro σ H2 ⟨g, o, rfl⟩
      have e : (kids c).take ws.length = kids c := by rw [← paired_len hk, List.take_length]
      rw [e]
      have g02 := g1.trans g
      obtain ⟨t, ty, kt⟩ := pl_str (K := K) (con_pl (hc.same g02))
      refine ⟨_, rfl, _, _, _, _, _, rfl, .ty _, ty, kt, _, rfl, ?_⟩
      have z := q H2 g02
      rw [dep_kids] at z
      rcases atom_or c with ⟨s, rfl⟩ | na
      · obtain ⟨rfl, _⟩ := hc
        exact iteF (iteF ⟨_, rfl, by simpa [isEx] using z⟩)
      · rw [con_str hc na]
        obtain ⟨a, x, xs, rfl, ha, hd⟩ := con_head (hc.same g02) na
        refine iteT ⟨_, rfl, a, _, _, _, rfl, rfl, SqT.of ha, atI_nat (j := 0) rfl, rfl, _, rfl, ?_⟩
        rw [hd]
        cases ex : isEx c with
        | true =>
          rw [ex] at z
          exact iteT ⟨_, rfl, _, _, rfl, rfl, z⟩
        | false =>
          rw [ex] at z
          exact iteF ⟨_, rfl, by simpa using z⟩
/-! ### size_of -/
def spSiz : Nat → Sp
  | 0 => fun _ _ _ _ => False
  | n + 1 => fun vs H Q _ => ∃ v c, vs = [v] ∧ ConAt H c v ∧ nest c ≤ n ∧ ∀ H', Same H H' → Q (.int (siz c)) H'
theorem mem_an (s : Str) : decide (s ∈ (["all", "none"] : List Str)) = decide (s = "all" ∨ s = "none") := by simp
theorem ok_size_of (D : Defs K mg) : ∀ n, FnOk P w K mg base CX0 (n + 1) D.d_size_of.f D.d_size_of.fd ["concept"] (spSiz n)
  | 0 => none_left fun _ _ _ _ h => h
  | n + 1 => by
    have G := ok_size_of D n
    have GI := ok_inner (P := P) (w := w) (base := base) D
    refine D.d_size_of.F.ok sc_size_of (fun vs H Q E h => ?_) (fun cdv A outer s H vs Q E hr h => ?_)
    · obtain ⟨v, c, rfl, _⟩ := h
      rfl
    obtain ⟨v, c, rfl, hc, hn, q⟩ := h
    have hr1 : Room 1 _ := hr.mono (by omega)
    refine ⟨_, (pss_cons (ps_if (pt_val (pe_callB call_isi (by rfl) D.z_isinstance (by decide +kernel) (pa_cons (pv 0) (pa_cons (pe_bltn (v := .ty "str") (by rfl) D.z_str (by decide +kernel) rfl) pa_nil)))) (pss_one (ps_ret (pe_ifExp (pt_cmpR op_inT (pv 0) (pe_tup (pa_cons pe_str (pa_cons pe_str pa_nil))) (by rfl)) pe_int pe_int))) pss_nil)
      (pss_cons (ps_set (i := 1) sc_size_of.nd rfl (Or.inl rfl) (pe_ifExp (pt_cmpR op_eq (pe_ix ix_tup (pv 0) pe_int (fun _ _ => rfl)) pe_str (nomark _)) pe_int pe_int))
      (pss_cons (ps_for PassesOwn.never rfl (pi_tup (pe_call GI hr1 rfl D.d_inner.m D.d_inner.F.kp D.d_inner.b .nil pass0 (pa_cons (pv 0) pa_nil))) (pg_name (i := 2) sc_size_of.nd rfl (Or.inl rfl)) (pss_one (ps_set (i := 1) sc_size_of.nd rfl (Or.inl rfl) (pe_op op_add (pv 1) (pe_call G hr rfl D.d_size_of.m D.d_size_of.F.kp D.d_size_of.b .nil pass0 (pa_cons (pv 2) pa_nil))))))
      (pss_one (ps_ret (pv 1)))))), ?_⟩
    obtain ⟨t, ty, kt⟩ := pl_str (K := K) (con_pl hc)
    refine ⟨_, rfl, _, _, _, _, _, rfl, .ty _, ty, kt, _, rfl, ?_⟩
    rcases atom_or c with ⟨s, rfl⟩ | na
    · obtain ⟨rfl, _⟩ := hc
      refine iteT ⟨_, rfl, (by show 2 ≤ sizeLine; decide), fun p hp => ⟨s, p, ["all", "none"], rfl, rfl, .inr (SqT.of upd_same), _, rfl, ?_⟩⟩
      have z := q _ (same_new hp (.tup [.str "all", .str "none"]))
      simp only [siz] at z
      by_cases cz : s = "all" ∨ s = "none"
      · rw [mem_an, decide_eq_true cz]
        rw [if_pos cz] at z
        exact iteT z
      · rw [mem_an, decide_eq_false cz]
        rw [if_neg cz] at z
        exact iteF z
    · rw [con_str hc na]
      obtain ⟨a, x, xs, rfl, ha, hd⟩ := con_head hc na
      refine iteF ⟨_, rfl, a, _, _, _, rfl, rfl, SqT.of ha, atI_nat (j := 0) rfl, rfl, _, rfl, ?_⟩
      rw [hd]
      have rest : ∀ i0 : Int, i0 = (if isEx c then 1 else 0) → ∀ b : Bool, True := fun _ _ _ => trivial
      have main : ∀ i0 : Int, i0 + sizL (kids c) = siz c → ∀ p ws H1, Same H H1 → H1 p = some (.tup ws) → Paired (ConAt H1) (kids c) ws → ∀ (Pq : St → Hp → Prop), (∀ H2 o, Same H H2 → Pq [some (.ref a), some (.int (siz c)), o] H2) → ∀ (Z : Prop), Z → Z := fun _ _ _ _ _ _ _ _ _ _ _ z => z
      have ek := siz_kids na
      cases ex : isEx c with
      | true =>
        refine iteT ⟨_, rfl, .ref a, c, rfl, hc, fun p ws H1 g1 hp hk => ⟨p, rfl, ⟨_, SqT.of hp⟩, for_tup (xs := ws) (fun i σ H2 => Same H1 H2 ∧ ∃ o, σ = [some (.ref a), some (.int (1 + sizL ((kids c).take i))), o]) ⟨Same.refl _, none, rfl⟩ (fun i σ H2 _ hh => SqT.of (hh.1 _ _ hp)) ?_ ?_⟩⟩
        · rintro i x σ H2 hi ⟨g, o, rfl⟩
          obtain ⟨k, hk1, hk2⟩ := paired_get hk hi
          have kn := kid_nest k (List.mem_of_getElem? hk1)
          cases n with
          | zero => omega
          | succ n =>
            refine ⟨_, rfl, _, rfl, x, k, rfl, hk2.same g, by omega, fun H3 g3 => ⟨_, _, rfl, rfl, g.trans g3, some x, ?_⟩⟩
            rw [take_more hk1, sizL_snoc, ← Int.add_assoc]
            rfl
        · rintro σ H2 ⟨g, o, rfl⟩
          have e : (kids c).take ws.length = kids c := by rw [← paired_len hk, List.take_length]
          have z := q H2 (g1.trans g)
          rw [ek, ex] at z
          refine ⟨_, rfl, ?_⟩
          rw [e]
          exact z
      | false =>
        refine iteF ⟨_, rfl, .ref a, c, rfl, hc, fun p ws H1 g1 hp hk => ⟨p, rfl, ⟨_, SqT.of hp⟩, for_tup (xs := ws) (fun i σ H2 => Same H1 H2 ∧ ∃ o, σ = [some (.ref a), some (.int (0 + sizL ((kids c).take i))), o]) ⟨Same.refl _, none, rfl⟩ (fun i σ H2 _ hh => SqT.of (hh.1 _ _ hp)) ?_ ?_⟩⟩
        · rintro i x σ H2 hi ⟨g, o, rfl⟩
          obtain ⟨k, hk1, hk2⟩ := paired_get hk hi
          have kn := kid_nest k (List.mem_of_getElem? hk1)
          cases n with
          | zero => omega
          | succ n =>
            refine ⟨_, rfl, _, rfl, x, k, rfl, hk2.same g, by omega, fun H3 g3 => ⟨_, _, rfl, rfl, g.trans g3, some x, ?_⟩⟩
            rw [take_more hk1, sizL_snoc, ← Int.add_assoc]
            rfl
        · rintro σ H2 ⟨g, o, rfl⟩
          have e : (kids c).take ws.length = kids c := by rw [← paired_len hk, List.take_length]
          have z := q H2 (g1.trans g)
          rw [ek, ex] at z
          refine ⟨_, rfl, ?_⟩
          rw [e]
          exact z
end
end K1
namespace K1
open PySem L2
section
variable {X : Cx} {CX : CXT} {k : Nat} {f : Addr} {sp : Sp} {E : XK} {x : Str} {e : Expr} {es : List Expr} {t : TA} {p pos : Pos}
/-- a call of a def with a star parameter, without stars -/
theorem pe_callF (F : FnR X.prog X.w X.K X.mg X.base CX k f sp) (hr : Room k X.A) (hg : Gl X x) (hm : X.mg x = some (.ref f)) (hk : PySem.W.keepIn X.K (.ref f) = true) (hx : Passes CX X E)
    (ha : PA X (e :: es) t) (hdb : (x == ("__debug__" : Str)) = false := by decide) (he : starEach (e :: es) X.env = (false, eval e X.env) :: starEach es X.env := by rfl) (hpl : (backTo pos (starEach es X.env)).any (·.1) = false := by rfl) :
    PE X (.Call (.Name x p) (e :: es) [] pos) (fun σ H Q => t σ H fun vs H1 => sp vs H1 Q E) := by
  refine ⟨fun pins s σ H Q I h => ?_⟩
  refine wpAny_Call_Name_kw (ld_glob I hg hm ?_ hdb)
  refine PySem.W.callWith_K (h₀ := X.base) I.ok.mod.kin hk (thn (ha.run pos pins s σ H _ I h) fun us s1 ⟨vs, H1, I1, r, q⟩ => ⟨I1.kIn, ?_⟩) he hpl
  exact wpAny_call (run_fnR F hr hx I1 r q)
theorem pe_callF0 (F : FnR X.prog X.w X.K X.mg X.base CX k f sp) (hr : Room k X.A) (hg : Gl X x) (hm : X.mg x = some (.ref f)) (hk : PySem.W.keepIn X.K (.ref f) = true) (hx : Passes CX X E)
    (hdb : (x == ("__debug__" : Str)) = false := by decide) : PE X (.Call (.Name x p) [] [] pos) (fun σ H Q => sp [] H Q E) := by
  refine ⟨fun pins s σ H Q I h => ?_⟩
  refine wpAny_Call_Name_kw (ld_glob I hg hm ?_ hdb)
  exact PySem.W.callWith_K0 I.kIn hk (wpAny_call (run_fnR (us := []) F hr hx I .nil h))
end
theorem nms_kids {c : Con} (h : ∀ s, c ≠ .atom s) (x : Str) : x ∈ nms c ↔ ∃ k ∈ kids c, x ∈ nms k := by
  cases c with
  | atom s => exact (h s rfl).elim
  | ex r c => simp [nms, kids]
  | and2 a b => simp [nms, kids]
  | and3 a b c => simp [nms, kids]
def rl1 : Con → List Str
  | .ex r _ => [r]
  | _ => []
theorem rls_kids {c : Con} (x : Str) : x ∈ rls c ↔ x ∈ rl1 c ∨ ∃ k ∈ kids c, x ∈ rls k := by
  cases c with
  | atom s => simp [rls, kids, rl1]
  | ex r c => simp [rls, kids, rl1]
  | and2 a b => simp [rls, kids, rl1]
  | and3 a b c => simp [rls, kids, rl1]
section
variable {P : Program} {w : World} {K : PySem.W.Frag} {mg : Str → Option Value} {base : Heap}
/-! ### collect_words -/
def spCW : Nat → Sp
  | 0 => fun _ _ _ _ => False
  | n + 1 => fun vs H Q _ => ∃ (v : V) (c : Con) (dn dr : Addr) (kn kr : List Str) (kvn kvr : List (Key × V)), vs = [v, .ref dn, .ref dr] ∧ ConAt H c v ∧ nest c ≤ n ∧ nodes c ≤ 100 ∧ dn ≠ dr ∧ Dk H dn kn kvn ∧ Dk H dr kr kvr ∧ kn.length + nodes c ≤ 1000 ∧ kr.length + nodes c ≤ 1000 ∧
    ∀ H' kn' kr' kvn' kvr', But [dn, dr] H H' → Dk H' dn kn' kvn' → Dk H' dr kr' kvr' → kn'.length ≤ kn.length + nodes c → kr'.length ≤ kr.length + nodes c → (∀ s, s ∈ kn' ↔ s ∈ kn ∨ s ∈ nms c) → (∀ s, s ∈ kr' ↔ s ∈ kr ∨ s ∈ rls c) → Q .non H'
theorem dk_nt {H : Hp} {dn dr : Addr} {kn kr : List Str} {kvn kvr : List (Key × V)} (h1 : Dk H dn kn kvn) (h2 : Dk H dr kr kvr) : ∀ e ∈ [dn, dr], ∀ xs, H e ≠ some (.tup xs) := fun e he xs z => by
  simp only [List.mem_cons, List.not_mem_nil, or_false] at he
  rcases he with rfl | rfl
  · rw [h1.at_] at z; cases z
  · rw [h2.at_] at z; cases z
theorem ok_collect (D : Defs K mg) : ∀ n, FnOk P w K mg base CX0 (n + 1) D.d_collect_words.f D.d_collect_words.fd ["concept", "names", "roles"] (spCW n)
  | 0 => none_left fun _ _ _ _ h => h
  | n + 1 => by
    have G := ok_collect D n
    have GI := ok_inner (P := P) (w := w) (base := base) D
    refine D.d_collect_words.F.ok sc_collect_words (fun vs H Q E h => ?_) (fun cdv A outer s H vs Q E hr h => ?_)
    · obtain ⟨v, c, dn, dr, kn, kr, kvn, kvr, rfl, _⟩ := h
      rfl
    obtain ⟨v, c, dn, dr, kn, kr, kvn, kvr, rfl, hc, hn, hno, hne, hdn, hdr, ln, lr, q⟩ := h
    have hr1 : Room 1 _ := hr.mono (by omega)
    have hu := hu_of hr
    refine ⟨_, (pss_cons (ps_if (pt_val (pe_callB call_isi (by rfl) D.z_isinstance (by decide +kernel) (pa_cons (pv 0) (pa_cons (pe_bltn (v := .ty "str") (by rfl) D.z_str (by decide +kernel) rfl) pa_nil)))) (pss_cons (ps_if (pt_cmpR op_notInT (pv 0) (pe_tup (pa_cons pe_str (pa_cons pe_str pa_nil))) (by rfl)) (pss_one (ps_dput hu (pv 1) (pv 0) pe_bl rfl)) pss_nil)
      (pss_one ps_retN)) pss_nil)
      (pss_cons (ps_if (pt_cmpR op_eq (pe_ix ix_tup (pv 0) pe_int (fun _ _ => rfl)) pe_str (nomark _)) (pss_one (ps_dput hu (pv 2) (pe_ix ix_tup (pv 0) pe_int (fun _ _ => rfl)) pe_bl rfl)) pss_nil)
      (pss_one (ps_for PassesOwn.never rfl (pi_tup (pe_call GI hr1 rfl D.d_inner.m D.d_inner.F.kp D.d_inner.b .nil pass0 (pa_cons (pv 0) pa_nil))) (pg_name (i := 3) sc_collect_words.nd rfl (Or.inl rfl)) (pss_one (ps_expr (pe_call G hr rfl D.d_collect_words.m D.d_collect_words.F.kp D.d_collect_words.b .nil pass0 (pa_cons (pv 3) (pa_cons (pv 1) (pa_cons (pv 2) pa_nil)))))))))), ?_⟩
    obtain ⟨t, ty, kt⟩ := pl_str (K := K) (con_pl hc)
    refine ⟨_, rfl, _, _, _, _, _, rfl, .ty _, ty, kt, _, rfl, ?_⟩
    rcases atom_or c with ⟨s, rfl⟩ | na
    · obtain ⟨rfl, _⟩ := hc
      refine iteT ⟨_, rfl, (by show 2 ≤ sizeLine; decide), fun p hp => ⟨s, p, ["all", "none"], rfl, rfl, .inr (SqT.of upd_same), _, rfl, ?_⟩⟩
      have g0 := same_new hp (.tup [.str "all", .str "none"])
      have pn : dn ≠ p := ne_of_none hdn.at_ hp
      have pr : dr ≠ p := ne_of_none hdr.at_ hp
      by_cases cz : s = "all" ∨ s = "none"
      · rw [mem_an, decide_eq_true cz]
        refine iteF ?_
        refine q _ kn kr kvn kvr (But.of g0) (hdn.same (upd_ne pn)) (hdr.same (upd_ne pr)) (by omega) (by omega) (fun x => ?_) (fun x => ?_)
        · simp only [nms, if_pos cz, List.not_mem_nil, or_false]
        · simp only [rls, List.not_mem_nil, or_false]
      · rw [mem_an, decide_eq_false cz]
        have hdn1 := hdn.same (H' := upd H p (.tup [.str "all", .str "none"])) (upd_ne pn)
        have hdr1 := hdr.same (H' := upd H p (.tup [.str "all", .str "none"])) (upd_ne pr)
        refine iteT ⟨_, rfl, _, rfl, dn, _, rfl, DPut.k (k := Sum.inr s) hdn1.at_ (by rw [hdn1.len]; exact small1000 (by omega)), ?_⟩
        refine q _ (addS kn s) kr _ kvr ((But.of g0).trans (But.put (by simp))) (hdn1.put s _) (hdr1.same (upd_ne hne.symm)) (by have := len_addS (ks := kn) (s := s); simp only [nodes]; omega) (by omega) (fun x => ?_) (fun x => ?_)
        · rw [mem_addS]
          simp only [nms, if_neg cz, List.mem_singleton]
        · simp only [rls, List.not_mem_nil, or_false]
    · rw [con_str hc na]
      obtain ⟨a, x, xs, rfl, ha, hd⟩ := con_head hc na
      have nk := nodesL_kids (c := c)
      -- the loop, from the heap behind the role's store
      have loop : ∀ (H0 : Hp) (kr0 : List Str) (kvr0 : List (Key × V)), But [dn, dr] H H0 → Dk H0 dn kn kvn → Dk H0 dr kr0 kvr0 → kr0.length ≤ kr.length + 1 → (∀ s, s ∈ kr0 ↔ s ∈ kr ∨ s ∈ rl1 c) →
          ∀ p ws H1, Same H0 H1 → H1 p = some (.tup ws) → Paired (ConAt H1) (kids c) ws → 
          let Pv : Nat → L2.St → Hp → Prop := fun i σ H2 => But [dn, dr] H1 H2 ∧ (∃ o, σ = [some (.ref a), some (.ref dn), some (.ref dr), o]) ∧ ∃ kn2 kr2 kvn2 kvr2, Dk H2 dn kn2 kvn2 ∧ Dk H2 dr kr2 kvr2 ∧ kn2.length ≤ kn.length + nodesL ((kids c).take i) ∧ kr2.length ≤ kr.length + 1 + nodesL ((kids c).take i) ∧
            (∀ s, s ∈ kn2 ↔ s ∈ kn ∨ ∃ k ∈ (kids c).take i, s ∈ nms k) ∧ (∀ s, s ∈ kr2 ↔ s ∈ kr0 ∨ ∃ k ∈ (kids c).take i, s ∈ rls k)
          Pv 0 [some (.ref a), some (.ref dn), some (.ref dr), none] H1 ∧ (∀ i σ H2, i ≤ ws.length → Pv i σ H2 → SqT K H2 p ws) ∧ (∀ σ H2, Pv ws.length σ H2 → Q .non H2) := by
        intro H0 kr0 kvr0 b0 hdn0 hdr0 l0 m0 p ws H1 g1 hp hk Pv
        have hdn1 : Dk H1 dn kn kvn := hdn0.same (by rw [hdn0.at_]; exact g1 _ _ hdn0.at_)
        have hdr1 : Dk H1 dr kr0 kvr0 := hdr0.same (by rw [hdr0.at_]; exact g1 _ _ hdr0.at_)
        refine ⟨⟨But.refl _, ⟨none, rfl⟩, kn, kr0, kvn, kvr0, hdn1, hdr1, by omega, by omega, fun s => by simp, fun s => by simp⟩, fun i σ H2 _ hh => SqT.of (hh.1.t (dk_nt hdn1 hdr1) _ _ hp), ?_⟩
        rintro σ H2 ⟨b2, _, kn2, kr2, kvn2, kvr2, h1, h2, l1, l2, m1, m2⟩
        have e : (kids c).take ws.length = kids c := by rw [← paired_len hk, List.take_length]
        rw [e] at l1 l2 m1 m2
        refine q H2 kn2 kr2 kvn2 kvr2 ((b0.trans (But.of g1)).trans b2) h1 h2 (by omega) (by omega) (fun s => ?_) (fun s => ?_)
        · rw [m1 s, nms_kids na]
        · rw [m2 s, m0 s, rls_kids]
          constructor
          · rintro ((h | h) | h)
            · exact .inl h
            · exact .inr (.inl h)
            · exact .inr (.inr h)
          · rintro (h | h | h)
            · exact .inl (.inl h)
            · exact .inl (.inr h)
            · exact .inr h
      have step : ∀ (kr0 : List Str) (H1 : Hp) (ws : List V), Paired (ConAt H1) (kids c) ws → (∀ e ∈ [dn, dr], ∀ xs, H1 e ≠ some (.tup xs)) → kr0.length ≤ kr.length + 1 → ∀ i x H2, ws[i]? = some x → But [dn, dr] H1 H2 →
          ∀ (kn2 kr2 : List Str) (kvn2 kvr2 : List (Key × V)), Dk H2 dn kn2 kvn2 → Dk H2 dr kr2 kvr2 → kn2.length ≤ kn.length + nodesL ((kids c).take i) → kr2.length ≤ kr.length + 1 + nodesL ((kids c).take i) →
            (∀ s, s ∈ kn2 ↔ s ∈ kn ∨ ∃ k ∈ (kids c).take i, s ∈ nms k) → (∀ s, s ∈ kr2 ↔ s ∈ kr0 ∨ ∃ k ∈ (kids c).take i, s ∈ rls k) → ∀ (Q' : V → Hp → Prop),
            (∀ H3, But [dn, dr] H1 H3 → (∃ kn2 kr2 kvn2 kvr2, Dk H3 dn kn2 kvn2 ∧ Dk H3 dr kr2 kvr2 ∧ kn2.length ≤ kn.length + nodesL ((kids c).take (i + 1)) ∧ kr2.length ≤ kr.length + 1 + nodesL ((kids c).take (i + 1)) ∧
              (∀ s, s ∈ kn2 ↔ s ∈ kn ∨ ∃ k ∈ (kids c).take (i + 1), s ∈ nms k) ∧ (∀ s, s ∈ kr2 ↔ s ∈ kr0 ∨ ∃ k ∈ (kids c).take (i + 1), s ∈ rls k)) → Q' .non H3) → spCW n ([x, .ref dn, .ref dr] ++ []) H2 Q' E0 := by
        intro kr0 H1 ws hk nt l0 i x H2 hi b2 kn2 kr2 kvn2 kvr2 h1 h2 l1 l2 m1 m2 Q' hQ
        obtain ⟨k, hk1, hk2⟩ := paired_get hk hi
        have kin : k ∈ kids c := List.mem_of_getElem? hk1
        have kn' := kid_nest k kin
        have ke : (kids c).take (i + 1) = (kids c).take i ++ [k] := take_more hk1
        have kno : nodesL ((kids c).take i) + nodes k ≤ nodesL (kids c) := by
          have := nodesL_take (l := kids c) (i + 1)
          rw [ke, nodesL_snoc] at this
          exact this
        cases n with
        | zero => omega
        | succ n =>
          refine ⟨x, k, dn, dr, kn2, kr2, kvn2, kvr2, rfl, hk2.t (b2.t nt), by omega, by omega, hne, h1, h2, by omega, by omega, fun H3 kn3 kr3 kvn3 kvr3 b3 h3 h4 l3 l4 m3 m4 => ?_⟩
          refine hQ H3 (b2.trans b3) ⟨kn3, kr3, kvn3, kvr3, h3, h4, by rw [ke, nodesL_snoc]; omega, by rw [ke, nodesL_snoc]; omega, fun s => ?_, fun s => ?_⟩
          · rw [m3 s, m1 s, ke]
            simp only [List.mem_append, List.mem_singleton]
            constructor
            · rintro ((h | ⟨y, hy, h⟩) | h)
              · exact .inl h
              · exact .inr ⟨y, .inl hy, h⟩
              · exact .inr ⟨k, .inr rfl, h⟩
            · rintro (h | ⟨y, hy | rfl, h⟩)
              · exact .inl (.inl h)
              · exact .inl (.inr ⟨y, hy, h⟩)
              · exact .inr h
          · rw [m4 s, m2 s, ke]
            simp only [List.mem_append, List.mem_singleton]
            constructor
            · rintro ((h | ⟨y, hy, h⟩) | h)
              · exact .inl h
              · exact .inr ⟨y, .inl hy, h⟩
              · exact .inr ⟨k, .inr rfl, h⟩
            · rintro (h | ⟨y, hy | rfl, h⟩)
              · exact .inl (.inl h)
              · exact .inl (.inr ⟨y, hy, h⟩)
              · exact .inr h
      refine iteF ⟨_, rfl, a, _, _, _, rfl, rfl, SqT.of ha, atI_nat (j := 0) rfl, rfl, _, rfl, ?_⟩
      rw [hd]
      cases ex : isEx c with
      | true =>
        obtain ⟨r, c', rfl⟩ : ∃ r c', c = .ex r c' := by
          cases c <;> first | exact ⟨_, _, rfl⟩ | (cases ex)
        obtain ⟨a', u, e1, ha', hu', hrl⟩ := id hc
        cases e1
        rw [ha] at ha'
        cases ha'
        have tt : TSame H (upd H dr (.dK (putK kvr (Sum.inr r) (.bl true)))) := (But.put (D := [dn, dr]) (by simp)).t (dk_nt hdn hdr)
        refine iteT ⟨_, rfl, _, rfl, a, _, _, _, rfl, rfl, SqT.of ha, atI_nat (j := 1) rfl, dr, _, rfl, DPut.k (k := Sum.inr r) hdr.at_ (by rw [hdr.len]; exact small1000 (by omega)), ?_⟩
        refine ⟨_, rfl, .ref a, _, rfl, hc.t tt, fun p ws H1 g1 hp hk => ⟨p, rfl, ⟨_, SqT.of hp⟩, ?_⟩⟩
        have h0n : Dk (upd H dr (.dK (putK kvr (Sum.inr r) (.bl true)))) dn kn kvn := hdn.same (upd_ne hne)
        have h0r := hdr.put r (.bl true)
        obtain ⟨p0, p1, p2⟩ := loop _ (addS kr r) _ (But.put (by simp)) h0n h0r len_addS (fun s => by rw [mem_addS]; simp [rl1]) p ws H1 g1 hp hk
        have n1 : Dk H1 dn kn kvn := h0n.same (by rw [h0n.at_]; exact g1 _ _ h0n.at_)
        have n2 : Dk H1 dr _ _ := h0r.same (by rw [h0r.at_]; exact g1 _ _ h0r.at_)
        refine for_tup (xs := ws) _ p0 p1 ?_ p2
        rintro i x σ H2 hi ⟨b2, ⟨o, rfl⟩, kn2, kr2, kvn2, kvr2, h1, h2, l1, l2, m1, m2⟩
        refine ⟨_, rfl, _, rfl, _, rfl, ?_⟩
        exact step _ H1 ws hk (dk_nt n1 n2) len_addS i x H2 hi b2 kn2 kr2 kvn2 kvr2 h1 h2 l1 l2 m1 m2 _ fun H3 b3 h3 => ⟨b3, ⟨_, rfl⟩, h3⟩
      | false =>
        have er : rl1 c = [] := by cases c <;> first | rfl | (cases ex)
        refine iteF ?_
        refine ⟨_, rfl, .ref a, _, rfl, hc, fun p ws H1 g1 hp hk => ⟨p, rfl, ⟨_, SqT.of hp⟩, ?_⟩⟩
        obtain ⟨p0, p1, p2⟩ := loop H kr kvr (But.refl H) hdn hdr (by omega) (fun s => by rw [er]; simp) p ws H1 g1 hp hk
        have n1 : Dk H1 dn kn kvn := hdn.same (by rw [hdn.at_]; exact g1 _ _ hdn.at_)
        have n2 : Dk H1 dr kr kvr := hdr.same (by rw [hdr.at_]; exact g1 _ _ hdr.at_)
        refine for_tup (xs := ws) _ p0 p1 ?_ p2
        rintro i x σ H2 hi ⟨b2, ⟨o, rfl⟩, kn2, kr2, kvn2, kvr2, h1, h2, l1, l2, m1, m2⟩
        refine ⟨_, rfl, _, rfl, _, rfl, ?_⟩
        exact step _ H1 ws hk (dk_nt n1 n2) (by omega) i x H2 hi b2 kn2 kr2 kvn2 kvr2 h1 h2 l1 l2 m1 m2 _ fun H3 b3 h3 => ⟨b3, ⟨_, rfl⟩, h3⟩
end
end K1
namespace K1
open PySem L2
/-- told words stand at p -/
def ToldAt (H : Hp) (p : Addr) (ys zs : List Str) : Prop := ∃ t1 t2, H p = some (.tup [.ref t1, .ref t2]) ∧ H t1 = some (.tup (ys.map V.str)) ∧ H t2 = some (.tup (zs.map V.str))
theorem perm_mem {l m : List Str} (h : l.Perm m) (x : Str) : x ∈ l ↔ x ∈ m := h.mem_iff
/-- concepts whose words are good and few -/
def Fine (N R : List Str) (c : Con) : Prop := In N R c ∧ nest c ≤ 8 ∧ nodes c ≤ 50
structure Vocab (N R : List Str) : Prop where
  n : ∀ x ∈ N, wordOk x = true
  r : ∀ x ∈ R, wordOk x = true
  ln : N.length ≤ 10
  lr : R.length ≤ 10
section
variable {P : Program} {w : World} {K : PySem.W.Frag} {mg : Str → Option Value} {base : Heap}
/-! ### told_words -/
def spTold : Sp := fun vs H Q _ => ∃ (dn dr : Addr) (kn kr : List Str) (kvn kvr : List (Key × V)), vs = [.ref dn, .ref dr] ∧ Dk H dn kn kvn ∧ Dk H dr kr kvr ∧ kn.length < 64 ∧ kr.length < 64 ∧
  ∀ H' p ys zs, Same H H' → ToldAt H' p ys zs → Asc ys → Asc zs → (∀ s, s ∈ ys ↔ s ∈ kn) → (∀ s, s ∈ zs ↔ s ∈ kr) → Q (.ref p) H'
theorem ok_told (D : Defs K mg) : FnOk P w K mg base CX0 1 D.d_told_words.f D.d_told_words.fd ["names", "roles"] spTold := by
  refine D.d_told_words.F.ok sc_told_words (fun vs H Q E h => ?_) (fun cdv A outer s H vs Q E hr h => ?_)
  · obtain ⟨dn, dr, kn, kr, kvn, kvr, rfl, _⟩ := h
    rfl
  obtain ⟨dn, dr, kn, kr, kvn, kvr, rfl, h1, h2, l1, l2, q⟩ := h
  refine ⟨_, (pss_one (ps_ret (pe_tup (pa_cons (pe_callTy call_tuple_of (by rfl) D.z_tuple (by decide +kernel) (pa_cons (pe_callB (call_sortedD rfl) (by rfl) D.z_sorted (by decide +kernel) (pa_cons (pv 0) pa_nil)) pa_nil)) (pa_cons (pe_callTy call_tuple_of (by rfl) D.z_tuple (by decide +kernel) (pa_cons (pe_callB (call_sortedD rfl) (by rfl) D.z_sorted (by decide +kernel) (pa_cons (pv 1) pa_nil)) pa_nil)) pa_nil))))), ?_⟩
  refine ⟨_, rfl, dn, kvn, kn, rfl, Rd.of h1.at_, h1.keys, l1, fun ys p1 pm1 sr1 hp1 => ⟨p1, _, rfl, .inl ⟨SqL.of upd_same, fun t1 ht1 => ?_⟩⟩⟩
  have g1 : Same H (upd H p1 (.lst (ys.map V.str))) := same_new hp1 _
  have g2 : Same H (upd (upd H p1 (.lst (ys.map V.str))) t1 (.tup (ys.map V.str))) := g1.trans (same_new ht1 _)
  refine ⟨_, rfl, dr, kvr, kr, rfl, Rd.of (g2 _ _ h2.at_), h2.keys, l2, fun zs p2 pm2 sr2 hp2 => ⟨p2, _, rfl, .inl ⟨SqL.of upd_same, fun t2 ht2 => ?_⟩⟩⟩
  refine ⟨(by show 2 ≤ sizeLine; decide), fun p hp => ?_⟩
  have g3 := same_new hp2 (.lst (zs.map V.str))
  have g4 := same_new ht2 (.tup (zs.map V.str))
  have g5 := same_new hp (.tup [.ref t1, .ref t2])
  refine q _ p ys zs (g2.trans (g3.trans (g4.trans g5))) ⟨t1, t2, upd_same, g5 _ _ (g4 _ _ (g3 _ _ upd_same)), g5 _ _ upd_same⟩ (asc_of (weak_of sr1) (pm1.nodup_iff.mpr h1.nd)) (asc_of (weak_of sr2) (pm2.nodup_iff.mpr h2.nd)) (fun s => pm1.mem_iff) (fun s => pm2.mem_iff)
/-! ### parts, size, depth, text -/
def spParts : Sp := fun vs H Q _ => ∃ v c N R, vs = [v] ∧ ConAt H c v ∧ Vocab N R ∧ Fine N R c ∧
  ∀ H' p ws cl, Same H H' → H' p = some (.lst ws) → Paired (ConAt H') cl ws → (∀ x ∈ cl, Wf x) → Asc (cl.map tS) → (∀ s, s ∈ cl.map tS ↔ ∃ x ∈ prt c, s = tS x) → Q (.ref p) H'
theorem fine_wf {N R : List Str} {c : Con} (V : Vocab N R) (h : Fine N R c) : Wf c := wf_of V.n V.r h.1
theorem fine_nested {N R : List Str} {c : Con} {H : Hp} {v : V} (V : Vocab N R) (h : Fine N R c) (hc : ConAt H c v) : Kn H 9 v ∧ nestedB H 100 v = true :=
  ⟨con_kn hc (Nat.le_trans h.2.1 (by decide)), con_nested V.n V.r h.1 hc (Nat.le_trans h.2.1 (by decide))⟩
theorem ok_parts (D : Defs K mg) : FnOk P w K mg base CX0 14 D.d_parts.f D.d_parts.fd ["concept"] spParts := by
  have GN := ok_need (P := P) (w := w) (base := base) D
  have GG := ok_gather (P := P) (w := w) (base := base) D 9
  refine D.d_parts.F.ok sc_parts (fun vs H Q E h => ?_) (fun cdv A outer s H vs Q E hr h => ?_)
  · obtain ⟨v, c, N, R, rfl, _⟩ := h
    rfl
  obtain ⟨v, c, N, R, rfl, hc, vo, hf, q⟩ := h
  have hr1 : Room 10 _ := hr.mono (by omega)
  have hu := hu_of hr
  refine ⟨_, (pss_cons (ps_expr (pe_call GN hr rfl D.d_need_concept.m D.d_need_concept.F.kp D.d_need_concept.b .nil pass0 (pa_cons (pv 0) pa_nil)))
      (pss_cons (ps_set (i := 1) sc_parts.nd rfl (Or.inr rfl) pe_dnewK)
      (pss_cons (ps_expr (pe_call GG hr1 rfl D.d_gather.m D.d_gather.F.kp D.d_gather.b .nil pass0 (pa_cons (pv 0) (pa_cons (pv 1) pa_nil))))
      (pss_one (ps_ret (pe_lc (own := [("told", 2)]) (g := gName 2) rfl sc_parts.nd (pi_list (pe_callB (call_sortedD rfl) (by rfl) D.z_sorted (by decide +kernel) (pa_cons (pv 1) pa_nil))) (blkOk_by (N := ["concept", "found", "told"]) (sc := defScope s_parts) (by decide +kernel)) (fun _ _ _ _ _ => pg_name (i := 2) sc_parts.nd rfl (Or.inl rfl)) (fun _ _ _ _ _ => pts_nil) (fun _ _ _ _ _ => (pe_dget hu (pv 1) (pv 2) (fun _ _ => rfl))))))))), ?_⟩
  obtain ⟨k1, k2⟩ := fine_nested vo hf hc
  refine ⟨_, rfl, v, rfl, k1, k2, fun H1 g1 => ?_⟩
  intro d hd
  have g2 := same_new hd (.dK [])
  have hw := fine_wf vo hf
  refine ⟨_, rfl, _, rfl, v, c, d, [], [], rfl, (hc.same g1).same g2, hw, hf.2.1, (by have := hf.2.2; omega), ⟨upd_same, rfl, List.nodup_nil⟩, (fun s v h => by simp [valV] at h), (by have := hf.2.2; simp; omega), fun H3 ks kvs b3 hd3 hg3 hl3 hm3 => ?_⟩
  have g3 : Same H H3 := fun e o z => b3 e o (by simp only [List.mem_singleton]; exact ne_of_none (g1 _ _ z) hd) (g2 _ _ (g1 _ _ z))
  have hl : ks.length < 64 := by have := hf.2.2; simp at hl3; omega
  refine ⟨_, rfl, d, kvs, ks, rfl, Rd.of hd3.at_, hd3.keys, hl, fun ys p pm sr hp => ⟨p, rfl, ⟨_, SqL.of upd_same⟩, fun D0 hD => ?_⟩⟩
  have g4 := same_new hp (.lst (ys.map V.str))
  have asc := asc_of (weak_of sr) (pm.nodup_iff.mpr hd3.nd)
  have pD : p ≠ D0 := ne_of_none upd_same hD
  have dD : d ≠ D0 := ne_of_none (g4 _ _ hd3.at_) hD
  -- the list that is made
  refine lc_list (K := K) (a := p) (xs := ys.map V.str) (fun i H4 => But [D0] (upd (upd H3 p (.lst (ys.map V.str))) D0 (.lst [])) H4 ∧ ∃ ws cl, H4 D0 = some (.lst ws) ∧ Paired (ConAt H4) cl ws ∧ (∀ x ∈ cl, Wf x) ∧ cl.map tS = ys.take i)
    ⟨But.refl _, [], [], upd_same, .nil, (fun x hx => by cases hx), rfl⟩ (fun i H4 _ hh => SqL.of (hh.1 _ _ (by simpa using pD) (by rw [upd_ne pD]; exact upd_same))) ?_ ?_
  · rintro i x H4 hi ⟨b4, ws, cl, hw4, hp4, hwf, hmap⟩
    obtain ⟨y, hy, rfl⟩ : ∃ y, ys[i]? = some y ∧ V.str y = x := by
      rw [List.getElem?_map] at hi
      cases e : ys[i]? with
      | none => rw [e] at hi; cases hi
      | some y => rw [e] at hi; exact ⟨y, rfl, Option.some.inj hi⟩
    have hd4 : H4 d = some (.dK kvs) := b4 _ _ (by simpa using dD) (by rw [upd_ne dD]; exact g4 _ _ hd3.at_)
    obtain ⟨u, hu4⟩ := hd3.some (pm.mem_iff.mp (List.mem_of_getElem? hy))
    obtain ⟨q0, w0, e0, c0⟩ := hg3 y u hu4
    have t34 : TSame H3 H4 := by
      intro b xs z
      refine b4 b _ ?_ ?_
      · simp only [List.mem_singleton]
        intro e
        subst e
        have := g4 _ _ z
        rw [hD] at this
        cases this
      · rw [upd_ne (ne_of_none (g4 _ _ z) hD)]
        exact g4 _ _ z
    have t45 : TSame H4 (upd H4 D0 (.lst (ws ++ [u]))) := (But.put (D := [D0]) (by simp)).t fun e he xs z => by
      simp only [List.mem_singleton] at he
      subst he
      rw [hw4] at z
      cases z
    refine ⟨rfl, _, rfl, _, rfl, d, u, rfl, ?_, ws, hw4, ?_, ?_⟩
    · have := DGet.k (k := Sum.inr y) hd4
      rw [hu4] at this
      exact this
    · have e1 := paired_len hp4
      have e2 := congrArg List.length hmap
      rw [List.length_map, List.length_take] at e2
      have : ys.length = ks.length := pm.length_eq
      exact small1000 (by omega)
    · refine ⟨b4.trans (But.put (by simp)), ws ++ [u], cl ++ [q0], upd_same, paired_snoc (c0.t (t34.trans t45)) (paired_t t45 hp4), ?_, ?_⟩
      · intro x hx
        rcases List.mem_append.mp hx with hx | hx
        · exact hwf x hx
        · simp only [List.mem_singleton] at hx; subst hx; exact w0
      · rw [List.map_append, hmap, take_more hy, ← e0.symm]
        simp [e0]
  · rintro H4 ⟨b4, ws, cl, hw4, hp4, hwf, hmap⟩
    rw [List.length_map, List.take_length] at hmap
    have g5 : Same H H4 := fun e o z => by
      have z4 := g4 _ _ (g3 _ _ z)
      exact b4 e o (by simp only [List.mem_singleton]; exact ne_of_none z4 hD) (by rw [upd_ne (ne_of_none z4 hD)]; exact z4)
    refine q H4 D0 ws cl g5 hw4 hp4 hwf (by rw [hmap]; exact asc) fun s => ?_
    rw [hmap, pm.mem_iff, hm3 s]
    simp
def spOf (f : Con → V) : Sp := fun vs H Q _ => ∃ v c N R, vs = [v] ∧ ConAt H c v ∧ Vocab N R ∧ Fine N R c ∧ ∀ H', Same H H' → Q (f c) H'
theorem ok_size (D : Defs K mg) : FnOk P w K mg base CX0 14 D.d_size.f D.d_size.fd ["concept"] (spOf fun c => .int (siz c)) := by
  have GN := ok_need (P := P) (w := w) (base := base) D
  have G := ok_size_of (P := P) (w := w) (base := base) D 9
  refine D.d_size.F.ok sc_size (fun vs H Q E h => ?_) (fun cdv A outer s H vs Q E hr h => ?_)
  · obtain ⟨v, c, N, R, rfl, _⟩ := h
    rfl
  obtain ⟨v, c, N, R, rfl, hc, vo, hf, q⟩ := h
  have hr1 : Room 10 _ := hr.mono (by omega)
  refine ⟨_, (pss_cons (ps_expr (pe_call GN hr rfl D.d_need_concept.m D.d_need_concept.F.kp D.d_need_concept.b .nil pass0 (pa_cons (pv 0) pa_nil)))
      (pss_one (ps_ret (pe_call G hr1 rfl D.d_size_of.m D.d_size_of.F.kp D.d_size_of.b .nil pass0 (pa_cons (pv 0) pa_nil))))), ?_⟩
  obtain ⟨k1, k2⟩ := fine_nested vo hf hc
  exact ⟨_, rfl, v, rfl, k1, k2, fun H1 g1 => ⟨_, rfl, v, c, rfl, hc.same g1, hf.2.1, fun H2 g2 => q H2 (g1.trans g2)⟩⟩
theorem ok_depth (D : Defs K mg) : FnOk P w K mg base CX0 14 D.d_depth.f D.d_depth.fd ["concept"] (spOf fun c => .int (dep c)) := by
  have GN := ok_need (P := P) (w := w) (base := base) D
  have G := ok_depth_of (P := P) (w := w) (base := base) D 9
  refine D.d_depth.F.ok sc_depth (fun vs H Q E h => ?_) (fun cdv A outer s H vs Q E hr h => ?_)
  · obtain ⟨v, c, N, R, rfl, _⟩ := h
    rfl
  obtain ⟨v, c, N, R, rfl, hc, vo, hf, q⟩ := h
  have hr1 : Room 10 _ := hr.mono (by omega)
  refine ⟨_, (pss_cons (ps_expr (pe_call GN hr rfl D.d_need_concept.m D.d_need_concept.F.kp D.d_need_concept.b .nil pass0 (pa_cons (pv 0) pa_nil)))
      (pss_one (ps_ret (pe_call G hr1 rfl D.d_depth_of.m D.d_depth_of.F.kp D.d_depth_of.b .nil pass0 (pa_cons (pv 0) pa_nil))))), ?_⟩
  obtain ⟨k1, k2⟩ := fine_nested vo hf hc
  exact ⟨_, rfl, v, rfl, k1, k2, fun H1 g1 => ⟨_, rfl, v, c, rfl, hc.same g1, hf.2.1, fun H2 g2 => q H2 (g1.trans g2)⟩⟩
theorem ok_text (D : Defs K mg) : FnOk P w K mg base CX0 14 D.d_text.f D.d_text.fd ["concept"] (spOf fun c => .str (tS c)) := by
  have GN := ok_need (P := P) (w := w) (base := base) D
  have G := ok_text_of (P := P) (w := w) (base := base) D
  refine D.d_text.F.ok sc_text (fun vs H Q E h => ?_) (fun cdv A outer s H vs Q E hr h => ?_)
  · obtain ⟨v, c, N, R, rfl, _⟩ := h
    rfl
  obtain ⟨v, c, N, R, rfl, hc, vo, hf, q⟩ := h
  have hr1 : Room 11 _ := hr.mono (by omega)
  refine ⟨_, (pss_cons (ps_expr (pe_call GN hr rfl D.d_need_concept.m D.d_need_concept.F.kp D.d_need_concept.b .nil pass0 (pa_cons (pv 0) pa_nil)))
      (pss_one (ps_ret (pe_call G hr1 rfl D.d_text_of.m D.d_text_of.F.kp D.d_text_of.b .nil pass0 (pa_cons (pv 0) pa_nil))))), ?_⟩
  obtain ⟨k1, k2⟩ := fine_nested vo hf hc
  exact ⟨_, rfl, v, rfl, k1, k2, fun H1 g1 => ⟨_, rfl, v, c, rfl, hc.same g1, fine_wf vo hf, hf.2.1, (by have := hf.2.2; omega), fun H2 g2 => q H2 (g1.trans g2)⟩⟩
end
end K1
namespace K1
open PySem L2
section
variable {P : Program} {w : World} {K : PySem.W.Frag} {mg : Str → Option Value} {base : Heap}
/-! ### words_in -/
def spWI0 : Sp := fun vs H Q _ => ∃ (p : Addr) (ws : List L2.V) (cl : List Con) (N R : List Str), vs = [.ref p] ∧ H p = some (.tup ws) ∧ Paired (ConAt H) cl ws ∧ cl.length ≤ 8 ∧ Vocab N R ∧ (∀ c ∈ cl, Fine N R c) ∧
  ∀ H' r ys zs, Same H H' → ToldAt H' r ys zs → Asc ys → Asc zs → (∀ s, s ∈ ys ↔ ∃ c ∈ cl, s ∈ nms c) → (∀ s, s ∈ zs ↔ ∃ c ∈ cl, s ∈ rls c) → Q (.ref r) H'
def spWI : Sp := fun vs H Q _ => ∃ (cl : List Con) (N R : List Str), Paired (ConAt H) cl vs ∧ cl.length ≤ 8 ∧ Vocab N R ∧ (∀ c ∈ cl, Fine N R c) ∧
  ∀ H' r ys zs, Same H H' → ToldAt H' r ys zs → Asc ys → Asc zs → (∀ s, s ∈ ys ↔ ∃ c ∈ cl, s ∈ nms c) → (∀ s, s ∈ zs ↔ ∃ c ∈ cl, s ∈ rls c) → Q (.ref r) H'
theorem ok_words_in (D : Defs K mg) : FnR P w K mg base CX0 15 D.wi spWI := by
  have GN := ok_needs (P := P) (w := w) (base := base) D
  have GC := ok_collect (P := P) (w := w) (base := base) D 9
  have GT := ok_told (P := P) (w := w) (base := base) D
  obtain ⟨oc, od, kV, doc, pm, an, cdv, ct, osl, lk, hcd⟩ := D.wi_l
  have F := StX.fn_star (P := P) (w := w) (mg := mg) (base := base) (CX := CX0) (k := 14) (ps := []) (pv := "concepts") (N := ["concepts", "names", "roles", "concept"]) (sp := spWI0) lk hcd sc_words_in StX.cxUp_none
    (fun us rest hu => by
      cases us with
      | cons a b => cases hu
      | nil =>
        cases rest with
        | nil => rfl
        | cons a r => rfl)
    (fun A outer s H vs Q E hr h => by
      obtain ⟨p, ws, cl, N, R, rfl, hp, hk, hl, vo, hf, q⟩ := h
      have hr1 : Room 10 _ := hr.mono (by omega)
      have hr2 : Room 1 _ := hr.mono (by omega)
      refine ⟨_, PSs.nox ((pss_cons (ps_expr (pe_call GN hr rfl D.d_need_concepts.m D.d_need_concepts.F.kp D.d_need_concepts.b .nil pass0 (pa_cons (pv 0) pa_nil)))
      (pss_cons (ps_par (i := 1) (j := 2) (by rfl) sc_words_in.nd rfl rfl (by decide) rfl rfl (pa_cons pe_dnewK (pa_cons pe_dnewK pa_nil)) (by rfl))
      (pss_cons (ps_for PassesOwn.never rfl (pi_tup (pv 0)) (pg_name (i := 3) sc_words_in.nd rfl (Or.inl rfl)) (pss_one (ps_expr (pe_call GC hr1 rfl D.d_collect_words.m D.d_collect_words.F.kp D.d_collect_words.b .nil pass0 (pa_cons (pv 3) (pa_cons (pv 1) (pa_cons (pv 2) pa_nil)))))))
      (pss_one (ps_ret (pe_call GT hr2 rfl D.d_told_words.m D.d_told_words.F.kp D.d_told_words.b .nil pass0 (pa_cons (pv 1) (pa_cons (pv 2) pa_nil))))))))), ?_⟩
      refine ⟨_, rfl, p, ws, rfl, hp, fun v hv => ?_, fun H1 g1 => ?_⟩
      · obtain ⟨i, hi⟩ := List.getElem?_of_mem hv
        obtain ⟨c, hc, hcv⟩ := paired_get hk hi
        exact fine_nested vo (hf c (List.mem_of_getElem? hc)) hcv
      intro dn hdn dr hdr
      have g2 := same_new hdn (.dK [])
      have g3 := same_new hdr (.dK [])
      have ndr : dn ≠ dr := ne_of_none upd_same hdr
      refine ⟨_, _, rfl, ?_⟩
      have g03 : Same H (L2.upd (L2.upd H1 dn (.dK [])) dr (.dK [])) := g1.trans (g2.trans g3)
      have k1 : Dk (L2.upd (L2.upd H1 dn (.dK [])) dr (.dK [])) dn [] [] := ⟨by rw [upd_ne ndr, upd_same], rfl, List.nodup_nil⟩
      have k2 : Dk (L2.upd (L2.upd H1 dn (.dK [])) dr (.dK [])) dr [] [] := ⟨upd_same, rfl, List.nodup_nil⟩
      have hp3 := g03 _ _ hp
      refine ⟨_, rfl, p, rfl, ⟨_, SqT.of hp3⟩, for_tup (xs := ws) (fun i σ H2 => But [dn, dr] (L2.upd (L2.upd H1 dn (.dK [])) dr (.dK [])) H2 ∧ (∃ o, σ = [some (.ref p), some (.ref dn), some (.ref dr), o]) ∧
        ∃ kn kr kvn kvr, Dk H2 dn kn kvn ∧ Dk H2 dr kr kvr ∧ kn.length ≤ 50 * i ∧ kr.length ≤ 50 * i ∧ (∀ s, s ∈ kn ↔ ∃ c ∈ cl.take i, s ∈ nms c) ∧ (∀ s, s ∈ kr ↔ ∃ c ∈ cl.take i, s ∈ rls c))
        ⟨But.refl _, ⟨none, rfl⟩, [], [], [], [], k1, k2, by simp, by simp, fun s => by simp, fun s => by simp⟩ (fun i σ H2 _ hh => SqT.of (hh.1.t (dk_nt k1 k2) _ _ hp3)) ?_ ?_⟩
      · rintro i x σ H2 hi ⟨b2, ⟨o, rfl⟩, kn, kr, kvn, kvr, h1, h2, l1, l2, m1, m2⟩
        obtain ⟨c, hc, hcv⟩ := paired_get hk hi
        have f := hf c (List.mem_of_getElem? hc)
        have hi8 : i < cl.length := (List.getElem?_eq_some_iff.mp hc).1
        have hno := f.2.2
        have ke : cl.take (i + 1) = cl.take i ++ [c] := take_more hc
        refine ⟨_, rfl, _, rfl, _, rfl, x, c, dn, dr, kn, kr, kvn, kvr, rfl, (hcv.same g03).t (b2.t (dk_nt k1 k2)), f.2.1, by omega, ndr, h1, h2, by omega, by omega, fun H3 kn' kr' kvn' kvr' b3 h3 h4 l3 l4 m3 m4 => ?_⟩
        refine ⟨b2.trans b3, ⟨_, rfl⟩, kn', kr', kvn', kvr', h3, h4, by omega, by omega, fun s => ?_, fun s => ?_⟩
        · rw [m3 s, m1 s, ke]
          simp only [List.mem_append, List.mem_singleton]
          constructor
          · rintro (⟨y, hy, h⟩ | h)
            · exact ⟨y, .inl hy, h⟩
            · exact ⟨c, .inr rfl, h⟩
          · rintro ⟨y, hy | rfl, h⟩
            · exact .inl ⟨y, hy, h⟩
            · exact .inr h
        · rw [m4 s, m2 s, ke]
          simp only [List.mem_append, List.mem_singleton]
          constructor
          · rintro (⟨y, hy, h⟩ | h)
            · exact ⟨y, .inl hy, h⟩
            · exact ⟨c, .inr rfl, h⟩
          · rintro ⟨y, hy | rfl, h⟩
            · exact .inl ⟨y, hy, h⟩
            · exact .inr h
      · rintro σ H2 ⟨b2, ⟨o, rfl⟩, kn, kr, kvn, kvr, h1, h2, l1, l2, m1, m2⟩
        have e : cl.take ws.length = cl := by rw [← paired_len hk, List.take_length]
        rw [e] at m1 m2
        have b1 : ∀ x ∈ kn, x ∈ N := fun x hx => by
          obtain ⟨c, hc, h⟩ := (m1 x).mp hx
          exact nms_in (hf c hc).1 x h
        have b1' : ∀ x ∈ kr, x ∈ R := fun x hx => by
          obtain ⟨c, hc, h⟩ := (m2 x).mp hx
          exact rls_in (hf c hc).1 x h
        have s1 := nodup_le h1.nd b1
        have s2 := nodup_le h2.nd b1'
        have := vo.ln
        have := vo.lr
        have b02 : Same H H2 := fun a o z => by
          have z3 := g03 a o z
          refine b2 a o ?_ z3
          simp only [List.mem_cons, List.not_mem_nil, or_false]
          rintro (rfl | rfl)
          · have := g1 _ _ z; rw [hdn] at this; cases this
          · have := g2 _ _ (g1 _ _ z); rw [hdr] at this; cases this
        refine ⟨_, rfl, _, rfl, dn, dr, kn, kr, kvn, kvr, rfl, h1, h2, by omega, by omega, fun H' r ys zs g hT a1 a2 n1 n2 => ?_⟩
        exact q H' r ys zs (b02.trans g) hT a1 a2 (fun s => (n1 s).trans (m1 s)) (fun s => (n2 s).trans (m2 s)))
  intro A outer s H us vs Q E hr e0 r h
  obtain ⟨cl, N, R, hk, hl, vo, hf, q⟩ := h
  refine F A outer s H us vs Q E hr e0 r ⟨[], vs, rfl, rfl, ?_, fun p hp => ⟨p, vs, cl, N, R, rfl, upd_same, ?_, hl, vo, hf, ?_⟩⟩
  · rw [← paired_len hk]
    exact Nat.le_of_lt (small1000 (by omega))
  · exact kids_same (same_new hp _) hk
  · exact fun H' r ys zs g => q H' r ys zs ((same_new hp _).trans g)
end
end K1
namespace K1
open PySem L2
/-! ### the draws of the law -/
structure DrawAt (H : Hp) (d a : Addr) : Prop where
  ex : ∃ (ns : List Int) (n : Int), H d = some (.lst [.ref a, .int 0, .int n]) ∧ H a = some (.lst (ns.map V.int)) ∧ 0 ≤ n
theorem draw_ne {H : Hp} {a d : Addr} {ns : List Int} {n : Int} (h1 : H d = some (.lst [.ref a, .int 0, .int n])) (h2 : H a = some (.lst (ns.map V.int))) : a ≠ d := by
  rintro rfl
  rw [h1] at h2
  cases ns with
  | nil => cases h2
  | cons x r => cases h2
theorem DrawAt.same {H H' : Hp} {d a : Addr} (h : DrawAt H d a) (e : Same H H') : DrawAt H' d a := by
  obtain ⟨ns, n, h1, h2, h3⟩ := h.ex
  exact ⟨ns, n, e _ _ h1, e _ _ h2, h3⟩
theorem DrawAt.new {H : Hp} {d a l : Addr} (h : DrawAt H d a) (hl : H l = none) : l ≠ d ∧ l ≠ a := by
  obtain ⟨ns, n, h1, h2, h3⟩ := h.ex
  exact ⟨(ne_of_none h1 hl).symm, (ne_of_none h2 hl).symm⟩
theorem DrawAt.upd {H : Hp} {d a l : Addr} {o : HO} (h : DrawAt H d a) (n1 : l ≠ d) (n2 : l ≠ a) : DrawAt (L2.upd H l o) d a := by
  obtain ⟨ns, n, h1, h2, h3⟩ := h.ex
  exact ⟨ns, n, by rw [upd_ne n1.symm]; exact h1, by rw [upd_ne n2.symm]; exact h2, h3⟩
theorem DrawAt.nt {H : Hp} {d a : Addr} (h : DrawAt H d a) : ∀ e ∈ [d], ∀ xs, H e ≠ some (.tup xs) := fun e he xs z => by
  simp only [List.mem_singleton] at he
  subst he
  obtain ⟨ns, n, h1, _⟩ := h.ex
  rw [h1] at z
  cases z
def primesL : List Int := [1000003, 1000033, 1000037, 1000039, 1000081, 1000099, 1000117, 1000121, 1000133, 1000151, 1000159, 1000171, 1000183, 1000187, 1000193, 1000199]
theorem prime_get : ∀ j : Fin 16, ∃ p : Int, primesL[j.val]? = some p ∧ 0 < p := by
  intro j
  have h : ∀ j : Fin 16, primesL[j.val]? = some (primesL.getD j.val 0) ∧ 0 < primesL.getD j.val 0 := by decide +kernel
  exact ⟨_, h j⟩
theorem pow_small : ∀ i : Nat, 0 < (1009 : Int) ^ i ∧ ((1009 : Int) ^ i).natAbs < 2 ^ (10 * i + 1)
  | 0 => by decide
  | i + 1 => by
    obtain ⟨h1, h2⟩ := pow_small i
    constructor
    · rw [Int.pow_succ]; omega
    · rw [Int.pow_succ, Int.natAbs_mul, show 10 * (i + 1) + 1 = (10 * i + 1) + 10 from by omega, Nat.pow_add]
      have : (1009 : Int).natAbs < 2 ^ 10 := by decide
      exact Nat.mul_lt_mul'' h2 this
section
variable {P : Program} {w : World} {K : PySem.W.Frag} {mg : Str → Option Value} {base : Heap}
def spCell : Sp := fun vs H Q _ => ∃ (a : Addr) (ns : List Int) (k : Int), vs = [.ref a, .int k] ∧ H a = some (.lst (ns.map V.int)) ∧ 0 ≤ k ∧ ∀ z : Int, Q (.int z) H
theorem ok_cell_at (D : Defs K mg) : FnOk P w K mg base CX0 1 D.d_law_cell_at.f D.d_law_cell_at.fd ["script", "k"] spCell := by
  refine D.d_law_cell_at.F.ok sc_law_cell_at (fun vs H Q E h => ?_) (fun cdv A outer s H vs Q E hr h => ?_)
  · obtain ⟨a, ns, k, rfl, _⟩ := h
    rfl
  obtain ⟨a, ns, k, rfl, ha, hk, q⟩ := h
  refine ⟨_, (pss_cons (ps_if (pt_cmpR op_lt (pv 1) (pe_callB call_len_seq (by rfl) D.z_len (by decide +kernel) (pa_cons (pv 0) pa_nil)) (nomark _)) (pss_one (ps_ret (pe_ix ix_list (pv 0) (pv 1) (fun _ _ => rfl)))) pss_nil)
      (pss_one (ps_ret pe_int))), ?_⟩
  refine ⟨_, rfl, _, rfl, a, _, rfl, .inl (SqL.of ha), _, _, rfl, rfl, _, rfl, ?_⟩
  refine ite2 (fun c => ?_) (fun c => q 0)
  have c' : k < (((ns.map V.int).length : Nat) : Int) := of_decide_eq_true c
  rw [List.length_map] at c'
  have hk2 : k.toNat < ns.length := by omega
  have ek : k = ((k.toNat : Nat) : Int) := by omega
  have z : atI (ns.map V.int) ((k.toNat : Nat) : Int) = some (.int ns[k.toNat]) := atI_nat (by rw [List.getElem?_map, List.getElem?_eq_getElem hk2] <;> rfl)
  rw [← ek] at z
  exact ⟨_, rfl, _, rfl, a, _, _, _, rfl, rfl, SqL.of ha, z, q _⟩
def spDraw : Sp := fun vs H Q _ => ∃ (c k b : Int), vs = [.int c, .int k, .int b] ∧ 0 < b ∧ ∀ H' (r : Int), Same H H' → 0 ≤ r → r < b → Q (.int r) H'
theorem ok_draw (D : Defs K mg) : FnOk P w K mg base CX0 1 D.d_law_draw.f D.d_law_draw.fd ["cell", "k", "bound"] spDraw := by
  refine D.d_law_draw.F.ok sc_law_draw (fun vs H Q E h => ?_) (fun cdv A outer s H vs Q E hr h => ?_)
  · obtain ⟨c, k, b, rfl, _⟩ := h
    rfl
  obtain ⟨c, k, b, rfl, hb, q⟩ := h
  refine ⟨_, (pss_cons (ps_set (i := 3) sc_law_draw.nd rfl (Or.inl rfl) (pe_tup (pa_cons pe_int (pa_cons pe_int (pa_cons pe_int (pa_cons pe_int (pa_cons pe_int (pa_cons pe_int (pa_cons pe_int (pa_cons pe_int (pa_cons pe_int (pa_cons pe_int (pa_cons pe_int (pa_cons pe_int (pa_cons pe_int (pa_cons pe_int (pa_cons pe_int (pa_cons pe_int pa_nil))))))))))))))))))
      (pss_one (ps_ret (pe_op op_mod (pe_op op_mod (pe_callTy call_int1 (by rfl) D.z_int (by decide +kernel) (pa_cons (pe_op op_add (pe_op op_mul (pv 0) pe_int) (pe_op op_mul (pv 1) pe_int)) pa_nil)) (pe_ix ix_tup (pv 3) (pe_op op_mod (pe_callTy call_int1 (by rfl) D.z_int (by decide +kernel) (pa_cons (pv 1) pa_nil)) pe_int) (fun _ _ => rfl))) (pv 2))))), ?_⟩
  refine ⟨(by show 16 ≤ sizeLine; decide), fun p hp => ?_⟩
  have h0 : 0 ≤ k % 16 := Int.emod_nonneg _ (by decide)
  have h1 : k % 16 < 16 := Int.emod_lt_of_pos _ (by decide)
  obtain ⟨m, e1, e2⟩ := prime_get ⟨(k % 16).toNat, by omega⟩
  have z : atI (primesL.map V.int) (((k % 16).toNat : Nat) : Int) = some (.int m) := atI_nat (by rw [List.getElem?_map, e1] <;> rfl)
  rw [show (((k % 16).toNat : Nat) : Int) = k % 16 by omega] at z
  refine ⟨_, rfl, _, _, rfl, rfl, .inr ⟨by decide, by decide⟩, _, rfl, _, _, rfl, rfl, .inr ⟨by decide, by decide⟩, _, _, rfl, rfl, .inl ⟨_, rfl, ?_⟩⟩
  refine ⟨_, rfl, _, rfl, .inl ⟨_, rfl, _, _, rfl, rfl, (by show (0 : Int) < 16; decide), p, primesL.map V.int, _, .int m, rfl, rfl, SqT.of upd_same, z, _, _, rfl, rfl, e2, _, rfl, _, _, rfl, rfl, hb, ?_⟩⟩
  exact q _ _ (same_new hp _) (Int.emod_nonneg _ (by omega)) (Int.emod_lt_of_pos _ hb)
def spNumber : Sp := fun vs H Q _ => ∃ (c k b : Int), vs = [.int c, .int k, .int b] ∧ 0 < b ∧ 0 ≤ k ∧ k ≤ 100 ∧ ∀ H' (r : Int), Same H H' → 0 ≤ r → r < b → Q (.int r) H'
theorem ok_number (D : Defs K mg) : FnOk P w K mg base CX0 2 D.d_law_number.f D.d_law_number.fd ["cell", "k", "bound"] spNumber := by
  have G := ok_draw (P := P) (w := w) (base := base) D
  refine D.d_law_number.F.ok sc_law_number (fun vs H Q E h => ?_) (fun cdv A outer s H vs Q E hr h => ?_)
  · obtain ⟨c, k, b, rfl, _⟩ := h
    rfl
  obtain ⟨c, k, b, rfl, hb, hk0, hk1, q⟩ := h
  refine ⟨_, (pss_cons (ps_set (i := 3) sc_law_number.nd rfl (Or.inl rfl) pe_int)
      (pss_cons (ps_for PassesOwn.never rfl (pi_range1 rfl D.z_range (pa_cons (pe_op op_mod (pe_callTy call_int1 (by rfl) D.z_int (by decide +kernel) (pa_cons (pv 1) pa_nil)) pe_int) pa_nil)) (pg_name (i := 4) sc_law_number.nd rfl (Or.inl rfl)) (pss_one (ps_set (i := 3) sc_law_number.nd rfl (Or.inl rfl) (pe_op op_mul (pv 3) pe_int))))
      (pss_cons (ps_set (i := 5) sc_law_number.nd rfl (Or.inl rfl) (pe_op op_fdivW (pe_op op_sub (pv 0) (pe_op op_pow pe_int pe_int)) (pv 3)))
      (pss_cons (ps_if (pt_cmpR op_gt (pv 5) pe_int (nomark _)) (pss_one (ps_ret (pe_op op_mod (pe_op op_mod (pe_callTy call_int1 (by rfl) D.z_int (by decide +kernel) (pa_cons (pv 5) pa_nil)) pe_int) (pv 2)))) pss_nil)
      (pss_cons (ps_set (i := 6) sc_law_number.nd rfl (Or.inl rfl) (pe_op op_mod (pe_callTy call_int1 (by rfl) D.z_int (by decide +kernel) (pa_cons (pv 0) pa_nil)) pe_int))
      (pss_one (ps_ret (pe_op op_mod (pe_call G hr rfl D.d_law_draw.m D.d_law_draw.F.kp D.d_law_draw.b .nil pass0 (pa_cons (pe_op op_mul (pe_op op_add (pv 6) (pe_op op_mul pe_int (pv 1))) (pe_op op_add (pe_op op_add (pv 6) (pe_op op_mul pe_int (pv 1))) pe_int)) (pa_cons (pe_op op_add (pe_op op_mod (pe_callTy call_int1 (by rfl) D.z_int (by decide +kernel) (pa_cons (pv 1) pa_nil)) pe_int) pe_int) (pa_cons pe_int pa_nil)))) (pv 2))))))))), ?_⟩
  have h0 : 0 ≤ k % 24 := Int.emod_nonneg _ (by decide)
  have h1 : k % 24 < 24 := Int.emod_lt_of_pos _ (by decide)
  refine ⟨_, rfl, .inl ⟨_, rfl, _, _, rfl, rfl, (by show (0 : Int) < 24; decide), _, rfl, ?_, ?_, for_range (lo := 0) (n := (k % 24).toNat) (fun i σ H2 => H2 = H ∧ ∃ o, σ = [some (.int c), some (.int k), some (.int b), some (.int (1009 ^ i)), o, none, none]) ⟨rfl, none, rfl⟩ ?_ ?_⟩⟩
  · show -(2 ^ 62) ≤ k % 24
    omega
  · show k % 24 < 2 ^ 62
    omega
  · rintro i σ H2 hi ⟨rfl, o, rfl⟩
    exact ⟨_, rfl, _, _, rfl, rfl, .inr ⟨by decide, by decide⟩, rfl, _, by rw [Int.pow_succ]; rfl⟩
  · rintro σ H2 ⟨rfl, o, rfl⟩
    obtain ⟨p0, p1⟩ := pow_small (k % 24).toNat
    refine ⟨_, rfl, _, _, rfl, rfl, ⟨by decide, by decide, by decide⟩, _, _, rfl, rfl, _, rfl, _, _, rfl, rfl, wide_div p0 p1 (by omega) (by omega), ?_⟩
    refine ⟨_, rfl, _, _, rfl, rfl, _, rfl, ?_⟩
    refine ite2 (fun _ => ?_) (fun _ => ?_)
    · refine ⟨_, rfl, .inl ⟨_, rfl, _, _, rfl, rfl, (by show (0 : Int) < 1009; decide), _, rfl, _, _, rfl, rfl, hb, ?_⟩⟩
      exact q _ _ (Same.refl _) (Int.emod_nonneg _ (by omega)) (Int.emod_lt_of_pos _ hb)
    · refine ⟨_, rfl, .inl ⟨_, rfl, _, _, rfl, rfl, (by show (0 : Int) < 1000003; decide), ?_⟩⟩
      have s0 : 0 ≤ c % 1000003 := Int.emod_nonneg _ (by decide)
      have s1 : c % 1000003 < 1000003 := Int.emod_lt_of_pos _ (by decide)
      refine ⟨_, rfl, _, rfl, _, _, rfl, rfl, .inl ⟨by decide, by decide⟩, _, _, rfl, rfl, _, rfl, _, rfl, _, _, rfl, rfl, .inl ⟨by decide, by decide⟩, _, _, rfl, rfl, _, _, rfl, rfl, _, _, rfl, rfl, .inl ⟨?_, ?_⟩, ?_⟩
      · show -(2 ^ 64) < c % 1000003 + 977 * k
        omega
      · show c % 1000003 + 977 * k < 2 ^ 64
        omega
      refine ⟨_, rfl, .inl ⟨_, rfl, _, _, rfl, rfl, (by show (0 : Int) < 9; decide), _, _, rfl, rfl, _, _, _, rfl, (by show (0 : Int) < 999983; decide), fun H3 r g r0 r1 => ⟨_, rfl, _, _, rfl, rfl, hb, ?_⟩⟩⟩
      exact q _ _ g (Int.emod_nonneg _ (by omega)) (Int.emod_lt_of_pos _ hb)
def spNext : Sp := fun vs H Q _ => ∃ (d a : Addr) (b : Int), vs = [.ref d, .int b] ∧ 0 < b ∧ DrawAt H d a ∧ ∀ H' (r : Int), But [d] H H' → DrawAt H' d a → 0 ≤ r → r < b → Q (.int r) H'
theorem ok_next (D : Defs K mg) : FnOk P w K mg base CX0 3 D.d_law_next.f D.d_law_next.fd ["draw", "bound"] spNext := by
  have GC := ok_cell_at (P := P) (w := w) (base := base) D
  have GN := ok_number (P := P) (w := w) (base := base) D
  refine D.d_law_next.F.ok sc_law_next (fun vs H Q E h => ?_) (fun cdv A outer s H vs Q E hr h => ?_)
  · obtain ⟨d, a, b, rfl, _⟩ := h
    rfl
  obtain ⟨d, a, b, rfl, hb, hd, q⟩ := h
  have hr1 : Room 1 _ := hr.mono (by omega)
  refine ⟨_, (pss_cons (ps_asg (pe_op op_add (pe_ix ix_list (pv 0) pe_int (fun _ _ => rfl)) pe_int) (pg_sub (pv 0) pe_int set_list))
      (pss_cons (ps_set (i := 2) sc_law_next.nd rfl (Or.inl rfl) (pe_op op_fdiv (pe_ix ix_list (pv 0) pe_int (fun _ _ => rfl)) pe_int))
      (pss_cons (ps_set (i := 3) sc_law_next.nd rfl (Or.inl rfl) (pe_op op_add (pe_call GC hr1 rfl D.d_law_cell_at.m D.d_law_cell_at.F.kp D.d_law_cell_at.b .nil pass0 (pa_cons (pe_ix ix_list (pv 0) pe_int (fun _ _ => rfl)) (pa_cons (pe_op op_add (pe_ix ix_list (pv 0) pe_int (fun _ _ => rfl)) (pv 2)) pa_nil))) (pe_op op_mul pe_int (pv 2))))
      (pss_one (ps_ret (pe_call GN hr rfl D.d_law_number.m D.d_law_number.F.kp D.d_law_number.b .nil pass0 (pa_cons (pv 3) (pa_cons (pe_op op_add (pe_op op_mod (pe_callTy call_int1 (by rfl) D.z_int (by decide +kernel) (pa_cons (pe_ix ix_list (pv 0) pe_int (fun _ _ => rfl)) pa_nil)) pe_int) pe_int) (pa_cons (pv 1) pa_nil))))))))), ?_⟩
  obtain ⟨ns, n, h1, h2, h3⟩ := hd.ex
  have ne := draw_ne h1 h2
  refine ⟨_, rfl, d, _, _, _, rfl, rfl, SqL.of h1, atI_nat (j := 2) rfl, _, _, rfl, rfl, _, rfl, d, _, _, 2, rfl, rfl, h1, rfl, ?_⟩
  have e1 : upd H d (.lst ([V.ref a, V.int 0, V.int n].set 2 (V.int (n + 1)))) d = some (.lst [.ref a, .int 0, .int (n + 1)]) := upd_same
  have e2 : upd H d (.lst ([V.ref a, V.int 0, V.int n].set 2 (V.int (n + 1)))) a = some (.lst (ns.map V.int)) := by rw [upd_ne ne]; exact h2
  have b1 : But [d] H (upd H d (.lst ([V.ref a, V.int 0, V.int n].set 2 (V.int (n + 1))))) := But.put (by simp)
  refine ⟨_, rfl, d, _, _, _, rfl, rfl, SqL.of e1, atI_nat (j := 2) rfl, _, _, rfl, rfl, ⟨by decide, by decide⟩, ?_⟩
  have p0 : 0 ≤ (n + 1) / 12 := Int.ediv_nonneg (by omega) (by decide)
  refine ⟨_, rfl, d, _, _, _, rfl, rfl, SqL.of e1, atI_nat (j := 0) rfl, _, rfl, d, _, _, _, rfl, rfl, SqL.of e1, atI_nat (j := 1) rfl, _, rfl, _, _, rfl, rfl, a, ns, _, rfl, e2, (by show (0 : Int) ≤ 0 + (n + 1) / 12; omega), fun z => ⟨_, rfl, _, _, rfl, rfl, .inl ⟨by decide, by decide⟩, _, _, rfl, rfl, ?_⟩⟩
  have m0 : 0 ≤ (n + 1) % 12 := Int.emod_nonneg _ (by decide)
  have m1 : (n + 1) % 12 < 12 := Int.emod_lt_of_pos _ (by decide)
  refine ⟨_, rfl, _, rfl, d, _, _, _, rfl, rfl, SqL.of e1, atI_nat (j := 2) rfl, .inl ⟨_, rfl, _, _, rfl, rfl, (by show (0 : Int) < 12; decide), _, _, rfl, rfl, _, rfl, _, _, _, rfl, hb, ?_, ?_, fun H' r g r0 r1 => ?_⟩⟩
  · show 0 ≤ (n + 1) % 12 + 1
    omega
  · show (n + 1) % 12 + 1 ≤ 100
    omega
  exact q H' r (b1.trans (But.of g)) ⟨ns, n + 1, g _ _ e1, g _ _ e2, by omega⟩ r0 r1
def spPick : Sp := fun vs H Q _ => ∃ (d a t : Addr) (xs : List L2.V), vs = [.ref d, .ref t] ∧ DrawAt H d a ∧ H t = some (.lst xs) ∧ t ≠ d ∧ 0 < xs.length ∧ ∀ H' x, x ∈ xs → But [d] H H' → DrawAt H' d a → Q x H'
theorem ok_pick (D : Defs K mg) : FnOk P w K mg base CX0 4 D.d_law_pick.f D.d_law_pick.fd ["draw", "things"] spPick := by
  have G := ok_next (P := P) (w := w) (base := base) D
  refine D.d_law_pick.F.ok sc_law_pick (fun vs H Q E h => ?_) (fun cdv A outer s H vs Q E hr h => ?_)
  · obtain ⟨d, a, t, xs, rfl, _⟩ := h
    rfl
  obtain ⟨d, a, t, xs, rfl, hd, ht, ne, pos, q⟩ := h
  refine ⟨_, (pss_one (ps_ret (pe_ix ix_list (pv 1) (pe_call G hr rfl D.d_law_next.m D.d_law_next.F.kp D.d_law_next.b .nil pass0 (pa_cons (pv 0) (pa_cons (pe_callB call_len_seq (by rfl) D.z_len (by decide +kernel) (pa_cons (pv 1) pa_nil)) pa_nil))) (fun _ _ => rfl)))), ?_⟩
  refine ⟨_, rfl, _, rfl, _, rfl, t, _, rfl, .inl (SqL.of ht), d, a, _, rfl, (by show (0 : Int) < (xs.length : Int); omega), hd, fun H' r b hd' r0 r1 => ?_⟩
  have hr2 : r.toNat < xs.length := by omega
  have er : r = ((r.toNat : Nat) : Int) := by omega
  have z : atI xs ((r.toNat : Nat) : Int) = some xs[r.toNat] := atI_nat (by rw [List.getElem?_eq_getElem hr2])
  rw [← er] at z
  refine ⟨t, xs, r, _, rfl, rfl, SqL.of (b _ _ (by simpa using ne) ht), z, q H' _ (List.getElem_mem hr2) b hd'⟩
end
end K1
namespace K1
open PySem L2
/-! ### data for == -/
theorem letters_strOk {s : Str} (h : letters (cs s) = true) : PyData.strOk s = true := by
  unfold PyData.strOk
  rw [Array.all_eq_true_iff_forall_mem]
  intro x hx
  unfold letters at h
  rw [List.all_eq_true] at h
  have := h x (Array.mem_toList_iff.mpr hx)
  simp only [Bool.and_eq_true, decide_eq_true_eq] at this ⊢
  omega
def strsD (l : List Str) : List PyData := l.map PyData.str
theorem dp_strs {K : PySem.W.Frag} {H : Hp} : ∀ l : List Str, DpAll K H (l.map V.str) (strsD l)
  | [] => .nil
  | x :: l => .cons (.str x) (dp_strs l)
theorem lay_strs : ∀ {l : List Str}, (∀ x ∈ l, PyData.strOk x = true) → PyData.canLayAll0 (strsD l) = true
  | [], _ => rfl
  | x :: l, h => by
    show (PyData.canLay0 (.str x) && PyData.canLayAll0 (strsD l)) = true
    rw [lay_strs fun y hy => h y (List.mem_cons_of_mem _ hy), Bool.and_true]
    exact h x (List.mem_cons_self ..)
theorem depth_strs : ∀ l : List Str, PyData.depthAll (strsD l) = 0
  | [] => rfl
  | x :: l => by
    show max (PyData.depth (.str x)) (PyData.depthAll (strsD l)) = 0
    rw [depth_strs l]
    rfl
theorem shaped_of {d : PyData} (h1 : d.canLay0 = true) (h2 : d.depth ≤ 64) : SeqAt.shaped d = true := by
  unfold SeqAt.shaped
  rw [h1, decide_eq_true h2]
  rfl
/-- a concept as data -/
def conD : Con → PyData
  | .atom s => .str s
  | .ex r c => .tuple [.str "some", .str r, conD c]
  | .and2 a b => .tuple [.str "and", conD a, conD b]
  | .and3 a b c => .tuple [.str "and", conD a, conD b, conD c]
theorem dp_con {K : PySem.W.Frag} {H : Hp} : ∀ {c : Con} {v : V}, ConAt H c v → Dp K H v (conD c)
  | .atom s, v, ⟨h, _⟩ => by subst h; exact .str s
  | .ex r c, v, ⟨p, u, h1, h2, h3, _⟩ => by subst h1; exact .tup (SqT.of h2) (.cons (.str _) (.cons (.str _) (.cons (dp_con h3) .nil)))
  | .and2 a b, v, ⟨p, u1, u2, h1, h2, h3, h4⟩ => by subst h1; exact .tup (SqT.of h2) (.cons (.str _) (.cons (dp_con h3) (.cons (dp_con h4) .nil)))
  | .and3 a b c, v, ⟨p, u1, u2, u3, h1, h2, h3, h4, h5⟩ => by subst h1; exact .tup (SqT.of h2) (.cons (.str _) (.cons (dp_con h3) (.cons (dp_con h4) (.cons (dp_con h5) .nil))))
theorem ok_some_str : PyData.strOk ("some" : Str) = true := by decide +kernel
theorem ok_and_str : PyData.strOk ("and" : Str) = true := by decide +kernel
theorem lay_con : ∀ {c : Con}, Wf c → (conD c).canLay0 = true
  | .atom s, h => letters_strOk h.1
  | .ex r c, h => by simp [conD, PyData.canLay0, PyData.canLayAll0, ok_some_str, letters_strOk h.1.1, lay_con h.2]
  | .and2 a b, h => by simp [conD, PyData.canLay0, PyData.canLayAll0, ok_and_str, lay_con h.1, lay_con h.2]
  | .and3 a b c, h => by simp [conD, PyData.canLay0, PyData.canLayAll0, ok_and_str, lay_con h.1, lay_con h.2.1, lay_con h.2.2]
theorem depth_con : ∀ c : Con, (conD c).depth ≤ nest c
  | .atom s => Nat.le_refl _
  | .ex r c => by have := depth_con c; simp only [conD, PyData.depth, PyData.depthAll, nest]; omega
  | .and2 a b => by have := depth_con a; have := depth_con b; simp only [conD, PyData.depth, PyData.depthAll, nest]; omega
  | .and3 a b c => by have := depth_con a; have := depth_con b; have := depth_con c; simp only [conD, PyData.depth, PyData.depthAll, nest]; omega
theorem dp_cons {K : PySem.W.Frag} {H : Hp} : ∀ {cl : List Con} {ws : List V}, Paired (ConAt H) cl ws → DpAll K H ws (cl.map conD)
  | _, _, .nil => .nil
  | _, _, .cons r t => .cons (dp_con r) (dp_cons t)
theorem lay_cons : ∀ {cl : List Con}, (∀ c ∈ cl, Wf c) → PyData.canLayAll0 (cl.map conD) = true
  | [], _ => rfl
  | c :: cl, h => by
    show ((conD c).canLay0 && PyData.canLayAll0 (cl.map conD)) = true
    rw [lay_con (h c (List.mem_cons_self ..)), lay_cons fun y hy => h y (List.mem_cons_of_mem _ hy)]
    rfl
theorem depth_cons {n : Nat} : ∀ {cl : List Con}, (∀ c ∈ cl, nest c ≤ n) → PyData.depthAll (cl.map conD) ≤ n
  | [], _ => Nat.zero_le _
  | c :: cl, h => by
    show max (conD c).depth (PyData.depthAll (cl.map conD)) ≤ n
    have := depth_con c
    have := h c (List.mem_cons_self ..)
    have := depth_cons (n := n) fun y hy => h y (List.mem_cons_of_mem _ hy)
    omega
def boolsD (l : List Bool) : List PyData := l.map PyData.bool
theorem dp_bools {K : PySem.W.Frag} {H : Hp} : ∀ l : List Bool, DpAll K H (l.map V.bl) (boolsD l)
  | [] => .nil
  | x :: l => .cons (.bl x) (dp_bools l)
theorem lay_bools : ∀ l : List Bool, PyData.canLayAll0 (boolsD l) = true
  | [] => rfl
  | x :: l => by
    show (PyData.canLay0 (.bool x) && PyData.canLayAll0 (boolsD l)) = true
    rw [lay_bools l]
    rfl
theorem depth_bools : ∀ l : List Bool, PyData.depthAll (boolsD l) = 0
  | [] => rfl
  | x :: l => by
    show max (PyData.depth (.bool x)) (PyData.depthAll (boolsD l)) = 0
    rw [depth_bools l]
    rfl
/-- told words as data -/
def toldD (ys zs : List Str) : PyData := .tuple [.tuple (strsD ys), .tuple (strsD zs)]
theorem dp_told {K : PySem.W.Frag} {H : Hp} {p : Addr} {ys zs : List Str} (h : ToldAt H p ys zs) : Dp K H (.ref p) (toldD ys zs) := by
  obtain ⟨t1, t2, h1, h2, h3⟩ := h
  exact .tup (SqT.of h1) (.cons (.tup (SqT.of h2) (dp_strs _)) (.cons (.tup (SqT.of h3) (dp_strs _)) .nil))
theorem shaped_told {ys zs : List Str} (h1 : ∀ x ∈ ys, PyData.strOk x = true) (h2 : ∀ x ∈ zs, PyData.strOk x = true) : SeqAt.shaped (toldD ys zs) = true := by
  refine shaped_of ?_ ?_
  · simp [toldD, PyData.canLay0, PyData.canLayAll0, lay_strs h1, lay_strs h2]
  · simp [toldD, PyData.depth, PyData.depthAll, depth_strs]
theorem word_strOk {s : Str} (h : wordOk s = true) : PyData.strOk s = true := letters_strOk (wd_of h).1
section
variable {X : Cx}
/-- 'z' * 12 -/
theorem op_mul_str : OpR X (binaryOp .Mult) (fun x y H Q => ∃ (s : Str) (n : Int), x = .str s ∧ y = .int n ∧ MulOk s n ∧ Q (.str (PySem.Txt.mul s n)) H) := by
  intro pins s σ H x y v u Q I rx ry h
  obtain ⟨z, n, rfl, rfl, ok, q⟩ := h
  obtain ⟨t, rfl⟩ := rx
  obtain ⟨t', rfl⟩ := ry
  exact SB.mul ok fun tk k => ⟨.str _, H, I.tok k, ⟨_, rfl⟩, q⟩
end
end K1
namespace K1
open PySem L2
def oneS (c : Nat) : Str := ⟨#[c]⟩
theorem joinL_ones : ∀ l : List Nat, TL.joinL [] (l.map fun c => [c]) = l
  | [] => rfl
  | [c] => rfl
  | c :: e :: l => by
    have ih := joinL_ones (e :: l)
    show [c] ++ ([] ++ TL.joinL [] ((e :: l).map fun c => [c])) = c :: e :: l
    rw [ih]
    rfl
theorem join_ones (l : List Nat) : PySem.Txt.join "" (l.map oneS) = sOf l := str_ext (by
  rw [TL.join_eq]
  show TL.tl (Str.join "" (l.map oneS)) = _
  rw [TL.tl_join, cs_sOf]
  show TL.joinL (cs "") ((l.map oneS).map TL.tl) = l
  rw [show cs ("" : Str) = [] by decide +kernel, List.map_map]
  exact joinL_ones l)
theorem az : letters (cs ("abcdefghijklmnopqrstuvwxyz" : Str)) = true := by decide +kernel
theorem az_len : (cs ("abcdefghijklmnopqrstuvwxyz" : Str)).length = 26 := by decide +kernel
theorem sum_ones : ∀ l : List Nat, ((l.map oneS).map (·.length)).sum = l.length
  | [] => rfl
  | c :: l => by simp only [List.map_cons, List.sum_cons, sum_ones l, List.length_cons]; show 1 + l.length = l.length + 1; omega
theorem wordOk_of {l : List Nat} (h1 : 1 ≤ l.length) (h2 : l.length ≤ 12) (h3 : letters l = true) (h4 : sOf l ∉ noWords) : wordOk (sOf l) = true := by
  unfold wordOk
  rw [len_sOf, cs_sOf, decide_eq_true h1, decide_eq_true h2, decide_eq_false h4, h3]
  rfl
theorem wordOk_s {s : Str} (h : s ∈ noWords) : wordOk (s ++ "s") = true := by
  simp only [noWords, List.mem_cons, List.not_mem_nil, or_false] at h
  rcases h with rfl | rfl | rfl <;> decide +kernel
theorem len_no {s : Str} (h : s ∈ noWords) : s.length ≤ 4 := by
  simp only [noWords, List.mem_cons, List.not_mem_nil, or_false] at h
  rcases h with rfl | rfl | rfl <;> decide +kernel
def cand : List Str := ["b", "cd", "e", "fgh", "i", "jk"]
theorem cand_ok : ∀ x ∈ cand, wordOk x = true := by decide +kernel
theorem cand_nd : cand.Nodup := by decide +kernel
theorem cand_free {ws : List Str} (h : ws.length < 6) : cand.filter (fun x => !decide (x ∈ ws)) ≠ [] := fun e => by
  have : ∀ x ∈ cand, x ∈ ws := fun x hx => by
    by_cases c : x ∈ ws
    · exact c
    · have z : x ∈ cand.filter (fun x => !decide (x ∈ ws)) := List.mem_filter.mpr ⟨hx, by simp [c]⟩
      rw [e] at z
      cases z
  have l := nodup_le cand_nd this
  have : cand.length = 6 := rfl
  omega
section
variable {P : Program} {w : World} {K : PySem.W.Frag} {mg : Str → Option Value} {base : Heap}
/-! ### _law_word -/
def spWord : Sp := fun vs H Q _ => ∃ d a : Addr, vs = [.ref d] ∧ DrawAt H d a ∧ ∀ H' s, wordOk s = true → But [d] H H' → DrawAt H' d a → Q (.str s) H'
theorem ok_word (D : Defs K mg) : FnOk P w K mg base CX0 5 D.d_law_word.f D.d_law_word.fd ["draw"] spWord := by
  have GP := ok_pick (P := P) (w := w) (base := base) D
  have GX := ok_next (P := P) (w := w) (base := base) D
  refine D.d_law_word.F.ok sc_law_word (fun vs H Q E h => ?_) (fun cdv A outer s H vs Q E hr h => ?_)
  · obtain ⟨d, a, rfl, _⟩ := h
    rfl
  obtain ⟨d, a, rfl, hd, q⟩ := h
  have hr3 : Room 3 _ := hr.mono (by omega)
  refine ⟨_, (pss_cons (ps_set (i := 1) sc_law_word.nd rfl (Or.inr rfl) pe_str)
      (pss_cons (ps_set (i := 2) sc_law_word.nd rfl (Or.inl rfl) (pe_call GP hr rfl D.d_law_pick.m D.d_law_pick.F.kp D.d_law_pick.b .nil pass0 (pa_cons (pv 0) (pa_cons (pe_lst (pa_cons pe_int (pa_cons pe_int (pa_cons pe_int (pa_cons pe_int (pa_cons pe_int (pa_cons pe_int (pa_cons (pe_op op_add pe_int (pe_call GX hr3 rfl D.d_law_next.m D.d_law_next.F.kp D.d_law_next.b .nil pass0 (pa_cons (pv 0) (pa_cons pe_int pa_nil)))) pa_nil)))))))) pa_nil))))
      (pss_cons (ps_set (i := 3) sc_law_word.nd rfl (Or.inl rfl) (pe_join pe_str (pe_lc (own := [("turn", 4)]) (g := gName 4) rfl sc_law_word.nd (pi_range1 rfl D.z_range (pa_cons (pv 2) pa_nil)) (blkOk_by (N := ["draw", "letters", "many", "word", "turn"]) (sc := defScope s_law_word) (by decide +kernel)) (fun _ _ _ _ _ => pg_name (i := 4) sc_law_word.nd rfl (Or.inl rfl)) (fun _ _ _ _ _ => pts_nil) (fun _ _ _ _ _ => (pe_ix ix_str (pv 1) (pe_call GX hr3 rfl D.d_law_next.m D.d_law_next.F.kp D.d_law_next.b .nil pass0 (pa_cons (pv 0) (pa_cons pe_int pa_nil))) (fun _ _ => rfl))))))
      (pss_one (ps_ret (pe_ifExp (pt_cmpR op_inT (pv 3) (pe_tup (pa_cons pe_str (pa_cons pe_str (pa_cons pe_str pa_nil)))) (by rfl)) (pe_op op_add_str (pv 3) pe_str) (pv 3))))))), ?_⟩
  refine ⟨_, rfl, _, rfl, d, a, 12, rfl, (by decide), hd, fun H1 r1 b1 hd1 r0 r12 => ⟨_, _, rfl, rfl, (by show 7 ≤ sizeLine; decide), fun p hp => ?_⟩⟩
  have hd2 := hd1.same (same_new hp (.lst [.int 1, .int 1, .int 2, .int 3, .int 4, .int 12, .int (1 + r1)]))
  refine ⟨d, a, p, _, rfl, hd2, upd_same, (hd1.new hp).1, (by show 0 < 7; decide), fun H3 x hx b3 hd3 => ?_⟩
  obtain ⟨m, rfl, m1, m2⟩ : ∃ m : Int, x = .int m ∧ 1 ≤ m ∧ m ≤ 12 := by
    simp only [List.mem_cons, List.not_mem_nil, or_false] at hx
    rcases hx with rfl | rfl | rfl | rfl | rfl | rfl | rfl
    · exact ⟨_, rfl, by decide, by decide⟩
    · exact ⟨_, rfl, by decide, by decide⟩
    · exact ⟨_, rfl, by decide, by decide⟩
    · exact ⟨_, rfl, by decide, by decide⟩
    · exact ⟨_, rfl, by decide, by decide⟩
    · exact ⟨_, rfl, by decide, by decide⟩
    · exact ⟨_, rfl, by omega, by omega⟩
  have b03 : But [d] H H3 := (b1.trans (But.new hp)).trans b3
  refine ⟨⟨_, rfl⟩, _, rfl, m, rfl, (by show -(2 ^ 62) ≤ m; omega), (by show m < 2 ^ 62; omega), fun D0 hD => ?_⟩
  obtain ⟨hDd, hDa⟩ := hd3.new hD
  refine lc_range (lo := 0) (n := m.toNat) (fun i H4 => But [D0, d] H3 H4 ∧ DrawAt H4 d a ∧ ∃ l : List Nat, H4 D0 = some (.lst ((l.map oneS).map V.str)) ∧ l.length = i ∧ letters l = true)
    ⟨But.new hD, hd3.same (same_new hD _), [], upd_same, rfl, rfl⟩ ?_ ?_
  · rintro i H4 hi ⟨b4, hd4, l, hl, li, ll⟩
    refine ⟨rfl, _, rfl, _, rfl, d, a, 26, rfl, (by decide), hd4, fun H5 r b5 hd5 r0 r26 => ?_⟩
    have hr2 : r.toNat < (cs ("abcdefghijklmnopqrstuvwxyz" : Str)).length := by rw [az_len]; omega
    have er : r = ((r.toNat : Nat) : Int) := by omega
    have z : atI (cs ("abcdefghijklmnopqrstuvwxyz" : Str)) ((r.toNat : Nat) : Int) = some (cs ("abcdefghijklmnopqrstuvwxyz" : Str))[r.toNat] := atI_nat (by rw [List.getElem?_eq_getElem hr2])
    rw [← er] at z
    have hl5 := b5 _ _ (by simpa using hDd) hl
    have gl := letters_get az (List.getElem?_eq_getElem hr2)
    refine ⟨_, r, _, rfl, rfl, (by decide +kernel), z, _, hl5, ?_, ((b4.trans (b5.mono (by simp))).trans (But.put (by simp))), hd5.upd hDd hDa, l ++ [(cs ("abcdefghijklmnopqrstuvwxyz" : Str))[r.toNat]], ?_, ?_, ?_⟩
    · rw [List.length_map, List.length_map]
      exact small1000 (by omega)
    · rw [upd_same, List.map_append, List.map_append]
      rfl
    · rw [List.length_append, li]
      rfl
    · rw [letters_snoc, ll, decide_eq_true gl.1, decide_eq_true gl.2]
      rfl
  · rintro H4 ⟨b4, hd4, l, hl, li, ll⟩
    have b04 : But [d] H H4 := b03.trans (b4.drop hD)
    refine ⟨_, D0, l.map oneS, rfl, rfl, .inl (SqL.of hl), ?_, ?_⟩
    · rw [sum_ones, List.length_map]
      rw [show ("" : Str).length = 0 from rfl]
      omega
    rw [join_ones]
    refine ⟨_, rfl, (by show 3 ≤ sizeLine; decide), fun p2 hp2 => ⟨sOf l, p2, noWords, rfl, rfl, .inr (SqT.of upd_same), _, rfl, ?_⟩⟩
    have g2 := same_new hp2 (.tup (noWords.map V.str))
    by_cases c : sOf l ∈ noWords
    · rw [decide_eq_true c]
      refine iteT ⟨_, rfl, _, _, rfl, rfl, ?_, ?_⟩
      · have := len_no c
        have : ("s" : Str).length = 1 := rfl
        exact Nat.le_of_lt (small1000 (by omega))
      · exact q _ _ (wordOk_s c) (b04.trans (But.of g2)) (hd4.same g2)
    · rw [decide_eq_false c]
      exact iteF ⟨_, rfl, q _ _ (wordOk_of (by omega) (by omega) ll c) (b04.trans (But.of g2)) (hd4.same g2)⟩
/-! ### _law_vocab -/
def spVocab : Sp := fun vs H Q _ => ∃ (d a : Addr) (m : Int), vs = [.ref d, .int m] ∧ DrawAt H d a ∧ 0 ≤ m ∧ m ≤ 3 ∧ ∀ H' l ws, wsOk ws m → But [d] H H' → DrawAt H' d a → H' l = some (.lst (ws.map V.str)) → H l = none → Q (.ref l) H'
where wsOk (ws : List Str) (m : Int) : Prop := (ws.length : Int) = m ∧ ∀ x ∈ ws, wordOk x = true
theorem ok_vocab (D : Defs K mg) : FnOk P w K mg base CX0 6 D.d_law_vocab.f D.d_law_vocab.fd ["draw", "many"] spVocab := by
  have GW := ok_word (P := P) (w := w) (base := base) D
  refine D.d_law_vocab.F.ok sc_law_vocab (fun vs H Q E h => ?_) (fun cdv A outer s H vs Q E hr h => ?_)
  · obtain ⟨d, a, m, rfl, _⟩ := h
    rfl
  obtain ⟨d, a, m, rfl, hd, m0, m3, q⟩ := h
  refine ⟨_, (pss_cons (ps_set (i := 2) sc_law_vocab.nd rfl (Or.inr rfl) (pe_lst pa_nil))
      (pss_cons (ps_for PassesOwn.never rfl (pi_range1 rfl D.z_range (pa_cons (pv 1) pa_nil)) (pg_name (i := 3) sc_law_vocab.nd rfl (Or.inl rfl)) (pss_cons (ps_set (i := 4) sc_law_vocab.nd rfl (Or.inl rfl) (pe_call GW hr rfl D.d_law_word.m D.d_law_word.F.kp D.d_law_word.b .nil pass0 (pa_cons (pv 0) pa_nil)))
      (pss_cons (ps_setLc (i := 5) (own := [("one", 6)]) (g := gName 6) rfl sc_law_vocab.nd rfl rfl (sw_true rfl rfl rfl (by decide +kernel)) (pi_tup (pe_tup (pa_cons pe_str (pa_cons pe_str (pa_cons pe_str (pa_cons pe_str (pa_cons pe_str (pa_cons pe_str pa_nil)))))))) (blkOk_by (N := ["draw", "many", "found", "turn", "word", "spare", "one"]) (sc := defScope s_law_vocab) (by decide +kernel)) (fun _ _ _ _ _ => pg_name (i := 6) sc_law_vocab.nd rfl (Or.inl rfl)) (fun _ _ _ _ _ => pts_one (pt_cmpR (op_notInTK (K := K) rfl) (pv 6) (pv 2) (by rfl))) (fun _ _ _ _ _ => (pv 6)))
      (pss_one (ps_expr (pe_bm PySem.F.plainAttrs_list PySem.F.slot_list_append PySem.F.type_list_append mt_append (pv 2) (pa_cons (pe_ifExp (pt_cmpR op_inT (pv 4) (pv 2) (by rfl)) (pe_ix ix_list (pv 5) pe_int (fun _ _ => rfl)) (pv 4)) pa_nil)))))))
      (pss_one (ps_ret (pv 2))))), ?_⟩
  refine ⟨(by show 0 ≤ sizeLine; decide), fun l hl => ?_⟩
  obtain ⟨nld, nla⟩ := hd.new hl
  refine ⟨_, rfl, m, rfl, (by show -(2 ^ 62) ≤ m; omega), (by show m < 2 ^ 62; omega), for_range (lo := 0) (n := m.toNat) (fun i σ H2 => But [l, d] (upd H l (.lst [])) H2 ∧ DrawAt H2 d a ∧ (∃ o3 o4 o5 o6, σ = [some (.ref d), some (.int m), some (.ref l), o3, o4, o5, o6]) ∧ ∃ ws : List Str, ws.length = i ∧ (∀ x ∈ ws, wordOk x = true) ∧ H2 l = some (.lst (ws.map V.str)))
    ⟨But.refl _, hd.same (same_new hl _), ⟨none, none, none, none, rfl⟩, [], rfl, (fun x hx => by cases hx), upd_same⟩ ?_ ?_⟩
  · rintro i σ H2 hi ⟨b2, hd2, ⟨o3, o4, o5, o6, rfl⟩, ws, li, ok, hw⟩
    have hi3 : i < 3 := by omega
    refine ⟨_, rfl, d, a, rfl, hd2, fun H3 wd wok b3 hd3 => ?_⟩
    have hw3 := b3 _ _ (by simpa using nld) hw
    refine ⟨(by show 6 ≤ sizeLine; decide), fun t ht => ⟨t, rfl, ⟨_, SqT.of upd_same⟩, fun D0 hD => ?_⟩⟩
    have gt := same_new ht (.tup (cand.map V.str))
    have hdt := hd3.same gt
    obtain ⟨nDd, nDa⟩ := hdt.new hD
    have nlD : l ≠ D0 := ne_of_none (gt _ _ hw3) hD
    have ntD : t ≠ D0 := ne_of_none upd_same hD
    refine lc_tup (K := K) (a := t) (xs := cand.map V.str) (fun j H4 => But [D0] (upd (upd H3 t (.tup (cand.map V.str))) D0 (.lst [])) H4 ∧ H4 D0 = some (.lst (((cand.take j).filter (fun x => !decide (x ∈ ws))).map V.str)))
      ⟨But.refl _, upd_same⟩ (fun j H4 _ hh => SqT.of (hh.1 _ _ (by simpa using ntD) (by rw [upd_ne ntD]; exact upd_same))) ?_ ?_
    · rintro j x H4 hj ⟨b4, h4⟩
      obtain ⟨y, hy, rfl⟩ : ∃ y, cand[j]? = some y ∧ V.str y = x := by
        rw [List.getElem?_map] at hj
        cases e : cand[j]? with
        | none => rw [e] at hj; cases hj
        | some y => rw [e] at hj; exact ⟨y, rfl, Option.some.inj hj⟩
      have hw4 : H4 l = some (.lst (ws.map V.str)) := b4 _ _ (by simpa using nlD) (by rw [upd_ne nlD]; exact gt _ _ hw3)
      refine ⟨rfl, _, rfl, _, rfl, y, l, ws, rfl, rfl, .inl (SqL.of hw4), _, rfl, ?_⟩
      rw [take_more hy, List.filter_append]
      by_cases c : y ∈ ws
      · rw [decide_eq_true c]
        refine iteF ⟨b4, ?_⟩
        rw [h4]
        simp [c]
      · rw [decide_eq_false c]
        refine iteT ⟨_, rfl, _, h4, ?_, b4.trans (But.put (by simp)), ?_⟩
        · rw [List.length_map]
          refine Nat.lt_of_le_of_lt (List.length_filter_le _ _) ?_
          rw [List.length_take]
          exact small1000 (by show min j cand.length ≤ 1000; have : cand.length = 6 := rfl; omega)
        · rw [upd_same]
          simp [c]
    · rintro H4 ⟨b4, h4⟩
      rw [List.length_map, List.take_length] at h4
      have g34 : Same H3 H4 := fun e o z => by
        have z4 := gt _ _ z
        exact b4 e o (by simp only [List.mem_singleton]; exact ne_of_none z4 hD) (by rw [upd_ne (ne_of_none z4 hD)]; exact z4)
      have hw4 := g34 _ _ hw3
      have hd4 := hd3.same g34
      have fr := cand_free (ws := ws) (by omega)
      have hlen : (ws.map V.str).length < sizeLine := by rw [List.length_map]; exact small1000 (by omega)
      have done : ∀ y : Str, wordOk y = true → But [l, d] (upd H l (.lst [])) (upd H4 l (.lst (ws.map V.str ++ [V.str y]))) ∧ DrawAt (upd H4 l (.lst (ws.map V.str ++ [V.str y]))) d a ∧ ∃ ws' : List Str, ws'.length = i + 1 ∧ (∀ x ∈ ws', wordOk x = true) ∧ (upd H4 l (.lst (ws.map V.str ++ [V.str y]))) l = some (.lst (ws'.map V.str)) := fun y hy => by
        refine ⟨((b2.trans (b3.mono (by simp))).trans (But.of g34)).trans (But.put (by simp)), hd4.upd nld nla, ws ++ [y], by rw [List.length_append, li]; rfl, fun x hx => ?_, by rw [upd_same, List.map_append]; rfl⟩
        rcases List.mem_append.mp hx with hx | hx
        · exact ok x hx
        · simp only [List.mem_singleton] at hx; subst hx; exact hy
      refine ⟨_, rfl, .inl ⟨rfl, _, SqL.of hw4⟩, _, rfl, _, rfl, wd, l, ws, rfl, rfl, .inl (SqL.of hw4), _, rfl, ?_⟩
      by_cases c : wd ∈ ws
      · rw [decide_eq_true c]
        cases ef : cand.filter (fun x => !decide (x ∈ ws)) with
        | nil => exact (fr ef).elim
        | cons y r =>
          rw [ef] at h4
          have hy : wordOk y = true := cand_ok y (List.mem_filter.mp (show y ∈ cand.filter (fun x => !decide (x ∈ ws)) by rw [ef]; simp)).1
          obtain ⟨e1, e2, e3⟩ := done y hy
          refine iteT ⟨_, rfl, D0, _, _, _, rfl, rfl, SqL.of h4, atI_nat (j := 0) rfl, l, _, _, rfl, rfl, hw4, hlen, ?_⟩
          exact ⟨e1, e2, ⟨_, _, _, _, rfl⟩, e3⟩
      · rw [decide_eq_false c]
        obtain ⟨e1, e2, e3⟩ := done wd wok
        refine iteF ⟨_, rfl, l, _, _, rfl, rfl, hw4, hlen, ?_⟩
        exact ⟨e1, e2, ⟨_, _, _, _, rfl⟩, e3⟩
  · rintro σ H2 ⟨b2, hd2, ⟨o3, o4, o5, o6, rfl⟩, ws, li, ok, hw⟩
    refine ⟨_, rfl, q H2 l ws ⟨by omega, ok⟩ (((But.new hl).trans b2).drop hl) hd2 hw hl⟩
end
end K1
namespace K1
open PySem L2
/-- nodes of a concept of a depth at most -/
def cap : Nat → Nat
  | 0 => 1
  | n + 1 => 2 + 2 * cap n
theorem cap_pos : ∀ n, 1 ≤ cap n
  | 0 => Nat.le_refl _
  | n + 1 => by unfold cap; omega
theorem cap_mono : ∀ n, cap n ≤ cap (n + 1)
  | 0 => by decide
  | n + 1 => by have := cap_mono n; unfold cap; simp only [cap] at *; omega
/-- two lists of words stand apart from the draws -/
structure Names (H : Hp) (d tn tr : Addr) (N R : List Str) : Prop where
  n : H tn = some (.lst (N.map V.str))
  r : H tr = some (.lst (R.map V.str))
  nd : tn ≠ d
  rd : tr ≠ d
theorem Names.but {H H' : Hp} {d tn tr : Addr} {N R : List Str} (h : Names H d tn tr N R) (b : But [d] H H') : Names H' d tn tr N R :=
  ⟨b _ _ (by simpa using h.nd) h.n, b _ _ (by simpa using h.rd) h.r, h.nd, h.rd⟩
theorem Names.same {H H' : Hp} {d tn tr : Addr} {N R : List Str} (h : Names H d tn tr N R) (b : Same H H') : Names H' d tn tr N R := h.but (But.of b)
structure Voc2 (N R : List Str) : Prop extends Vocab N R where
  pn : 0 < N.length
  pr : 0 < R.length
section
variable {P : Program} {w : World} {K : PySem.W.Frag} {mg : Str → Option Value} {base : Heap}
def spAtom : Sp := fun vs H Q _ => ∃ (d a tn : Addr) (N : List Str), vs = [.ref d, .ref tn] ∧ DrawAt H d a ∧ H tn = some (.lst (N.map V.str)) ∧ tn ≠ d ∧ 0 < N.length ∧ N.length ≤ 10 ∧ (∀ x ∈ N, wordOk x = true) ∧
  ∀ H' (s : Str), (s = "all" ∨ s = "none" ∨ s ∈ N) → But [d] H H' → DrawAt H' d a → Q (.str s) H'
theorem ok_atom (D : Defs K mg) : FnOk P w K mg base CX0 5 D.d_law_atom.f D.d_law_atom.fd ["draw", "names"] spAtom := by
  have GP := ok_pick (P := P) (w := w) (base := base) D
  have GX := ok_next (P := P) (w := w) (base := base) D
  refine D.d_law_atom.F.ok sc_law_atom (fun vs H Q E h => ?_) (fun cdv A outer s H vs Q E hr h => ?_)
  · obtain ⟨d, a, tn, N, rfl, _⟩ := h
    rfl
  obtain ⟨d, a, tn, N, rfl, hd, hn, nd, p0, l10, ok, q⟩ := h
  have hr3 : Room 3 _ := hr.mono (by omega)
  refine ⟨_, (pss_cons (ps_set (i := 2) sc_law_atom.nd rfl (Or.inl rfl) (pe_call GX hr3 rfl D.d_law_next.m D.d_law_next.F.kp D.d_law_next.b .nil pass0 (pa_cons (pv 0) (pa_cons pe_int pa_nil))))
      (pss_cons (ps_if (pt_cmpR op_eq (pv 2) pe_int (nomark _)) (pss_one (ps_ret pe_str)) pss_nil)
      (pss_one (ps_ret (pe_ifExp (PW.pt (pw_or (pt_cmpR op_lt (pv 2) pe_int (nomark _)) (pw_or1 (pt_cmpR (op_eqD hr.units) (pv 1) (pe_lst pa_nil) (nomark _))))) pe_str (pe_call GP hr rfl D.d_law_pick.m D.d_law_pick.F.kp D.d_law_pick.b .nil pass0 (pa_cons (pv 0) (pa_cons (pv 1) pa_nil)))))))), ?_⟩
  refine ⟨_, rfl, d, a, 16, rfl, (by decide), hd, fun H1 r b1 hd1 r0 r16 => ⟨_, rfl, rfl, _, rfl, ?_⟩⟩
  refine ite2 (fun _ => q H1 _ (.inr (.inl rfl)) b1 hd1) (fun _ => ?_)
  refine ⟨_, rfl, _, _, rfl, rfl, _, rfl, ?_⟩
  refine ite2 (fun _ => q H1 _ (.inl rfl) b1 hd1) (fun _ => ?_)
  have hn1 := b1 _ _ (by simpa using nd) hn
  refine ⟨_, rfl, (by show 0 ≤ sizeLine; decide), fun p hp => ?_⟩
  have g := same_new hp (.lst [])
  refine ⟨.list (strsD N), .list [], .lst (SqL.of (g _ _ hn1)) (dp_strs N), .lst (SqL.of upd_same) .nil, ?_, rfl, _, rfl, ?_⟩
  · refine shaped_of ?_ ?_
    · show PyData.canLayAll0 (strsD N) = true
      exact lay_strs fun x hx => word_strOk (ok x hx)
    · show PyData.depthAll (strsD N) + 1 ≤ 64
      rw [depth_strs]
      decide
  have e : PyData.eqv (.list (strsD N)) (.list []) = false := by
    cases N with
    | nil => cases p0
    | cons x r => rfl
  rw [e]
  refine iteF ⟨_, rfl, _, rfl, d, a, tn, _, rfl, hd1.same g, g _ _ hn1, nd, (by rw [List.length_map]; exact p0), fun H' x hx b hd' => ?_⟩
  obtain ⟨y, hy, rfl⟩ := List.mem_map.mp hx
  exact q H' y (.inr (.inr hy)) ((b1.trans (But.of g)).trans b) hd'
/-! ### _law_concept -/
def spLC : Nat → Sp
  | 0 => fun _ _ _ _ => False
  | n + 1 => fun vs H Q _ => ∃ (d a tn tr : Addr) (N R : List Str) (m : Nat), vs = [.ref d, .ref tn, .ref tr, .int (m : Int)] ∧ m ≤ n ∧ DrawAt H d a ∧ Names H d tn tr N R ∧ Voc2 N R ∧
    ∀ H' v c, ConAt H' c v → In N R c → nest c ≤ m → nodes c ≤ cap m → But [d] H H' → DrawAt H' d a → Q v H'
theorem small_word {s : Str} {N : List Str} (ok : ∀ x ∈ N, wordOk x = true) (h : s = "all" ∨ s = "none" ∨ s ∈ N) : s.length ≤ 12 := by
  rcases h with rfl | rfl | h
  · decide +kernel
  · decide +kernel
  · exact word_len (ok s h)
theorem ok_concept (D : Defs K mg) : ∀ n, FnOk P w K mg base CX0 (n + 5) D.d_law_concept.f D.d_law_concept.fd ["draw", "names", "roles", "deep"] (spLC n)
  | 0 => none_left fun _ _ _ _ h => h
  | n + 1 => by
    have G := ok_concept D n
    have GA := ok_atom (P := P) (w := w) (base := base) D
    have GP := ok_pick (P := P) (w := w) (base := base) D
    have GX := ok_next (P := P) (w := w) (base := base) D
    refine D.d_law_concept.F.ok sc_law_concept (fun vs H Q E h => ?_) (fun cdv A outer s H vs Q E hr h => ?_)
    · obtain ⟨d, a, tn, tr, N, R, m, rfl, _⟩ := h
      rfl
    obtain ⟨d, a, tn, tr, N, R, m, rfl, hmn, hd, hN, vo, q⟩ := h
    have hr3 : Room 3 _ := hr.mono (by omega)
    have hr4 : Room 4 _ := hr.mono (by omega)
    have hr5 : Room 5 _ := hr.mono (by omega)
    refine ⟨_, (pss_cons (ps_set (i := 4) sc_law_concept.nd rfl (Or.inl rfl) (pe_call GX hr3 rfl D.d_law_next.m D.d_law_next.F.kp D.d_law_next.b .nil pass0 (pa_cons (pv 0) (pa_cons pe_int pa_nil))))
      (pss_cons (ps_if (PW.pt (pw_or (pt_cmpR op_le (pv 3) pe_int (nomark _)) (pw_or (pt_cmpR op_lt (pv 4) pe_int (nomark _)) (pw_or1 (PW.pt (pw_and (pt_cmpR op_lt (pv 4) pe_int (nomark _)) (pw_and1 (pt_cmpR (op_eqD hr.units) (pv 2) (pe_lst pa_nil) (nomark _)))))))))
          (pss_one (ps_ret (pe_call GA hr5 rfl D.d_law_atom.m D.d_law_atom.F.kp D.d_law_atom.b .nil pass0 (pa_cons (pv 0) (pa_cons (pv 1) pa_nil))))) pss_nil)
      (pss_cons (ps_if (pt_cmpR op_lt (pv 4) pe_int (nomark _)) (pss_one (ps_ret (pe_tup (pa_cons pe_str (pa_cons (pe_call GP hr4 rfl D.d_law_pick.m D.d_law_pick.F.kp D.d_law_pick.b .nil pass0 (pa_cons (pv 0) (pa_cons (pv 2) pa_nil))) (pa_cons (pe_call G hr rfl D.d_law_concept.m D.d_law_concept.F.kp D.d_law_concept.b .nil pass0 (pa_cons (pv 0) (pa_cons (pv 1) (pa_cons (pv 2) (pa_cons (pe_op op_sub (pv 3) pe_int) pa_nil))))) pa_nil)))))) pss_nil)
      (pss_cons (ps_set (i := 5) sc_law_concept.nd rfl (Or.inl rfl) (pe_lst (pa_cons (pe_call GA hr5 rfl D.d_law_atom.m D.d_law_atom.F.kp D.d_law_atom.b .nil pass0 (pa_cons (pv 0) (pa_cons (pv 1) pa_nil))) (pa_cons (pe_call G hr rfl D.d_law_concept.m D.d_law_concept.F.kp D.d_law_concept.b .nil pass0 (pa_cons (pv 0) (pa_cons (pv 1) (pa_cons (pv 2) (pa_cons (pe_op op_sub (pv 3) pe_int) pa_nil))))) pa_nil))))
      (pss_cons (ps_if (pt_cmpR op_eq (pv 4) pe_int (nomark _)) (pss_one (ps_expr (pe_bm PySem.F.plainAttrs_list PySem.F.slot_list_append PySem.F.type_list_append mt_append (pv 5) (pa_cons (pe_call G hr rfl D.d_law_concept.m D.d_law_concept.F.kp D.d_law_concept.b .nil pass0 (pa_cons (pv 0) (pa_cons (pv 1) (pa_cons (pv 2) (pa_cons (pe_op op_sub (pv 3) pe_int) pa_nil))))) pa_nil)))) pss_nil)
      (pss_one (ps_ret (pe_op op_catT (pe_tup (pa_cons pe_str pa_nil)) (pe_callTy call_tuple_of (by rfl) D.z_tuple (by decide +kernel) (pa_cons (pv 5) pa_nil)))))))))), ?_⟩
    refine ⟨_, rfl, d, a, 6, rfl, (by decide), hd, fun H1 r b1 hd1 r0 r6 => ?_⟩
    have hN1 := hN.but b1
    -- an atom
    have atom : ∀ (H2 : Hp) (Q' : L2.V → Hp → Prop), But [d] H H2 → DrawAt H2 d a → (∀ H' v c, ConAt H' c v → In N R c → nest c = 0 → nodes c = 1 → But [d] H H' → DrawAt H' d a → Q' v H') → spAtom ([.ref d, .ref tn] ++ []) H2 Q' E0 := by
      intro H2 Q' b2 hd2 q'
      have hN2 := hN.but b2
      exact ⟨d, a, tn, N, rfl, hd2, hN2.n, hN2.nd, vo.pn, vo.ln, vo.n, fun H' s hs b hd' => q' H' (.str s) (.atom s) ⟨rfl, small_word vo.n hs⟩ hs rfl rfl (b2.trans b) hd'⟩
    have c0 := cap_pos m
    refine ⟨_, rfl, _, _, rfl, rfl, _, rfl, ?_⟩
    refine ite2 (fun _ => ?_) (fun cm => ?_)
    · refine iteT ⟨_, rfl, _, rfl, atom H1 _ b1 hd1 fun H' v c h1 h2 h3 h4 h5 h6 => q H' v c h1 h2 (by omega) (by omega) h5 h6⟩
    have cm' : ¬ ((m : Int) ≤ 0) := of_decide_eq_false (Bool.eq_false_iff.mpr cm)
    refine ⟨_, rfl, _, _, rfl, rfl, _, rfl, ?_⟩
    refine ite2 (fun _ => ?_) (fun _ => ?_)
    · refine iteT ⟨_, rfl, _, rfl, atom H1 _ b1 hd1 fun H' v c h1 h2 h3 h4 h5 h6 => q H' v c h1 h2 (by omega) (by omega) h5 h6⟩
    refine ⟨_, rfl, _, _, rfl, rfl, _, rfl, ?_⟩
    -- the rest, from a heap in which nothing but new things stands
    have em : (m : Int) - 1 = ((m - 1 : Nat) : Int) := by omega
    have emv : ∀ x y z : L2.V, ([x, y, z, L2.V.int ((m : Int) - 1)] ++ []) = [x, y, z, L2.V.int ((m - 1 : Nat) : Int)] := fun x y z => by rw [em]; rfl
    have hcap : cap m = 2 + 2 * cap (m - 1) := by
      cases m with
      | zero => exact absurd (by decide) cm'
      | succ m => rfl
    -- a concept within
    have sub : ∀ (H2 : Hp) (Q' : L2.V → Hp → Prop), But [d] H H2 → DrawAt H2 d a → (∀ H' v c, ConAt H' c v → In N R c → nest c ≤ m - 1 → nodes c ≤ cap (m - 1) → But [d] H2 H' → DrawAt H' d a → Q' v H') →
        spLC n ([.ref d, .ref tn, .ref tr, .int ((m : Int) - 1)] ++ []) H2 Q' E0 := by
      intro H2 Q' b2 hd2 q'
      cases n with
      | zero => omega
      | succ n => exact ⟨d, a, tn, tr, N, R, m - 1, emv _ _ _, by omega, hd2, hN.but b2, vo, q'⟩
    refine ite2 (fun c4 => ?_) (fun c4 => ?_)
    · refine ⟨_, rfl, (by show 0 ≤ sizeLine; decide), fun p hp => ?_⟩
      have g := same_new hp (.lst [])
      refine ⟨.list (strsD R), .list [], .lst (SqL.of (g _ _ hN1.r)) (dp_strs R), .lst (SqL.of upd_same) .nil, ?_, rfl, _, rfl, ?_⟩
      · refine shaped_of ?_ ?_
        · show PyData.canLayAll0 (strsD R) = true
          exact lay_strs fun x hx => word_strOk (vo.r x hx)
        · show PyData.depthAll (strsD R) + 1 ≤ 64
          rw [depth_strs]
          decide
      have e : PyData.eqv (.list (strsD R)) (.list []) = false := by
        have := vo.pr
        cases R with
        | nil => cases this
        | cons x r => rfl
      rw [e]
      have b2 : But [d] H (upd H1 p (.lst [])) := b1.trans (But.of g)
      refine iteF ⟨_, rfl, _, _, rfl, rfl, _, rfl, ite2 (fun _ => ?_) (fun n => absurd c4 n)⟩
      refine ⟨_, rfl, _, rfl, d, a, tr, _, rfl, hd1.same g, g _ _ hN1.r, hN1.rd, (by rw [List.length_map]; exact vo.pr), fun H3 x hx b3 hd3 => ?_⟩
      obtain ⟨y, hy, rfl⟩ := List.mem_map.mp hx
      refine ⟨_, rfl, _, rfl, _, rfl, _, rfl, _, _, rfl, rfl, sub H3 _ (b2.trans b3) hd3 fun H4 v c h1 h2 h3 h4 b4 hd4 => ⟨(by show 3 ≤ sizeLine; decide), fun p2 hp2 => ?_⟩⟩
      have g2 := same_new hp2 (.tup [.str "some", .str y, v])
      exact q _ (.ref p2) (.ex y c) ⟨p2, v, rfl, upd_same, h1.same g2, word_len (vo.r y hy)⟩ ⟨hy, h2⟩ (by simp only [nest]; omega) (by simp only [nodes]; omega) (((b2.trans b3).trans b4).trans (But.of g2)) (hd4.same g2)
    · refine iteF ⟨_, rfl, _, _, rfl, rfl, _, rfl, ite2 (fun n => absurd n c4) (fun _ => ?_)⟩
      refine ⟨_, rfl, _, rfl, d, a, tn, N, rfl, hd1, hN1.n, hN1.nd, vo.pn, vo.ln, vo.n, fun H2 s0 hs0 b12 hd2 => ?_⟩
      have b2 : But [d] H H2 := b1.trans b12
      obtain ⟨v1, c1, ev, k1, i1, n1, o1⟩ : ∃ v1 c1, L2.V.str s0 = v1 ∧ ConAt H2 c1 v1 ∧ In N R c1 ∧ nest c1 = 0 ∧ nodes c1 = 1 := ⟨.str s0, .atom s0, rfl, ⟨rfl, small_word vo.n hs0⟩, hs0, rfl, rfl⟩
      rw [ev]
      refine ⟨_, rfl, _, rfl, _, rfl, _, rfl, _, _, rfl, rfl, sub H2 _ b2 hd2 fun H3 v2 c2 k2 i2 n2 o2 b3 hd3 => ⟨(by show 2 ≤ sizeLine; decide), fun l hl => ?_⟩⟩
      have b03 : But [d] H H3 := b2.trans b3
      have k13 : ConAt H3 c1 v1 := k1.t (b3.t hd2.nt)
      obtain ⟨nld, nla⟩ := hd3.new hl
      have gl := same_new hl (.lst [v1, v2])
      have lno : ∀ (xs : List L2.V), upd H3 l (.lst [v1, v2]) l ≠ some (.tup xs) := fun xs z => by rw [upd_same] at z; cases z
      -- the and of what stands in the list
      refine ⟨_, rfl, rfl, _, rfl, ite2 (fun _ => ?_) (fun _ => ?_)⟩
      · refine ⟨_, rfl, .inl ⟨rfl, _, SqL.of upd_same⟩, _, rfl, _, rfl, _, rfl, _, rfl, _, _, rfl, rfl, sub _ _ (b03.trans (But.of gl)) (hd3.same gl) fun H5 v3 c3 k3 i3 n3 o3 b5 hd5 => ?_⟩
        have hl5 := b5 _ _ (by simpa using nld) (upd_same (H := H3) (a := l) (o := .lst [v1, v2]))
        have t35 : TSame H3 H5 := (Same.t gl).trans (b5.t (hd3.same gl).nt)
        have t56 : TSame H5 (upd H5 l (.lst ([v1, v2] ++ [v3]))) := (But.put (D := [l]) (by simp)).t fun e he xs z => by
          simp only [List.mem_singleton] at he
          subst he
          rw [hl5] at z
          cases z
        have b06 : But [d] H (upd H5 l (.lst ([v1, v2] ++ [v3]))) := by
          have z : But [l, d] H3 (upd H5 l (.lst ([v1, v2] ++ [v3]))) := ((But.of gl).trans (b5.mono (by simp))).trans (But.put (by simp))
          exact b03.trans (z.drop hl)
        have hd6 : DrawAt (upd H5 l (.lst ([v1, v2] ++ [v3]))) d a := hd5.upd nld nla
        refine ⟨l, _, _, rfl, rfl, hl5, (by show 2 < sizeLine; decide), ?_⟩
        refine ⟨(by show 1 ≤ sizeLine; decide), fun t1 ht1 => ⟨_, rfl, l, _, rfl, .inl ⟨SqL.of (same_new ht1 _ _ _ upd_same), fun t2 ht2 => ?_⟩⟩⟩
        have g1 := same_new ht1 (.tup [.str "and"])
        have g2 := same_new ht2 (.tup ([v1, v2] ++ [v3]))
        refine ⟨t1, t2, _, _, rfl, rfl, SqT.of (g2 _ _ upd_same), SqT.of upd_same, (by simp), (by show 1 + 3 ≤ sizeLine; decide), (fun z => nomatch z), fun _ p hp => ?_⟩
        have g3 := same_new hp (.tup ([.str "and"] ++ ([v1, v2] ++ [v3])))
        have g := (g1.trans g2).trans g3
        have tt := t56.trans (Same.t g)
        exact q _ (.ref p) (.and3 c1 c2 c3) ⟨p, v1, v2, v3, rfl, upd_same, (k13.t t35).t tt, (k2.t t35).t tt, k3.t tt⟩ ⟨i1, i2, i3⟩ (by simp only [nest]; omega) (by simp only [nodes]; omega) (b06.trans (But.of g)) (hd6.same g)
      · refine ⟨(by show 1 ≤ sizeLine; decide), fun t1 ht1 => ⟨_, rfl, l, _, rfl, .inl ⟨SqL.of (same_new ht1 _ _ _ upd_same), fun t2 ht2 => ?_⟩⟩⟩
        have g1 := same_new ht1 (.tup [.str "and"])
        have g2 := same_new ht2 (.tup [v1, v2])
        refine ⟨t1, t2, _, _, rfl, rfl, SqT.of (g2 _ _ upd_same), SqT.of upd_same, (by simp), (by show 1 + 2 ≤ sizeLine; decide), (fun z => nomatch z), fun _ p hp => ?_⟩
        have g3 := same_new hp (.tup ([.str "and"] ++ [v1, v2]))
        have g := gl.trans ((g1.trans g2).trans g3)
        exact q _ (.ref p) (.and2 c1 c2) ⟨p, v1, v2, rfl, upd_same, k13.same g, k2.same g⟩ ⟨i1, i2⟩ (by simp only [nest]; omega) (by simp only [nodes]; omega) (b03.trans (But.of g)) (hd3.same g)
end
end K1
namespace K1
open PySem L2
theorem and_and : decide (V.str ("and" : Str) = V.str "and") = true := by decide +kernel
theorem some_and : decide (V.str ("some" : Str) = V.str "and") = false := by decide +kernel
theorem cut1 (x : V) (xs : List V) : cutV (x :: xs) (some 1) none = xs := by simp [cutV, HT.sIx]
theorem cut2 (x y : V) (xs : List V) : cutV (x :: y :: xs) (some 2) none = xs := by simp [cutV, HT.sIx]
theorem no_whole1 {xs : List V} : ¬ (HT.sIx xs.length 0 (some 1) = 0 ∧ HT.sIx xs.length xs.length none = xs.length) ∨ xs = [] := by
  cases xs with
  | nil => exact .inr rfl
  | cons x r => exact .inl (by rintro ⟨z, _⟩; simp [HT.sIx] at z)
/-- a concept that is no text: its tuple, its kids -/
theorem con_kids {H : Hp} {c : Con} {v : V} (h : ConAt H c v) (n : ∀ s, c ≠ .atom s) : ∃ a ws, v = .ref a ∧ Paired (ConAt H) (kids c) ws ∧
    ((isEx c = true ∧ ∃ r u, c = .ex r u ∧ H a = some (.tup (.str "some" :: .str r :: ws)) ∧ r.length ≤ 12) ∨ (isEx c = false ∧ H a = some (.tup (.str "and" :: ws)))) := by
  cases c with
  | atom s => exact (n s rfl).elim
  | ex r c =>
    obtain ⟨p, u, rfl, h1, h2, h3⟩ := h
    exact ⟨p, [u], rfl, .cons h2 .nil, .inl ⟨rfl, r, c, rfl, h1, h3⟩⟩
  | and2 a b =>
    obtain ⟨p, u, u', rfl, h1, h2, h3⟩ := h
    exact ⟨p, [u, u'], rfl, .cons h2 (.cons h3 .nil), .inr ⟨rfl, h1⟩⟩
  | and3 a b c =>
    obtain ⟨p, u, u', u'', rfl, h1, h2, h3, h4⟩ := h
    exact ⟨p, [u, u', u''], rfl, .cons h2 (.cons h3 (.cons h4 .nil)), .inr ⟨rfl, h1⟩⟩
theorem paired_app {α β : Type} {F : α → β → Prop} : ∀ {xs ys : List α} {us ws : List β}, Paired F xs us → Paired F ys ws → Paired F (xs ++ ys) (us ++ ws)
  | [], _, _, _, .nil, h => h
  | _, _, _, _, .cons r t, h => .cons r (paired_app t h)
theorem prtL_len : ∀ l : List Con, ((l.map prt).flatten).length = nodesL l
  | [] => rfl
  | c :: l => by simp [nodesL, prt_len, prtL_len l] at *
section
variable {P : Program} {w : World} {K : PySem.W.Frag} {mg : Str → Option Value} {base : Heap}
/-! ### _law_parts -/
def spLP : Nat → Sp
  | 0 => fun _ _ _ _ => False
  | n + 1 => fun vs H Q _ => ∃ v c, vs = [v] ∧ ConAt H c v ∧ nest c ≤ n ∧ nodes c ≤ 100 ∧ ∀ H' p ws, Same H H' → H' p = some (.lst ws) → H p = none → Paired (ConAt H') (prt c) ws → Q (.ref p) H'
theorem ok_lparts (D : Defs K mg) : ∀ n, FnOk P w K mg base CX0 (n + 1) D.d_law_parts.f D.d_law_parts.fd ["concept"] (spLP n)
  | 0 => none_left fun _ _ _ _ h => h
  | n + 1 => by
    have G := ok_lparts D n
    refine D.d_law_parts.F.ok sc_law_parts (fun vs H Q E h => ?_) (fun cdv A outer s H vs Q E hr h => ?_)
    · obtain ⟨v, c, rfl, _⟩ := h
      rfl
    obtain ⟨v, c, rfl, hc, hn, hno, q⟩ := h
    refine ⟨_, (pss_cons (ps_if (pt_val (pe_callB call_isi (by rfl) D.z_isinstance (by decide +kernel) (pa_cons (pv 0) (pa_cons (pe_bltn (v := .ty "str") (by rfl) D.z_str (by decide +kernel) rfl) pa_nil)))) (pss_one (ps_ret (pe_lst (pa_cons (pv 0) pa_nil)))) pss_nil)
      (pss_cons (ps_set (i := 1) sc_law_parts.nd rfl (Or.inl rfl) (pe_lst (pa_cons (pv 0) pa_nil)))
      (pss_cons (ps_for PassesOwn.never rfl (pi_tup (pe_ifExp (pt_cmpR op_eq (pe_ix ix_tup (pv 0) pe_int (fun _ _ => rfl)) pe_str (nomark _)) (pe_slice sl_tup (pv 0) (po_some pe_int) po_none) (pe_slice sl_tup (pv 0) (po_some pe_int) po_none))) (pg_name (i := 2) sc_law_parts.nd rfl (Or.inl rfl)) (pss_one (ps_expr (pe_bm PySem.F.plainAttrs_list PySem.F.slot_list_extend PySem.F.type_list_extend mt_extend (pv 1) (pa_cons (pe_call G hr rfl D.d_law_parts.m D.d_law_parts.F.kp D.d_law_parts.b .nil pass0 (pa_cons (pv 2) pa_nil)) pa_nil)))))
      (pss_one (ps_ret (pv 1)))))), ?_⟩
    obtain ⟨t, ty, kt⟩ := pl_str (K := K) (con_pl hc)
    refine ⟨_, rfl, _, _, _, _, _, rfl, .ty _, ty, kt, _, rfl, ?_⟩
    rcases atom_or c with ⟨s, rfl⟩ | na
    · obtain ⟨rfl, hl⟩ := hc
      refine iteT ⟨_, rfl, (by show 1 ≤ sizeLine; decide), fun p hp => ?_⟩
      exact q _ p _ (same_new hp _) upd_same hp (.cons ⟨rfl, hl⟩ .nil)
    · rw [con_str hc na]
      obtain ⟨a, ws, rfl, hk, hcase⟩ := con_kids hc na
      have nk := nodesL_kids (c := c)
      refine iteF ⟨_, rfl, (by show 1 ≤ sizeLine; decide), fun l hl => ?_⟩
      have gl := same_new hl (.lst [.ref a])
      have main : ∀ p, (upd H l (.lst [.ref a])) p = none → let H1 := upd (upd H l (.lst [.ref a])) p (.tup ws)
          let Pv : Nat → L2.St → Hp → Prop := fun i σ H2 => But [l] H1 H2 ∧ (∃ o, σ = [some (.ref a), some (.ref l), o]) ∧ ∃ us, H2 l = some (.lst us) ∧ Paired (ConAt H2) (c :: (((kids c).take i).map prt).flatten) us
          Pv 0 [some (.ref a), some (.ref l), none] H1 ∧ (∀ i σ H2, i ≤ ws.length → Pv i σ H2 → SqT K H2 p ws) ∧ (∀ σ H2, Pv ws.length σ H2 → Q (.ref l) H2) := by
        intro p hp H1 Pv
        have gp := same_new hp (.tup ws)
        have hl1 : H1 l = some (.lst [.ref a]) := gp _ _ upd_same
        have pl : p ≠ l := (ne_of_none upd_same hp).symm
        refine ⟨⟨But.refl _, ⟨none, rfl⟩, _, hl1, .cons ((hc.same gl).same gp) .nil⟩, fun i σ H2 _ hh => SqT.of (hh.1 _ _ (by simpa using pl) upd_same), ?_⟩
        rintro σ H2 ⟨b2, _, us, hu, pu⟩
        have e : (kids c).take ws.length = kids c := by rw [← paired_len hk, List.take_length]
        rw [e, ← prt_kids] at pu
        refine q H2 l us (fun b o z => b2 b o (by simp only [List.mem_singleton]; exact ne_of_none z hl) (gp _ _ (gl _ _ z))) hu hl pu
      have step : ∀ p (H1 H2 : Hp) i x us (Q' : L2.V → Hp → Prop), H1 = upd (upd H l (.lst [.ref a])) p (.tup ws) → (upd H l (.lst [.ref a])) p = none → ws[i]? = some x → But [l] H1 H2 → H2 l = some (.lst us) → Paired (ConAt H2) (c :: (((kids c).take i).map prt).flatten) us →
          (∀ H3 p3 us3, H3 l = some (.lst us) → H3 p3 = some (.lst us3) → us.length + us3.length ≤ sizeLine → (But [l] H1 (upd H3 l (.lst (us ++ us3))) ∧ ∃ us', (upd H3 l (.lst (us ++ us3))) l = some (.lst us') ∧ Paired (ConAt (upd H3 l (.lst (us ++ us3)))) (c :: (((kids c).take (i + 1)).map prt).flatten) us') → Q' (.ref p3) H3) → spLP n ([x] ++ []) H2 Q' E0 := by
        intro p H1 H2 i x us Q' e1 hp hi b2 hu pu hQ
        obtain ⟨k, hk1, hk2⟩ := paired_get hk hi
        have kin : k ∈ kids c := List.mem_of_getElem? hk1
        have kn := kid_nest k kin
        have ke : (kids c).take (i + 1) = (kids c).take i ++ [k] := take_more hk1
        have gp := same_new hp (.tup ws)
        have hl1 : H1 l = some (.lst [.ref a]) := by rw [e1]; exact gp _ _ upd_same
        have t12 : TSame H1 H2 := b2.t fun e he xs z => by
          simp only [List.mem_singleton] at he
          subst he
          rw [hl1] at z
          cases z
        have tk : TSame H H1 := by rw [e1]; exact Same.t (gl.trans gp)
        have kno : nodesL ((kids c).take i) + nodes k ≤ nodesL (kids c) := by
          have := nodesL_take (l := kids c) (i + 1)
          rw [ke, nodesL_snoc] at this
          exact this
        cases n with
        | zero => omega
        | succ n =>
          refine ⟨x, k, rfl, hk2.t (tk.trans t12), by omega, by omega, fun H3 p3 us3 g3 h3 hp3 pk => ?_⟩
          have hl3 := g3 _ _ hu
          have ll := paired_len pu
          have lk := paired_len pk
          rw [List.length_cons, prtL_len] at ll
          rw [prt_len] at lk
          have t34 : TSame H3 (upd H3 l (.lst (us ++ us3))) := (But.put (D := [l]) (by simp)).t fun e he xs z => by
            simp only [List.mem_singleton] at he
            subst he
            rw [hl3] at z
            cases z
          refine hQ H3 p3 us3 hl3 h3 (Nat.le_of_lt (small1000 (by omega))) ⟨(b2.trans (But.of g3)).trans (But.put (by simp)), _, upd_same, ?_⟩
          rw [ke, List.map_append, List.flatten_append]
          have e2 : ([k].map prt).flatten = prt k := by simp
          rw [e2, ← List.cons_append]
          exact paired_app (paired_t ((Same.t g3).trans t34) pu) (paired_t t34 pk)
      have ha' : ∀ o, H a = some o → upd H l (.lst [.ref a]) a = some o := fun o z => gl _ _ z
      rcases hcase with ⟨ex, r, u, ec, ha, _⟩ | ⟨ex, ha⟩
      · refine ⟨_, rfl, a, _, _, _, rfl, rfl, SqT.of (ha' _ ha), atI_nat (j := 0) rfl, rfl, _, rfl, ?_⟩
        rw [some_and]
        refine iteF ⟨_, rfl, _, rfl, a, _, rfl, SqT.of (ha' _ ha), (by rintro ⟨z, _⟩; simp [HT.sIx] at z), fun p hp => ⟨p, rfl, ⟨_, SqT.of upd_same⟩, ?_⟩⟩
        rw [cut2]
        obtain ⟨p0, p1, p2⟩ := main p hp
        refine for_tup (xs := ws) _ p0 p1 ?_ (fun σ H2 hh => ?_)
        · rintro i x σ H2 hi ⟨b2, ⟨o, rfl⟩, us, hu, pu⟩
          refine ⟨_, rfl, .inl ⟨rfl, _, SqL.of hu⟩, _, rfl, ?_⟩
          exact step p _ H2 i x us _ rfl hp hi b2 hu pu fun H3 p3 us3 z1 z2 z3 z4 => ⟨l, p3, us, us3, rfl, rfl, z1, z2, z3, z4.1, ⟨_, rfl⟩, z4.2⟩
        · have z := p2 σ H2 hh
          obtain ⟨_, ⟨o, rfl⟩, _⟩ := hh
          exact ⟨_, rfl, z⟩
      · refine ⟨_, rfl, a, _, _, _, rfl, rfl, SqT.of (ha' _ ha), atI_nat (j := 0) rfl, rfl, _, rfl, ?_⟩
        rw [and_and]
        refine iteT ⟨_, rfl, _, rfl, a, _, rfl, SqT.of (ha' _ ha), (by rintro ⟨z, _⟩; simp [HT.sIx] at z), fun p hp => ⟨p, rfl, ⟨_, SqT.of upd_same⟩, ?_⟩⟩
        rw [cut1]
        obtain ⟨p0, p1, p2⟩ := main p hp
        refine for_tup (xs := ws) _ p0 p1 ?_ (fun σ H2 hh => ?_)
        · rintro i x σ H2 hi ⟨b2, ⟨o, rfl⟩, us, hu, pu⟩
          refine ⟨_, rfl, .inl ⟨rfl, _, SqL.of hu⟩, _, rfl, ?_⟩
          exact step p _ H2 i x us _ rfl hp hi b2 hu pu fun H3 p3 us3 z1 z2 z3 z4 => ⟨l, p3, us, us3, rfl, rfl, z1, z2, z3, z4.1, ⟨_, rfl⟩, z4.2⟩
        · have z := p2 σ H2 hh
          obtain ⟨_, ⟨o, rfl⟩, _⟩ := hh
          exact ⟨_, rfl, z⟩
end
end K1
namespace K1
open PySem L2
theorem dep_and {c : Con} (na : ∀ s, c ≠ .atom s) (ex : isEx c = false) (m : Int) (h1 : m ∈ (kids c).map dep) (h2 : ∀ y ∈ (kids c).map dep, y ≤ m) : m = dep c := by
  cases c with
  | atom s => exact (na s rfl).elim
  | ex r c => cases ex
  | and2 a b =>
    simp only [kids, List.map_cons, List.map_nil, List.mem_cons, List.not_mem_nil, or_false] at h1 h2
    have a1 := h2 _ (.inl rfl)
    have a2 := h2 _ (.inr rfl)
    simp only [dep]
    omega
  | and3 a b c =>
    simp only [kids, List.map_cons, List.map_nil, List.mem_cons, List.not_mem_nil, or_false] at h1 h2
    have a1 := h2 _ (.inl rfl)
    have a2 := h2 _ (.inr (.inl rfl))
    have a3 := h2 _ (.inr (.inr rfl))
    simp only [dep]
    omega
theorem kids_pos {c : Con} (na : ∀ s, c ≠ .atom s) : 0 < (kids c).length ∧ (kids c).length ≤ 3 := by
  cases c with
  | atom s => exact (na s rfl).elim
  | ex r c => exact ⟨by simp [kids], by simp [kids]⟩
  | and2 a b => exact ⟨by simp [kids], by simp [kids]⟩
  | and3 a b c => exact ⟨by simp [kids], by simp [kids]⟩
theorem isAnd_of {c : Con} (na : ∀ s, c ≠ .atom s) (ex : isEx c = false) : isAnd c = true := by
  cases c with
  | atom s => exact (na s rfl).elim
  | ex r c => cases ex
  | and2 a b => rfl
  | and3 a b c => rfl
theorem siz_and {c : Con} (na : ∀ s, c ≠ .atom s) (ex : isEx c = false) : ((kids c).map siz).sum = siz c := by
  cases c with
  | atom s => exact (na s rfl).elim
  | ex r c => cases ex
  | and2 a b => simp [kids, siz]
  | and3 a b c => simp [kids, siz]; omega
theorem map_snoc {α β : Type} {f : α → β} {l : List α} {i : Nat} {x : α} (h : l[i]? = some x) : (l.take i).map f ++ [f x] = (l.take (i + 1)).map f := by rw [take_more h, List.map_append]; rfl
section
variable {P : Program} {w : World} {K : PySem.W.Frag} {mg : Str → Option Value} {base : Heap}
/-! ### _law_depth -/
def spLD : Nat → Sp
  | 0 => fun _ _ _ _ => False
  | n + 1 => fun vs H Q _ => ∃ v c, vs = [v] ∧ ConAt H c v ∧ nest c ≤ n ∧ ∀ H', Same H H' → Q (.int (dep c)) H'
theorem ok_ldepth (D : Defs K mg) : ∀ n, FnOk P w K mg base CX0 (n + 1) D.d_law_depth.f D.d_law_depth.fd ["concept"] (spLD n)
  | 0 => none_left fun _ _ _ _ h => h
  | n + 1 => by
    have G := ok_ldepth D n
    refine D.d_law_depth.F.ok sc_law_depth (fun vs H Q E h => ?_) (fun cdv A outer s H vs Q E hr h => ?_)
    · obtain ⟨v, c, rfl, _⟩ := h
      rfl
    obtain ⟨v, c, rfl, hc, hn, q⟩ := h
    refine ⟨_, (pss_cons (ps_if (pt_val (pe_callB call_isi (by rfl) D.z_isinstance (by decide +kernel) (pa_cons (pv 0) (pa_cons (pe_bltn (v := .ty "str") (by rfl) D.z_str (by decide +kernel) rfl) pa_nil)))) (pss_one (ps_ret pe_int)) pss_nil)
      (pss_cons (ps_if (pt_cmpR op_eq (pe_ix ix_tup (pv 0) pe_int (fun _ _ => rfl)) pe_str (nomark _)) (pss_one (ps_ret (pe_op op_add pe_int (pe_call G hr rfl D.d_law_depth.m D.d_law_depth.F.kp D.d_law_depth.b .nil pass0 (pa_cons (pe_ix ix_tup (pv 0) pe_int (fun _ _ => rfl)) pa_nil))))) pss_nil)
      (pss_one (ps_ret (pe_callB (cr_max rfl) (by rfl) D.z_max (by decide +kernel) (pa_cons (pe_lc (own := [("part", 1)]) (g := gName 1) rfl sc_law_depth.nd (pi_tup (pe_slice sl_tup (pv 0) (po_some pe_int) po_none)) (blkOk_by (N := ["concept", "part"]) (sc := defScope s_law_depth) (by decide +kernel)) (fun _ _ _ _ _ => pg_name (i := 1) sc_law_depth.nd rfl (Or.inl rfl)) (fun _ _ _ _ _ => pts_nil) (fun _ _ _ _ _ => (pe_call G hr rfl D.d_law_depth.m D.d_law_depth.F.kp D.d_law_depth.b .nil pass0 (pa_cons (pv 1) pa_nil)))) pa_nil)))))), ?_⟩
    obtain ⟨t, ty, kt⟩ := pl_str (K := K) (con_pl hc)
    refine ⟨_, rfl, _, _, _, _, _, rfl, .ty _, ty, kt, _, rfl, ?_⟩
    rcases atom_or c with ⟨s, rfl⟩ | na
    · obtain ⟨rfl, hl⟩ := hc
      exact iteT (q H (Same.refl H))
    · rw [con_str hc na]
      obtain ⟨a, ws, rfl, hk, hcase⟩ := con_kids hc na
      have kp := kids_pos na
      rcases hcase with ⟨ex, r, u, ec, ha, _⟩ | ⟨ex, ha⟩
      · subst ec
        refine iteF ⟨_, rfl, a, _, _, _, rfl, rfl, SqT.of ha, atI_nat (j := 0) rfl, rfl, _, rfl, ?_⟩
        rw [some_is]
        obtain ⟨x, rfl, hx⟩ : ∃ x, ws = [x] ∧ ConAt H u x := by
          cases hk with
          | cons h1 h2 => cases h2; exact ⟨_, rfl, h1⟩
        simp only [nest] at hn
        cases n with
        | zero => omega
        | succ n =>
          refine iteT ⟨_, rfl, a, _, _, _, rfl, rfl, SqT.of ha, atI_nat (j := 2) rfl, x, u, rfl, hx, by omega, fun H2 g => ⟨_, _, rfl, rfl, ?_⟩⟩
          have z := q H2 g
          simp only [dep] at z
          rw [Int.add_comm] at z
          exact z
      · refine iteF ⟨_, rfl, a, _, _, _, rfl, rfl, SqT.of ha, atI_nat (j := 0) rfl, rfl, _, rfl, ?_⟩
        rw [and_is]
        refine iteF ⟨_, rfl, _, rfl, a, _, rfl, SqT.of ha, (by rintro ⟨z, _⟩; simp [HT.sIx] at z), fun p hp => ⟨p, rfl, ⟨_, SqT.of upd_same⟩, fun D0 hD => ?_⟩⟩
        rw [cut1] at *
        have gp := same_new hp (.tup ws)
        have gD := same_new hD (.lst [])
        have pD : p ≠ D0 := ne_of_none upd_same hD
        refine lc_tup (K := K) (a := p) (xs := ws) (fun i H4 => But [D0] (upd (upd H p (.tup ws)) D0 (.lst [])) H4 ∧ H4 D0 = some (.lst (((kids c).take i).map fun k => V.int (dep k))))
          ⟨But.refl _, upd_same⟩ (fun i H4 _ hh => SqT.of (hh.1 _ _ (by simpa using pD) (by rw [upd_ne pD]; exact upd_same))) ?_ ?_
        · rintro i x H4 hi ⟨b4, h4⟩
          obtain ⟨k, hk1, hk2⟩ := paired_get hk hi
          have kn := kid_nest k (List.mem_of_getElem? hk1)
          have t4 : TSame H H4 := (Same.t (gp.trans gD)).trans (b4.t fun e he xs z => by
            simp only [List.mem_singleton] at he
            subst he
            rw [upd_same] at z
            cases z)
          cases n with
          | zero => omega
          | succ n =>
            refine ⟨rfl, _, rfl, x, k, rfl, hk2.t t4, by omega, fun H5 g5 => ⟨_, g5 _ _ h4, ?_, (b4.trans (But.of g5)).trans (But.put (by simp)), ?_⟩⟩
            · rw [List.length_map, List.length_take]
              exact small1000 (by omega)
            · rw [upd_same, map_snoc (f := fun k => V.int (dep k)) hk1]
        · rintro H4 ⟨b4, h4⟩
          have e : (kids c).take ws.length = kids c := by rw [← paired_len hk, List.take_length]
          rw [e] at h4
          have h4' : H4 D0 = some (.lst (((kids c).map dep).map V.int)) := by rw [h4, List.map_map]; rfl
          refine ⟨D0, (kids c).map dep, rfl, SqL.of h4', by rw [List.length_map]; exact kp.1, fun m m1 m2 => ?_⟩
          rw [dep_and na ex m m1 m2]
          refine q H4 fun b o z => ?_
          have z1 := gp _ _ z
          exact b4 b o (by simp only [List.mem_singleton]; exact ne_of_none z1 hD) (gD _ _ z1)
/-! ### _law_size -/
def spLS : Nat → Sp
  | 0 => fun _ _ _ _ => False
  | n + 1 => fun vs H Q _ => ∃ v c, vs = [v] ∧ ConAt H c v ∧ nest c ≤ n ∧ ∀ H', Same H H' → Q (.int (siz c)) H'
theorem ok_lsize (D : Defs K mg) : ∀ n, FnOk P w K mg base CX0 (n + 1) D.d_law_size.f D.d_law_size.fd ["concept"] (spLS n)
  | 0 => none_left fun _ _ _ _ h => h
  | n + 1 => by
    have G := ok_lsize D n
    refine D.d_law_size.F.ok sc_law_size (fun vs H Q E h => ?_) (fun cdv A outer s H vs Q E hr h => ?_)
    · obtain ⟨v, c, rfl, _⟩ := h
      rfl
    obtain ⟨v, c, rfl, hc, hn, q⟩ := h
    refine ⟨_, (pss_cons (ps_if (pt_val (pe_callB call_isi (by rfl) D.z_isinstance (by decide +kernel) (pa_cons (pv 0) (pa_cons (pe_bltn (v := .ty "str") (by rfl) D.z_str (by decide +kernel) rfl) pa_nil)))) (pss_one (ps_ret (pe_ifExp (pt_cmpR op_inT (pv 0) (pe_tup (pa_cons pe_str (pa_cons pe_str pa_nil))) (by rfl)) pe_int pe_int))) pss_nil)
      (pss_cons (ps_if (pt_cmpR op_eq (pe_ix ix_tup (pv 0) pe_int (fun _ _ => rfl)) pe_str (nomark _)) (pss_one (ps_ret (pe_op op_add pe_int (pe_call G hr rfl D.d_law_size.m D.d_law_size.F.kp D.d_law_size.b .nil pass0 (pa_cons (pe_ix ix_tup (pv 0) pe_int (fun _ _ => rfl)) pa_nil))))) pss_nil)
      (pss_one (ps_ret (pe_callB (cr_sum rfl) (by rfl) D.z_sum (by decide +kernel) (pa_cons (pe_lc (own := [("part", 1)]) (g := gName 1) rfl sc_law_size.nd (pi_tup (pe_slice sl_tup (pv 0) (po_some pe_int) po_none)) (blkOk_by (N := ["concept", "part"]) (sc := defScope s_law_size) (by decide +kernel)) (fun _ _ _ _ _ => pg_name (i := 1) sc_law_size.nd rfl (Or.inl rfl)) (fun _ _ _ _ _ => pts_nil) (fun _ _ _ _ _ => (pe_call G hr rfl D.d_law_size.m D.d_law_size.F.kp D.d_law_size.b .nil pass0 (pa_cons (pv 1) pa_nil)))) pa_nil)))))), ?_⟩
    obtain ⟨t, ty, kt⟩ := pl_str (K := K) (con_pl hc)
    refine ⟨_, rfl, _, _, _, _, _, rfl, .ty _, ty, kt, _, rfl, ?_⟩
    rcases atom_or c with ⟨s, rfl⟩ | na
    · obtain ⟨rfl, _⟩ := hc
      refine iteT ⟨_, rfl, (by show 2 ≤ sizeLine; decide), fun p hp => ⟨s, p, ["all", "none"], rfl, rfl, .inr (SqT.of upd_same), _, rfl, ?_⟩⟩
      have z := q _ (same_new hp (.tup [.str "all", .str "none"]))
      simp only [siz] at z
      by_cases cz : s = "all" ∨ s = "none"
      · rw [mem_an, decide_eq_true cz]
        rw [if_pos cz] at z
        exact iteT z
      · rw [mem_an, decide_eq_false cz]
        rw [if_neg cz] at z
        exact iteF z
    · rw [con_str hc na]
      obtain ⟨a, ws, rfl, hk, hcase⟩ := con_kids hc na
      have kp := kids_pos na
      rcases hcase with ⟨ex, r, u, ec, ha, _⟩ | ⟨ex, ha⟩
      · subst ec
        refine iteF ⟨_, rfl, a, _, _, _, rfl, rfl, SqT.of ha, atI_nat (j := 0) rfl, rfl, _, rfl, ?_⟩
        rw [some_is]
        obtain ⟨x, rfl, hx⟩ : ∃ x, ws = [x] ∧ ConAt H u x := by
          cases hk with
          | cons h1 h2 => cases h2; exact ⟨_, rfl, h1⟩
        simp only [nest] at hn
        cases n with
        | zero => omega
        | succ n => exact iteT ⟨_, rfl, a, _, _, _, rfl, rfl, SqT.of ha, atI_nat (j := 2) rfl, x, u, rfl, hx, by omega, fun H2 g => ⟨_, _, rfl, rfl, q H2 g⟩⟩
      · refine iteF ⟨_, rfl, a, _, _, _, rfl, rfl, SqT.of ha, atI_nat (j := 0) rfl, rfl, _, rfl, ?_⟩
        rw [and_is]
        refine iteF ⟨_, rfl, _, rfl, a, _, rfl, SqT.of ha, (by rintro ⟨z, _⟩; simp [HT.sIx] at z), fun p hp => ⟨p, rfl, ⟨_, SqT.of upd_same⟩, fun D0 hD => ?_⟩⟩
        rw [cut1] at *
        have gp := same_new hp (.tup ws)
        have gD := same_new hD (.lst [])
        have pD : p ≠ D0 := ne_of_none upd_same hD
        refine lc_tup (K := K) (a := p) (xs := ws) (fun i H4 => But [D0] (upd (upd H p (.tup ws)) D0 (.lst [])) H4 ∧ H4 D0 = some (.lst (((kids c).take i).map fun k => V.int (siz k))))
          ⟨But.refl _, upd_same⟩ (fun i H4 _ hh => SqT.of (hh.1 _ _ (by simpa using pD) (by rw [upd_ne pD]; exact upd_same))) ?_ ?_
        · rintro i x H4 hi ⟨b4, h4⟩
          obtain ⟨k, hk1, hk2⟩ := paired_get hk hi
          have kn := kid_nest k (List.mem_of_getElem? hk1)
          have t4 : TSame H H4 := (Same.t (gp.trans gD)).trans (b4.t fun e he xs z => by
            simp only [List.mem_singleton] at he
            subst he
            rw [upd_same] at z
            cases z)
          cases n with
          | zero => omega
          | succ n =>
            refine ⟨rfl, _, rfl, x, k, rfl, hk2.t t4, by omega, fun H5 g5 => ⟨_, g5 _ _ h4, ?_, (b4.trans (But.of g5)).trans (But.put (by simp)), ?_⟩⟩
            · rw [List.length_map, List.length_take]
              exact small1000 (by omega)
            · rw [upd_same, map_snoc (f := fun k => V.int (siz k)) hk1]
        · rintro H4 ⟨b4, h4⟩
          have e : (kids c).take ws.length = kids c := by rw [← paired_len hk, List.take_length]
          rw [e] at h4
          have h4' : H4 D0 = some (.lst (((kids c).map siz).map V.int)) := by rw [h4, List.map_map]; rfl
          refine ⟨D0, (kids c).map siz, rfl, SqL.of h4', ?_⟩
          rw [siz_and na ex]
          refine q H4 fun b o z => ?_
          have z1 := gp _ _ z
          exact b4 b o (by simp only [List.mem_singleton]; exact ne_of_none z1 hD) (gD _ _ z1)
/-! ### _law_text -/
def spLT : Nat → Sp
  | 0 => fun _ _ _ _ => False
  | n + 1 => fun vs H Q _ => ∃ v c, vs = [v] ∧ ConAt H c v ∧ Wf c ∧ nest c ≤ n ∧ nodes c ≤ 100 ∧ ∀ H', Same H H' → Q (.str (tS c)) H'
theorem ok_ltext (D : Defs K mg) : ∀ n, FnOk P w K mg base CX0 (n + 1) D.d_law_text.f D.d_law_text.fd ["concept"] (spLT n)
  | 0 => none_left fun _ _ _ _ h => h
  | n + 1 => by
    have G := ok_ltext D n
    refine D.d_law_text.F.ok sc_law_text (fun vs H Q E h => ?_) (fun cdv A outer s H vs Q E hr h => ?_)
    · obtain ⟨v, c, rfl, _⟩ := h
      rfl
    obtain ⟨v, c, rfl, hc, hw, hn, hno, q⟩ := h
    refine ⟨_, (pss_cons (ps_if (pt_val (pe_callB call_isi (by rfl) D.z_isinstance (by decide +kernel) (pa_cons (pv 0) (pa_cons (pe_bltn (v := .ty "str") (by rfl) D.z_str (by decide +kernel) rfl) pa_nil)))) (pss_one (ps_ret (pv 0))) pss_nil)
      (pss_cons (ps_set (i := 1) sc_law_text.nd rfl (Or.inl rfl) (pe_lst pa_nil))
      (pss_cons (ps_for PassesOwn.never rfl (pi_tup (pe_ifExp (pt_cmpR op_eq (pe_ix ix_tup (pv 0) pe_int (fun _ _ => rfl)) pe_str (nomark _)) (pe_slice sl_tup (pv 0) (po_some pe_int) po_none) (pe_slice sl_tup (pv 0) (po_some pe_int) po_none))) (pg_name (i := 2) sc_law_text.nd rfl (Or.inl rfl)) (pss_cons (ps_set (i := 3) sc_law_text.nd rfl (Or.inl rfl) (pe_call G hr rfl D.d_law_text.m D.d_law_text.F.kp D.d_law_text.b .nil pass0 (pa_cons (pv 2) pa_nil)))
      (pss_one (ps_expr (pe_bm PySem.F.plainAttrs_list PySem.F.slot_list_append PySem.F.type_list_append mt_append (pv 1) (pa_cons (pe_ifExp (PW.pt (pw_and (pt_not (pt_val (pe_callB call_isi (by rfl) D.z_isinstance (by decide +kernel) (pa_cons (pv 2) (pa_cons (pe_bltn (v := .ty "str") (by rfl) D.z_str (by decide +kernel) rfl) pa_nil))))) (pw_and1 (pt_cmpR op_eq (pe_ix ix_tup (pv 2) pe_int (fun _ _ => rfl)) pe_str (nomark _))))) (pe_op op_add_str (pe_op op_add_str pe_str (pv 3)) pe_str) (pv 3)) pa_nil))))))
      (pss_cons (ps_if (pt_cmpR op_eq (pe_ix ix_tup (pv 0) pe_int (fun _ _ => rfl)) pe_str (nomark _)) (pss_one (ps_ret (pe_join pe_str (pv 1)))) pss_nil)
      (pss_one (ps_ret (pe_op op_add_str (pe_op op_add_str (pe_op op_add_str pe_str (pe_ix ix_tup (pv 0) pe_int (fun _ _ => rfl))) pe_str) (pe_ix ix_list (pv 1) pe_int (fun _ _ => rfl))))))))), ?_⟩
    obtain ⟨t, ty, kt⟩ := pl_str (K := K) (con_pl hc)
    refine ⟨_, rfl, _, _, _, _, _, rfl, .ty _, ty, kt, _, rfl, ?_⟩
    rcases atom_or c with ⟨s, rfl⟩ | na
    · obtain ⟨rfl, hl⟩ := hc
      have z := q H (Same.refl H)
      rw [tS_atom] at z
      exact iteT ⟨_, rfl, z⟩
    · rw [con_str hc na]
      obtain ⟨a, ws, rfl, hk, hcase⟩ := con_kids hc na
      have kp := kids_pos na
      have nk := nodesL_kids (c := c)
      refine iteF ⟨(by show 0 ≤ sizeLine; decide), fun l hl => ?_⟩
      have gl := same_new hl (.lst [])
      have ha' : ∀ o, H a = some o → upd H l (.lst []) a = some o := fun o z => gl _ _ z
      have sz : ∀ (H2 : Hp) k u, ConAt H2 k u → nodes k ≤ 100 → (tS k).length ≤ 2400 ∧ (pS k).length ≤ 2402 := fun H2 k u h1 h2 => by
        have := con_len h1
        have := wrap_len (isAnd k) (txt k)
        unfold pS tS
        rw [len_sOf, len_sOf]
        refine ⟨by omega, ?_⟩
        show (wrap (isAnd k) (txt k)).length ≤ 2402
        omega
      have same2 : ∀ p H2, (upd H l (.lst [])) p = none → But [l] (upd (upd H l (.lst [])) p (.tup ws)) H2 → Same H H2 := fun p H2 hp b2 b o z => by
        have z1 := gl _ _ z
        exact b2 b o (by simp only [List.mem_singleton]; exact ne_of_none z hl) (same_new hp _ _ _ z1)
      -- one turn: the row's text, and what is put
      have turn : ∀ p H2 i x (Q' : L2.V → Hp → Prop), (upd H l (.lst [])) p = none → ws[i]? = some x → But [l] (upd (upd H l (.lst [])) p (.tup ws)) H2 → H2 l = some (.lst (((kids c).take i).map fun k => V.str (pS k))) →
          (∀ H3 k, (kids c)[i]? = some k → ConAt H3 k x → Wf k → But [l] (upd (upd H l (.lst [])) p (.tup ws)) H3 → H3 l = some (.lst (((kids c).take i).map fun k => V.str (pS k))) → (tS k).length ≤ 2400 → Q' (.str (tS k)) H3) → spLT n ([x] ++ []) H2 Q' E0 := by
        intro p H2 i x Q' hp hi b2 h2 hQ
        obtain ⟨k, hk1, hk2⟩ := paired_get hk hi
        have kin := List.mem_of_getElem? hk1
        have kn := kid_nest k kin
        have hk3 : nodes k ≤ nodesL (kids c) := by
          have := nodesL_take (l := kids c) (i + 1)
          rw [take_more hk1, nodesL_snoc] at this
          omega
        have s2 := same2 p H2 hp b2
        cases n with
        | zero => omega
        | succ n =>
          refine ⟨x, k, rfl, hk2.same s2, kid_wf hw k kin, by omega, by omega, fun H3 g3 => ?_⟩
          exact hQ H3 k hk1 ((hk2.same s2).same g3) (kid_wf hw k kin) (b2.trans (But.of g3)) (g3 _ _ h2) (sz H2 k x (hk2.same s2) (by omega)).1
      have put : ∀ p H3 i k, (kids c)[i]? = some k → But [l] (upd (upd H l (.lst [])) p (.tup ws)) H3 → H3 l = some (.lst (((kids c).take i).map fun k => V.str (pS k))) →
          But [l] (upd (upd H l (.lst [])) p (.tup ws)) (upd H3 l (.lst ((((kids c).take i).map fun k => V.str (pS k)) ++ [V.str (pS k)]))) ∧ (upd H3 l (.lst ((((kids c).take i).map fun k => V.str (pS k)) ++ [V.str (pS k)]))) l = some (.lst (((kids c).take (i + 1)).map fun k => V.str (pS k))) ∧ (((kids c).take i).map fun k => V.str (pS k)).length < sizeLine := fun p H3 i k hk1 b3 h3 => by
        refine ⟨b3.trans (But.put (by simp)), by rw [upd_same, map_snoc (f := fun k => V.str (pS k)) hk1], ?_⟩
        rw [List.length_map, List.length_take]
        exact small1000 (by omega)
      have e : (kids c).take ws.length = kids c := by rw [← paired_len hk, List.take_length]
      have c1 : ("(" : Str).length = 1 := by decide +kernel
      have c2 : (")" : Str).length = 1 := by decide +kernel
      rcases hcase with ⟨ex, r, u, ec, ha, hrl⟩ | ⟨ex, ha⟩
      · refine ⟨_, rfl, a, _, _, _, rfl, rfl, SqT.of (ha' _ ha), atI_nat (j := 0) rfl, rfl, _, rfl, ?_⟩
        rw [some_and]
        refine iteF ⟨_, rfl, _, rfl, a, _, rfl, SqT.of (ha' _ ha), (by rintro ⟨z, _⟩; simp [HT.sIx] at z), fun p hp => ⟨p, rfl, ⟨_, SqT.of upd_same⟩, ?_⟩⟩
        rw [cut2]
        have pl : p ≠ l := (ne_of_none upd_same hp).symm
        refine for_tup (xs := ws) (fun i σ H2 => But [l] (upd (upd H l (.lst [])) p (.tup ws)) H2 ∧ (∃ o2 o3, σ = [some (.ref a), some (.ref l), o2, o3]) ∧ H2 l = some (.lst (((kids c).take i).map fun k => V.str (pS k))))
          ⟨But.refl _, ⟨none, none, rfl⟩, same_new hp _ _ _ upd_same⟩ (fun i σ H2 _ hh => SqT.of (hh.1 _ _ (by simpa using pl) upd_same)) ?_ ?_
        · rintro i x σ H2 hi ⟨b2, ⟨o2, o3, rfl⟩, h2⟩
          refine ⟨_, rfl, ?_⟩
          refine turn p H2 i x _ hp hi b2 h2 fun H3 k hk1 hx wk b3 h3 len => ?_
          obtain ⟨d1, d2, d3⟩ := put p H3 i k hk1 b3 h3
          obtain ⟨t2, ty2, kt2⟩ := pl_str (K := K) (con_pl hx)
          refine ⟨_, rfl, .inl ⟨rfl, _, SqL.of h3⟩, _, rfl, _, _, _, _, _, rfl, .ty _, ty2, kt2, _, rfl, ?_⟩
          rcases atom_or k with ⟨s, rfl⟩ | nak
          · obtain ⟨rfl, _⟩ := hx
            exact iteF (iteF ⟨_, rfl, l, _, _, rfl, rfl, h3, d3, d1, ⟨_, _, rfl⟩, d2⟩)
          · rw [con_str hx nak]
            obtain ⟨a2, ws2, rfl, _, hcase2⟩ := con_kids hx nak
            rcases hcase2 with ⟨ex2, r2, u2, ec2, ha2, _⟩ | ⟨ex2, ha2⟩
            · refine iteT ⟨_, rfl, a2, _, _, _, rfl, rfl, SqT.of ha2, atI_nat (j := 0) rfl, rfl, _, rfl, ?_⟩
              rw [some_and]
              have ep : pS k = tS k := pS_eq (by rw [ec2]; rfl)
              rw [ep] at d1 d2
              exact iteF ⟨_, rfl, l, _, _, rfl, rfl, h3, d3, d1, ⟨_, _, rfl⟩, d2⟩
            · refine iteT ⟨_, rfl, a2, _, _, _, rfl, rfl, SqT.of ha2, atI_nat (j := 0) rfl, rfl, _, rfl, ?_⟩
              rw [and_and]
              have ia : isAnd k = true := isAnd_of nak ex2
              refine iteT ⟨_, rfl, _, _, rfl, rfl, ?_, _, _, rfl, rfl, ?_, ?_⟩
              · rw [c1]; exact Nat.le_of_lt (Nat.lt_of_le_of_lt (Nat.add_le_add_left len 1) (by decide))
              · rw [len_app, c1, c2]; exact Nat.le_of_lt (Nat.lt_of_le_of_lt (Nat.add_le_add_right (Nat.add_le_add_left len 1) 1) (by decide))
              rw [paren_is2 ia]
              exact ⟨l, _, _, rfl, rfl, h3, d3, d1, ⟨_, _, rfl⟩, d2⟩
        · rintro σ H2 ⟨b2, ⟨o2, o3, rfl⟩, h2⟩
          rw [e] at h2
          have s2 := same2 p H2 hp b2
          subst ec
          have hx : ∃ x, ws = [x] ∧ ConAt H u x := by
            cases hk with
            | cons h1 h2 => cases h2; exact ⟨_, rfl, h1⟩
          obtain ⟨x, rfl, hx⟩ := hx
          refine ⟨_, rfl, a, _, _, _, rfl, rfl, SqT.of (s2 _ _ ha), atI_nat (j := 0) rfl, rfl, _, rfl, ?_⟩
          rw [some_and]
          have c5 : ("some " : Str).length = 5 := by decide +kernel
          have c6 : (" " : Str).length = 1 := by decide +kernel
          have l1 := (sz H u x hx (by simp only [nodes] at hno; omega)).2
          refine iteF ⟨_, rfl, a, _, _, _, rfl, rfl, SqT.of (s2 _ _ ha), atI_nat (j := 1) rfl, _, _, rfl, rfl, ?_, _, _, rfl, rfl, ?_, _, rfl, l, _, _, _, rfl, rfl, SqL.of h2, atI_nat (j := 0) rfl, _, _, rfl, rfl, ?_, ?_⟩
          · rw [c5]; exact Nat.le_of_lt (small1000 (by omega))
          · rw [len_app, c5, c6]; exact Nat.le_of_lt (small1000 (by omega))
          · rw [len_app, len_app, c5, c6]; exact Nat.le_trans (Nat.add_le_add (Nat.add_le_add (Nat.add_le_add (Nat.le_refl 5) hrl) (Nat.le_refl 1)) l1) (by decide)
          rw [ex_is2]
          exact q H2 s2
      · refine ⟨_, rfl, a, _, _, _, rfl, rfl, SqT.of (ha' _ ha), atI_nat (j := 0) rfl, rfl, _, rfl, ?_⟩
        rw [and_and]
        refine iteT ⟨_, rfl, _, rfl, a, _, rfl, SqT.of (ha' _ ha), (by rintro ⟨z, _⟩; simp [HT.sIx] at z), fun p hp => ⟨p, rfl, ⟨_, SqT.of upd_same⟩, ?_⟩⟩
        rw [cut1]
        have pl : p ≠ l := (ne_of_none upd_same hp).symm
        refine for_tup (xs := ws) (fun i σ H2 => But [l] (upd (upd H l (.lst [])) p (.tup ws)) H2 ∧ (∃ o2 o3, σ = [some (.ref a), some (.ref l), o2, o3]) ∧ H2 l = some (.lst (((kids c).take i).map fun k => V.str (pS k))))
          ⟨But.refl _, ⟨none, none, rfl⟩, same_new hp _ _ _ upd_same⟩ (fun i σ H2 _ hh => SqT.of (hh.1 _ _ (by simpa using pl) upd_same)) ?_ ?_
        · rintro i x σ H2 hi ⟨b2, ⟨o2, o3, rfl⟩, h2⟩
          refine ⟨_, rfl, ?_⟩
          refine turn p H2 i x _ hp hi b2 h2 fun H3 k hk1 hx wk b3 h3 len => ?_
          obtain ⟨d1, d2, d3⟩ := put p H3 i k hk1 b3 h3
          obtain ⟨t2, ty2, kt2⟩ := pl_str (K := K) (con_pl hx)
          refine ⟨_, rfl, .inl ⟨rfl, _, SqL.of h3⟩, _, rfl, _, _, _, _, _, rfl, .ty _, ty2, kt2, _, rfl, ?_⟩
          rcases atom_or k with ⟨s, rfl⟩ | nak
          · obtain ⟨rfl, _⟩ := hx
            exact iteF (iteF ⟨_, rfl, l, _, _, rfl, rfl, h3, d3, d1, ⟨_, _, rfl⟩, d2⟩)
          · rw [con_str hx nak]
            obtain ⟨a2, ws2, rfl, _, hcase2⟩ := con_kids hx nak
            rcases hcase2 with ⟨ex2, r2, u2, ec2, ha2, _⟩ | ⟨ex2, ha2⟩
            · refine iteT ⟨_, rfl, a2, _, _, _, rfl, rfl, SqT.of ha2, atI_nat (j := 0) rfl, rfl, _, rfl, ?_⟩
              rw [some_and]
              have ep : pS k = tS k := pS_eq (by rw [ec2]; rfl)
              rw [ep] at d1 d2
              exact iteF ⟨_, rfl, l, _, _, rfl, rfl, h3, d3, d1, ⟨_, _, rfl⟩, d2⟩
            · refine iteT ⟨_, rfl, a2, _, _, _, rfl, rfl, SqT.of ha2, atI_nat (j := 0) rfl, rfl, _, rfl, ?_⟩
              rw [and_and]
              have ia : isAnd k = true := isAnd_of nak ex2
              refine iteT ⟨_, rfl, _, _, rfl, rfl, ?_, _, _, rfl, rfl, ?_, ?_⟩
              · rw [c1]; exact Nat.le_of_lt (Nat.lt_of_le_of_lt (Nat.add_le_add_left len 1) (by decide))
              · rw [len_app, c1, c2]; exact Nat.le_of_lt (Nat.lt_of_le_of_lt (Nat.add_le_add_right (Nat.add_le_add_left len 1) 1) (by decide))
              rw [paren_is2 ia]
              exact ⟨l, _, _, rfl, rfl, h3, d3, d1, ⟨_, _, rfl⟩, d2⟩
        · rintro σ H2 ⟨b2, ⟨o2, o3, rfl⟩, h2⟩
          rw [e] at h2
          have s2 := same2 p H2 hp b2
          have c3 : (" & " : Str).length = 3 := by decide +kernel
          refine ⟨_, rfl, a, _, _, _, rfl, rfl, SqT.of (s2 _ _ ha), atI_nat (j := 0) rfl, rfl, _, rfl, ?_⟩
          rw [and_and]
          have hc2 := hc.same s2
          cases c with
          | atom s => exact (na s rfl).elim
          | ex r c => cases ex
          | and2 x y =>
            obtain ⟨_, u1, u2, _, _, k1, k2⟩ := hc2
            simp only [nodes] at hno
            have l1 := (sz H2 x u1 k1 (by omega)).2
            have l2 := (sz H2 y u2 k2 (by omega)).2
            refine iteT ⟨⟨_, rfl⟩, _, rfl, _, l, [pS x, pS y], rfl, rfl, .inl (SqL.of h2), ?_, ?_⟩
            · simp only [List.map_cons, List.map_nil, List.sum_cons, List.sum_nil, List.length_cons, List.length_nil, c3]
              omega
            rw [join2]
            exact q H2 s2
          | and3 x y x3 =>
            obtain ⟨_, u1, u2, u3, _, _, k1, k2, k3⟩ := hc2
            simp only [nodes] at hno
            have l1 := (sz H2 x u1 k1 (by omega)).2
            have l2 := (sz H2 y u2 k2 (by omega)).2
            have l3 := (sz H2 x3 u3 k3 (by omega)).2
            refine iteT ⟨⟨_, rfl⟩, _, rfl, _, l, [pS x, pS y, pS x3], rfl, rfl, .inl (SqL.of h2), ?_, ?_⟩
            · simp only [List.map_cons, List.map_nil, List.sum_cons, List.sum_nil, List.length_cons, List.length_nil, c3]
              omega
            rw [join3]
            exact q H2 s2
end
end K1
namespace K1
open PySem L2
theorem sl_listK {X : Cx} {K : PySem.W.Frag} (h : X.K = K) : SlR X (rSlL K) := by subst h; exact sl_list
theorem str_get {l : List Str} {i : Nat} {x : L2.V} (h : (l.map L2.V.str)[i]? = some x) : ∃ y, l[i]? = some y ∧ L2.V.str y = x := by
  rw [List.getElem?_map] at h
  cases e : l[i]? with
  | none => rw [e] at h; cases h
  | some y => rw [e] at h; exact ⟨y, rfl, Option.some.inj h⟩
theorem weak_sub {l m : List Str} (h : l.Sublist m) (w : Weak m) : Weak l := List.Pairwise.sublist h w
theorem But.back {D : Addr} {H H1 H' : Hp} {o : HO} (g : Same H H1) (hD : H1 D = none) (b : But [D] (upd H1 D o) H') : Same H H' := fun e u z => by
  have z1 := g _ _ z
  exact b e u (by simp only [List.mem_singleton]; exact ne_of_none z1 hD) (by rw [upd_ne (ne_of_none z1 hD)]; exact z1)
section
variable {P : Program} {w : World} {K : PySem.W.Frag} {mg : Str → Option Value} {base : Heap}
/-! ### _law_ordered -/
def spOrd : Sp := fun vs H Q _ => ∃ (p : Addr) (ws : List L2.V) (cl : List Con), vs = [.ref p] ∧ H p = some (.lst ws) ∧ Paired (ConAt H) cl ws ∧ (∀ c ∈ cl, Wf c ∧ nest c ≤ 8 ∧ nodes c ≤ 100) ∧ cl.length < 64 ∧
  ∀ H' r us ds, Same H H' → H' r = some (.lst us) → Paired (ConAt H') ds us → (∀ x ∈ ds, x ∈ cl) → Asc (ds.map tS) → (∀ s, s ∈ ds.map tS ↔ ∃ c ∈ cl, s = tS c) → Q (.ref r) H'
theorem ok_ordered (D : Defs K mg) : FnOk P w K mg base CX0 11 D.d_law_ordered.f D.d_law_ordered.fd ["concepts"] spOrd := by
  have G := ok_ltext (P := P) (w := w) (base := base) D 9
  refine D.d_law_ordered.F.ok sc_law_ordered (fun vs H Q E h => ?_) (fun cdv A outer s H vs Q E hr h => ?_)
  · obtain ⟨p, ws, cl, rfl, _⟩ := h
    rfl
  obtain ⟨p, ws, cl, rfl, hp, hk, hf, hlen, q⟩ := h
  refine ⟨_, (pss_cons (ps_set (i := 1) sc_law_ordered.nd rfl (Or.inr rfl) (pe_callB cr_sortedS (by rfl) D.z_sorted (by decide +kernel) (pa_cons (pe_lc (own := [("concept", 2)]) (g := gName 2) rfl sc_law_ordered.nd (pi_list (pv 0)) (blkOk_by (N := ["concepts", "rows", "concept", "at", "one", "row"]) (sc := defScope s_law_ordered) (by decide +kernel)) (fun _ _ _ _ _ => pg_name (i := 2) sc_law_ordered.nd rfl (Or.inl rfl)) (fun _ _ _ _ _ => pts_nil) (fun _ _ _ _ _ => (pe_call G hr rfl D.d_law_text.m D.d_law_text.F.kp D.d_law_text.b .nil pass0 (pa_cons (pv 2) pa_nil)))) pa_nil)))
      (pss_cons (ps_set (i := 1) sc_law_ordered.nd rfl (Or.inr rfl) (pe_lc (own := [("at", 3), ("one", 4)]) (g := gTup K 2 (gCons (gName 3) (gCons (gName 4) gNil))) rfl sc_law_ordered.nd (pi_enum (by rfl) D.z_enumerate (pa_cons (pv 1) pa_nil))
          (blkOk_by (N := ["concepts", "rows", "concept", "at", "one", "row"]) (sc := defScope s_law_ordered) (by decide +kernel)) (fun _ _ _ _ _ => pg_tup rfl (pgs_cons (pg_name (i := 3) sc_law_ordered.nd rfl (Or.inl rfl)) (pgs_cons (pg_name (i := 4) sc_law_ordered.nd rfl (Or.inl rfl)) pgs_nil)))
          (fun _ _ _ _ _ => pts_one (pt_cmpR (op_notInTK (K := K) rfl) (pv 4) (pe_slice (sl_listK (K := K) rfl) (pv 1) po_none (po_some (pv 3))) (by rfl))) (fun _ _ _ _ _ => (pv 4))))
      (pss_one (ps_ret (pe_lc (own := [("row", 5)]) (g := gName 5) rfl sc_law_ordered.nd (pi_list (pv 1)) (blkOk_by (N := ["concepts", "rows", "concept", "at", "one", "row"]) (sc := defScope s_law_ordered) (by decide +kernel)) (fun _ _ _ _ _ => pg_name (i := 5) sc_law_ordered.nd rfl (Or.inr rfl)) (fun _ _ _ _ _ => pts_nil)
        (fun _ _ _ _ _ => pe_ix (ix_listK (K := K) rfl) (pe_lc (own := [("concept", 2)]) (g := gName 2) (wi := iList K (tVar 0)) rfl sc_law_ordered.nd (pi_list (pv 0))
          (blkOk_by (N := ["concepts", "rows", "concept", "at", "one", "row"]) (sc := { kind := .function, names := [(".0", .local), ("row", .cell), ("concepts", .cell)], isGenerator := false, isCoroutine := false, more := [] }) (by decide +kernel))
          (fun _ _ _ _ _ => pg_name (i := 2) sc_law_ordered.nd rfl (Or.inl rfl)) (fun _ _ _ _ _ => pts_one (pt_cmpR op_eq (pe_call G hr rfl D.d_law_text.m D.d_law_text.F.kp D.d_law_text.b .nil pass0 (pa_cons (pv 2) pa_nil)) (pv 5) (nomark _))) (fun _ _ _ _ _ => (pv 2))) pe_int (fun _ _ => rfl))))))), ?_⟩
  -- the texts
  refine ⟨_, rfl, p, rfl, ⟨_, SqL.of hp⟩, fun D0 hD0 => ?_⟩
  have pD0 : p ≠ D0 := ne_of_none hp hD0
  have lcl := paired_len hk
  refine lc_list (K := K) (a := p) (xs := ws) (fun i H4 => But [D0] (upd H D0 (.lst [])) H4 ∧ H4 D0 = some (.lst (((cl.take i).map tS).map V.str)))
    ⟨But.refl _, upd_same⟩ (fun i H4 _ hh => SqL.of (hh.1 _ _ (by simpa using pD0) (by rw [upd_ne pD0]; exact hp))) ?_ ?_
  · rintro i x H4 hi ⟨b4, h4⟩
    obtain ⟨c, hc1, hc2⟩ := paired_get hk hi
    obtain ⟨w1, w2, w3⟩ := hf c (List.mem_of_getElem? hc1)
    have s4 := But.back (Same.refl H) hD0 b4
    refine ⟨rfl, _, rfl, x, c, rfl, hc2.same s4, w1, w2, w3, fun H5 g5 => ⟨_, g5 _ _ h4, ?_, (b4.trans (But.of g5)).trans (But.put (by simp)), ?_⟩⟩
    · rw [List.length_map, List.length_map, List.length_take]
      exact small1000 (by omega)
    · rw [upd_same, take_more hc1, List.map_append, List.map_append]
      rfl
  rintro H4 ⟨b4, h4⟩
  have e1 : cl.take ws.length = cl := by rw [← lcl, List.take_length]
  rw [e1] at h4
  have s4 := But.back (Same.refl H) hD0 b4
  refine ⟨D0, cl.map tS, rfl, SqL.of h4, by rw [List.length_map]; exact hlen, fun ys p1 pm sr hp1 => ?_⟩
  have g1 := same_new hp1 (.lst (ys.map V.str))
  have s5 := s4.trans g1
  have lys : ys.length < 64 := by rw [pm.length_eq, List.length_map]; exact hlen
  -- each text once
  refine ⟨_, rfl, p1, ys.map V.str, rfl, SqL.of upd_same, fun D1 hD1 => ?_⟩
  have p1D : p1 ≠ D1 := ne_of_none upd_same hD1
  refine lc_it (n := (ys.map V.str).length) (Y := YPair (fun i => some (.int (i : Nat))) (fun i => (ys.map V.str)[i]?)) (G := fun H => SqL K H p1 (ys.map V.str)) walk_enum
    (fun i H6 => But [D1] (upd (upd H4 p1 (.lst (ys.map V.str))) D1 (.lst [])) H6 ∧ ∃ acc : List Str, H6 D1 = some (.lst (acc.map V.str)) ∧ acc.Sublist (ys.take i) ∧ acc.Nodup ∧ ∀ z, z ∈ acc ↔ z ∈ ys.take i)
    ⟨But.refl _, [], upd_same, List.Sublist.refl _, List.nodup_nil, fun z => by simp⟩ (fun i H6 _ hh => SqL.of (hh.1 _ _ (by simpa using p1D) (by rw [upd_ne p1D]; exact upd_same))) ?_ ?_
  · rintro i x H6 H6' hi ⟨b6, acc, ha, sub, nd, mem⟩ ⟨T, x1, x2, rfl, hT, rfl, e3, e4⟩
    cases e3
    obtain ⟨y, hy, rfl⟩ := str_get e4
    have gT := same_new hT (.tup [.int (i : Nat), .str y])
    have h61 : H6 p1 = some (.lst (ys.map V.str)) := b6 _ _ (by simpa using p1D) (by rw [upd_ne p1D]; exact upd_same)
    refine ⟨T, _, rfl, SqT.of upd_same, rfl, _, _, rfl, _, _, rfl, rfl, rfl, _, rfl, _, rfl, _, rfl, _, rfl, p1, _, rfl, SqL.of (gT _ _ h61), fun S hS => ?_⟩
    have ec : cutV (ys.map V.str) none (some (i : Int)) = (ys.take i).map V.str := by
      have hlt : i ≤ ys.length := Nat.le_of_lt (List.getElem?_eq_some_iff.mp hy).1
      simp only [cutV, HT.sIx, List.drop_zero, List.length_map]
      rw [if_neg (by omega), Int.toNat_natCast, Nat.sub_zero, List.map_take, Nat.min_eq_left hlt]
    rw [ec]
    have gS := same_new hS (.lst ((ys.take i).map V.str))
    refine ⟨y, S, ys.take i, rfl, rfl, .inl (SqL.of upd_same), _, rfl, ?_⟩
    have b7 : But [D1] (upd (upd H4 p1 (.lst (ys.map V.str))) D1 (.lst [])) (upd (upd H6 T (.tup [.int (i : Nat), .str y])) S (.lst ((ys.take i).map V.str))) := b6.trans (But.of (gT.trans gS))
    have ha7 := gS _ _ (gT _ _ ha)
    by_cases c : y ∈ ys.take i
    · rw [decide_eq_true c]
      refine iteF ⟨b7, acc, ha7, ?_, nd, fun z => ?_⟩
      · rw [take_more hy]
        exact sub.trans (List.sublist_append_left _ _)
      · rw [mem z, take_more hy, List.mem_append, List.mem_singleton]
        constructor
        · exact .inl
        · rintro (h | rfl)
          · exact h
          · exact c
    · rw [decide_eq_false c]
      refine iteT ⟨_, rfl, _, ha7, ?_, b7.trans (But.put (by simp)), acc ++ [y], ?_, ?_, ?_, fun z => ?_⟩
      · have := sub.length_le
        rw [List.length_take] at this
        rw [List.length_map]
        exact small1000 (by omega)
      · rw [upd_same, List.map_append]
        rfl
      · rw [take_more hy]
        exact sub.append (List.Sublist.refl _)
      · refine List.nodup_append.mpr ⟨nd, by simp, fun u hu v hv e => ?_⟩
        simp only [List.mem_singleton] at hv
        subst hv
        subst e
        exact c ((mem _).mp hu)
      · rw [take_more hy, List.mem_append, List.mem_append, mem z]
  rintro H6 ⟨b6, acc, ha, sub, nd, mem⟩
  rw [List.length_map, List.take_length] at sub mem
  have s6 : Same H H6 := s4.trans (But.back g1 hD1 b6)
  have asc : Asc acc := asc_of (weak_sub sub (weak_of sr)) nd
  have macc : ∀ z, z ∈ acc ↔ ∃ c ∈ cl, z = tS c := fun z => by
    rw [mem z, pm.mem_iff, List.mem_map]
    constructor
    · rintro ⟨c, h1, h2⟩; exact ⟨c, h1, h2.symm⟩
    · rintro ⟨c, h1, h2⟩; exact ⟨c, h1, h2.symm⟩
  have lacc : acc.length < 64 := Nat.lt_of_le_of_lt sub.length_le lys
  -- for each text the first concept that has it
  refine ⟨_, rfl, D1, rfl, ⟨_, SqL.of ha⟩, fun D2 hD2 => ?_⟩
  have d12 : D1 ≠ D2 := ne_of_none ha hD2
  have pD2 : p ≠ D2 := ne_of_none (s6 _ _ hp) hD2
  refine lc_list (K := K) (a := D1) (xs := acc.map V.str) (fun i H7 => But [D2] (upd H6 D2 (.lst [])) H7 ∧ ∃ us ds, H7 D2 = some (.lst us) ∧ Paired (ConAt H7) ds us ∧ (∀ x ∈ ds, x ∈ cl) ∧ ds.map tS = acc.take i)
    ⟨But.refl _, [], [], upd_same, .nil, (fun x hx => by cases hx), rfl⟩ (fun i H7 _ hh => SqL.of (hh.1 _ _ (by simpa using d12) (by rw [upd_ne d12]; exact ha))) ?_ ?_
  · rintro i x H7 hi ⟨b7, us, ds, hu, pu, hin, hmap⟩
    obtain ⟨y, hy, rfl⟩ := str_get hi
    have s7 : Same H H7 := But.back s6 hD2 b7
    refine ⟨rfl, _, rfl, p, rfl, ⟨_, SqL.of (s7 _ _ hp)⟩, fun D3 hD3 => ?_⟩
    have pD3 : p ≠ D3 := ne_of_none (s7 _ _ hp) hD3
    have d23 : D2 ≠ D3 := ne_of_none hu hD3
    refine lc_list (K := K) (a := p) (xs := ws) (fun j H8 => But [D3] (upd H7 D3 (.lst [])) H8 ∧ ∃ vs es, H8 D3 = some (.lst vs) ∧ Paired (ConAt H8) es vs ∧ es = (cl.take j).filter (fun c => decide (tS c = y)))
      ⟨But.refl _, [], [], upd_same, .nil, rfl⟩ (fun j H8 _ hh => SqL.of (hh.1 _ _ (by simpa using pD3) (by rw [upd_ne pD3]; exact s7 _ _ hp))) ?_ ?_
    · rintro j z H8 hj ⟨b8, vs, es, hv, pv8, he⟩
      obtain ⟨c, hc1, hc2⟩ := paired_get hk hj
      obtain ⟨w1, w2, w3⟩ := hf c (List.mem_of_getElem? hc1)
      have s8 : Same H H8 := But.back s7 hD3 b8
      refine ⟨rfl, _, rfl, z, c, rfl, hc2.same s8, w1, w2, w3, fun H9 g9 => ⟨_, rfl, rfl, _, rfl, ?_⟩⟩
      have b9 := b8.trans (But.of g9)
      have hv9 := g9 _ _ hv
      by_cases ct : tS c = y
      · rw [decide_eq_true (show V.str (tS c) = V.str y by rw [ct])]
        have t9 : TSame H9 (upd H9 D3 (.lst (vs ++ [z]))) := (But.put (D := [D3]) (by simp)).t fun e he xs q => by
          simp only [List.mem_singleton] at he
          subst he
          rw [hv9] at q
          cases q
        refine iteT ⟨_, rfl, _, hv9, ?_, b9.trans (But.put (by simp)), vs ++ [z], es ++ [c], upd_same, ?_, ?_⟩
        · have := paired_len pv8
          have l1 : es.length ≤ (cl.take j).length := by rw [he]; exact List.length_filter_le _ _
          rw [List.length_take] at l1
          exact small1000 (by omega)
        · exact paired_snoc ((hc2.same (s8.trans g9)).t t9) (paired_t t9 (kids_same g9 pv8))
        · rw [take_more hc1, List.filter_append, ← he]
          simp [ct]
      · rw [decide_eq_false (show ¬ V.str (tS c) = V.str y from fun e => ct (V.str.inj e))]
        refine iteF ⟨b9, vs, es, hv9, kids_same g9 pv8, ?_⟩
        rw [take_more hc1, List.filter_append, ← he]
        simp [ct]
    · rintro H8 ⟨b8, vs, es, hv, pv8, he⟩
      rw [e1] at he
      obtain ⟨c0, hc0, ec0⟩ := (macc y).mp (List.mem_of_getElem? hy)
      have ne : es ≠ [] := fun z => by
        have m0 : c0 ∈ cl.filter (fun c => decide (tS c = y)) := List.mem_filter.mpr ⟨hc0, by simp [ec0]⟩
        rw [← he, z] at m0
        cases m0
      obtain ⟨e0, er, rfl⟩ : ∃ e0 er, es = e0 :: er := by
        cases es with
        | nil => exact (ne rfl).elim
        | cons a b => exact ⟨a, b, rfl⟩
      have m1 : e0 ∈ cl.filter (fun c => decide (tS c = y)) := by rw [← he]; simp
      obtain ⟨m2, m3⟩ := List.mem_filter.mp m1
      have m3 : tS e0 = y := of_decide_eq_true m3
      cases pv8 with
      | cons f0 fr =>
        rename_i v0 vr
        have b78 : But [D2] H7 H8 := But.of (fun e u z => b8 e u (by simp only [List.mem_singleton]; exact ne_of_none z hD3) (by rw [upd_ne (ne_of_none z hD3)]; exact z))
        have s78 : Same H7 H8 := fun e u z => b8 e u (by simp only [List.mem_singleton]; exact ne_of_none z hD3) (by rw [upd_ne (ne_of_none z hD3)]; exact z)
        have hu8 := s78 _ _ hu
        have t8 : TSame H8 (upd H8 D2 (.lst (us ++ [v0]))) := (But.put (D := [D2]) (by simp)).t fun e he xs q => by
          simp only [List.mem_singleton] at he
          subst he
          rw [hu8] at q
          cases q
        refine ⟨D3, _, _, v0, rfl, rfl, SqL.of hv, atI_nat (j := 0) rfl, us, hu8, ?_, (b7.trans (But.of s78)).trans (But.put (by simp)), us ++ [v0], ds ++ [e0], upd_same, ?_, ?_, ?_⟩
        · have := paired_len pu
          have l2 := congrArg List.length hmap
          rw [List.length_map, List.length_take] at l2
          exact small1000 (by omega)
        · exact paired_snoc (f0.t t8) (paired_t t8 (kids_same s78 pu))
        · intro x hx
          rcases List.mem_append.mp hx with hx | hx
          · exact hin x hx
          · simp only [List.mem_singleton] at hx; subst hx; exact m2
        · rw [List.map_append, hmap, take_more hy]
          simp [m3]
  · rintro H7 ⟨b7, us, ds, hu, pu, hin, hmap⟩
    rw [List.length_map, List.take_length] at hmap
    exact q H7 D2 us ds (But.back s6 hD2 b7) hu pu hin (by rw [hmap]; exact asc) fun s => by rw [hmap]; exact macc s
end
end K1
namespace K1
open PySem L2
theorem nms_prt (s : Str) : ∀ c : Con, s ∈ nms c ↔ ¬ (s = "all" ∨ s = "none") ∧ .atom s ∈ prt c
  | .atom x => by
    simp only [nms, prt, List.mem_singleton, Con.atom.injEq]
    by_cases h : x = "all" ∨ x = "none"
    · rw [if_pos h]
      constructor
      · intro z; cases z
      · rintro ⟨z, rfl⟩; exact (z h).elim
    · rw [if_neg h, List.mem_singleton]
      constructor
      · rintro rfl; exact ⟨h, rfl⟩
      · exact fun z => z.2
  | .ex r c => by simp [nms, prt, nms_prt s c]
  | .and2 a b => by
    simp only [nms, prt, List.mem_cons, List.mem_append, nms_prt s a, nms_prt s b]
    simp
    constructor
    · rintro (⟨h, z⟩ | ⟨h, z⟩)
      · exact ⟨h, .inl z⟩
      · exact ⟨h, .inr z⟩
    · rintro ⟨h, z | z⟩
      · exact .inl ⟨h, z⟩
      · exact .inr ⟨h, z⟩
  | .and3 a b c => by
    simp only [nms, prt, List.mem_cons, List.mem_append, nms_prt s a, nms_prt s b, nms_prt s c]
    simp
    constructor
    · rintro (⟨h, z⟩ | ⟨h, z⟩ | ⟨h, z⟩)
      · exact ⟨h, .inl z⟩
      · exact ⟨h, .inr (.inl z)⟩
      · exact ⟨h, .inr (.inr z)⟩
    · rintro ⟨h, z | z | z⟩
      · exact .inl ⟨h, z⟩
      · exact .inr (.inl ⟨h, z⟩)
      · exact .inr (.inr ⟨h, z⟩)
theorem rls_prt (r : Str) : ∀ c : Con, r ∈ rls c ↔ ∃ d, .ex r d ∈ prt c
  | .atom x => by simp [rls, prt]
  | .ex r' c => by
    simp only [rls, prt, List.mem_cons, rls_prt r c, Con.ex.injEq]
    constructor
    · rintro (rfl | ⟨d, h⟩)
      · exact ⟨c, .inl ⟨rfl, rfl⟩⟩
      · exact ⟨d, .inr h⟩
    · rintro ⟨d, ⟨rfl, rfl⟩ | h⟩
      · exact .inl rfl
      · exact .inr ⟨d, h⟩
  | .and2 a b => by
    simp only [rls, prt, List.mem_cons, List.mem_append, rls_prt r a, rls_prt r b]
    simp
    constructor
    · rintro (⟨d, h⟩ | ⟨d, h⟩)
      · exact ⟨d, .inl h⟩
      · exact ⟨d, .inr h⟩
    · rintro ⟨d, h | h⟩
      · exact .inl ⟨d, h⟩
      · exact .inr ⟨d, h⟩
  | .and3 a b c => by
    simp only [rls, prt, List.mem_cons, List.mem_append, rls_prt r a, rls_prt r b, rls_prt r c]
    simp
    constructor
    · rintro (⟨d, h⟩ | ⟨d, h⟩ | ⟨d, h⟩)
      · exact ⟨d, .inl h⟩
      · exact ⟨d, .inr (.inl h)⟩
      · exact ⟨d, .inr (.inr h)⟩
    · rintro ⟨d, h | h | h⟩
      · exact .inl ⟨d, h⟩
      · exact .inr (.inl ⟨d, h⟩)
      · exact .inr (.inr ⟨d, h⟩)
/-- the names of the first j parts of some concepts, seen so far -/
def nm1 : Con → List Str
  | .atom s => if s = "all" ∨ s = "none" then [] else [s]
  | _ => []
theorem nms_nm1 (s : Str) (c : Con) : s ∈ nms c ↔ ∃ q ∈ prt c, s ∈ nm1 q := by
  rw [nms_prt]
  constructor
  · rintro ⟨h, z⟩
    exact ⟨_, z, by simp [nm1, if_neg h]⟩
  · rintro ⟨q, hq, z⟩
    cases q with
    | atom x =>
      simp only [nm1] at z
      split at z
      · cases z
      · rename_i h
        simp only [List.mem_singleton] at z
        subst z
        exact ⟨h, hq⟩
    | ex r c => cases z
    | and2 a b => cases z
    | and3 a b c => cases z
theorem rls_rl1 (r : Str) (c : Con) : r ∈ rls c ↔ ∃ q ∈ prt c, r ∈ rl1 q := by
  rw [rls_prt]
  constructor
  · rintro ⟨d, z⟩
    exact ⟨_, z, by simp [rl1]⟩
  · rintro ⟨q, hq, z⟩
    cases q with
    | atom x => cases z
    | ex r' c =>
      simp only [rl1, List.mem_singleton] at z
      subst z
      exact ⟨c, hq⟩
    | and2 a b => cases z
    | and3 a b c => cases z
/-- a list of texts, each once -/
structure Ls (H : Hp) (l : Addr) (ks : List Str) : Prop where
  at_ : H l = some (.lst (ks.map V.str))
  nd : ks.Nodup
theorem addS_new {ks : List Str} {s : Str} (h : s ∉ ks) : addS ks s = ks ++ [s] := by unfold addS; rw [if_neg h]
theorem addS_old {ks : List Str} {s : Str} (h : s ∈ ks) : addS ks s = ks := by unfold addS; rw [if_pos h]
theorem ls_nt {H : Hp} {l r : Addr} {kn kr : List Str} (h1 : Ls H l kn) (h2 : Ls H r kr) : ∀ e ∈ [l, r], ∀ xs, H e ≠ some (.tup xs) := fun e he xs z => by
  simp only [List.mem_cons, List.not_mem_nil, or_false] at he
  rcases he with rfl | rfl
  · rw [h1.at_] at z; cases z
  · rw [h2.at_] at z; cases z
section
variable {P : Program} {w : World} {K : PySem.W.Frag} {mg : Str → Option Value} {base : Heap}
/-! ### _law_words -/
def spLW : Sp := fun vs H Q _ => ∃ (p : Addr) (ws : List L2.V) (cl : List Con) (N R : List Str), vs = [.ref p] ∧ H p = some (.lst ws) ∧ Paired (ConAt H) cl ws ∧ cl.length ≤ 8 ∧ Vocab N R ∧ (∀ c ∈ cl, Fine N R c) ∧
  ∀ H' r ys zs, Same H H' → ToldAt H' r ys zs → Asc ys → Asc zs → (∀ s, s ∈ ys ↔ ∃ c ∈ cl, s ∈ nms c) → (∀ s, s ∈ zs ↔ ∃ c ∈ cl, s ∈ rls c) → Q (.ref r) H'
theorem ok_lwords (D : Defs K mg) : FnOk P w K mg base CX0 11 D.d_law_words.f D.d_law_words.fd ["concepts"] spLW := by
  have G := ok_lparts (P := P) (w := w) (base := base) D 9
  refine D.d_law_words.F.ok sc_law_words (fun vs H Q E h => ?_) (fun cdv A outer s H vs Q E hr h => ?_)
  · obtain ⟨p, ws, cl, N, R, rfl, _⟩ := h
    rfl
  obtain ⟨p, ws, cl, N, R, rfl, hp, hk, hl8, vo, hf, q⟩ := h
  refine ⟨_, (pss_cons (ps_par (i := 1) (j := 2) (by rfl) sc_law_words.nd rfl rfl (by decide) rfl rfl (pa_cons (pe_lst pa_nil) (pa_cons (pe_lst pa_nil) pa_nil)) (by rfl))
      (pss_cons (ps_for PassesOwn.never rfl (pi_list (pv 0)) (pg_name (i := 3) sc_law_words.nd rfl (Or.inl rfl)) (pss_one (ps_for PassesOwn.never rfl (pi_list (pe_call G hr rfl D.d_law_parts.m D.d_law_parts.F.kp D.d_law_parts.b .nil pass0 (pa_cons (pv 3) pa_nil))) (pg_name (i := 4) sc_law_words.nd rfl (Or.inl rfl)) (pss_cons (ps_if (PW.pt (pw_and (pt_val (pe_callB call_isi (by rfl) D.z_isinstance (by decide +kernel) (pa_cons (pv 4) (pa_cons (pe_bltn (v := .ty "str") (by rfl) D.z_str (by decide +kernel) rfl) pa_nil)))) (pw_and (pt_cmpR op_notInT (pv 4) (pe_tup (pa_cons pe_str (pa_cons pe_str pa_nil))) (by rfl)) (pw_and1 (pt_cmpR op_notInT (pv 4) (pv 1) (by rfl)))))) (pss_one (ps_expr (pe_bm PySem.F.plainAttrs_list PySem.F.slot_list_append PySem.F.type_list_append mt_append (pv 1) (pa_cons (pv 4) pa_nil)))) pss_nil)
      (pss_one (ps_if (PW.pt (pw_and (pt_not (pt_val (pe_callB call_isi (by rfl) D.z_isinstance (by decide +kernel) (pa_cons (pv 4) (pa_cons (pe_bltn (v := .ty "str") (by rfl) D.z_str (by decide +kernel) rfl) pa_nil))))) (pw_and (pt_cmpR op_eq (pe_ix ix_tup (pv 4) pe_int (fun _ _ => rfl)) pe_str (nomark _)) (pw_and1 (pt_cmpR op_notInT (pe_ix ix_tup (pv 4) pe_int (fun _ _ => rfl)) (pv 2) (by rfl)))))) (pss_one (ps_expr (pe_bm PySem.F.plainAttrs_list PySem.F.slot_list_append PySem.F.type_list_append mt_append (pv 2) (pa_cons (pe_ix ix_tup (pv 4) pe_int (fun _ _ => rfl)) pa_nil)))) pss_nil))))))
      (pss_one (ps_ret (pe_tup (pa_cons (pe_callTy call_tuple_of (by rfl) D.z_tuple (by decide +kernel) (pa_cons (pe_callB cr_sortedS (by rfl) D.z_sorted (by decide +kernel) (pa_cons (pv 1) pa_nil)) pa_nil)) (pa_cons (pe_callTy call_tuple_of (by rfl) D.z_tuple (by decide +kernel) (pa_cons (pe_callB cr_sortedS (by rfl) D.z_sorted (by decide +kernel) (pa_cons (pv 2) pa_nil)) pa_nil)) pa_nil))))))), ?_⟩
  refine ⟨(by show 0 ≤ sizeLine; decide), fun ln hln => ⟨(by show 0 ≤ sizeLine; decide), fun lr hlr => ⟨_, _, rfl, ?_⟩⟩⟩
  have g1 := same_new hln (.lst [])
  have g2 := same_new hlr (.lst [])
  have nr : ln ≠ lr := ne_of_none upd_same hlr
  have k1 : Ls (upd (upd H ln (.lst [])) lr (.lst [])) ln [] := ⟨g2 _ _ upd_same, List.nodup_nil⟩
  have k2 : Ls (upd (upd H ln (.lst [])) lr (.lst [])) lr [] := ⟨upd_same, List.nodup_nil⟩
  have pn : p ≠ ln := ne_of_none hp hln
  have pr : p ≠ lr := ne_of_none (g1 _ _ hp) hlr
  have hp2 := g2 _ _ (g1 _ _ hp)
  have lcl := paired_len hk
  have back : ∀ H', But [ln, lr] (upd (upd H ln (.lst [])) lr (.lst [])) H' → Same H H' := fun H' b e o z => by
    have z1 := g1 _ _ z
    refine b e o ?_ (g2 _ _ z1)
    simp only [List.mem_cons, List.not_mem_nil, or_false]
    rintro (rfl | rfl)
    · rw [hln] at z; cases z
    · rw [hlr] at z1; cases z1
  refine ⟨_, rfl, p, rfl, ⟨_, SqL.of hp2⟩, for_list (K := K) (a := p) (xs := ws) (fun i σ H2 => But [ln, lr] (upd (upd H ln (.lst [])) lr (.lst [])) H2 ∧ (∃ o3 o4, σ = [some (.ref p), some (.ref ln), some (.ref lr), o3, o4]) ∧
      ∃ kn kr, Ls H2 ln kn ∧ Ls H2 lr kr ∧ (∀ s, s ∈ kn ↔ ∃ c ∈ cl.take i, s ∈ nms c) ∧ (∀ s, s ∈ kr ↔ ∃ c ∈ cl.take i, s ∈ rls c))
    ⟨But.refl _, ⟨none, none, rfl⟩, [], [], k1, k2, fun s => by simp, fun s => by simp⟩ (fun i σ H2 _ hh => SqL.of (hh.1 _ _ (by simp [pn, pr]) hp2)) ?_ ?_⟩
  · rintro i x σ H2 hi ⟨b2, ⟨o3, o4, rfl⟩, kn, kr, h1, h2, m1, m2⟩
    obtain ⟨c, hc1, hc2⟩ := paired_get hk hi
    have hc : c ∈ cl := List.mem_of_getElem? hc1
    have f := hf c hc
    have s2 := back H2 b2
    refine ⟨_, rfl, x, c, rfl, hc2.same s2, f.2.1, by have := f.2.2; omega, fun H3 p3 us g3 h3 new3 pk => ⟨p3, rfl, ⟨_, SqL.of h3⟩, ?_⟩⟩
    have p3n : p3 ≠ ln := (ne_of_none h1.at_ new3).symm
    have p3r : p3 ≠ lr := (ne_of_none h2.at_ new3).symm
    have h13 : Ls H3 ln kn := ⟨g3 _ _ h1.at_, h1.nd⟩
    have h23 : Ls H3 lr kr := ⟨g3 _ _ h2.at_, h2.nd⟩
    have inN : ∀ {kn' : List Str} {j : Nat}, (∀ s, s ∈ kn' ↔ s ∈ kn ∨ ∃ q ∈ (prt c).take j, s ∈ nm1 q) → ∀ s ∈ kn', s ∈ N := fun {kn' j} h s hs => by
      rcases (h s).mp hs with hs | ⟨q, hq, hs⟩
      · obtain ⟨c', hc', hs⟩ := (m1 s).mp hs
        exact nms_in (hf c' (List.mem_of_mem_take hc')).1 s hs
      · exact nms_in f.1 s ((nms_nm1 s c).mpr ⟨q, List.mem_of_mem_take hq, hs⟩)
    have inR : ∀ {kr' : List Str} {j : Nat}, (∀ s, s ∈ kr' ↔ s ∈ kr ∨ ∃ q ∈ (prt c).take j, s ∈ rl1 q) → ∀ s ∈ kr', s ∈ R := fun {kr' j} h s hs => by
      rcases (h s).mp hs with hs | ⟨q, hq, hs⟩
      · obtain ⟨c', hc', hs⟩ := (m2 s).mp hs
        exact rls_in (hf c' (List.mem_of_mem_take hc')).1 s hs
      · exact rls_in f.1 s ((rls_rl1 s c).mpr ⟨q, List.mem_of_mem_take hq, hs⟩)
    refine for_list (K := K) (a := p3) (xs := us) (fun j σ H4 => But [ln, lr] H3 H4 ∧ (∃ o4, σ = [some (.ref p), some (.ref ln), some (.ref lr), some x, o4]) ∧
        ∃ kn' kr', Ls H4 ln kn' ∧ Ls H4 lr kr' ∧ (∀ s, s ∈ kn' ↔ s ∈ kn ∨ ∃ q ∈ (prt c).take j, s ∈ nm1 q) ∧ (∀ s, s ∈ kr' ↔ s ∈ kr ∨ ∃ q ∈ (prt c).take j, s ∈ rl1 q))
      ⟨But.refl _, ⟨_, rfl⟩, kn, kr, h13, h23, fun s => by simp, fun s => by simp⟩ (fun j σ H4 _ hh => SqL.of (hh.1 _ _ (by simp [p3n, p3r]) h3)) ?_ ?_
    · rintro j y σ H4 hj ⟨b4, ⟨o4, rfl⟩, kn', kr', h14, h24, m3, m4⟩
      obtain ⟨e, he1, he2⟩ := paired_get pk hj
      have te : (prt c).take (j + 1) = (prt c).take j ++ [e] := take_more he1
      have he4 : ConAt H4 e y := he2.t (b4.t (ls_nt h13 h23))
      have ln' : kn'.length ≤ 10 := Nat.le_trans (nodup_le h14.nd (inN m3)) vo.ln
      have lr' : kr'.length ≤ 10 := Nat.le_trans (nodup_le h24.nd (inR m4)) vo.lr
      obtain ⟨t, ty, kt⟩ := pl_str (K := K) (con_pl he4)
      refine ⟨_, rfl, _, _, _, _, _, rfl, .ty _, ty, kt, _, rfl, ?_⟩
      rcases atom_or e with ⟨s, rfl⟩ | na
      · obtain ⟨rfl, hs⟩ := he4
        have r4 : ∀ x, x ∈ kr' ↔ x ∈ kr ∨ ∃ q ∈ (prt c).take (j + 1), x ∈ rl1 q := fun x => by
          rw [m4 x, te]
          simp [rl1]
          try (constructor <;> (rintro (h | ⟨q, hq, h⟩) <;> first | exact .inl h | exact .inr ⟨q, .inl hq, h⟩ | exact .inr ⟨q, hq, h⟩))
        -- behind the first if: the second one does nothing
        refine iteT ⟨_, rfl, (by show 2 ≤ sizeLine; decide), fun t1 ht1 => ⟨s, t1, ["all", "none"], rfl, rfl, .inr (SqT.of upd_same), _, rfl, ?_⟩⟩
        have gt := same_new ht1 (.tup [.str "all", .str "none"])
        have h15 : Ls (upd H4 t1 (.tup [.str "all", .str "none"])) ln kn' := ⟨gt _ _ h14.at_, h14.nd⟩
        have h25 : Ls (upd H4 t1 (.tup [.str "all", .str "none"])) lr kr' := ⟨gt _ _ h24.at_, h24.nd⟩
        have b5 : But [ln, lr] H3 (upd H4 t1 (.tup [.str "all", .str "none"])) := b4.trans (But.of gt)
        by_cases cz : s = "all" ∨ s = "none"
        · rw [mem_an, decide_eq_true cz]
          refine iteF ?_
          obtain ⟨t2, ty2, kt2⟩ := pl_str (K := K) (con_pl (c := .atom s) (H := upd H4 t1 (.tup [.str "all", .str "none"])) ⟨rfl, hs⟩)
          refine ⟨_, rfl, _, _, _, _, _, rfl, .ty _, ty2, kt2, _, rfl, iteF (iteF ⟨b5, ⟨_, rfl⟩, kn', kr', h15, h25, fun x => ?_, r4⟩)⟩
          rw [m3 x, te]
          simp only [List.mem_append, List.mem_singleton]
          constructor
          · rintro (h | ⟨q, hq, h⟩)
            · exact .inl h
            · exact .inr ⟨q, .inl hq, h⟩
          · rintro (h | ⟨q, hq | rfl, h⟩)
            · exact .inl h
            · exact .inr ⟨q, hq, h⟩
            · simp only [nm1, if_pos cz] at h; cases h
        · rw [mem_an, decide_eq_false cz]
          refine iteT ⟨_, rfl, _, rfl, s, ln, kn', rfl, rfl, .inl (SqL.of h15.at_), _, rfl, ?_⟩
          have m5 : ∀ x, x ∈ addS kn' s ↔ x ∈ kn ∨ ∃ q ∈ (prt c).take (j + 1), x ∈ nm1 q := fun x => by
            rw [mem_addS, m3 x, te]
            simp only [List.mem_append, List.mem_singleton]
            constructor
            · rintro ((h | ⟨q, hq, h⟩) | rfl)
              · exact .inl h
              · exact .inr ⟨q, .inl hq, h⟩
              · exact .inr ⟨_, .inr rfl, by simp [nm1, if_neg cz]⟩
            · rintro (h | ⟨q, hq | rfl, h⟩)
              · exact .inl (.inl h)
              · exact .inl (.inr ⟨q, hq, h⟩)
              · simp only [nm1, if_neg cz, List.mem_singleton] at h; exact .inr h
          by_cases cm : s ∈ kn'
          · rw [decide_eq_true cm]
            rw [addS_old cm] at m5
            obtain ⟨t2, ty2, kt2⟩ := pl_str (K := K) (con_pl (c := .atom s) (H := upd H4 t1 (.tup [.str "all", .str "none"])) ⟨rfl, hs⟩)
            exact iteF ⟨_, rfl, _, _, _, _, _, rfl, .ty _, ty2, kt2, _, rfl, iteF (iteF ⟨b5, ⟨_, rfl⟩, kn', kr', h15, h25, m5, r4⟩)⟩
          · rw [decide_eq_false cm]
            rw [addS_new cm] at m5
            refine iteT ⟨_, rfl, .inl ⟨rfl, _, SqL.of h15.at_⟩, _, rfl, ln, _, _, rfl, rfl, h15.at_, (by rw [List.length_map]; exact small1000 (by omega)), ?_⟩
            obtain ⟨t2, ty2, kt2⟩ := pl_str (K := K) (con_pl (c := .atom s) (H := upd (upd H4 t1 (.tup [.str "all", .str "none"])) ln (.lst (kn'.map V.str ++ [V.str s]))) ⟨rfl, hs⟩)
            refine ⟨_, rfl, _, _, _, _, _, rfl, .ty _, ty2, kt2, _, rfl, iteF (iteF ⟨b5.trans (But.put (by simp)), ⟨_, rfl⟩, kn' ++ [s], kr', ⟨?_, ?_⟩, ⟨?_, h24.nd⟩, m5, r4⟩)⟩
            · rw [upd_same, List.map_append]; rfl
            · rw [← addS_new cm]; exact nd_addS h14.nd
            · rw [upd_ne nr.symm]; exact h25.at_
      · rw [con_str he4 na]
        have n4 : ∀ x, x ∈ kn' ↔ x ∈ kn ∨ ∃ q ∈ (prt c).take (j + 1), x ∈ nm1 q := fun x => by
          have : nm1 e = [] := by cases e <;> first | rfl | exact (na _ rfl).elim
          rw [m3 x, te]
          simp only [List.mem_append, List.mem_singleton]
          constructor
          · rintro (h | ⟨q, hq, h⟩)
            · exact .inl h
            · exact .inr ⟨q, .inl hq, h⟩
          · rintro (h | ⟨q, hq | rfl, h⟩)
            · exact .inl h
            · exact .inr ⟨q, hq, h⟩
            · rw [this] at h; cases h
        refine iteF (iteF ?_)
        refine ⟨_, rfl, _, _, _, _, _, rfl, .ty _, ty, kt, _, rfl, ?_⟩
        rw [con_str he4 na]
        obtain ⟨a, ws2, rfl, _, hcase⟩ := con_kids he4 na
        rcases hcase with ⟨ex, r, u, ec, ha, hrl⟩ | ⟨ex, ha⟩
        · subst ec
          refine iteT ⟨_, rfl, a, _, _, _, rfl, rfl, SqT.of ha, atI_nat (j := 0) rfl, rfl, _, rfl, ?_⟩
          rw [some_is]
          refine iteT ⟨_, rfl, a, _, _, _, rfl, rfl, SqT.of ha, atI_nat (j := 1) rfl, _, rfl, r, lr, kr', rfl, rfl, .inl (SqL.of h24.at_), _, rfl, ?_⟩
          have m5 : ∀ x, x ∈ addS kr' r ↔ x ∈ kr ∨ ∃ q ∈ (prt c).take (j + 1), x ∈ rl1 q := fun x => by
            rw [mem_addS, m4 x, te]
            simp only [List.mem_append, List.mem_singleton]
            constructor
            · rintro ((h | ⟨q, hq, h⟩) | rfl)
              · exact .inl h
              · exact .inr ⟨q, .inl hq, h⟩
              · exact .inr ⟨_, .inr rfl, by simp [rl1]⟩
            · rintro (h | ⟨q, hq | rfl, h⟩)
              · exact .inl (.inl h)
              · exact .inl (.inr ⟨q, hq, h⟩)
              · simp only [rl1, List.mem_singleton] at h; exact .inr h
          by_cases cm : r ∈ kr'
          · rw [decide_eq_true cm]
            rw [addS_old cm] at m5
            exact iteF ⟨b4, ⟨_, rfl⟩, kn', kr', h14, h24, n4, m5⟩
          · rw [decide_eq_false cm]
            rw [addS_new cm] at m5
            refine iteT ⟨_, rfl, .inl ⟨rfl, _, SqL.of h24.at_⟩, _, rfl, a, _, _, _, rfl, rfl, SqT.of ha, atI_nat (j := 1) rfl, lr, _, _, rfl, rfl, h24.at_, (by rw [List.length_map]; exact small1000 (by omega)), ?_⟩
            refine ⟨b4.trans (But.put (by simp)), ⟨_, rfl⟩, kn', kr' ++ [r], ⟨?_, h14.nd⟩, ⟨?_, ?_⟩, n4, m5⟩
            · rw [upd_ne nr]; exact h14.at_
            · rw [upd_same, List.map_append]; rfl
            · rw [← addS_new cm]; exact nd_addS h24.nd
        · refine iteT ⟨_, rfl, a, _, _, _, rfl, rfl, SqT.of ha, atI_nat (j := 0) rfl, rfl, _, rfl, ?_⟩
          rw [and_is]
          refine iteF (iteF ⟨b4, ⟨_, rfl⟩, kn', kr', h14, h24, n4, fun x => ?_⟩)
          have : rl1 e = [] := by cases e <;> first | rfl | (cases ex)
          rw [m4 x, te]
          simp only [List.mem_append, List.mem_singleton]
          constructor
          · rintro (h | ⟨q, hq, h⟩)
            · exact .inl h
            · exact .inr ⟨q, .inl hq, h⟩
          · rintro (h | ⟨q, hq | rfl, h⟩)
            · exact .inl h
            · exact .inr ⟨q, hq, h⟩
            · rw [this] at h; cases h
    · rintro σ H4 ⟨b4, ⟨o4, rfl⟩, kn', kr', h14, h24, m3, m4⟩
      have e1 : (prt c).take us.length = prt c := by rw [← paired_len pk, List.take_length]
      have e2 : cl.take (i + 1) = cl.take i ++ [c] := take_more hc1
      rw [e1] at m3 m4
      refine ⟨(b2.trans (But.of g3)).trans b4, ⟨_, _, rfl⟩, kn', kr', h14, h24, fun s => ?_, fun s => ?_⟩
      · rw [m3 s, m1 s, e2, ← nms_nm1]
        simp only [List.mem_append, List.mem_singleton]
        constructor
        · rintro (⟨c', hc', h⟩ | h)
          · exact ⟨c', .inl hc', h⟩
          · exact ⟨c, .inr rfl, h⟩
        · rintro ⟨c', hc' | rfl, h⟩
          · exact .inl ⟨c', hc', h⟩
          · exact .inr h
      · rw [m4 s, m2 s, e2, ← rls_rl1]
        simp only [List.mem_append, List.mem_singleton]
        constructor
        · rintro (⟨c', hc', h⟩ | h)
          · exact ⟨c', .inl hc', h⟩
          · exact ⟨c, .inr rfl, h⟩
        · rintro ⟨c', hc' | rfl, h⟩
          · exact .inl ⟨c', hc', h⟩
          · exact .inr h
  · rintro σ H2 ⟨b2, ⟨o3, o4, rfl⟩, kn, kr, h1, h2, m1, m2⟩
    have e1 : cl.take ws.length = cl := by rw [← lcl, List.take_length]
    rw [e1] at m1 m2
    have l1 : kn.length ≤ 10 := Nat.le_trans (nodup_le h1.nd fun s hs => by
      obtain ⟨c, hc, h⟩ := (m1 s).mp hs
      exact nms_in (hf c hc).1 s h) vo.ln
    have l2 : kr.length ≤ 10 := Nat.le_trans (nodup_le h2.nd fun s hs => by
      obtain ⟨c, hc, h⟩ := (m2 s).mp hs
      exact rls_in (hf c hc).1 s h) vo.lr
    have s2 := back H2 b2
    refine ⟨_, rfl, ln, kn, rfl, SqL.of h1.at_, by omega, fun ys p1 pm1 sr1 hp1 => ⟨p1, _, rfl, .inl ⟨SqL.of upd_same, fun t1 ht1 => ?_⟩⟩⟩
    have q1 := same_new hp1 (.lst (ys.map V.str))
    have q2 := same_new ht1 (.tup (ys.map V.str))
    refine ⟨_, rfl, lr, kr, rfl, SqL.of (q2 _ _ (q1 _ _ h2.at_)), by omega, fun zs p2 pm2 sr2 hp2' => ⟨p2, _, rfl, .inl ⟨SqL.of upd_same, fun t2 ht2 => ?_⟩⟩⟩
    have q3 := same_new hp2' (.lst (zs.map V.str))
    have q4 := same_new ht2 (.tup (zs.map V.str))
    refine ⟨(by show 2 ≤ sizeLine; decide), fun r hr2 => ?_⟩
    have q5 := same_new hr2 (.tup [.ref t1, .ref t2])
    refine q _ r ys zs (s2.trans (q1.trans (q2.trans (q3.trans (q4.trans q5))))) ⟨t1, t2, upd_same, q5 _ _ (q4 _ _ (q3 _ _ upd_same)), q5 _ _ upd_same⟩
      (asc_of (weak_of sr1) (pm1.nodup_iff.mpr h1.nd)) (asc_of (weak_of sr2) (pm2.nodup_iff.mpr h2.nd)) (fun s => pm1.mem_iff.trans (m1 s)) (fun s => pm2.mem_iff.trans (m2 s))
end
end K1
namespace K1
open PySem L2
structure BadV (H : Hp) (b : L2.V) : Prop where
  no : ∀ n, nestedB H n b = false
  kn : Kn H 7 b
theorem BadV.same {H H' : Hp} {b : L2.V} (h : BadV H b) (e : Same H H') : BadV H' b := ⟨fun n => by rw [nestedB_same e h.kn]; exact h.no n, h.kn.same e⟩
theorem at_new {H : Hp} {p : Addr} (h : H p = none) (o : HO) : upd H p o p = some o := upd_same
theorem kn_tup {H : Hp} {p : Addr} {xs : List L2.V} {m : Nat} (f : H p = some (.tup xs)) (h : ∀ x ∈ xs, Kn H m x) : Kn H (m + 1) (.ref p) := ⟨.inr ⟨xs, f⟩, fun a ys e g x hx => by
  cases e
  rw [f] at g
  cases g
  exact h x hx⟩
theorem kn_lst {H : Hp} {p : Addr} {xs : List L2.V} {m : Nat} (f : H p = some (.lst xs)) : Kn H m (.ref p) := by
  cases m with
  | zero => exact ⟨.inl ⟨xs, f⟩, fun a ys e g => by cases e; rw [f] at g; cases g⟩
  | succ m => exact ⟨.inl ⟨xs, f⟩, fun a ys e g => by cases e; rw [f] at g; cases g⟩
theorem kn_int {H : Hp} {m : Nat} {i : Int} : Kn H m (.int i) := by
  cases m with
  | zero => exact ⟨True.intro, fun _ _ z => nomatch z⟩
  | succ m => exact ⟨True.intro, fun _ _ z => nomatch z⟩
theorem kn_non {H : Hp} {m : Nat} : Kn H m .non := by
  cases m with
  | zero => exact ⟨True.intro, fun _ _ z => nomatch z⟩
  | succ m => exact ⟨True.intro, fun _ _ z => nomatch z⟩
theorem kn_bl {H : Hp} {m : Nat} {b : Bool} : Kn H m (.bl b) := by
  cases m with
  | zero => exact ⟨True.intro, fun _ _ z => nomatch z⟩
  | succ m => exact ⟨True.intro, fun _ _ z => nomatch z⟩
theorem kn_up {H : Hp} : ∀ {m m' : Nat} {v : L2.V}, Kn H m v → m ≤ m' → Kn H m' v
  | 0, 0, _, h, _ => h
  | 0, m' + 1, _, h, _ => ⟨h.1, fun a xs e g => (h.2 a xs e g).elim⟩
  | m + 1, 0, _, _, l => absurd l (by omega)
  | m + 1, m' + 1, _, h, l => ⟨h.1, fun a xs e g x hx => kn_up (h.2 a xs e g x hx) (by omega)⟩
theorem kn_tup1 {H : Hp} {p : Addr} {x : L2.V} (f : H p = some (.tup [x])) (h : Kn H 5 x) : Kn H 6 (.ref p) := kn_tup f fun y hy => by simp only [List.mem_singleton] at hy; subst hy; exact h
theorem all0 {F : L2.V → Prop} : ∀ x ∈ ([] : List L2.V), F x := fun x hx => by cases hx
theorem all1 {F : L2.V → Prop} {a : L2.V} (ha : F a) : ∀ x ∈ [a], F x := fun x hx => by simp only [List.mem_singleton] at hx; subst hx; exact ha
theorem all2 {F : L2.V → Prop} {a b : L2.V} (ha : F a) (hb : F b) : ∀ x ∈ [a, b], F x := fun x hx => by
  simp only [List.mem_cons, List.not_mem_nil, or_false] at hx
  rcases hx with rfl | rfl
  · exact ha
  · exact hb
theorem all3 {F : L2.V → Prop} {a b c : L2.V} (ha : F a) (hb : F b) (hc : F c) : ∀ x ∈ [a, b, c], F x := fun x hx => by
  simp only [List.mem_cons, List.not_mem_nil, or_false] at hx
  rcases hx with rfl | rfl | rfl
  · exact ha
  · exact hb
  · exact hc
theorem all4 {F : L2.V → Prop} {a b c d : L2.V} (ha : F a) (hb : F b) (hc : F c) (hd : F d) : ∀ x ∈ [a, b, c, d], F x := fun x hx => by
  simp only [List.mem_cons, List.not_mem_nil, or_false] at hx
  rcases hx with rfl | rfl | rfl | rfl
  · exact ha
  · exact hb
  · exact hc
  · exact hd
section
variable {H : Hp} {p p' : Addr} {x y z : L2.V} {xs : List L2.V} {k : Str}
theorem no0 (f : H p = some (.tup [])) : ∀ n, nestedB H n (.ref p) = false := fun n => by cases n <;> simp [nestedB, f]
theorem no1 (f : H p = some (.tup [x])) : ∀ n, nestedB H n (.ref p) = false := fun n => by cases n <;> (try cases x) <;> simp [nestedB, f]
theorem no2 (f : H p = some (.tup [x, y])) : ∀ n, nestedB H n (.ref p) = false := fun n => by cases n <;> (try cases x) <;> simp [nestedB, f]
theorem noW (f : H p = some (.tup [.str "some", x, y])) (h : isWordV x = false) : ∀ n, nestedB H n (.ref p) = false := fun n => by cases n <;> simp [nestedB, f, h]
theorem no4 (f : H p = some (.tup [.str "some", x, y, z])) : ∀ n, nestedB H n (.ref p) = false := fun n => by cases n <;> simp [nestedB, f]
theorem noK (f : H p = some (.tup [.str k, x, y])) (h1 : ¬ k = "some") (h2 : ¬ k = "and") : ∀ n, nestedB H n (.ref p) = false := fun n => by cases n <;> simp [nestedB, f, h1, h2]
theorem noL (f : H p = some (.lst xs)) : ∀ n, nestedB H n (.ref p) = false := fun n => by cases n <;> simp [nestedB, f]
theorem and_some : ¬ (("and" : Str) = "some") := by decide +kernel
theorem noA (f : H p = some (.tup [.str "and", x, y])) (h : ∀ n, nestedB H n y = false) : ∀ n, nestedB H n (.ref p) = false := fun n => by cases n <;> simp [nestedB, f, and_some, h]
theorem noA1 (f : H p = some (.tup [.str "and", x, y])) (h : ∀ n, nestedB H n x = false) : ∀ n, nestedB H n (.ref p) = false := fun n => by cases n <;> simp [nestedB, f, and_some, h]
theorem noS1 (f : H p = some (.tup [.str "some", x, y])) (h : ∀ n, nestedB H n y = false) : ∀ n, nestedB H n (.ref p) = false := fun n => by cases n <;> simp [nestedB, f, h]
theorem noR (f : H p = some (.tup [.ref p', x, y])) : ∀ n, nestedB H n (.ref p) = false := fun n => by cases n <;> simp [nestedB, f]
theorem noR2 {i : Int} (f : H p = some (.tup [.int i, x, y])) : ∀ n, nestedB H n (.ref p) = false := fun n => by cases n <;> simp [nestedB, f]
theorem noI {i : Int} : ∀ n, nestedB H n (.int i) = false := fun n => by cases n <;> rfl
theorem noNon : ∀ n, nestedB H n .non = false := fun n => by cases n <;> rfl
theorem noBl {b : Bool} : ∀ n, nestedB H n (.bl b) = false := fun n => by cases n <;> rfl
theorem noS {s : Str} (h : (decide (s = "all" ∨ s = "none") || wordOk s) = false) : ∀ n, nestedB H n (.str s) = false := fun n => by rw [nestedB_str]; exact h
theorem an_letters {s : Str} (h : s = "all" ∨ s = "none") : letters (cs s) = true := by rcases h with rfl | rfl <;> decide +kernel
theorem noLet {s : Str} (h : letters (cs s) = false) : ∀ n, nestedB H n (.str s) = false := noS (by
  rw [decide_eq_false fun z => by rw [an_letters z] at h; cases h]
  unfold wordOk
  rw [h, Bool.and_false, Bool.or_false])
theorem noL1 {s e : Str} (h : letters (cs e) = false) : ∀ n, nestedB H n (.str (s ++ e)) = false := noLet (by
  rw [cs_app]
  unfold letters at *
  rw [List.all_append, h, Bool.and_false])
theorem long13 : ("abcdefghijklm" : Str).length = 13 := by decide +kernel
theorem noLong {s : Str} (h : cs s ≠ []) : ∀ n, nestedB H n (.str (s ++ "abcdefghijklm")) = false := noS (by
  have l : (s ++ "abcdefghijklm" : Str).length = s.length + 13 := by rw [len_app, long13]
  have l2 : ∀ z : Str, z.length ≤ 12 → ¬ (s ++ "abcdefghijklm" : Str) = z := fun z hz e => by rw [← e, l] at hz; omega
  rw [decide_eq_false fun z => by
    rcases z with z | z
    · exact l2 _ (by decide +kernel) z
    · exact l2 _ (by decide +kernel) z]
  unfold wordOk
  rw [decide_eq_false (show ¬ (s ++ "abcdefghijklm" : Str).length ≤ 12 by rw [l]; omega)]
  simp)
end
theorem up_letter : ∀ c : Fin 26, Unicode.upperOf (97 + c.val) = [65 + c.val] := by decide +kernel
theorem mapIdx_const {β : Type} {f : Nat → β} (l : List Nat) : (l.mapIdx fun _ c => f c) = l.map f := by
  rw [List.mapIdx_eq_iff]
  intro i
  simp
theorem cs_upper (s : Str) : cs (PySem.Txt.upper s) = ((cs s).map Unicode.upperOf).flatten := by
  show (Array.flatten (s.cps.mapIdx fun _ c => (Unicode.upperOf c).toArray)).toList = _
  rw [Array.toList_flatten, Array.toList_mapIdx, mapIdx_const (f := fun c => (Unicode.upperOf c).toArray), List.map_map]
  congr 1
theorem up_list : ∀ {l : List Nat}, letters l = true → (l.map Unicode.upperOf).flatten = l.map (· - 32)
  | [], _ => rfl
  | c :: l, h => by
    simp only [letters, List.all_cons, Bool.and_eq_true, decide_eq_true_eq] at h
    have e := up_letter ⟨c - 97, by omega⟩
    rw [show 97 + (c - 97) = c by omega, show 65 + (c - 97) = c - 32 by omega] at e
    rw [List.map_cons, List.flatten_cons, up_list (l := l) h.2, e]
    rfl
theorem noUp {H : Hp} {s : Str} (h : letters (cs s) = true) (n0 : cs s ≠ []) : ∀ n, nestedB H n (.str (PySem.Txt.upper s)) = false := noLet (by
  rw [cs_upper, up_list h]
  cases e : cs s with
  | nil => exact (n0 e).elim
  | cons c l =>
    rw [e] at h
    simp only [letters, List.all_cons, Bool.and_eq_true, decide_eq_true_eq] at h
    simp only [letters, List.map_cons, List.all_cons]
    rw [decide_eq_false (show ¬ 97 ≤ c - 32 by omega)]
    rfl)
theorem up_len {s : Str} (h : letters (cs s) = true) : (PySem.Txt.upper s).length = s.length := by
  rw [len_cs, cs_upper, up_list h, List.length_map]
  rfl
section
variable {P : Program} {w : World} {K : PySem.W.Frag} {mg : Str → Option Value} {base : Heap}
/-! ### _law_spoilt -/
def spSpoilt : Sp := fun vs H Q _ => ∃ (d : L2.V) (v : L2.V) (c : Con), vs = [d, v] ∧ ConAt H c v ∧ Wf c ∧ nest c ≤ 5 ∧
  ∀ H' l bs, Same H H' → H' l = some (.lst bs) → H l = none → 0 < bs.length → bs.length ≤ 100 → (∀ b ∈ bs, BadV H' b) → Q (.ref l) H'
theorem ok_spoilt (D : Defs K mg) : FnOk P w K mg base CX0 1 D.d_law_spoilt.f D.d_law_spoilt.fd ["draw", "concept"] spSpoilt := by
  refine D.d_law_spoilt.F.ok sc_law_spoilt (fun vs H Q E h => ?_) (fun cdv A outer s H vs Q E hr h => ?_)
  · obtain ⟨d, v, c, rfl, _⟩ := h
    rfl
  obtain ⟨d, v, c, rfl, hc, hw, hn, q⟩ := h
  refine ⟨_, (pss_cons (ps_set (i := 2) sc_law_spoilt.nd rfl (Or.inl rfl) (pe_ifExp (pt_val (pe_callB call_isi (by rfl) D.z_isinstance (by decide +kernel) (pa_cons (pv 1) (pa_cons (pe_bltn (v := .ty "str") (by rfl) D.z_str (by decide +kernel) rfl) pa_nil)))) (pv 1) pe_str))
      (pss_one (ps_ret (pe_lst (pa_cons (pe_tup (pa_cons pe_str (pa_cons (pv 1) pa_nil))) (pa_cons (pe_tup (pa_cons pe_str pa_nil)) (pa_cons (pe_tup (pa_cons pe_str (pa_cons (pv 2) pa_nil))) (pa_cons (pe_tup (pa_cons pe_str (pa_cons pe_str (pa_cons (pv 1) pa_nil)))) (pa_cons (pe_tup (pa_cons pe_str (pa_cons pe_str (pa_cons (pv 1) pa_nil)))) (pa_cons (pe_tup (pa_cons pe_str (pa_cons (pv 2) (pa_cons (pv 1) (pa_cons (pv 1) pa_nil))))) (pa_cons (pe_tup (pa_cons pe_str (pa_cons (pv 1) (pa_cons (pv 1) pa_nil)))) (pa_cons (pe_lst (pa_cons pe_str (pa_cons (pv 1) (pa_cons (pv 1) pa_nil)))) (pa_cons pe_non (pa_cons pe_bl (pa_cons pe_int (pa_cons pe_str (pa_cons (pe_op op_add_str (pv 2) pe_str) (pa_cons (pe_upper (pv 2)) (pa_cons (pe_op op_add_str (pv 2) pe_str) (pa_cons pe_str (pa_cons (pe_op op_add_str (pv 2) pe_str) (pa_cons (pe_tup (pa_cons pe_str (pa_cons pe_int (pa_cons (pv 1) pa_nil)))) (pa_cons (pe_tup (pa_cons pe_str (pa_cons (pv 1) (pa_cons (pe_lst (pa_cons pe_str (pa_cons (pv 1) (pa_cons (pv 1) pa_nil)))) pa_nil)))) (pa_cons (pe_tup (pa_cons (pe_tup (pa_cons (pv 1) pa_nil)) (pa_cons (pv 1) (pa_cons (pv 1) pa_nil)))) (pa_cons (pe_tup (pa_cons pe_str (pa_cons (pv 1) (pa_cons pe_int pa_nil)))) (pa_cons (pe_tup (pa_cons pe_str (pa_cons pe_str (pa_cons (pv 1) pa_nil)))) (pa_cons (pe_tup (pa_cons pe_int (pa_cons (pv 2) (pa_cons (pv 1) pa_nil)))) (pa_cons (pe_tup pa_nil) pa_nil)))))))))))))))))))))))))))), ?_⟩
  obtain ⟨t, ty, kt⟩ := pl_str (K := K) (con_pl hc)
  refine ⟨_, rfl, _, _, _, _, _, rfl, .ty _, ty, kt, _, rfl, ?_⟩
  have hv : Kn H 5 v := con_kn hc hn
  obtain ⟨w0, wl, w0n, wlen, hx⟩ : ∃ w0 : Str, letters (cs w0) = true ∧ cs w0 ≠ [] ∧ w0.length ≤ 12 ∧ ((isStr v = true ∧ v = .str w0) ∨ (isStr v = false ∧ w0 = "p")) := by
    rcases atom_or c with ⟨s, rfl⟩ | na
    · obtain ⟨rfl, hs⟩ := hc
      exact ⟨s, hw.1, hw.2.1, hs, .inl ⟨rfl, rfl⟩⟩
    · exact ⟨"p", by decide +kernel, by decide +kernel, by decide +kernel, .inr ⟨con_str hc na, rfl⟩⟩
  have lA : ("A" : Str).length = 1 := by decide +kernel
  have lB : (" " : Str).length = 1 := by decide +kernel
  have wl1 : w0.length + ("A" : Str).length ≤ sizeLine := Nat.le_of_lt (small1000 (by omega))
  have wl2 : w0.length + (" " : Str).length ≤ sizeLine := Nat.le_of_lt (small1000 (by omega))
  have l13 := long13
  have wl13 : w0.length + ("abcdefghijklm" : Str).length ≤ sizeLine := Nat.le_of_lt (small1000 (by omega))
  have wlu : w0.length ≤ 5592405 := by omega
  have wb1 : (w0 ++ "A" : Str).length ≤ 1000 := by rw [len_app]; omega
  have wb2 : (w0 ++ " " : Str).length ≤ 1000 := by rw [len_app]; omega
  have wb13 : (w0 ++ "abcdefghijklm" : Str).length ≤ 1000 := by rw [len_app]; omega
  have wbu : (PySem.Txt.upper w0).length ≤ 1000 := by rw [up_len wl]; omega
  rcases hx with ⟨es, ev⟩ | ⟨es, ev⟩
  · rw [es]
    subst ev
    refine iteT ⟨_, rfl, ?_⟩
    refine ⟨_, rfl, ?_⟩
    refine ⟨(by show 2 ≤ sizeLine; decide), fun p1 h1 => ?_⟩
    have e1 := same_new h1 (.tup [(.str "and"), (.str w0)])
    have c1 := e1
    have f1 := at_new h1 (.tup [(.str "and"), (.str w0)])
    -- 1
    have b1 : BadV _ (.ref p1) := ⟨no2 f1, kn_tup f1 (all2 (kn_str (by decide +kernel)) (kn_up (hv.same c1) (by decide)))⟩
    refine ⟨(by show 1 ≤ sizeLine; decide), fun p2 h2 => ?_⟩
    have e2 := same_new h2 (.tup [(.str "and")])
    have c2 := c1.trans e2
    have f2 := at_new h2 (.tup [(.str "and")])
    -- 2
    have b2 : BadV _ (.ref p2) := ⟨no1 f2, kn_tup f2 (all1 (kn_str (by decide +kernel)))⟩
    refine ⟨_, rfl, ?_⟩
    refine ⟨(by show 2 ≤ sizeLine; decide), fun p3 h3 => ?_⟩
    have e3 := same_new h3 (.tup [(.str "some"), (.str w0)])
    have c3 := c2.trans e3
    have f3 := at_new h3 (.tup [(.str "some"), (.str w0)])
    -- 3
    have b3 : BadV _ (.ref p3) := ⟨no2 f3, kn_tup f3 (all2 (kn_str (by decide +kernel)) (kn_str (Nat.le_trans wlen (by decide))))⟩
    refine ⟨_, rfl, ?_⟩
    refine ⟨(by show 3 ≤ sizeLine; decide), fun p4 h4 => ?_⟩
    have e4 := same_new h4 (.tup [(.str "some"), (.str "all"), (.str w0)])
    have c4 := c3.trans e4
    have f4 := at_new h4 (.tup [(.str "some"), (.str "all"), (.str w0)])
    -- 4
    have b4 : BadV _ (.ref p4) := ⟨noW f4 (by decide +kernel), kn_tup f4 (all3 (kn_str (by decide +kernel)) (kn_str (by decide +kernel)) (kn_up (hv.same c4) (by decide)))⟩
    refine ⟨_, rfl, ?_⟩
    refine ⟨(by show 3 ≤ sizeLine; decide), fun p5 h5 => ?_⟩
    have e5 := same_new h5 (.tup [(.str "some"), (.str "none"), (.str w0)])
    have c5 := c4.trans e5
    have f5 := at_new h5 (.tup [(.str "some"), (.str "none"), (.str w0)])
    -- 5
    have b5 : BadV _ (.ref p5) := ⟨noW f5 (by decide +kernel), kn_tup f5 (all3 (kn_str (by decide +kernel)) (kn_str (by decide +kernel)) (kn_up (hv.same c5) (by decide)))⟩
    refine ⟨_, rfl, ?_⟩
    refine ⟨_, rfl, ?_⟩
    refine ⟨_, rfl, ?_⟩
    refine ⟨(by show 4 ≤ sizeLine; decide), fun p6 h6 => ?_⟩
    have e6 := same_new h6 (.tup [(.str "some"), (.str w0), (.str w0), (.str w0)])
    have c6 := c5.trans e6
    have f6 := at_new h6 (.tup [(.str "some"), (.str w0), (.str w0), (.str w0)])
    -- 6
    have b6 : BadV _ (.ref p6) := ⟨no4 f6, kn_tup f6 (all4 (kn_str (by decide +kernel)) (kn_str (Nat.le_trans wlen (by decide))) (kn_up (hv.same c6) (by decide)) (kn_up (hv.same c6) (by decide)))⟩
    refine ⟨_, rfl, ?_⟩
    refine ⟨_, rfl, ?_⟩
    refine ⟨(by show 3 ≤ sizeLine; decide), fun p7 h7 => ?_⟩
    have e7 := same_new h7 (.tup [(.str "or"), (.str w0), (.str w0)])
    have c7 := c6.trans e7
    have f7 := at_new h7 (.tup [(.str "or"), (.str w0), (.str w0)])
    -- 7
    have b7 : BadV _ (.ref p7) := ⟨noK f7 (by decide +kernel) (by decide +kernel), kn_tup f7 (all3 (kn_str (by decide +kernel)) (kn_up (hv.same c7) (by decide)) (kn_up (hv.same c7) (by decide)))⟩
    refine ⟨_, rfl, ?_⟩
    refine ⟨_, rfl, ?_⟩
    refine ⟨(by show 3 ≤ sizeLine; decide), fun p8 h8 => ?_⟩
    have e8 := same_new h8 (.lst [(.str "and"), (.str w0), (.str w0)])
    have c8 := c7.trans e8
    have f8 := at_new h8 (.lst [(.str "and"), (.str w0), (.str w0)])
    -- 8
    have b8 : BadV _ (.ref p8) := ⟨noL f8, kn_lst f8⟩
    -- 9
    -- 10
    -- 11
    -- 12
    refine ⟨_, rfl, _, _, rfl, rfl, wl1, ?_⟩
    -- 13
    refine ⟨_, rfl, ⟨_, rfl⟩, w0, rfl, rfl, wlu, ?_⟩
    -- 14
    refine ⟨_, rfl, _, _, rfl, rfl, wl2, ?_⟩
    -- 15
    -- 16
    refine ⟨_, rfl, _, _, rfl, rfl, wl13, ?_⟩
    -- 17
    refine ⟨_, rfl, ?_⟩
    refine ⟨(by show 3 ≤ sizeLine; decide), fun p9 h9 => ?_⟩
    have e9 := same_new h9 (.tup [(.str "some"), (.int 1), (.str w0)])
    have c9 := c8.trans e9
    have f9 := at_new h9 (.tup [(.str "some"), (.int 1), (.str w0)])
    -- 18
    have b18 : BadV _ (.ref p9) := ⟨noW f9 rfl, kn_tup f9 (all3 (kn_str (by decide +kernel)) kn_int (kn_up (hv.same c9) (by decide)))⟩
    refine ⟨_, rfl, ?_⟩
    refine ⟨_, rfl, ?_⟩
    refine ⟨_, rfl, ?_⟩
    refine ⟨(by show 3 ≤ sizeLine; decide), fun p10 h10 => ?_⟩
    have e10 := same_new h10 (.lst [(.str "and"), (.str w0), (.str w0)])
    have c10 := c9.trans e10
    have f10 := at_new h10 (.lst [(.str "and"), (.str w0), (.str w0)])
    refine ⟨(by show 3 ≤ sizeLine; decide), fun p11 h11 => ?_⟩
    have e11 := same_new h11 (.tup [(.str "and"), (.str w0), (.ref p10)])
    have c11 := c10.trans e11
    have f11 := at_new h11 (.tup [(.str "and"), (.str w0), (.ref p10)])
    -- 19
    have b19 : BadV _ (.ref p11) := ⟨noA f11 (noL (e11 _ _ f10)), kn_tup f11 (all3 (kn_str (by decide +kernel)) (kn_up (hv.same c11) (by decide)) (kn_lst (e11 _ _ f10)))⟩
    refine ⟨_, rfl, ?_⟩
    refine ⟨(by show 1 ≤ sizeLine; decide), fun p12 h12 => ?_⟩
    have e12 := same_new h12 (.tup [(.str w0)])
    have c12 := c11.trans e12
    have f12 := at_new h12 (.tup [(.str w0)])
    refine ⟨_, rfl, ?_⟩
    refine ⟨_, rfl, ?_⟩
    refine ⟨(by show 3 ≤ sizeLine; decide), fun p13 h13 => ?_⟩
    have e13 := same_new h13 (.tup [(.ref p12), (.str w0), (.str w0)])
    have c13 := c12.trans e13
    have f13 := at_new h13 (.tup [(.ref p12), (.str w0), (.str w0)])
    -- 20
    have b20 : BadV _ (.ref p13) := ⟨noR f13, kn_tup f13 (all3 (kn_tup1 (e13 _ _ f12) (kn_up (hv.same c13) (by decide))) (kn_up (hv.same c13) (by decide)) (kn_up (hv.same c13) (by decide)))⟩
    refine ⟨_, rfl, ?_⟩
    refine ⟨(by show 3 ≤ sizeLine; decide), fun p14 h14 => ?_⟩
    have e14 := same_new h14 (.tup [(.str "and"), (.str w0), (.int 0)])
    have c14 := c13.trans e14
    have f14 := at_new h14 (.tup [(.str "and"), (.str w0), (.int 0)])
    -- 21
    have b21 : BadV _ (.ref p14) := ⟨noA f14 noI, kn_tup f14 (all3 (kn_str (by decide +kernel)) (kn_up (hv.same c14) (by decide)) kn_int)⟩
    refine ⟨_, rfl, ?_⟩
    refine ⟨(by show 3 ≤ sizeLine; decide), fun p15 h15 => ?_⟩
    have e15 := same_new h15 (.tup [(.str "some"), (.str "some"), (.str w0)])
    have c15 := c14.trans e15
    have f15 := at_new h15 (.tup [(.str "some"), (.str "some"), (.str w0)])
    -- 22
    have b22 : BadV _ (.ref p15) := ⟨noW f15 (by decide +kernel), kn_tup f15 (all3 (kn_str (by decide +kernel)) (kn_str (by decide +kernel)) (kn_up (hv.same c15) (by decide)))⟩
    refine ⟨_, rfl, ?_⟩
    refine ⟨_, rfl, ?_⟩
    refine ⟨(by show 3 ≤ sizeLine; decide), fun p16 h16 => ?_⟩
    have e16 := same_new h16 (.tup [(.int 1), (.str w0), (.str w0)])
    have c16 := c15.trans e16
    have f16 := at_new h16 (.tup [(.int 1), (.str w0), (.str w0)])
    -- 23
    have b23 : BadV _ (.ref p16) := ⟨noR2 f16, kn_tup f16 (all3 kn_int (kn_str (Nat.le_trans wlen (by decide))) (kn_up (hv.same c16) (by decide)))⟩
    refine ⟨(by show 0 ≤ sizeLine; decide), fun p17 h17 => ?_⟩
    have e17 := same_new h17 (.tup [])
    have c17 := c16.trans e17
    have f17 := at_new h17 (.tup [])
    -- 24
    have b24 : BadV _ (.ref p17) := ⟨no0 f17, kn_tup f17 (all0 )⟩
    refine ⟨(by show 24 ≤ sizeLine; decide), fun l hl => ?_⟩
    have k17 := same_new hl (.lst [(.ref p1), (.ref p2), (.ref p3), (.ref p4), (.ref p5), (.ref p6), (.ref p7), (.ref p8), .non, (.bl true), (.int 3), (.str ""), (.str (w0 ++ "A")), (.str (PySem.Txt.upper w0)), (.str (w0 ++ " ")), (.str "some"), (.str (w0 ++ "abcdefghijklm")), (.ref p9), (.ref p11), (.ref p13), (.ref p14), (.ref p15), (.ref p16), (.ref p17)])
    have k16 := e17.trans k17
    have k15 := e16.trans k16
    have k14 := e15.trans k15
    have k13 := e14.trans k14
    have k12 := e13.trans k13
    have k11 := e12.trans k12
    have k10 := e11.trans k11
    have k9 := e10.trans k10
    have k8 := e9.trans k9
    have k7 := e8.trans k8
    have k6 := e7.trans k7
    have k5 := e6.trans k6
    have k4 := e5.trans k5
    have k3 := e4.trans k4
    have k2 := e3.trans k3
    have k1 := e2.trans k2
    refine q _ l _ (c17.trans k17) (at_new hl _) (c17.free hl) (by show 0 < 24; decide) (by show 24 ≤ 100; decide) (fun b hb => ?_)
    simp only [List.mem_cons, List.not_mem_nil, or_false] at hb
    rcases hb with rfl | rfl | rfl | rfl | rfl | rfl | rfl | rfl | rfl | rfl | rfl | rfl | rfl | rfl | rfl | rfl | rfl | rfl | rfl | rfl | rfl | rfl | rfl | rfl
    · exact b1.same k1
    · exact b2.same k2
    · exact b3.same k3
    · exact b4.same k4
    · exact b5.same k5
    · exact b6.same k6
    · exact b7.same k7
    · exact b8.same k8
    · exact ⟨noNon, kn_non⟩
    · exact ⟨noBl, kn_bl⟩
    · exact ⟨noI, kn_int⟩
    · exact ⟨noS (by decide +kernel), kn_str (by decide +kernel)⟩
    · exact ⟨noL1 (by decide +kernel), kn_str wb1⟩
    · exact ⟨noUp wl w0n, kn_str wbu⟩
    · exact ⟨noL1 (by decide +kernel), kn_str wb2⟩
    · exact ⟨noS (by decide +kernel), kn_str (by decide +kernel)⟩
    · exact ⟨noLong w0n, kn_str wb13⟩
    · exact b18.same k9
    · exact b19.same k11
    · exact b20.same k13
    · exact b21.same k14
    · exact b22.same k15
    · exact b23.same k16
    · exact b24.same k17
  · rw [es]
    subst ev
    refine iteF ?_
    refine ⟨_, rfl, ?_⟩
    refine ⟨(by show 2 ≤ sizeLine; decide), fun p1 h1 => ?_⟩
    have e1 := same_new h1 (.tup [(.str "and"), v])
    have c1 := e1
    have f1 := at_new h1 (.tup [(.str "and"), v])
    -- 1
    have b1 : BadV _ (.ref p1) := ⟨no2 f1, kn_tup f1 (all2 (kn_str (by decide +kernel)) (kn_up (hv.same c1) (by decide)))⟩
    refine ⟨(by show 1 ≤ sizeLine; decide), fun p2 h2 => ?_⟩
    have e2 := same_new h2 (.tup [(.str "and")])
    have c2 := c1.trans e2
    have f2 := at_new h2 (.tup [(.str "and")])
    -- 2
    have b2 : BadV _ (.ref p2) := ⟨no1 f2, kn_tup f2 (all1 (kn_str (by decide +kernel)))⟩
    refine ⟨_, rfl, ?_⟩
    refine ⟨(by show 2 ≤ sizeLine; decide), fun p3 h3 => ?_⟩
    have e3 := same_new h3 (.tup [(.str "some"), (.str "p")])
    have c3 := c2.trans e3
    have f3 := at_new h3 (.tup [(.str "some"), (.str "p")])
    -- 3
    have b3 : BadV _ (.ref p3) := ⟨no2 f3, kn_tup f3 (all2 (kn_str (by decide +kernel)) (kn_str (Nat.le_trans wlen (by decide))))⟩
    refine ⟨_, rfl, ?_⟩
    refine ⟨(by show 3 ≤ sizeLine; decide), fun p4 h4 => ?_⟩
    have e4 := same_new h4 (.tup [(.str "some"), (.str "all"), v])
    have c4 := c3.trans e4
    have f4 := at_new h4 (.tup [(.str "some"), (.str "all"), v])
    -- 4
    have b4 : BadV _ (.ref p4) := ⟨noW f4 (by decide +kernel), kn_tup f4 (all3 (kn_str (by decide +kernel)) (kn_str (by decide +kernel)) (kn_up (hv.same c4) (by decide)))⟩
    refine ⟨_, rfl, ?_⟩
    refine ⟨(by show 3 ≤ sizeLine; decide), fun p5 h5 => ?_⟩
    have e5 := same_new h5 (.tup [(.str "some"), (.str "none"), v])
    have c5 := c4.trans e5
    have f5 := at_new h5 (.tup [(.str "some"), (.str "none"), v])
    -- 5
    have b5 : BadV _ (.ref p5) := ⟨noW f5 (by decide +kernel), kn_tup f5 (all3 (kn_str (by decide +kernel)) (kn_str (by decide +kernel)) (kn_up (hv.same c5) (by decide)))⟩
    refine ⟨_, rfl, ?_⟩
    refine ⟨_, rfl, ?_⟩
    refine ⟨_, rfl, ?_⟩
    refine ⟨(by show 4 ≤ sizeLine; decide), fun p6 h6 => ?_⟩
    have e6 := same_new h6 (.tup [(.str "some"), (.str "p"), v, v])
    have c6 := c5.trans e6
    have f6 := at_new h6 (.tup [(.str "some"), (.str "p"), v, v])
    -- 6
    have b6 : BadV _ (.ref p6) := ⟨no4 f6, kn_tup f6 (all4 (kn_str (by decide +kernel)) (kn_str (Nat.le_trans wlen (by decide))) (kn_up (hv.same c6) (by decide)) (kn_up (hv.same c6) (by decide)))⟩
    refine ⟨_, rfl, ?_⟩
    refine ⟨_, rfl, ?_⟩
    refine ⟨(by show 3 ≤ sizeLine; decide), fun p7 h7 => ?_⟩
    have e7 := same_new h7 (.tup [(.str "or"), v, v])
    have c7 := c6.trans e7
    have f7 := at_new h7 (.tup [(.str "or"), v, v])
    -- 7
    have b7 : BadV _ (.ref p7) := ⟨noK f7 (by decide +kernel) (by decide +kernel), kn_tup f7 (all3 (kn_str (by decide +kernel)) (kn_up (hv.same c7) (by decide)) (kn_up (hv.same c7) (by decide)))⟩
    refine ⟨_, rfl, ?_⟩
    refine ⟨_, rfl, ?_⟩
    refine ⟨(by show 3 ≤ sizeLine; decide), fun p8 h8 => ?_⟩
    have e8 := same_new h8 (.lst [(.str "and"), v, v])
    have c8 := c7.trans e8
    have f8 := at_new h8 (.lst [(.str "and"), v, v])
    -- 8
    have b8 : BadV _ (.ref p8) := ⟨noL f8, kn_lst f8⟩
    -- 9
    -- 10
    -- 11
    -- 12
    refine ⟨_, rfl, _, _, rfl, rfl, wl1, ?_⟩
    -- 13
    refine ⟨_, rfl, ⟨_, rfl⟩, "p", rfl, rfl, wlu, ?_⟩
    -- 14
    refine ⟨_, rfl, _, _, rfl, rfl, wl2, ?_⟩
    -- 15
    -- 16
    refine ⟨_, rfl, _, _, rfl, rfl, wl13, ?_⟩
    -- 17
    refine ⟨_, rfl, ?_⟩
    refine ⟨(by show 3 ≤ sizeLine; decide), fun p9 h9 => ?_⟩
    have e9 := same_new h9 (.tup [(.str "some"), (.int 1), v])
    have c9 := c8.trans e9
    have f9 := at_new h9 (.tup [(.str "some"), (.int 1), v])
    -- 18
    have b18 : BadV _ (.ref p9) := ⟨noW f9 rfl, kn_tup f9 (all3 (kn_str (by decide +kernel)) kn_int (kn_up (hv.same c9) (by decide)))⟩
    refine ⟨_, rfl, ?_⟩
    refine ⟨_, rfl, ?_⟩
    refine ⟨_, rfl, ?_⟩
    refine ⟨(by show 3 ≤ sizeLine; decide), fun p10 h10 => ?_⟩
    have e10 := same_new h10 (.lst [(.str "and"), v, v])
    have c10 := c9.trans e10
    have f10 := at_new h10 (.lst [(.str "and"), v, v])
    refine ⟨(by show 3 ≤ sizeLine; decide), fun p11 h11 => ?_⟩
    have e11 := same_new h11 (.tup [(.str "and"), v, (.ref p10)])
    have c11 := c10.trans e11
    have f11 := at_new h11 (.tup [(.str "and"), v, (.ref p10)])
    -- 19
    have b19 : BadV _ (.ref p11) := ⟨noA f11 (noL (e11 _ _ f10)), kn_tup f11 (all3 (kn_str (by decide +kernel)) (kn_up (hv.same c11) (by decide)) (kn_lst (e11 _ _ f10)))⟩
    refine ⟨_, rfl, ?_⟩
    refine ⟨(by show 1 ≤ sizeLine; decide), fun p12 h12 => ?_⟩
    have e12 := same_new h12 (.tup [v])
    have c12 := c11.trans e12
    have f12 := at_new h12 (.tup [v])
    refine ⟨_, rfl, ?_⟩
    refine ⟨_, rfl, ?_⟩
    refine ⟨(by show 3 ≤ sizeLine; decide), fun p13 h13 => ?_⟩
    have e13 := same_new h13 (.tup [(.ref p12), v, v])
    have c13 := c12.trans e13
    have f13 := at_new h13 (.tup [(.ref p12), v, v])
    -- 20
    have b20 : BadV _ (.ref p13) := ⟨noR f13, kn_tup f13 (all3 (kn_tup1 (e13 _ _ f12) (kn_up (hv.same c13) (by decide))) (kn_up (hv.same c13) (by decide)) (kn_up (hv.same c13) (by decide)))⟩
    refine ⟨_, rfl, ?_⟩
    refine ⟨(by show 3 ≤ sizeLine; decide), fun p14 h14 => ?_⟩
    have e14 := same_new h14 (.tup [(.str "and"), v, (.int 0)])
    have c14 := c13.trans e14
    have f14 := at_new h14 (.tup [(.str "and"), v, (.int 0)])
    -- 21
    have b21 : BadV _ (.ref p14) := ⟨noA f14 noI, kn_tup f14 (all3 (kn_str (by decide +kernel)) (kn_up (hv.same c14) (by decide)) kn_int)⟩
    refine ⟨_, rfl, ?_⟩
    refine ⟨(by show 3 ≤ sizeLine; decide), fun p15 h15 => ?_⟩
    have e15 := same_new h15 (.tup [(.str "some"), (.str "some"), v])
    have c15 := c14.trans e15
    have f15 := at_new h15 (.tup [(.str "some"), (.str "some"), v])
    -- 22
    have b22 : BadV _ (.ref p15) := ⟨noW f15 (by decide +kernel), kn_tup f15 (all3 (kn_str (by decide +kernel)) (kn_str (by decide +kernel)) (kn_up (hv.same c15) (by decide)))⟩
    refine ⟨_, rfl, ?_⟩
    refine ⟨_, rfl, ?_⟩
    refine ⟨(by show 3 ≤ sizeLine; decide), fun p16 h16 => ?_⟩
    have e16 := same_new h16 (.tup [(.int 1), (.str "p"), v])
    have c16 := c15.trans e16
    have f16 := at_new h16 (.tup [(.int 1), (.str "p"), v])
    -- 23
    have b23 : BadV _ (.ref p16) := ⟨noR2 f16, kn_tup f16 (all3 kn_int (kn_str (Nat.le_trans wlen (by decide))) (kn_up (hv.same c16) (by decide)))⟩
    refine ⟨(by show 0 ≤ sizeLine; decide), fun p17 h17 => ?_⟩
    have e17 := same_new h17 (.tup [])
    have c17 := c16.trans e17
    have f17 := at_new h17 (.tup [])
    -- 24
    have b24 : BadV _ (.ref p17) := ⟨no0 f17, kn_tup f17 (all0 )⟩
    refine ⟨(by show 24 ≤ sizeLine; decide), fun l hl => ?_⟩
    have k17 := same_new hl (.lst [(.ref p1), (.ref p2), (.ref p3), (.ref p4), (.ref p5), (.ref p6), (.ref p7), (.ref p8), .non, (.bl true), (.int 3), (.str ""), (.str ("p" ++ "A")), (.str (PySem.Txt.upper "p")), (.str ("p" ++ " ")), (.str "some"), (.str ("p" ++ "abcdefghijklm")), (.ref p9), (.ref p11), (.ref p13), (.ref p14), (.ref p15), (.ref p16), (.ref p17)])
    have k16 := e17.trans k17
    have k15 := e16.trans k16
    have k14 := e15.trans k15
    have k13 := e14.trans k14
    have k12 := e13.trans k13
    have k11 := e12.trans k12
    have k10 := e11.trans k11
    have k9 := e10.trans k10
    have k8 := e9.trans k9
    have k7 := e8.trans k8
    have k6 := e7.trans k7
    have k5 := e6.trans k6
    have k4 := e5.trans k5
    have k3 := e4.trans k4
    have k2 := e3.trans k3
    have k1 := e2.trans k2
    refine q _ l _ (c17.trans k17) (at_new hl _) (c17.free hl) (by show 0 < 24; decide) (by show 24 ≤ 100; decide) (fun b hb => ?_)
    simp only [List.mem_cons, List.not_mem_nil, or_false] at hb
    rcases hb with rfl | rfl | rfl | rfl | rfl | rfl | rfl | rfl | rfl | rfl | rfl | rfl | rfl | rfl | rfl | rfl | rfl | rfl | rfl | rfl | rfl | rfl | rfl | rfl
    · exact b1.same k1
    · exact b2.same k2
    · exact b3.same k3
    · exact b4.same k4
    · exact b5.same k5
    · exact b6.same k6
    · exact b7.same k7
    · exact b8.same k8
    · exact ⟨noNon, kn_non⟩
    · exact ⟨noBl, kn_bl⟩
    · exact ⟨noI, kn_int⟩
    · exact ⟨noS (by decide +kernel), kn_str (by decide +kernel)⟩
    · exact ⟨noL1 (by decide +kernel), kn_str wb1⟩
    · exact ⟨noUp wl w0n, kn_str wbu⟩
    · exact ⟨noL1 (by decide +kernel), kn_str wb2⟩
    · exact ⟨noS (by decide +kernel), kn_str (by decide +kernel)⟩
    · exact ⟨noLong w0n, kn_str wb13⟩
    · exact b18.same k9
    · exact b19.same k11
    · exact b20.same k13
    · exact b21.same k14
    · exact b22.same k15
    · exact b23.same k16
    · exact b24.same k17
end
end K1
namespace K1
open PySem L2
theorem cap4 : cap 4 = 46 := by decide
theorem told_strOk {N R : List Str} (vo : Vocab N R) {cl : List Con} (hf : ∀ c ∈ cl, Fine N R c) {ys zs : List Str} (h1 : ∀ s, s ∈ ys ↔ ∃ c ∈ cl, s ∈ nms c) (h2 : ∀ s, s ∈ zs ↔ ∃ c ∈ cl, s ∈ rls c) : SeqAt.shaped (toldD ys zs) = true :=
  shaped_told (fun x hx => by
    obtain ⟨c, hc, h⟩ := (h1 x).mp hx
    exact word_strOk (vo.n x (nms_in (hf c hc).1 x h))) (fun x hx => by
    obtain ⟨c, hc, h⟩ := (h2 x).mp hx
    exact word_strOk (vo.r x (rls_in (hf c hc).1 x h)))
theorem eqv_of {d e : PyData} (h : d = e) (s : SeqAt.shaped d = true) : PyData.eqv d e = true := by
  subst h
  exact SeqAt.eqv_refl d (SeqAt.canLay_of_shaped s)
theorem told_eq {cl : List Con} {ys zs ys' zs' : List Str} (a1 : Asc ys) (a2 : Asc zs) (a1' : Asc ys') (a2' : Asc zs') (m1 : ∀ s, s ∈ ys ↔ ∃ c ∈ cl, s ∈ nms c) (m2 : ∀ s, s ∈ zs ↔ ∃ c ∈ cl, s ∈ rls c)
    (m1' : ∀ s, s ∈ ys' ↔ ∃ c ∈ cl, s ∈ nms c) (m2' : ∀ s, s ∈ zs' ↔ ∃ c ∈ cl, s ∈ rls c) : toldD ys zs = toldD ys' zs' := by
  rw [asc_uniq a1 a1' fun s => (m1 s).trans (m1' s).symm, asc_uniq a2 a2' fun s => (m2 s).trans (m2' s).symm]
theorem tS_list : ∀ {l m : List Con}, (∀ x ∈ l, Wf x) → (∀ x ∈ m, Wf x) → l.map tS = m.map tS → l = m
  | [], [], _, _, _ => rfl
  | [], _ :: _, _, _, h => by cases h
  | _ :: _, [], _, _, h => by cases h
  | x :: l, y :: m, h1, h2, h => by
    simp only [List.map_cons, List.cons.injEq] at h
    rw [tS_inj (h1 x (List.mem_cons_self ..)) (h2 y (List.mem_cons_self ..)) h.1, tS_list (fun z hz => h1 z (List.mem_cons_of_mem _ hz)) (fun z hz => h2 z (List.mem_cons_of_mem _ hz)) h.2]
theorem shaped_cons {cl : List Con} (h1 : ∀ c ∈ cl, Wf c) (h2 : ∀ c ∈ cl, nest c ≤ 8) : SeqAt.shaped (.list (cl.map conD)) = true := by
  refine shaped_of ?_ ?_
  · show PyData.canLayAll0 (cl.map conD) = true
    exact lay_cons h1
  · show PyData.depthAll (cl.map conD) + 1 ≤ 64
    have := depth_cons h2
    omega
theorem shaped_bools (l : List Bool) : SeqAt.shaped (.list (boolsD l)) = true := by
  refine shaped_of ?_ ?_
  · exact lay_bools l
  · show PyData.depthAll (boolsD l) + 1 ≤ 64
    rw [depth_bools]
    decide
theorem nest_prt : ∀ {c p : Con}, p ∈ prt c → nest p ≤ nest c := by
  intro c
  induction c with
  | atom s => intro p hp; simp only [prt, List.mem_singleton] at hp; subst hp; exact Nat.le_refl _
  | ex r c ih =>
    intro p hp
    simp only [prt, List.mem_cons] at hp
    rcases hp with rfl | hp
    · exact Nat.le_refl _
    · have := ih hp; simp only [nest]; omega
  | and2 a b iha ihb =>
    intro p hp
    simp only [prt, List.mem_cons, List.mem_append] at hp
    rcases hp with rfl | hp | hp
    · exact Nat.le_refl _
    · have := iha hp; simp only [nest]; omega
    · have := ihb hp; simp only [nest]; omega
  | and3 a b c iha ihb ihc =>
    intro p hp
    simp only [prt, List.mem_cons, List.mem_append] at hp
    rcases hp with rfl | hp | hp | hp
    · exact Nat.le_refl _
    · have := iha hp; simp only [nest]; omega
    · have := ihb hp; simp only [nest]; omega
    · have := ihc hp; simp only [nest]; omega
theorem nodes_prt : ∀ {c p : Con}, p ∈ prt c → nodes p ≤ nodes c := by
  intro c
  induction c with
  | atom s => intro p hp; simp only [prt, List.mem_singleton] at hp; subst hp; exact Nat.le_refl _
  | ex r c ih =>
    intro p hp
    simp only [prt, List.mem_cons] at hp
    rcases hp with rfl | hp
    · exact Nat.le_refl _
    · have := ih hp; simp only [nodes]; omega
  | and2 a b iha ihb =>
    intro p hp
    simp only [prt, List.mem_cons, List.mem_append] at hp
    rcases hp with rfl | hp | hp
    · exact Nat.le_refl _
    · have := iha hp; simp only [nodes]; omega
    · have := ihb hp; simp only [nodes]; omega
  | and3 a b c iha ihb ihc =>
    intro p hp
    simp only [prt, List.mem_cons, List.mem_append] at hp
    rcases hp with rfl | hp | hp | hp
    · exact Nat.le_refl _
    · have := iha hp; simp only [nodes]; omega
    · have := ihb hp; simp only [nodes]; omega
    · have := ihc hp; simp only [nodes]; omega
theorem ToldAt.same {H H' : Hp} {p : Addr} {ys zs : List Str} (h : ToldAt H p ys zs) (e : Same H H') : ToldAt H' p ys zs := by
  obtain ⟨t1, t2, h1, h2, h3⟩ := h
  exact ⟨t1, t2, e _ _ h1, e _ _ h2, e _ _ h3⟩
/-- tuples stay, lists stay lists -/
def TL (H H' : Hp) : Prop := TSame H H' ∧ ∀ b xs, H b = some (.lst xs) → ∃ ys, H' b = some (.lst ys)
theorem TL.pl {H H' : Hp} (e : TL H H') : ∀ {v : L2.V}, Pl H v → Pl H' v
  | .non, h => h
  | .bl _, h => h
  | .int _, h => h
  | .str _, h => h
  | .ref a, h => by
    rcases h with ⟨xs, h⟩ | ⟨xs, h⟩
    · exact .inl (e.2 _ _ h)
    · exact .inr ⟨xs, e.1 _ _ h⟩
  | .byt _, h => h.elim
  | .flt _, h => h.elim
  | .ty _, h => h.elim
theorem TL.kn {H H' : Hp} (e : TL H H') : ∀ {m : Nat} {v : L2.V}, Kn H m v → Kn H' m v
  | 0, v, h => ⟨e.pl h.1, fun a xs hv q => by
    subst hv
    rcases h.1 with ⟨ys, g⟩ | ⟨ys, g⟩
    · obtain ⟨zs, g'⟩ := e.2 _ _ g
      rw [g'] at q; cases q
    · exact h.2 _ _ rfl g⟩
  | m + 1, v, h => ⟨e.pl h.1, fun a xs hv q x hx => by
    subst hv
    rcases h.1 with ⟨ys, g⟩ | ⟨ys, g⟩
    · obtain ⟨zs, g'⟩ := e.2 _ _ g
      rw [g'] at q; cases q
    · have q' := e.1 _ _ g
      rw [q] at q'
      cases q'
      exact TL.kn e (h.2 _ _ rfl g x hx)⟩
theorem TL.nested {H H' : Hp} (e : TL H H') : ∀ {n m : Nat} {v : L2.V}, Kn H m v → nestedB H' n v = nestedB H n v
  | n, m, .str s, _ => by rw [nestedB_str, nestedB_str]
  | 0, m, .ref a, _ => rfl
  | n + 1, m, .ref a, h => by
    rcases h.pl with ⟨ys, g⟩ | ⟨ys, g⟩
    · obtain ⟨zs, g'⟩ := e.2 _ _ g
      simp only [nestedB, g, g']
    · have hk : ∀ x ∈ ys, ∃ m', Kn H m' x := by
        cases m with
        | zero => exact (h.2 _ _ rfl g).elim
        | succ m => exact fun x hx => ⟨m, h.2 _ _ rfl g x hx⟩
      simp only [nestedB, g, e.1 _ _ g]
      split
      · rename_i k x y r hz
        cases hz
        have key : ∀ z ∈ (x :: y :: r), nestedB H' n z = nestedB H n z := fun z hz => by
          obtain ⟨m', q⟩ := hk z (List.mem_cons_of_mem _ hz)
          exact TL.nested e q
        rw [key y (by simp)]
        have e2 : (x :: y :: r).all (nestedB H' n) = (x :: y :: r).all (nestedB H n) := by
          rw [Bool.eq_iff_iff, List.all_eq_true, List.all_eq_true]
          exact ⟨fun z w hw => (key w hw) ▸ z w hw, fun z w hw => (key w hw).symm ▸ z w hw⟩
        rw [e2]
      · rfl
  | 0, m, .non, _ => rfl
  | 0, m, .bl _, _ => rfl
  | 0, m, .int _, _ => rfl
  | 0, m, .byt _, _ => rfl
  | 0, m, .flt _, _ => rfl
  | 0, m, .ty _, _ => rfl
  | n + 1, m, .non, _ => rfl
  | n + 1, m, .bl _, _ => rfl
  | n + 1, m, .int _, _ => rfl
  | n + 1, m, .byt _, _ => rfl
  | n + 1, m, .flt _, _ => rfl
  | n + 1, m, .ty _, _ => rfl
theorem BadV.tl {H H' : Hp} {b : L2.V} (h : BadV H b) (e : TL H H') : BadV H' b := ⟨fun n => by rw [e.nested h.kn]; exact h.no n, e.kn h.kn⟩
theorem tl_draw {H H' : Hp} {d a : Addr} (b : But [d] H H') (h : DrawAt H d a) (h' : DrawAt H' d a) : TL H H' := ⟨b.t h.nt, fun e xs z => by
  by_cases c : e = d
  · subst c
    obtain ⟨ns, n, h1, _⟩ := h'.ex
    exact ⟨_, h1⟩
  · exact ⟨xs, b _ _ (by simpa using c) z⟩⟩
theorem Names.upd {H : Hp} {d tn tr l : Addr} {N R : List Str} {o : HO} (h : Names H d tn tr N R) (n1 : l ≠ tn) (n2 : l ≠ tr) : Names (L2.upd H l o) d tn tr N R :=
  ⟨by rw [upd_ne n1.symm]; exact h.n, by rw [upd_ne n2.symm]; exact h.r, h.nd, h.rd⟩
theorem rep_snoc {α : Type} (b : α) (n : Nat) : List.replicate n b ++ [b] = List.replicate (n + 1) b := by rw [List.replicate_succ']
theorem rep_map (n : Nat) (b : Bool) : (List.replicate n b).map L2.V.bl = List.replicate n (L2.V.bl b) := by rw [List.map_replicate]
theorem rep_flat (n : Nat) (b : L2.V) : (List.replicate n [b]).flatten = List.replicate n b := by
  induction n with
  | zero => rfl
  | succ n ih => rw [List.replicate_succ, List.flatten_cons, ih, List.replicate_succ]; rfl
theorem any_false (n : Nat) : (List.replicate n false).any id = false := by
  induction n with
  | zero => rfl
  | succ n ih => rw [List.replicate_succ, List.any_cons, ih]; rfl
theorem ne_false {d e : PyData} (h : d = e) (s : SeqAt.shaped d = true) : (!PyData.eqv d e) = false := by rw [eqv_of h s]; rfl
section
variable {P : Program} {w : World} {K : PySem.W.Frag} {mg : Str → Option Value} {base : Heap}
def lawK : Nat := 16
def spLaw (K : PySem.W.Frag) : Sp := fun vs H Q _ => ∃ (a : Addr) (ns : List Int), vs = [.ref a] ∧ SqL K H a (ns.map L2.V.int) ∧ ns.length ≤ 63 ∧ ∀ H', Q (.bl true) H'
theorem ok_law (D : Defs K mg) : FnOk P w K mg base CX0 lawK D.d_law.f D.d_law.fd ["script"] (spLaw K) := by
  have GV := ok_vocab (P := P) (w := w) (base := base) D
  have GC := ok_concept (P := P) (w := w) (base := base) D 5
  have GI := ok_is_concept (P := P) (w := w) (base := base) D
  have GP := ok_parts (P := P) (w := w) (base := base) D
  have GO := ok_ordered (P := P) (w := w) (base := base) D
  have GLP := ok_lparts (P := P) (w := w) (base := base) D 9
  have GS := ok_size (P := P) (w := w) (base := base) D
  have GLS := ok_lsize (P := P) (w := w) (base := base) D 9
  have GD := ok_depth (P := P) (w := w) (base := base) D
  have GLD := ok_ldepth (P := P) (w := w) (base := base) D 9
  have GT := ok_text (P := P) (w := w) (base := base) D
  have GLT := ok_ltext (P := P) (w := w) (base := base) D 9
  have GW := ok_words_in (P := P) (w := w) (base := base) D
  have GLW := ok_lwords (P := P) (w := w) (base := base) D
  have GSP := ok_spoilt (P := P) (w := w) (base := base) D
  have GK := ok_pick (P := P) (w := w) (base := base) D
  have GIW := ok_is_word (P := P) (w := w) (base := base) D
  refine D.d_law.F.ok (k := 15) sc_law (fun vs H Q E h => ?_) (fun cdv A outer s H vs Q E hr h => ?_)
  · obtain ⟨a, ns, rfl, _⟩ := h
    rfl
  obtain ⟨a0, ns, rfl, hS, h63, q⟩ := h
  have hr1 : Room 1 _ := hr.mono (by omega)
  have hr4 : Room 4 _ := hr.mono (by omega)
  have hr6 : Room 6 _ := hr.mono (by omega)
  have hr10 : Room 10 _ := hr.mono (by omega)
  have hr11 : Room 11 _ := hr.mono (by omega)
  have hr12 : Room 12 _ := hr.mono (by omega)
  have hr14 : Room 14 _ := hr.mono (by omega)
  have hu := hr.units
  refine ⟨_, (pss_cons (ps_set (i := 1) sc_law.nd rfl (Or.inr rfl) (pe_lst (pa_cons (pe_slice sl_list (pv 0) po_none (po_some pe_int)) (pa_cons pe_int (pa_cons pe_int pa_nil)))))
      (pss_cons (ps_asg (pe_tup (pa_cons (pe_call GV hr6 rfl D.d_law_vocab.m D.d_law_vocab.F.kp D.d_law_vocab.b .nil pass0 (pa_cons (pv 1) (pa_cons pe_int pa_nil))) (pa_cons (pe_call GV hr6 rfl D.d_law_vocab.m D.d_law_vocab.F.kp D.d_law_vocab.b .nil pass0 (pa_cons (pv 1) (pa_cons pe_int pa_nil))) pa_nil))) (pg_tup (by rfl) (pgs_cons (pg_name (i := 2) sc_law.nd rfl (Or.inr rfl)) (pgs_cons (pg_name (i := 3) sc_law.nd rfl (Or.inr rfl)) pgs_nil))))
      (pss_cons (ps_setLc (i := 4) (own := [("turn", 9)]) (g := gName 9) rfl sc_law.nd rfl rfl (sw_true rfl rfl rfl (by decide +kernel)) (pi_range1 rfl D.z_range (pa_cons pe_int pa_nil)) (blkOk_by (N := ["script", "draw", "names", "roles", "found", "concept", "bad", "good", "rest", "turn", "one", "word"]) (sc := defScope s_law) (by decide +kernel)) (fun _ _ _ _ _ => pg_name (i := 9) sc_law.nd rfl (Or.inl rfl)) (fun _ _ _ _ _ => pts_nil) (fun _ _ _ _ _ => (pe_call GC hr10 rfl D.d_law_concept.m D.d_law_concept.F.kp D.d_law_concept.b .nil pass0 (pa_cons (pv 1) (pa_cons (pv 2) (pa_cons (pv 3) (pa_cons (pe_op op_add pe_int (pv 9)) pa_nil)))))))
      (pss_cons (ps_for PassesOwn.never rfl (pi_list (pv 4)) (pg_name (i := 5) sc_law.nd rfl (Or.inl rfl)) (pss_cons (ps_if (PW.pt (pw_or (pt_not (pt_val (pe_call GI hr12 rfl D.d_is_concept.m D.d_is_concept.F.kp D.d_is_concept.b .nil pass0 (pa_cons (pv 5) pa_nil)))) (pw_or1 (pt_cmpR (op_neD hu) (pe_call GP hr14 rfl D.d_parts.m D.d_parts.F.kp D.d_parts.b .nil pass0 (pa_cons (pv 5) pa_nil)) (pe_call GO hr11 rfl D.d_law_ordered.m D.d_law_ordered.F.kp D.d_law_ordered.b .nil pass0 (pa_cons (pe_call GLP hr10 rfl D.d_law_parts.m D.d_law_parts.F.kp D.d_law_parts.b .nil pass0 (pa_cons (pv 5) pa_nil)) pa_nil)) (nomark _))))) (pss_one (ps_ret pe_bl)) pss_nil)
      (pss_cons (ps_if (PW.pt (pw_or (pt_cmpR op_ne (pe_call GS hr14 rfl D.d_size.m D.d_size.F.kp D.d_size.b .nil pass0 (pa_cons (pv 5) pa_nil)) (pe_call GLS hr10 rfl D.d_law_size.m D.d_law_size.F.kp D.d_law_size.b .nil pass0 (pa_cons (pv 5) pa_nil)) (nomark _)) (pw_or1 (pt_cmpR op_ne (pe_call GD hr14 rfl D.d_depth.m D.d_depth.F.kp D.d_depth.b .nil pass0 (pa_cons (pv 5) pa_nil)) (pe_call GLD hr10 rfl D.d_law_depth.m D.d_law_depth.F.kp D.d_law_depth.b .nil pass0 (pa_cons (pv 5) pa_nil)) (nomark _))))) (pss_one (ps_ret pe_bl)) pss_nil)
      (pss_cons (ps_if (PW.pt (pw_or (pt_cmpR op_ne (pe_call GT hr14 rfl D.d_text.m D.d_text.F.kp D.d_text.b .nil pass0 (pa_cons (pv 5) pa_nil)) (pe_call GLT hr10 rfl D.d_law_text.m D.d_law_text.F.kp D.d_law_text.b .nil pass0 (pa_cons (pv 5) pa_nil)) (nomark _)) (pw_or1 (pt_cmpR (op_neD hu) (pe_callF GW hr rfl D.wi_m D.wi_k pass0 (pa_cons (pv 5) pa_nil)) (pe_call GLW hr11 rfl D.d_law_words.m D.d_law_words.F.kp D.d_law_words.b .nil pass0 (pa_cons (pe_lst (pa_cons (pv 5) pa_nil)) pa_nil)) (nomark _))))) (pss_one (ps_ret pe_bl)) pss_nil)
      (pss_cons (ps_set (i := 6) sc_law.nd rfl (Or.inl rfl) (pe_call GSP hr1 rfl D.d_law_spoilt.m D.d_law_spoilt.F.kp D.d_law_spoilt.b .nil pass0 (pa_cons (pv 1) (pa_cons (pv 5) pa_nil))))
      (pss_cons (ps_if (pt_val (pe_callB (cr_any rfl) (by rfl) D.z_any (by decide +kernel) (pa_cons (pe_lc (own := [("one", 10)]) (g := gName 10) rfl sc_law.nd (pi_list (pv 6)) (blkOk_by (N := ["script", "draw", "names", "roles", "found", "concept", "bad", "good", "rest", "turn", "one", "word"]) (sc := defScope s_law) (by decide +kernel)) (fun _ _ _ _ _ => pg_name (i := 10) sc_law.nd rfl (Or.inl rfl)) (fun _ _ _ _ _ => pts_nil) (fun _ _ _ _ _ => (pe_call GI hr12 rfl D.d_is_concept.m D.d_is_concept.F.kp D.d_is_concept.b .nil pass0 (pa_cons (pv 10) pa_nil)))) pa_nil))) (pss_one (ps_ret pe_bl)) pss_nil)
      (pss_one (ps_if (PW.pt (pw_or (pt_val (pe_call GI hr12 rfl D.d_is_concept.m D.d_is_concept.F.kp D.d_is_concept.b .nil pass0 (pa_cons (pe_tup (pa_cons pe_str (pa_cons (pe_ix ix_list (pv 3) pe_int (fun _ _ => rfl)) (pa_cons (pe_call GK hr4 rfl D.d_law_pick.m D.d_law_pick.F.kp D.d_law_pick.b .nil pass0 (pa_cons (pv 1) (pa_cons (pv 6) pa_nil))) pa_nil)))) pa_nil))) (pw_or1 (pt_val (pe_call GI hr12 rfl D.d_is_concept.m D.d_is_concept.F.kp D.d_is_concept.b .nil pass0 (pa_cons (pe_tup (pa_cons pe_str (pa_cons (pe_call GK hr4 rfl D.d_law_pick.m D.d_law_pick.F.kp D.d_law_pick.b .nil pass0 (pa_cons (pv 1) (pa_cons (pv 6) pa_nil))) (pa_cons (pv 5) pa_nil)))) pa_nil)))))) (pss_one (ps_ret pe_bl)) pss_nil))))))))
      (pss_cons (ps_if (PW.pt (pw_or (pt_cmpR (op_neD hu) (pe_callF0 GW hr rfl D.wi_m D.wi_k pass0) (pe_tup (pa_cons (pe_tup pa_nil) (pa_cons (pe_tup pa_nil) pa_nil))) (nomark _))
        (pw_or1 (pt_cmpR (op_neD hu) (pe_callF GW hr rfl D.wi_m D.wi_k pass0 (pa_cons (pe_ix ix_list (pv 4) pe_int (fun _ _ => rfl)) (pa_cons (pe_ix ix_list (pv 4) pe_int (fun _ _ => rfl)) (pa_cons (pe_ix ix_list (pv 4) pe_int (fun _ _ => rfl)) (pa_cons (pe_ix ix_list (pv 4) pe_int (fun _ _ => rfl)) pa_nil))))) (pe_call GLW hr11 rfl D.d_law_words.m D.d_law_words.F.kp D.d_law_words.b .nil pass0 (pa_cons (pv 4) pa_nil)) (nomark _))))) (pss_one (ps_ret pe_bl)) pss_nil)
      (pss_cons (ps_setLc (i := 7) (own := [("word", 11)]) (g := gName 11) rfl sc_law.nd rfl rfl (sw_true rfl rfl rfl (by decide +kernel)) (pi_list (pe_op op_cat (pe_op op_cat (pv 2) (pv 3)) (pe_lst (pa_cons pe_str (pa_cons (pe_op op_mul_str pe_str pe_int) pa_nil))))) (blkOk_by (N := ["script", "draw", "names", "roles", "found", "concept", "bad", "good", "rest", "turn", "one", "word"]) (sc := defScope s_law) (by decide +kernel)) (fun _ _ _ _ _ => pg_name (i := 11) sc_law.nd rfl (Or.inl rfl)) (fun _ _ _ _ _ => pts_nil) (fun _ _ _ _ _ => (pe_call GIW hr1 rfl D.d_is_word.m D.d_is_word.F.kp D.d_is_word.b .nil pass0 (pa_cons (pv 11) pa_nil))))
      (pss_cons (ps_setLc (i := 8) (own := [("word", 11)]) (g := gName 11) rfl sc_law.nd rfl rfl (sw_true rfl rfl rfl (by decide +kernel)) (pi_list (pe_lst (pa_cons pe_str (pa_cons pe_str (pa_cons pe_str (pa_cons pe_str (pa_cons (pe_op op_mul_str pe_str pe_int) (pa_cons (pe_op op_add_str (pe_ix ix_list (pv 2) pe_int (fun _ _ => rfl)) pe_str) (pa_cons pe_non (pa_cons pe_int (pa_cons pe_bl (pa_cons (pe_tup (pa_cons (pe_ix ix_list (pv 2) pe_int (fun _ _ => rfl)) pa_nil)) pa_nil)))))))))))) (blkOk_by (N := ["script", "draw", "names", "roles", "found", "concept", "bad", "good", "rest", "turn", "one", "word"]) (sc := defScope s_law) (by decide +kernel)) (fun _ _ _ _ _ => pg_name (i := 11) sc_law.nd rfl (Or.inl rfl)) (fun _ _ _ _ _ => pts_nil) (fun _ _ _ _ _ => (pe_call GIW hr1 rfl D.d_is_word.m D.d_is_word.F.kp D.d_is_word.b .nil pass0 (pa_cons (pv 11) pa_nil))))
      (pss_one (ps_ret (pe_and (pe_cmpR (op_eqD hu) (pv 7) (pe_op op_rep (pe_lst (pa_cons pe_bl pa_nil)) (pe_callB call_len_seq (by rfl) D.z_len (by decide +kernel) (pa_cons (pv 7) pa_nil))) (nomark _)) (pe_one (pe_cmpR (op_eqD hu) (pv 8) (pe_op op_rep (pe_lst (pa_cons pe_bl pa_nil)) pe_int) (nomark _))))))))))))), ?_⟩
  -- the draws
  refine ⟨_, rfl, _, rfl, a0, _, rfl, hS, fun sc hsc => ⟨(by show 3 ≤ sizeLine; decide), fun d hd0 => ?_⟩⟩
  have ec : cutV (ns.map L2.V.int) none (some 63) = ns.map L2.V.int := by
    simp only [cutV, HT.sIx, List.drop_zero, List.length_map]
    rw [if_neg (by omega), Nat.sub_zero]
    exact List.take_of_length_le (by rw [List.length_map]; show ns.length ≤ min 63 ns.length; omega)
  have g1 := same_new hsc (.lst (cutV (ns.map L2.V.int) none (some 63)))
  have hsd : sc ≠ d := ne_of_none upd_same hd0
  have dr0 : DrawAt (upd (upd H sc (.lst (cutV (ns.map L2.V.int) none (some 63)))) d (.lst [.ref sc, .int 0, .int 0])) d sc := ⟨ns, 0, upd_same, by rw [upd_ne hsd, upd_same, ec], Int.le_refl 0⟩
  -- the words
  refine ⟨_, rfl, d, sc, 3, rfl, dr0, by decide, by decide, fun H1 tn N okN b1 dr1 hn1 newn => ?_⟩
  refine ⟨_, rfl, d, sc, 2, rfl, dr1, by decide, by decide, fun H2 tr R okR b2 dr2 hr2 newr => ?_⟩
  have tnd : tn ≠ d := (ne_of_none upd_same newn).symm
  have trd : tr ≠ d := (dr1.new newr).1
  have hn2 := b2 _ _ (by simpa using tnd) hn1
  refine ⟨(by show 2 ≤ sizeLine; decide), fun p0 hp0 => ⟨p0, _, rfl, SqT.of upd_same, rfl, _, _, rfl, _, _, rfl, rfl, ?_⟩⟩
  have gp0 := same_new hp0 (.tup [.ref tn, .ref tr])
  have dr3 := dr2.same gp0
  have nm3 : Names (upd H2 p0 (.tup [.ref tn, .ref tr])) d tn tr N R := ⟨gp0 _ _ hn2, gp0 _ _ hr2, tnd, trd⟩
  obtain ⟨lN, okN⟩ := okN
  obtain ⟨lR, okR⟩ := okR
  have vo : Voc2 N R := ⟨⟨okN, okR, by omega, by omega⟩, by omega, by omega⟩
  -- the concepts
  refine ⟨4, rfl, by decide, by decide, fun D0 hD => ?_⟩
  obtain ⟨hDd, hDa⟩ := dr3.new hD
  have hDn : D0 ≠ tn := (ne_of_none nm3.n hD).symm
  have hDr : D0 ≠ tr := (ne_of_none nm3.r hD).symm
  refine lc_range (lo := 0) (n := 4) (fun i H4 => But [D0, d] (upd H2 p0 (.tup [.ref tn, .ref tr])) H4 ∧ DrawAt H4 d sc ∧ Names H4 d tn tr N R ∧ ∃ vs cl, H4 D0 = some (.lst vs) ∧ Paired (ConAt H4) cl vs ∧ cl.length = i ∧ ∀ c ∈ cl, In N R c ∧ nest c ≤ 4 ∧ nodes c ≤ 46)
    ⟨But.new hD, dr3.same (same_new hD _), nm3.same (same_new hD _), [], [], upd_same, .nil, rfl, fun c hc => by cases hc⟩ ?_ ?_
  · rintro i H4 hi ⟨b4, dr4, nm4, vs, cl, h4, pk4, lc4, f4⟩
    have hi4 : i < 4 := hi
    have em : ([L2.V.ref d, .ref tn, .ref tr, .int (1 + (0 + (i : Int)))] ++ []) = [L2.V.ref d, .ref tn, .ref tr, .int ((i + 1 : Nat) : Int)] := by
      rw [show (1 + (0 + (i : Int))) = ((i + 1 : Nat) : Int) by omega]; rfl
    refine ⟨rfl, _, rfl, _, rfl, _, rfl, _, rfl, _, _, rfl, rfl, d, sc, tn, tr, N, R, i + 1, em, (show i + 1 ≤ 4 by omega), dr4, nm4, vo, fun H5 v c k1 k2 k3 k4 b5 dr5 => ?_⟩
    have h5 := b5 _ _ (by simpa using hDd) h4
    have t5 : TSame H5 (upd H5 D0 (.lst (vs ++ [v]))) := (But.put (D := [D0]) (by simp)).t fun e he xs z => by
      simp only [List.mem_singleton] at he
      subst he
      rw [h5] at z
      cases z
    have hcap : cap (i + 1) ≤ 46 := by
      have : i = 0 ∨ i = 1 ∨ i = 2 ∨ i = 3 := by omega
      rcases this with rfl | rfl | rfl | rfl <;> decide
    refine ⟨vs, h5, ?_, (b4.trans (b5.mono (by simp))).trans (But.put (by simp)), dr5.upd hDd hDa, (nm4.but b5).upd hDn hDr, vs ++ [v], cl ++ [c], upd_same, paired_snoc (k1.t t5) (paired_t ((b5.t dr4.nt).trans t5) pk4), by rw [List.length_append, lc4]; rfl, fun x hx => ?_⟩
    · rw [← paired_len pk4]
      exact small1000 (by omega)
    · rcases List.mem_append.mp hx with hx | hx
      · exact f4 x hx
      · simp only [List.mem_singleton] at hx
        subst hx
        exact ⟨k2, by omega, by omega⟩
  rintro Hf ⟨bf, drf, nmf, vs4, cl4, hvf, pkf, lcf, ff⟩
  have fine : ∀ c ∈ cl4, Fine N R c := fun c hc => ⟨(ff c hc).1, by have := (ff c hc).2.1; omega, by have := (ff c hc).2.2; omega⟩
  -- the loop
  refine ⟨_, rfl, D0, rfl, ⟨_, SqL.of hvf⟩, for_list (K := K) (a := D0) (xs := vs4) (fun i σ H5 => But [d] Hf H5 ∧ DrawAt H5 d sc ∧ ∃ o5 o6, σ = [some (.ref a0), some (.ref d), some (.ref tn), some (.ref tr), some (.ref D0), o5, o6, none, none, none, none, none])
    ⟨But.refl _, drf, none, none, rfl⟩ (fun i σ H5 _ hh => SqL.of (hh.1 _ _ (by simpa using hDd) hvf)) ?_ ?_⟩
  · rintro i x σ H5 hi ⟨b5, dr5, o5, o6, rfl⟩
    obtain ⟨c, hc1, hc2⟩ := paired_get pkf hi
    have hc := List.mem_of_getElem? hc1
    have F := fine c hc
    have wf := fine_wf vo.toVocab F
    have nm5 := nmf.but b5
    have cx5 : ConAt H5 c x := hc2.t (b5.t drf.nt)
    obtain ⟨kx, nx⟩ := fine_nested vo.toVocab F cx5
    -- is_concept, parts
    refine ⟨_, rfl, x, rfl, kx, fun H6 g6 => ⟨_, rfl, ?_⟩⟩
    rw [nx]
    refine iteF ?_
    have cx6 := cx5.same g6
    refine ⟨_, rfl, x, c, N, R, rfl, cx6, vo.toVocab, F, fun H7 p1 w1 cl1 g7 hp1 pk1 wf1 as1 mm1 => ?_⟩
    have cx7 := cx6.same g7
    refine ⟨_, rfl, x, c, rfl, cx7, F.2.1, by have := F.2.2; omega, fun H8 p2 w2 g8 hp2 new2 pk2 => ?_⟩
    have wprt : ∀ y ∈ prt c, Wf y ∧ nest y ≤ 8 ∧ nodes y ≤ 100 := fun y hy => ⟨wf_of vo.n vo.r (prt_in F.1 y hy), Nat.le_trans (nest_prt hy) F.2.1, by have := nodes_prt hy; have := F.2.2; omega⟩
    refine ⟨p2, w2, prt c, rfl, hp2, pk2, wprt, by rw [prt_len]; have := F.2.2; omega, fun H9 r9 us ds g9 hr9 pk9 in9 as9 mm9 => ?_⟩
    have wds : ∀ y ∈ ds, Wf y := fun y hy => (wprt y (in9 y hy)).1
    have e1 : cl1 = ds := tS_list wf1 wds (asc_uniq as1 as9 fun s => (mm1 s).trans (mm9 s).symm)
    have nds : ∀ y ∈ ds, nest y ≤ 8 := fun y hy => (wprt y (in9 y hy)).2.1
    have g79 : Same H7 H9 := g8.trans g9
    refine ⟨.list (cl1.map conD), .list (ds.map conD), .lst (SqL.of (g79 _ _ hp1)) (dp_cons (kids_same g79 pk1)), .lst (SqL.of hr9) (dp_cons pk9), by rw [e1]; exact shaped_cons wds nds, shaped_cons wds nds, _, rfl, ?_⟩
    rw [ne_false (by rw [e1]) (by rw [e1]; exact shaped_cons wds nds)]
    refine iteF ?_
    have cx9 := cx7.same g79
    -- size, depth
    refine ⟨_, rfl, x, c, N, R, rfl, cx9, vo.toVocab, F, fun H10 g10 => ⟨_, rfl, x, c, rfl, cx9.same g10, F.2.1, fun H11 g11 => ⟨rfl, _, rfl, iteNS rfl ?_⟩⟩⟩
    have cx11 := (cx9.same g10).same g11
    refine ⟨_, rfl, x, c, N, R, rfl, cx11, vo.toVocab, F, fun H12 g12 => ⟨_, rfl, x, c, rfl, cx11.same g12, F.2.1, fun H13 g13 => ⟨rfl, _, rfl, iteNS rfl ?_⟩⟩⟩
    have cx13 := (cx11.same g12).same g13
    -- text, words
    refine ⟨_, rfl, x, c, N, R, rfl, cx13, vo.toVocab, F, fun H14 g14 => ⟨_, rfl, x, c, rfl, cx13.same g14, wf, F.2.1, by have := F.2.2; omega, fun H15 g15 => ⟨rfl, _, rfl, iteNS rfl ?_⟩⟩⟩
    have cx15 := (cx13.same g14).same g15
    have f1 : ∀ y ∈ [c], Fine N R y := fun y hy => by simp only [List.mem_singleton] at hy; subst hy; exact F
    refine ⟨_, rfl, [c], N, R, .cons cx15 .nil, (by show 1 ≤ 8; decide), vo.toVocab, f1, fun H16 r16 ys zs g16 T16 a1 a2 m1 m2 => ?_⟩
    refine ⟨_, rfl, (by show 1 ≤ sizeLine; decide), fun p3 hp3 => ?_⟩
    have gp3 := same_new hp3 (.lst [x])
    refine ⟨p3, [x], [c], N, R, rfl, upd_same, .cons ((cx15.same g16).same gp3) .nil, (by show 1 ≤ 8; decide), vo.toVocab, f1, fun H17 r17 ys' zs' g17 T17 a1' a2' m1' m2' => ?_⟩
    have eT := told_eq a1 a2 a1' a2' m1 m2 m1' m2'
    have sT := told_strOk vo.toVocab f1 m1 m2
    refine ⟨toldD ys zs, toldD ys' zs', dp_told (T16.same (gp3.trans g17)), dp_told T17, sT, by rw [← eT]; exact sT, _, rfl, ?_⟩
    rw [ne_false eT sT]
    refine iteF ?_
    have g5 : Same H5 H17 := g6.trans (g7.trans (g79.trans (g10.trans (g11.trans (g12.trans (g13.trans (g14.trans (g15.trans (g16.trans (gp3.trans g17))))))))))
    have cx17 := cx5.same g5
    -- what is spoilt
    refine ⟨_, rfl, _, rfl, .ref d, x, c, rfl, cx17, wf, by have := (ff c hc).2.1; omega, fun Hb lb bs gb hb newb posb lenb badb => ?_⟩
    refine ⟨_, rfl, lb, rfl, ⟨_, SqL.of hb⟩, fun D1 hD1 => ?_⟩
    have lbD : lb ≠ D1 := ne_of_none hb hD1
    refine lc_list (K := K) (a := lb) (xs := bs) (fun j H18 => But [D1] (upd Hb D1 (.lst [])) H18 ∧ H18 D1 = some (.lst ((List.replicate j false).map L2.V.bl)))
      ⟨But.refl _, upd_same⟩ (fun j H18 _ hh => SqL.of (hh.1 _ _ (by simpa using lbD) (by rw [upd_ne lbD]; exact hb))) ?_ ?_
    · rintro j b H18 hj ⟨b18, h18⟩
      have s18 : Same Hb H18 := But.back (Same.refl Hb) hD1 b18
      have bb := (badb b (List.mem_of_getElem? hj)).same s18
      have hj' : j < bs.length := (List.getElem?_eq_some_iff.mp hj).1
      refine ⟨rfl, _, rfl, b, rfl, kn_up bb.kn (by decide), fun H19 g19 => ⟨_, g19 _ _ h18, ?_, (b18.trans (But.of g19)).trans (But.put (by simp)), ?_⟩⟩
      · rw [List.length_map, List.length_replicate]
        exact small1000 (by omega)
      · rw [upd_same, bb.no 100, rep_map, rep_map, rep_snoc]
    · rintro H18 ⟨b18, h18⟩
      have s18 : Same Hb H18 := But.back (Same.refl Hb) hD1 b18
      refine ⟨D1, List.replicate bs.length false, rfl, SqL.of h18, _, rfl, ?_⟩
      rw [any_false]
      refine iteF ?_
      have dr18 : DrawAt H18 d sc := ((dr5.same g5).same gb).same s18
      have nm18 : Names H18 d tn tr N R := ((nm5.same g5).same gb).same s18
      have lbd : lb ≠ d := ((dr5.same g5).new newb).1
      have hb18 := s18 _ _ hb
      obtain ⟨y0, R', eR⟩ : ∃ y0 R', R = y0 :: R' := by
        have := vo.pr
        cases R with
        | nil => cases this
        | cons a b => exact ⟨a, b, rfl⟩
      have hr18 := nm18.r
      rw [eR] at hr18
      have y12 : y0.length ≤ 12 := word_len (vo.r y0 (by rw [eR]; simp))
      -- some of a bad one
      refine ⟨_, rfl, tr, _, _, _, rfl, rfl, SqL.of hr18, atI_nat (j := 0) rfl, _, rfl, _, rfl, d, sc, lb, bs, rfl, dr18, hb18, lbd, posb, fun H20 b hbm b20 dr20 => ⟨(by show 3 ≤ sizeLine; decide), fun pt hpt => ?_⟩⟩
      have tl20 := tl_draw b20 dr18 dr20
      have bb20 := ((badb b hbm).same s18).tl tl20
      have gpt := same_new hpt (.tup [.str "some", .str y0, b])
      have bb21 := bb20.same gpt
      have fpt := at_new hpt (.tup [.str "some", .str y0, b])
      refine ⟨.ref pt, rfl, kn_tup fpt (all3 (kn_str (by decide +kernel)) (kn_str (Nat.le_trans y12 (by decide))) (kn_up bb21.kn (by decide))), fun H22 g22 => ⟨_, rfl, ?_⟩⟩
      rw [noS1 fpt bb21.no 100]
      refine iteF ?_
      -- and of a bad one
      have s2022 : Same H20 H22 := gpt.trans g22
      have dr22 := dr20.same s2022
      have hb22 := s2022 _ _ (b20 _ _ (by simpa using lbd) hb18)
      refine ⟨_, rfl, _, rfl, d, sc, lb, bs, rfl, dr22, hb22, lbd, posb, fun H23 b' hbm' b23 dr23 => ?_⟩
      have tl23 := tl_draw b23 dr22 dr23
      have bb23 := ((((badb b' hbm').same s18).tl tl20).same s2022).tl tl23
      have kx23 : Kn H23 8 x := tl23.kn ((tl20.kn ((((con_kn (m := 8) cx5 F.2.1).same g5).same gb).same s18)).same s2022)
      refine ⟨_, rfl, (by show 3 ≤ sizeLine; decide), fun pu hpu => ?_⟩
      have gpu := same_new hpu (.tup [.str "and", b', x])
      have bb24 := bb23.same gpu
      have fpu := at_new hpu (.tup [.str "and", b', x])
      refine ⟨.ref pu, rfl, kn_tup fpu (all3 (kn_str (by decide +kernel)) (kn_up bb24.kn (by decide)) (kx23.same gpu)), fun H25 g25 => ⟨_, rfl, ?_⟩⟩
      rw [noA1 fpu bb24.no 100]
      refine iteF ⟨?_, (dr23.same gpu).same g25, _, _, rfl⟩
      exact (((((b5.trans (But.of g5)).trans (But.of gb)).trans (But.of s18)).trans b20).trans (But.of s2022)).trans (b23.trans (But.of (gpu.trans g25)))
  · rintro σ H5 ⟨b5, dr5, o5, o6, rfl⟩
    have nm5 := nmf.but b5
    have hv5 := b5 _ _ (by simpa using hDd) hvf
    have pk5 : Paired (ConAt H5) cl4 vs4 := paired_t (b5.t drf.nt) pkf
    -- no words at all
    refine ⟨[], N, R, .nil, (by show 0 ≤ 8; decide), vo.toVocab, (fun c hc => by cases hc), fun H6 r6 ys zs g6 T6 a1 a2 m1 m2 => ?_⟩
    have ey : ys = [] := List.eq_nil_iff_forall_not_mem.mpr fun s hs => by obtain ⟨c, hc, _⟩ := (m1 s).mp hs; cases hc
    have ez : zs = [] := List.eq_nil_iff_forall_not_mem.mpr fun s hs => by obtain ⟨c, hc, _⟩ := (m2 s).mp hs; cases hc
    subst ey ez
    refine ⟨(by show 0 ≤ sizeLine; decide), fun q1 hq1 => ⟨(by show 0 ≤ sizeLine; decide), fun q2 hq2 => ⟨(by show 2 ≤ sizeLine; decide), fun q3 hq3 => ?_⟩⟩⟩
    have gq1 := same_new hq1 (.tup [])
    have gq2 := same_new hq2 (.tup [])
    have gq3 := same_new hq3 (.tup [.ref q1, .ref q2])
    have T7 : ToldAt (upd (upd (upd H6 q1 (.tup [])) q2 (.tup [])) q3 (.tup [.ref q1, .ref q2])) q3 [] [] := ⟨q1, q2, upd_same, gq3 _ _ (gq2 _ _ upd_same), gq3 _ _ upd_same⟩
    have sh0 : SeqAt.shaped (toldD [] []) = true := shaped_told (fun x hx => by cases hx) (fun x hx => by cases hx)
    refine ⟨toldD [] [], toldD [] [], dp_told (T6.same (gq1.trans (gq2.trans gq3))), dp_told T7, sh0, sh0, _, rfl, ?_⟩
    rw [ne_false rfl sh0]
    refine iteF ?_
    have g57 := g6.trans (gq1.trans (gq2.trans gq3))
    -- all four
    have hv7 := g57 _ _ hv5
    have pk7 := kids_same g57 pk5
    obtain ⟨c0, c1, c2, c3, rfl⟩ : ∃ c0 c1 c2 c3, cl4 = [c0, c1, c2, c3] := by
      rcases cl4 with _ | ⟨c0, _ | ⟨c1, _ | ⟨c2, _ | ⟨c3, _ | ⟨c4, r⟩⟩⟩⟩⟩
      · cases lcf
      · cases lcf
      · cases lcf
      · cases lcf
      · exact ⟨c0, c1, c2, c3, rfl⟩
      · exact absurd lcf (by show ¬ (r.length + 5 = 4); omega)
    obtain ⟨x0, x1, x2, x3, rfl⟩ : ∃ x0 x1 x2 x3, vs4 = [x0, x1, x2, x3] := by
      have l4 := paired_len pkf
      rcases vs4 with _ | ⟨c0, _ | ⟨c1, _ | ⟨c2, _ | ⟨c3, _ | ⟨c4, r⟩⟩⟩⟩⟩
      · cases l4
      · cases l4
      · cases l4
      · cases l4
      · exact ⟨c0, c1, c2, c3, rfl⟩
      · exact absurd l4 (by show ¬ (4 = r.length + 5); omega)
    refine ⟨_, rfl, D0, _, _, _, rfl, rfl, SqL.of hv7, atI_nat (j := 0) rfl, _, rfl, D0, _, _, _, rfl, rfl, SqL.of hv7, atI_nat (j := 1) rfl, _, rfl, D0, _, _, _, rfl, rfl, SqL.of hv7, atI_nat (j := 2) rfl, _, rfl, D0, _, _, _, rfl, rfl, SqL.of hv7, atI_nat (j := 3) rfl, ?_⟩
    refine ⟨[c0, c1, c2, c3], N, R, pk7, (by show 4 ≤ 8; decide), vo.toVocab, fine, fun H8 r8 ys zs g8 T8 a1 a2 m1 m2 => ?_⟩
    refine ⟨_, rfl, D0, _, _, N, R, rfl, g8 _ _ hv7, kids_same g8 pk7, (by show 4 ≤ 8; decide), vo.toVocab, fine, fun H9 r9 ys' zs' g9 T9 a1' a2' m1' m2' => ?_⟩
    have eT := told_eq a1 a2 a1' a2' m1 m2 m1' m2'
    have sT := told_strOk vo.toVocab fine m1 m2
    refine ⟨toldD ys zs, toldD ys' zs', dp_told (T8.same g9), dp_told T9, sT, by rw [← eT]; exact sT, _, rfl, ?_⟩
    rw [ne_false eT sT]
    refine iteF ?_
    -- words that are good
    have nm9 : Names H9 d tn tr N R := ((nm5.same g57).same g8).same g9
    have zz : MulOk "z" 12 := ⟨by decide +kernel, fun _ _ => by decide +kernel, fun _ _ => by decide +kernel⟩
    refine ⟨_, rfl, _, rfl, tn, tr, _, _, rfl, rfl, nm9.n, nm9.r, ?_, fun q4 hq4 => ⟨_, _, rfl, rfl, zz, (by show 2 ≤ sizeLine; decide), fun q5 hq5 => ?_⟩⟩
    · rw [List.length_map, List.length_map]
      exact Nat.le_of_lt (small1000 (by omega))
    have gq4 := same_new hq4 (.lst (N.map L2.V.str ++ R.map L2.V.str))
    have gq5 := same_new hq5 (.lst [.str "a", .str (PySem.Txt.mul "z" 12)])
    refine ⟨q4, q5, _, _, rfl, rfl, gq5 _ _ upd_same, upd_same, ?_, fun q6 hq6 => ?_⟩
    · rw [List.length_append, List.length_map, List.length_map]
      exact Nat.le_of_lt (small1000 (by show N.length + R.length + 2 ≤ 1000; omega))
    have gq6 := same_new hq6 (.lst ((N.map L2.V.str ++ R.map L2.V.str) ++ [.str "a", .str (PySem.Txt.mul "z" 12)]))
    have good : ∀ y ∈ ((N.map L2.V.str ++ R.map L2.V.str) ++ [.str "a", .str (PySem.Txt.mul "z" 12)]), (∃ s, y = .str s ∧ s.length ≤ 1000) ∧ isWordV y = true := fun y hy => by
      have w12 : ∀ s, wordOk s = true → (∃ s', L2.V.str s = .str s' ∧ s'.length ≤ 1000) ∧ isWordV (.str s) = true := fun s h => ⟨⟨s, rfl, Nat.le_trans (word_len h) (by decide)⟩, h⟩
      rcases List.mem_append.mp hy with hy | hy
      · rcases List.mem_append.mp hy with hy | hy
        · obtain ⟨s, hs, rfl⟩ := List.mem_map.mp hy
          exact w12 s (vo.n s hs)
        · obtain ⟨s, hs, rfl⟩ := List.mem_map.mp hy
          exact w12 s (vo.r s hs)
      · simp only [List.mem_cons, List.not_mem_nil, or_false] at hy
        rcases hy with rfl | rfl
        · exact w12 _ (by decide +kernel)
        · exact w12 _ (by decide +kernel)
    have glen : ((N.map L2.V.str ++ R.map L2.V.str) ++ [L2.V.str "a", .str (PySem.Txt.mul "z" 12)]).length ≤ 30 := by
      rw [List.length_append, List.length_append, List.length_map, List.length_map]
      show N.length + R.length + 2 ≤ 30
      omega
    refine ⟨q6, rfl, ⟨_, SqL.of upd_same⟩, fun D2 hD2 => ?_⟩
    generalize eX : ((N.map L2.V.str ++ R.map L2.V.str) ++ [L2.V.str "a", .str (PySem.Txt.mul "z" 12)]) = X at *
    have q6D : q6 ≠ D2 := ne_of_none upd_same hD2
    refine lc_list (K := K) (a := q6) (xs := X) (fun j H10 => But [D2] (upd (upd (upd (upd H9 q4 (.lst (N.map L2.V.str ++ R.map L2.V.str))) q5 (.lst [.str "a", .str (PySem.Txt.mul "z" 12)])) q6 (.lst X)) D2 (.lst [])) H10 ∧ H10 D2 = some (.lst ((List.replicate j true).map L2.V.bl)))
      ⟨But.refl _, upd_same⟩ (fun j H10 _ hh => SqL.of (hh.1 _ _ (by simpa using q6D) (by rw [upd_ne q6D]; exact upd_same))) ?_ ?_
    · rintro j y H10 hj ⟨b10, h10⟩
      obtain ⟨⟨s, rfl, hs⟩, hw⟩ := good y (List.mem_of_getElem? hj)
      have hj' : j < X.length := (List.getElem?_eq_some_iff.mp hj).1
      refine ⟨rfl, _, rfl, .str s, rfl, hs, _, h10, ?_, b10.trans (But.put (by simp)), ?_⟩
      · rw [List.length_map, List.length_replicate]
        exact small1000 (by omega)
      · rw [upd_same, hw, rep_map, rep_map, rep_snoc]
    rintro H10 ⟨b10, h10⟩
    have s10 := But.back (gq4.trans (gq5.trans gq6)) hD2 b10
    -- words that are none
    have nm10 := nm9.same s10
    obtain ⟨n0, N', eN⟩ : ∃ n0 N', N = n0 :: N' := by
      have := vo.pn
      cases N with
      | nil => cases this
      | cons a b => exact ⟨a, b, rfl⟩
    have hn10 := nm10.n
    rw [eN] at hn10
    have n12 : n0.length ≤ 12 := word_len (vo.n n0 (by rw [eN]; simp))
    have zz2 : MulOk "z" 13 := ⟨by decide +kernel, fun _ _ => by decide +kernel, fun _ _ => by decide +kernel⟩
    have l1 : ("-" : Str).length = 1 := by decide +kernel
    refine ⟨_, _, rfl, rfl, zz2, _, rfl, tn, _, _, _, rfl, rfl, SqL.of hn10, atI_nat (j := 0) rfl, _, _, rfl, rfl, ?_, _, rfl, tn, _, _, _, rfl, rfl, SqL.of hn10, atI_nat (j := 0) rfl, (by show 1 ≤ sizeLine; decide), fun q7 hq7 => ⟨(by show 10 ≤ sizeLine; decide), fun q8 hq8 => ?_⟩⟩
    · rw [l1]; exact Nat.le_of_lt (small1000 (by omega))
    have gq7 := same_new hq7 (.tup [.str n0])
    have none_ok : ∀ y ∈ ([.str "all", .str "none", .str "some", .str "", .str (PySem.Txt.mul "z" 13), .str (n0 ++ "-"), .non, .int 7, .bl true, .ref q7] : List L2.V), Pl (upd H10 q7 (.tup [.str n0])) y ∧ isWordV y = false := fun y hy => by
      simp only [List.mem_cons, List.not_mem_nil, or_false] at hy
      rcases hy with rfl | rfl | rfl | rfl | rfl | rfl | rfl | rfl | rfl | rfl
      · exact ⟨show ("all" : Str).length ≤ 1000 by decide +kernel, by decide +kernel⟩
      · exact ⟨show ("none" : Str).length ≤ 1000 by decide +kernel, by decide +kernel⟩
      · exact ⟨show ("some" : Str).length ≤ 1000 by decide +kernel, by decide +kernel⟩
      · exact ⟨show ("" : Str).length ≤ 1000 by decide +kernel, by decide +kernel⟩
      · exact ⟨show (PySem.Txt.mul "z" 13).length ≤ 1000 by decide +kernel, by decide +kernel⟩
      · refine ⟨show (n0 ++ "-" : Str).length ≤ 1000 by rw [len_app, l1]; omega, ?_⟩
        show wordOk (n0 ++ "-") = false
        unfold wordOk
        have : letters (cs (n0 ++ "-" : Str)) = false := by
          rw [cs_app]
          unfold letters
          rw [List.all_append, show (cs ("-" : Str)).all (fun c => decide (97 ≤ c) && decide (c ≤ 122)) = false by decide +kernel, Bool.and_false]
        rw [this, Bool.and_false]
      · exact ⟨True.intro, rfl⟩
      · exact ⟨True.intro, rfl⟩
      · exact ⟨True.intro, rfl⟩
      · exact ⟨.inr ⟨_, upd_same⟩, rfl⟩
    have gq8 := same_new hq8 (.lst [.str "all", .str "none", .str "some", .str "", .str (PySem.Txt.mul "z" 13), .str (n0 ++ "-"), .non, .int 7, .bl true, .ref q7])
    refine ⟨q8, rfl, ⟨_, SqL.of upd_same⟩, fun D3 hD3 => ?_⟩
    have q8D : q8 ≠ D3 := ne_of_none upd_same hD3
    refine lc_list (K := K) (a := q8) (xs := [.str "all", .str "none", .str "some", .str "", .str (PySem.Txt.mul "z" 13), .str (n0 ++ "-"), .non, .int 7, .bl true, .ref q7]) (fun j H11 => But [D3] (upd (upd (upd H10 q7 (.tup [.str n0])) q8 (.lst [.str "all", .str "none", .str "some", .str "", .str (PySem.Txt.mul "z" 13), .str (n0 ++ "-"), .non, .int 7, .bl true, .ref q7])) D3 (.lst [])) H11 ∧ H11 D3 = some (.lst ((List.replicate j false).map L2.V.bl)))
      ⟨But.refl _, upd_same⟩ (fun j H11 _ hh => SqL.of (hh.1 _ _ (by simpa using q8D) (by rw [upd_ne q8D]; exact upd_same))) ?_ ?_
    · rintro j y H11 hj ⟨b11, h11⟩
      obtain ⟨hpl, hw⟩ := none_ok y (List.mem_of_getElem? hj)
      have s11 := But.back gq8 hD3 b11
      have hj' : j < 10 := (List.getElem?_eq_some_iff.mp hj).1
      refine ⟨rfl, _, rfl, y, rfl, hpl.same s11, _, h11, ?_, b11.trans (But.put (by simp)), ?_⟩
      · rw [List.length_map, List.length_replicate]
        exact small1000 (by omega)
      · rw [upd_same, hw, rep_map, rep_map, rep_snoc]
    rintro H11 ⟨b11, h11⟩
    have s11 : Same H10 H11 := But.back (gq7.trans gq8) hD3 b11
    have h2 := s11 _ _ h10
    -- the answer
    refine ⟨_, rfl, (by show 1 ≤ sizeLine; decide), fun u1 hu1 => ⟨_, rfl, D2, _, rfl, .inl (SqL.of (same_new hu1 _ _ _ h2)), u1, _, [.bl true], rfl, rfl, upd_same, ?_, ?_, ?_, fun u2 hu2 => ?_⟩⟩
    · show -(2 ^ 63) ≤ ((((List.replicate X.length true).map L2.V.bl).length : Nat) : Int)
      omega
    · show ((((List.replicate X.length true).map L2.V.bl).length : Nat) : Int) < 2 ^ 63
      rw [List.length_map, List.length_replicate]
      omega
    · show 1 * ((((List.replicate X.length true).map L2.V.bl).length : Nat) : Int).toNat ≤ sizeLine
      rw [List.length_map, List.length_replicate]
      exact Nat.le_of_lt (small1000 (by omega))
    have eu : (List.replicate ((((List.replicate X.length true).map L2.V.bl).length : Nat) : Int).toNat [L2.V.bl true]).flatten = (List.replicate X.length true).map L2.V.bl := by
      rw [List.length_map, List.length_replicate, Int.toNat_natCast, rep_flat, rep_map]
    rw [eu]
    have gu1 := same_new hu1 (.lst [.bl true])
    have gu2 := same_new hu2 (.lst ((List.replicate X.length true).map L2.V.bl))
    refine ⟨.list (boolsD (List.replicate X.length true)), .list (boolsD (List.replicate X.length true)), .lst (SqL.of (gu2 _ _ (gu1 _ _ h2))) (dp_bools _), .lst (SqL.of upd_same) (dp_bools _), shaped_bools _, shaped_bools _, _, rfl, ?_⟩
    rw [eqv_of rfl (shaped_bools _)]
    refine iteT ⟨_, rfl, (by show 1 ≤ sizeLine; decide), fun u3 hu3 => ⟨u3, _, [.bl false], rfl, rfl, upd_same, by decide, by decide, (by show 1 * 10 ≤ sizeLine; decide), fun u4 hu4 => ?_⟩⟩
    have gu3 := same_new hu3 (.lst [.bl false])
    have h3 := gu3 _ _ (gu2 _ _ (gu1 _ _ h11))
    have ev : (List.replicate (10 : Int).toNat [L2.V.bl false]).flatten = (List.replicate 10 false).map L2.V.bl := by decide +kernel
    rw [ev]
    have gu4 := same_new hu4 (.lst ((List.replicate 10 false).map L2.V.bl))
    refine ⟨.list (boolsD (List.replicate 10 false)), .list (boolsD (List.replicate 10 false)), .lst (SqL.of (gu4 _ _ h3)) (dp_bools _), .lst (SqL.of upd_same) (dp_bools _), shaped_bools _, shaped_bools _, ?_⟩
    rw [eqv_of rfl (shaped_bools _)]
    exact q _
end
end K1
namespace K1
open PySem L2
theorem defs_mk {K : PySem.W.Frag} {h : Heap} {mg : Str → Option Value} (X : K.In h) (G : h.Ns mainGlobals mg)
    {f7 f8 f9 f10 f11 f12 f13 f14 f15 f16 f17 f18 f19 f20 f21 f22 f23 f25 f26 f27 f28 f29 f30 f31 f32 f33 f34 f35 f36 f37 f38 f39 f40 f41 nw : Addr} {od7 an7 od8 an8 od9 an9 od10 an10 od11 an11 od12 an12 od13 an13 od14 an14 od15 an15 od16 an16 od17 an17 od18 an18 od19 an19 od20 an20 od21 an21 od22 an22 od23 an23 od25 an25 od26 an26 od27 an27 od28 an28 od29 an29 od30 an30 od31 an31 od32 an32 od33 an33 od34 an34 od35 an35 od36 an36 od37 an37 od38 an38 od39 an39 od40 an40 od41 an41 ddN : Option Addr} {sl7 sl8 sl9 sl10 sl11 sl12 sl13 sl14 sl15 sl16 sl17 sl18 sl19 sl20 sl21 sl22 sl23 sl25 sl26 sl27 sl28 sl29 sl30 sl31 sl32 sl33 sl34 sl35 sl36 sl37 sl38 sl39 sl40 sl41 slN : Array (Option Value)} {nN : Nat} {tk1 tk2 tk3 tkL tkD : Tok}
    {oc7 kV7 dc7 pm7 cd7 ct7 oc8 kV8 dc8 pm8 cd8 ct8 oc9 kV9 dc9 pm9 cd9 ct9 oc10 kV10 dc10 pm10 cd10 ct10 oc11 kV11 dc11 pm11 cd11 ct11 oc12 kV12 dc12 pm12 cd12 ct12 oc13 kV13 dc13 pm13 cd13 ct13 oc14 kV14 dc14 pm14 cd14 ct14 oc15 kV15 dc15 pm15 cd15 ct15 oc16 kV16 dc16 pm16 cd16 ct16 oc17 kV17 dc17 pm17 cd17 ct17 oc18 kV18 dc18 pm18 cd18 ct18 oc19 kV19 dc19 pm19 cd19 ct19 oc20 kV20 dc20 pm20 cd20 ct20 oc21 kV21 dc21 pm21 cd21 ct21 oc22 kV22 dc22 pm22 cd22 ct22 oc23 kV23 dc23 pm23 cd23 ct23 oc25 kV25 dc25 pm25 cd25 ct25 oc26 kV26 dc26 pm26 cd26 ct26 oc27 kV27 dc27 pm27 cd27 ct27 oc28 kV28 dc28 pm28 cd28 ct28 oc29 kV29 dc29 pm29 cd29 ct29 oc30 kV30 dc30 pm30 cd30 ct30 oc31 kV31 dc31 pm31 cd31 ct31 oc32 kV32 dc32 pm32 cd32 ct32 oc33 kV33 dc33 pm33 cd33 ct33 oc34 kV34 dc34 pm34 cd34 ct34 oc35 kV35 dc35 pm35 cd35 ct35 oc36 kV36 dc36 pm36 cd36 ct36 oc37 kV37 dc37 pm37 cd37 ct37 oc38 kV38 dc38 pm38 cd38 ct38 oc39 kV39 dc39 pm39 cd39 ct39 oc40 kV40 dc40 pm40 cd40 ct40 oc41 kV41 dc41 pm41 cd41 ct41 : Value}
    (a7 : PySem.W.nsIn K mainGlobals "is_word" = some (some (.ref f7)))
    (l7 : K.lookup f7 = some ⟨oc7, od7, .func (PySem.W.fnOf "is_word" "is_word" (defArgs s_is_word) (defBody s_is_word) (defScope s_is_word) .none kV7 dc7 pm7 an7 cd7 ct7), sl7⟩)
    (c7 : PySem.W.codeIn K cd7 "is_word" = true)
    (k7 : PySem.W.keepIn K (.ref f7) = true)
    (a8 : PySem.W.nsIn K mainGlobals "is_concept" = some (some (.ref f8)))
    (l8 : K.lookup f8 = some ⟨oc8, od8, .func (PySem.W.fnOf "is_concept" "is_concept" (defArgs s_is_concept) (defBody s_is_concept) (defScope s_is_concept) .none kV8 dc8 pm8 an8 cd8 ct8), sl8⟩)
    (c8 : PySem.W.codeIn K cd8 "is_concept" = true)
    (k8 : PySem.W.keepIn K (.ref f8) = true)
    (a9 : PySem.W.nsIn K mainGlobals "_is_nested" = some (some (.ref f9)))
    (l9 : K.lookup f9 = some ⟨oc9, od9, .func (PySem.W.fnOf "_is_nested" "_is_nested" (defArgs s_is_nested) (defBody s_is_nested) (defScope s_is_nested) .none kV9 dc9 pm9 an9 cd9 ct9), sl9⟩)
    (c9 : PySem.W.codeIn K cd9 "_is_nested" = true)
    (k9 : PySem.W.keepIn K (.ref f9) = true)
    (a10 : PySem.W.nsIn K mainGlobals "need_concept" = some (some (.ref f10)))
    (l10 : K.lookup f10 = some ⟨oc10, od10, .func (PySem.W.fnOf "need_concept" "need_concept" (defArgs s_need_concept) (defBody s_need_concept) (defScope s_need_concept) .none kV10 dc10 pm10 an10 cd10 ct10), sl10⟩)
    (c10 : PySem.W.codeIn K cd10 "need_concept" = true)
    (k10 : PySem.W.keepIn K (.ref f10) = true)
    (a11 : PySem.W.nsIn K mainGlobals "need_concepts" = some (some (.ref f11)))
    (l11 : K.lookup f11 = some ⟨oc11, od11, .func (PySem.W.fnOf "need_concepts" "need_concepts" (defArgs s_need_concepts) (defBody s_need_concepts) (defScope s_need_concepts) .none kV11 dc11 pm11 an11 cd11 ct11), sl11⟩)
    (c11 : PySem.W.codeIn K cd11 "need_concepts" = true)
    (k11 : PySem.W.keepIn K (.ref f11) = true)
    (a12 : PySem.W.nsIn K mainGlobals "inner" = some (some (.ref f12)))
    (l12 : K.lookup f12 = some ⟨oc12, od12, .func (PySem.W.fnOf "inner" "inner" (defArgs s_inner) (defBody s_inner) (defScope s_inner) .none kV12 dc12 pm12 an12 cd12 ct12), sl12⟩)
    (c12 : PySem.W.codeIn K cd12 "inner" = true)
    (k12 : PySem.W.keepIn K (.ref f12) = true)
    (a13 : PySem.W.nsIn K mainGlobals "gather" = some (some (.ref f13)))
    (l13 : K.lookup f13 = some ⟨oc13, od13, .func (PySem.W.fnOf "gather" "gather" (defArgs s_gather) (defBody s_gather) (defScope s_gather) .none kV13 dc13 pm13 an13 cd13 ct13), sl13⟩)
    (c13 : PySem.W.codeIn K cd13 "gather" = true)
    (k13 : PySem.W.keepIn K (.ref f13) = true)
    (a14 : PySem.W.nsIn K mainGlobals "text_of" = some (some (.ref f14)))
    (l14 : K.lookup f14 = some ⟨oc14, od14, .func (PySem.W.fnOf "text_of" "text_of" (defArgs s_text_of) (defBody s_text_of) (defScope s_text_of) .none kV14 dc14 pm14 an14 cd14 ct14), sl14⟩)
    (c14 : PySem.W.codeIn K cd14 "text_of" = true)
    (k14 : PySem.W.keepIn K (.ref f14) = true)
    (a15 : PySem.W.nsIn K mainGlobals "depth_of" = some (some (.ref f15)))
    (l15 : K.lookup f15 = some ⟨oc15, od15, .func (PySem.W.fnOf "depth_of" "depth_of" (defArgs s_depth_of) (defBody s_depth_of) (defScope s_depth_of) .none kV15 dc15 pm15 an15 cd15 ct15), sl15⟩)
    (c15 : PySem.W.codeIn K cd15 "depth_of" = true)
    (k15 : PySem.W.keepIn K (.ref f15) = true)
    (a16 : PySem.W.nsIn K mainGlobals "size_of" = some (some (.ref f16)))
    (l16 : K.lookup f16 = some ⟨oc16, od16, .func (PySem.W.fnOf "size_of" "size_of" (defArgs s_size_of) (defBody s_size_of) (defScope s_size_of) .none kV16 dc16 pm16 an16 cd16 ct16), sl16⟩)
    (c16 : PySem.W.codeIn K cd16 "size_of" = true)
    (k16 : PySem.W.keepIn K (.ref f16) = true)
    (a17 : PySem.W.nsIn K mainGlobals "collect_words" = some (some (.ref f17)))
    (l17 : K.lookup f17 = some ⟨oc17, od17, .func (PySem.W.fnOf "collect_words" "collect_words" (defArgs s_collect_words) (defBody s_collect_words) (defScope s_collect_words) .none kV17 dc17 pm17 an17 cd17 ct17), sl17⟩)
    (c17 : PySem.W.codeIn K cd17 "collect_words" = true)
    (k17 : PySem.W.keepIn K (.ref f17) = true)
    (a18 : PySem.W.nsIn K mainGlobals "told_words" = some (some (.ref f18)))
    (l18 : K.lookup f18 = some ⟨oc18, od18, .func (PySem.W.fnOf "told_words" "told_words" (defArgs s_told_words) (defBody s_told_words) (defScope s_told_words) .none kV18 dc18 pm18 an18 cd18 ct18), sl18⟩)
    (c18 : PySem.W.codeIn K cd18 "told_words" = true)
    (k18 : PySem.W.keepIn K (.ref f18) = true)
    (a19 : PySem.W.nsIn K mainGlobals "parts" = some (some (.ref f19)))
    (l19 : K.lookup f19 = some ⟨oc19, od19, .func (PySem.W.fnOf "parts" "parts" (defArgs s_parts) (defBody s_parts) (defScope s_parts) .none kV19 dc19 pm19 an19 cd19 ct19), sl19⟩)
    (c19 : PySem.W.codeIn K cd19 "parts" = true)
    (k19 : PySem.W.keepIn K (.ref f19) = true)
    (a20 : PySem.W.nsIn K mainGlobals "size" = some (some (.ref f20)))
    (l20 : K.lookup f20 = some ⟨oc20, od20, .func (PySem.W.fnOf "size" "size" (defArgs s_size) (defBody s_size) (defScope s_size) .none kV20 dc20 pm20 an20 cd20 ct20), sl20⟩)
    (c20 : PySem.W.codeIn K cd20 "size" = true)
    (k20 : PySem.W.keepIn K (.ref f20) = true)
    (a21 : PySem.W.nsIn K mainGlobals "depth" = some (some (.ref f21)))
    (l21 : K.lookup f21 = some ⟨oc21, od21, .func (PySem.W.fnOf "depth" "depth" (defArgs s_depth) (defBody s_depth) (defScope s_depth) .none kV21 dc21 pm21 an21 cd21 ct21), sl21⟩)
    (c21 : PySem.W.codeIn K cd21 "depth" = true)
    (k21 : PySem.W.keepIn K (.ref f21) = true)
    (a22 : PySem.W.nsIn K mainGlobals "text" = some (some (.ref f22)))
    (l22 : K.lookup f22 = some ⟨oc22, od22, .func (PySem.W.fnOf "text" "text" (defArgs s_text) (defBody s_text) (defScope s_text) .none kV22 dc22 pm22 an22 cd22 ct22), sl22⟩)
    (c22 : PySem.W.codeIn K cd22 "text" = true)
    (k22 : PySem.W.keepIn K (.ref f22) = true)
    (a23 : PySem.W.nsIn K mainGlobals "words_in" = some (some (.ref f23)))
    (l23 : K.lookup f23 = some ⟨oc23, od23, .func (PySem.W.fnOf "words_in" "words_in" (defArgs s_words_in) (defBody s_words_in) (defScope s_words_in) .none kV23 dc23 pm23 an23 cd23 ct23), sl23⟩)
    (c23 : PySem.W.codeIn K cd23 "words_in" = true)
    (k23 : PySem.W.keepIn K (.ref f23) = true)
    (a25 : PySem.W.nsIn K mainGlobals "_law_cell_at" = some (some (.ref f25)))
    (l25 : K.lookup f25 = some ⟨oc25, od25, .func (PySem.W.fnOf "_law_cell_at" "_law_cell_at" (defArgs s_law_cell_at) (defBody s_law_cell_at) (defScope s_law_cell_at) .none kV25 dc25 pm25 an25 cd25 ct25), sl25⟩)
    (c25 : PySem.W.codeIn K cd25 "_law_cell_at" = true)
    (k25 : PySem.W.keepIn K (.ref f25) = true)
    (a26 : PySem.W.nsIn K mainGlobals "_law_draw" = some (some (.ref f26)))
    (l26 : K.lookup f26 = some ⟨oc26, od26, .func (PySem.W.fnOf "_law_draw" "_law_draw" (defArgs s_law_draw) (defBody s_law_draw) (defScope s_law_draw) .none kV26 dc26 pm26 an26 cd26 ct26), sl26⟩)
    (c26 : PySem.W.codeIn K cd26 "_law_draw" = true)
    (k26 : PySem.W.keepIn K (.ref f26) = true)
    (a27 : PySem.W.nsIn K mainGlobals "_law_number" = some (some (.ref f27)))
    (l27 : K.lookup f27 = some ⟨oc27, od27, .func (PySem.W.fnOf "_law_number" "_law_number" (defArgs s_law_number) (defBody s_law_number) (defScope s_law_number) .none kV27 dc27 pm27 an27 cd27 ct27), sl27⟩)
    (c27 : PySem.W.codeIn K cd27 "_law_number" = true)
    (k27 : PySem.W.keepIn K (.ref f27) = true)
    (a28 : PySem.W.nsIn K mainGlobals "_law_next" = some (some (.ref f28)))
    (l28 : K.lookup f28 = some ⟨oc28, od28, .func (PySem.W.fnOf "_law_next" "_law_next" (defArgs s_law_next) (defBody s_law_next) (defScope s_law_next) .none kV28 dc28 pm28 an28 cd28 ct28), sl28⟩)
    (c28 : PySem.W.codeIn K cd28 "_law_next" = true)
    (k28 : PySem.W.keepIn K (.ref f28) = true)
    (a29 : PySem.W.nsIn K mainGlobals "_law_pick" = some (some (.ref f29)))
    (l29 : K.lookup f29 = some ⟨oc29, od29, .func (PySem.W.fnOf "_law_pick" "_law_pick" (defArgs s_law_pick) (defBody s_law_pick) (defScope s_law_pick) .none kV29 dc29 pm29 an29 cd29 ct29), sl29⟩)
    (c29 : PySem.W.codeIn K cd29 "_law_pick" = true)
    (k29 : PySem.W.keepIn K (.ref f29) = true)
    (a30 : PySem.W.nsIn K mainGlobals "_law_word" = some (some (.ref f30)))
    (l30 : K.lookup f30 = some ⟨oc30, od30, .func (PySem.W.fnOf "_law_word" "_law_word" (defArgs s_law_word) (defBody s_law_word) (defScope s_law_word) .none kV30 dc30 pm30 an30 cd30 ct30), sl30⟩)
    (c30 : PySem.W.codeIn K cd30 "_law_word" = true)
    (k30 : PySem.W.keepIn K (.ref f30) = true)
    (a31 : PySem.W.nsIn K mainGlobals "_law_vocab" = some (some (.ref f31)))
    (l31 : K.lookup f31 = some ⟨oc31, od31, .func (PySem.W.fnOf "_law_vocab" "_law_vocab" (defArgs s_law_vocab) (defBody s_law_vocab) (defScope s_law_vocab) .none kV31 dc31 pm31 an31 cd31 ct31), sl31⟩)
    (c31 : PySem.W.codeIn K cd31 "_law_vocab" = true)
    (k31 : PySem.W.keepIn K (.ref f31) = true)
    (a32 : PySem.W.nsIn K mainGlobals "_law_atom" = some (some (.ref f32)))
    (l32 : K.lookup f32 = some ⟨oc32, od32, .func (PySem.W.fnOf "_law_atom" "_law_atom" (defArgs s_law_atom) (defBody s_law_atom) (defScope s_law_atom) .none kV32 dc32 pm32 an32 cd32 ct32), sl32⟩)
    (c32 : PySem.W.codeIn K cd32 "_law_atom" = true)
    (k32 : PySem.W.keepIn K (.ref f32) = true)
    (a33 : PySem.W.nsIn K mainGlobals "_law_concept" = some (some (.ref f33)))
    (l33 : K.lookup f33 = some ⟨oc33, od33, .func (PySem.W.fnOf "_law_concept" "_law_concept" (defArgs s_law_concept) (defBody s_law_concept) (defScope s_law_concept) .none kV33 dc33 pm33 an33 cd33 ct33), sl33⟩)
    (c33 : PySem.W.codeIn K cd33 "_law_concept" = true)
    (k33 : PySem.W.keepIn K (.ref f33) = true)
    (a34 : PySem.W.nsIn K mainGlobals "_law_parts" = some (some (.ref f34)))
    (l34 : K.lookup f34 = some ⟨oc34, od34, .func (PySem.W.fnOf "_law_parts" "_law_parts" (defArgs s_law_parts) (defBody s_law_parts) (defScope s_law_parts) .none kV34 dc34 pm34 an34 cd34 ct34), sl34⟩)
    (c34 : PySem.W.codeIn K cd34 "_law_parts" = true)
    (k34 : PySem.W.keepIn K (.ref f34) = true)
    (a35 : PySem.W.nsIn K mainGlobals "_law_depth" = some (some (.ref f35)))
    (l35 : K.lookup f35 = some ⟨oc35, od35, .func (PySem.W.fnOf "_law_depth" "_law_depth" (defArgs s_law_depth) (defBody s_law_depth) (defScope s_law_depth) .none kV35 dc35 pm35 an35 cd35 ct35), sl35⟩)
    (c35 : PySem.W.codeIn K cd35 "_law_depth" = true)
    (k35 : PySem.W.keepIn K (.ref f35) = true)
    (a36 : PySem.W.nsIn K mainGlobals "_law_size" = some (some (.ref f36)))
    (l36 : K.lookup f36 = some ⟨oc36, od36, .func (PySem.W.fnOf "_law_size" "_law_size" (defArgs s_law_size) (defBody s_law_size) (defScope s_law_size) .none kV36 dc36 pm36 an36 cd36 ct36), sl36⟩)
    (c36 : PySem.W.codeIn K cd36 "_law_size" = true)
    (k36 : PySem.W.keepIn K (.ref f36) = true)
    (a37 : PySem.W.nsIn K mainGlobals "_law_text" = some (some (.ref f37)))
    (l37 : K.lookup f37 = some ⟨oc37, od37, .func (PySem.W.fnOf "_law_text" "_law_text" (defArgs s_law_text) (defBody s_law_text) (defScope s_law_text) .none kV37 dc37 pm37 an37 cd37 ct37), sl37⟩)
    (c37 : PySem.W.codeIn K cd37 "_law_text" = true)
    (k37 : PySem.W.keepIn K (.ref f37) = true)
    (a38 : PySem.W.nsIn K mainGlobals "_law_ordered" = some (some (.ref f38)))
    (l38 : K.lookup f38 = some ⟨oc38, od38, .func (PySem.W.fnOf "_law_ordered" "_law_ordered" (defArgs s_law_ordered) (defBody s_law_ordered) (defScope s_law_ordered) .none kV38 dc38 pm38 an38 cd38 ct38), sl38⟩)
    (c38 : PySem.W.codeIn K cd38 "_law_ordered" = true)
    (k38 : PySem.W.keepIn K (.ref f38) = true)
    (a39 : PySem.W.nsIn K mainGlobals "_law_words" = some (some (.ref f39)))
    (l39 : K.lookup f39 = some ⟨oc39, od39, .func (PySem.W.fnOf "_law_words" "_law_words" (defArgs s_law_words) (defBody s_law_words) (defScope s_law_words) .none kV39 dc39 pm39 an39 cd39 ct39), sl39⟩)
    (c39 : PySem.W.codeIn K cd39 "_law_words" = true)
    (k39 : PySem.W.keepIn K (.ref f39) = true)
    (a40 : PySem.W.nsIn K mainGlobals "_law_spoilt" = some (some (.ref f40)))
    (l40 : K.lookup f40 = some ⟨oc40, od40, .func (PySem.W.fnOf "_law_spoilt" "_law_spoilt" (defArgs s_law_spoilt) (defBody s_law_spoilt) (defScope s_law_spoilt) .none kV40 dc40 pm40 an40 cd40 ct40), sl40⟩)
    (c40 : PySem.W.codeIn K cd40 "_law_spoilt" = true)
    (k40 : PySem.W.keepIn K (.ref f40) = true)
    (a41 : PySem.W.nsIn K mainGlobals "law" = some (some (.ref f41)))
    (l41 : K.lookup f41 = some ⟨oc41, od41, .func (PySem.W.fnOf "law" "law" (defArgs s_law) (defBody s_law) (defScope s_law) .none kV41 dc41 pm41 an41 cd41 ct41), sl41⟩)
    (c41 : PySem.W.codeIn K cd41 "law" = true)
    (k41 : PySem.W.keepIn K (.ref f41) = true)
    (aN : PySem.W.nsIn K mainGlobals "NO_WORDS" = some (some (.ref nw)))
    (lN : K.lookup nw = some ⟨.type "tuple", ddN, .seq #[.str "all" tk1, .str "none" tk2, .str "some" tk3] nN, slN⟩)
    (aL : PySem.W.nsIn K mainGlobals "LONGEST" = some (some (.int 12 tkL)))
    (aD : PySem.W.nsIn K mainGlobals "DEEPEST" = some (some (.int 100 tkD)))
    (z_isinstance : PySem.W.nsIn K mainGlobals "isinstance" = some none)
    (z_str : PySem.W.nsIn K mainGlobals "str" = some none)
    (z_len : PySem.W.nsIn K mainGlobals "len" = some none)
    (z_tuple : PySem.W.nsIn K mainGlobals "tuple" = some none)
    (z_max : PySem.W.nsIn K mainGlobals "max" = some none)
    (z_sorted : PySem.W.nsIn K mainGlobals "sorted" = some none)
    (z_range : PySem.W.nsIn K mainGlobals "range" = some none)
    (z_int : PySem.W.nsIn K mainGlobals "int" = some none)
    (z_sum : PySem.W.nsIn K mainGlobals "sum" = some none)
    (z_enumerate : PySem.W.nsIn K mainGlobals "enumerate" = some none)
    (z_any : PySem.W.nsIn K mainGlobals "any" = some none) : Nonempty (Defs K mg) := by
  have F7 := fun_mk (st := s_is_word) l7 c7 k7
  have b7 := F7.binds (ps := ["thing"]) fun _ _ _ _ _ _ us hl => match us, hl with | [_], _ => rfl
  have F8 := fun_mk (st := s_is_concept) l8 c8 k8
  have b8 := F8.binds (ps := ["thing"]) fun _ _ _ _ _ _ us hl => match us, hl with | [_], _ => rfl
  have F9 := fun_mk (st := s_is_nested) l9 c9 k9
  have b9 := F9.binds (ps := ["thing", "levels"]) fun _ _ _ _ _ _ us hl => match us, hl with | [_, _], _ => rfl
  have F10 := fun_mk (st := s_need_concept) l10 c10 k10
  have b10 := F10.binds (ps := ["thing"]) fun _ _ _ _ _ _ us hl => match us, hl with | [_], _ => rfl
  have F11 := fun_mk (st := s_need_concepts) l11 c11 k11
  have b11 := F11.binds (ps := ["things"]) fun _ _ _ _ _ _ us hl => match us, hl with | [_], _ => rfl
  have F12 := fun_mk (st := s_inner) l12 c12 k12
  have b12 := F12.binds (ps := ["concept"]) fun _ _ _ _ _ _ us hl => match us, hl with | [_], _ => rfl
  have F13 := fun_mk (st := s_gather) l13 c13 k13
  have b13 := F13.binds (ps := ["concept", "found"]) fun _ _ _ _ _ _ us hl => match us, hl with | [_, _], _ => rfl
  have F14 := fun_mk (st := s_text_of) l14 c14 k14
  have b14 := F14.binds (ps := ["concept"]) fun _ _ _ _ _ _ us hl => match us, hl with | [_], _ => rfl
  have F15 := fun_mk (st := s_depth_of) l15 c15 k15
  have b15 := F15.binds (ps := ["concept"]) fun _ _ _ _ _ _ us hl => match us, hl with | [_], _ => rfl
  have F16 := fun_mk (st := s_size_of) l16 c16 k16
  have b16 := F16.binds (ps := ["concept"]) fun _ _ _ _ _ _ us hl => match us, hl with | [_], _ => rfl
  have F17 := fun_mk (st := s_collect_words) l17 c17 k17
  have b17 := F17.binds (ps := ["concept", "names", "roles"]) fun _ _ _ _ _ _ us hl => match us, hl with | [_, _, _], _ => rfl
  have F18 := fun_mk (st := s_told_words) l18 c18 k18
  have b18 := F18.binds (ps := ["names", "roles"]) fun _ _ _ _ _ _ us hl => match us, hl with | [_, _], _ => rfl
  have F19 := fun_mk (st := s_parts) l19 c19 k19
  have b19 := F19.binds (ps := ["concept"]) fun _ _ _ _ _ _ us hl => match us, hl with | [_], _ => rfl
  have F20 := fun_mk (st := s_size) l20 c20 k20
  have b20 := F20.binds (ps := ["concept"]) fun _ _ _ _ _ _ us hl => match us, hl with | [_], _ => rfl
  have F21 := fun_mk (st := s_depth) l21 c21 k21
  have b21 := F21.binds (ps := ["concept"]) fun _ _ _ _ _ _ us hl => match us, hl with | [_], _ => rfl
  have F22 := fun_mk (st := s_text) l22 c22 k22
  have b22 := F22.binds (ps := ["concept"]) fun _ _ _ _ _ _ us hl => match us, hl with | [_], _ => rfl
  have F23 := fun_mk (st := s_words_in) l23 c23 k23
  have F25 := fun_mk (st := s_law_cell_at) l25 c25 k25
  have b25 := F25.binds (ps := ["script", "k"]) fun _ _ _ _ _ _ us hl => match us, hl with | [_, _], _ => rfl
  have F26 := fun_mk (st := s_law_draw) l26 c26 k26
  have b26 := F26.binds (ps := ["cell", "k", "bound"]) fun _ _ _ _ _ _ us hl => match us, hl with | [_, _, _], _ => rfl
  have F27 := fun_mk (st := s_law_number) l27 c27 k27
  have b27 := F27.binds (ps := ["cell", "k", "bound"]) fun _ _ _ _ _ _ us hl => match us, hl with | [_, _, _], _ => rfl
  have F28 := fun_mk (st := s_law_next) l28 c28 k28
  have b28 := F28.binds (ps := ["draw", "bound"]) fun _ _ _ _ _ _ us hl => match us, hl with | [_, _], _ => rfl
  have F29 := fun_mk (st := s_law_pick) l29 c29 k29
  have b29 := F29.binds (ps := ["draw", "things"]) fun _ _ _ _ _ _ us hl => match us, hl with | [_, _], _ => rfl
  have F30 := fun_mk (st := s_law_word) l30 c30 k30
  have b30 := F30.binds (ps := ["draw"]) fun _ _ _ _ _ _ us hl => match us, hl with | [_], _ => rfl
  have F31 := fun_mk (st := s_law_vocab) l31 c31 k31
  have b31 := F31.binds (ps := ["draw", "many"]) fun _ _ _ _ _ _ us hl => match us, hl with | [_, _], _ => rfl
  have F32 := fun_mk (st := s_law_atom) l32 c32 k32
  have b32 := F32.binds (ps := ["draw", "names"]) fun _ _ _ _ _ _ us hl => match us, hl with | [_, _], _ => rfl
  have F33 := fun_mk (st := s_law_concept) l33 c33 k33
  have b33 := F33.binds (ps := ["draw", "names", "roles", "deep"]) fun _ _ _ _ _ _ us hl => match us, hl with | [_, _, _, _], _ => rfl
  have F34 := fun_mk (st := s_law_parts) l34 c34 k34
  have b34 := F34.binds (ps := ["concept"]) fun _ _ _ _ _ _ us hl => match us, hl with | [_], _ => rfl
  have F35 := fun_mk (st := s_law_depth) l35 c35 k35
  have b35 := F35.binds (ps := ["concept"]) fun _ _ _ _ _ _ us hl => match us, hl with | [_], _ => rfl
  have F36 := fun_mk (st := s_law_size) l36 c36 k36
  have b36 := F36.binds (ps := ["concept"]) fun _ _ _ _ _ _ us hl => match us, hl with | [_], _ => rfl
  have F37 := fun_mk (st := s_law_text) l37 c37 k37
  have b37 := F37.binds (ps := ["concept"]) fun _ _ _ _ _ _ us hl => match us, hl with | [_], _ => rfl
  have F38 := fun_mk (st := s_law_ordered) l38 c38 k38
  have b38 := F38.binds (ps := ["concepts"]) fun _ _ _ _ _ _ us hl => match us, hl with | [_], _ => rfl
  have F39 := fun_mk (st := s_law_words) l39 c39 k39
  have b39 := F39.binds (ps := ["concepts"]) fun _ _ _ _ _ _ us hl => match us, hl with | [_], _ => rfl
  have F40 := fun_mk (st := s_law_spoilt) l40 c40 k40
  have b40 := F40.binds (ps := ["draw", "concept"]) fun _ _ _ _ _ _ us hl => match us, hl with | [_, _], _ => rfl
  have F41 := fun_mk (st := s_law) l41 c41 k41
  have b41 := F41.binds (ps := ["script"]) fun _ _ _ _ _ _ us hl => match us, hl with | [_], _ => rfl
  exact ⟨{
    d_is_word := ⟨f7, _, F7, PySem.W.mg_of X G a7, b7⟩
    d_is_concept := ⟨f8, _, F8, PySem.W.mg_of X G a8, b8⟩
    d_is_nested := ⟨f9, _, F9, PySem.W.mg_of X G a9, b9⟩
    d_need_concept := ⟨f10, _, F10, PySem.W.mg_of X G a10, b10⟩
    d_need_concepts := ⟨f11, _, F11, PySem.W.mg_of X G a11, b11⟩
    d_inner := ⟨f12, _, F12, PySem.W.mg_of X G a12, b12⟩
    d_gather := ⟨f13, _, F13, PySem.W.mg_of X G a13, b13⟩
    d_text_of := ⟨f14, _, F14, PySem.W.mg_of X G a14, b14⟩
    d_depth_of := ⟨f15, _, F15, PySem.W.mg_of X G a15, b15⟩
    d_size_of := ⟨f16, _, F16, PySem.W.mg_of X G a16, b16⟩
    d_collect_words := ⟨f17, _, F17, PySem.W.mg_of X G a17, b17⟩
    d_told_words := ⟨f18, _, F18, PySem.W.mg_of X G a18, b18⟩
    d_parts := ⟨f19, _, F19, PySem.W.mg_of X G a19, b19⟩
    d_size := ⟨f20, _, F20, PySem.W.mg_of X G a20, b20⟩
    d_depth := ⟨f21, _, F21, PySem.W.mg_of X G a21, b21⟩
    d_text := ⟨f22, _, F22, PySem.W.mg_of X G a22, b22⟩
    d_law_cell_at := ⟨f25, _, F25, PySem.W.mg_of X G a25, b25⟩
    d_law_draw := ⟨f26, _, F26, PySem.W.mg_of X G a26, b26⟩
    d_law_number := ⟨f27, _, F27, PySem.W.mg_of X G a27, b27⟩
    d_law_next := ⟨f28, _, F28, PySem.W.mg_of X G a28, b28⟩
    d_law_pick := ⟨f29, _, F29, PySem.W.mg_of X G a29, b29⟩
    d_law_word := ⟨f30, _, F30, PySem.W.mg_of X G a30, b30⟩
    d_law_vocab := ⟨f31, _, F31, PySem.W.mg_of X G a31, b31⟩
    d_law_atom := ⟨f32, _, F32, PySem.W.mg_of X G a32, b32⟩
    d_law_concept := ⟨f33, _, F33, PySem.W.mg_of X G a33, b33⟩
    d_law_parts := ⟨f34, _, F34, PySem.W.mg_of X G a34, b34⟩
    d_law_depth := ⟨f35, _, F35, PySem.W.mg_of X G a35, b35⟩
    d_law_size := ⟨f36, _, F36, PySem.W.mg_of X G a36, b36⟩
    d_law_text := ⟨f37, _, F37, PySem.W.mg_of X G a37, b37⟩
    d_law_ordered := ⟨f38, _, F38, PySem.W.mg_of X G a38, b38⟩
    d_law_words := ⟨f39, _, F39, PySem.W.mg_of X G a39, b39⟩
    d_law_spoilt := ⟨f40, _, F40, PySem.W.mg_of X G a40, b40⟩
    d_law := ⟨f41, _, F41, PySem.W.mg_of X G a41, b41⟩
    wi := f23, wi_m := PySem.W.mg_of X G a23, wi_k := k23, wi_l := ⟨_, _, _, _, _, _, _, _, _, l23, c23⟩
    law_b := fun _ _ => .of_eq rfl
    nw := nw, nw_m := PySem.W.mg_of X G aN
    nw_l := .inr ⟨_, _, _, lN, rfl, rfl, (by show 3 ≤ sizeLine; decide), .cons ⟨_, rfl⟩ (.cons ⟨_, rfl⟩ (.cons ⟨_, rfl⟩ .nil))⟩
    lo_m := ⟨_, PySem.W.mg_of X G aL⟩, de_m := ⟨_, PySem.W.mg_of X G aD⟩
    z_isinstance := PySem.W.mg_none_of X G z_isinstance
    z_str := PySem.W.mg_none_of X G z_str
    z_len := PySem.W.mg_none_of X G z_len
    z_tuple := PySem.W.mg_none_of X G z_tuple
    z_max := PySem.W.mg_none_of X G z_max
    z_sorted := PySem.W.mg_none_of X G z_sorted
    z_range := PySem.W.mg_none_of X G z_range
    z_int := PySem.W.mg_none_of X G z_int
    z_sum := PySem.W.mg_none_of X G z_sum
    z_enumerate := PySem.W.mg_none_of X G z_enumerate
    z_any := PySem.W.mg_none_of X G z_any
  }⟩
end K1
namespace K1
open PySem L2
theorem walk {l : PySem.W.OpenLaw} {q : Program} {loose : List Str} {XP : (Str → Option Value) → Heap → Prop} {YP : World → Heap → Prop} {d : DefRec} {K : Params → PySem.W.Frag} (hn : l.most = some 63) (hdf : d.params.defaults = []) (hnm : d.name = "law")
    (hY : ∀ (w : World) (h : Heap), YP w h → (K w.params).In h)
    (F : ∀ (w : World) (mg : Str → Option Value) (h : Heap), (K w.params).In h → h.Ns mainGlobals mg → Nonempty (Defs (K w.params) mg)) :
    PySem.W.WalkO q loose XP YP l.row.toRowW d [] (fun f vs => PySem.call f vs) :=
  L2.walk_of (n := 63) (k := lawK) (x := "script") (CX := fun _ => CX0) (sp := fun w => spLaw (K w.params)) hn (by decide) hdf ⟨rfl, by decide, by decide⟩ hY
    (fun w mg fa h KX G hfa => by
      obtain ⟨D⟩ := F w mg h KX G
      rw [hnm] at hfa
      have e := hfa.symm.trans D.d_law.m
      cases e
      exact ⟨D.d_law.fd, D.law_b, fun base _ _ => ok_law D⟩)
    (fun _ _ a ns hl _ hS => ⟨a, ns, rfl, hS, hl, fun _ => rfl⟩) fun _ _ _ _ _ z => z
end K1
open PySem PySem.W PyProof.Rows
set_option maxRecDepth 100000 in
set_option maxHeartbeats 0 in
theorem PySem.Challenge.cw_conceptworlds_k01_concepts_holds : PySem.Challenge.rw_conceptworlds_k01_concepts.Holds := by
  w_on; o_law; k_head; (case hw => w_witness2)
  k_fill
  refine K1.walk (l := PySem.Challenge.rw_conceptworlds_k01_concepts) rfl rfl rfl (fun w h Y => PySem.W.kIn_of Y) ?F
  case F =>
    intro w mg h KX G
    refine' K1.defs_mk KX G ?a7 ?l7 ?c7 ?k7 ?a8 ?l8 ?c8 ?k8 ?a9 ?l9 ?c9 ?k9 ?a10 ?l10 ?c10 ?k10 ?a11 ?l11 ?c11 ?k11 ?a12 ?l12 ?c12 ?k12 ?a13 ?l13 ?c13 ?k13 ?a14 ?l14 ?c14 ?k14 ?a15 ?l15 ?c15 ?k15 ?a16 ?l16 ?c16 ?k16 ?a17 ?l17 ?c17 ?k17 ?a18 ?l18 ?c18 ?k18 ?a19 ?l19 ?c19 ?k19 ?a20 ?l20 ?c20 ?k20 ?a21 ?l21 ?c21 ?k21 ?a22 ?l22 ?c22 ?k22 ?a23 ?l23 ?c23 ?k23 ?a25 ?l25 ?c25 ?k25 ?a26 ?l26 ?c26 ?k26 ?a27 ?l27 ?c27 ?k27 ?a28 ?l28 ?c28 ?k28 ?a29 ?l29 ?c29 ?k29 ?a30 ?l30 ?c30 ?k30 ?a31 ?l31 ?c31 ?k31 ?a32 ?l32 ?c32 ?k32 ?a33 ?l33 ?c33 ?k33 ?a34 ?l34 ?c34 ?k34 ?a35 ?l35 ?c35 ?k35 ?a36 ?l36 ?c36 ?k36 ?a37 ?l37 ?c37 ?k37 ?a38 ?l38 ?c38 ?k38 ?a39 ?l39 ?c39 ?k39 ?a40 ?l40 ?c40 ?k40 ?a41 ?l41 ?c41 ?k41 ?aN ?lN ?aL ?aD ?z_isinstance ?z_str ?z_len ?z_tuple ?z_max ?z_sorted ?z_range ?z_int ?z_sum ?z_enumerate ?z_any
    (case a7 => k_is)
    (case l7 => k_is)
    (case c7 => k_is)
    (case k7 => k_is)
    (case a8 => k_is)
    (case l8 => k_is)
    (case c8 => k_is)
    (case k8 => k_is)
    (case a9 => k_is)
    (case l9 => k_is)
    (case c9 => k_is)
    (case k9 => k_is)
    (case a10 => k_is)
    (case l10 => k_is)
    (case c10 => k_is)
    (case k10 => k_is)
    (case a11 => k_is)
    (case l11 => k_is)
    (case c11 => k_is)
    (case k11 => k_is)
    (case a12 => k_is)
    (case l12 => k_is)
    (case c12 => k_is)
    (case k12 => k_is)
    (case a13 => k_is)
    (case l13 => k_is)
    (case c13 => k_is)
    (case k13 => k_is)
    (case a14 => k_is)
    (case l14 => k_is)
    (case c14 => k_is)
    (case k14 => k_is)
    (case a15 => k_is)
    (case l15 => k_is)
    (case c15 => k_is)
    (case k15 => k_is)
    (case a16 => k_is)
    (case l16 => k_is)
    (case c16 => k_is)
    (case k16 => k_is)
    (case a17 => k_is)
    (case l17 => k_is)
    (case c17 => k_is)
    (case k17 => k_is)
    (case a18 => k_is)
    (case l18 => k_is)
    (case c18 => k_is)
    (case k18 => k_is)
    (case a19 => k_is)
    (case l19 => k_is)
    (case c19 => k_is)
    (case k19 => k_is)
    (case a20 => k_is)
    (case l20 => k_is)
    (case c20 => k_is)
    (case k20 => k_is)
    (case a21 => k_is)
    (case l21 => k_is)
    (case c21 => k_is)
    (case k21 => k_is)
    (case a22 => k_is)
    (case l22 => k_is)
    (case c22 => k_is)
    (case k22 => k_is)
    (case a23 => k_is)
    (case l23 => k_is)
    (case c23 => k_is)
    (case k23 => k_is)
    (case a25 => k_is)
    (case l25 => k_is)
    (case c25 => k_is)
    (case k25 => k_is)
    (case a26 => k_is)
    (case l26 => k_is)
    (case c26 => k_is)
    (case k26 => k_is)
    (case a27 => k_is)
    (case l27 => k_is)
    (case c27 => k_is)
    (case k27 => k_is)
    (case a28 => k_is)
    (case l28 => k_is)
    (case c28 => k_is)
    (case k28 => k_is)
    (case a29 => k_is)
    (case l29 => k_is)
    (case c29 => k_is)
    (case k29 => k_is)
    (case a30 => k_is)
    (case l30 => k_is)
    (case c30 => k_is)
    (case k30 => k_is)
    (case a31 => k_is)
    (case l31 => k_is)
    (case c31 => k_is)
    (case k31 => k_is)
    (case a32 => k_is)
    (case l32 => k_is)
    (case c32 => k_is)
    (case k32 => k_is)
    (case a33 => k_is)
    (case l33 => k_is)
    (case c33 => k_is)
    (case k33 => k_is)
    (case a34 => k_is)
    (case l34 => k_is)
    (case c34 => k_is)
    (case k34 => k_is)
    (case a35 => k_is)
    (case l35 => k_is)
    (case c35 => k_is)
    (case k35 => k_is)
    (case a36 => k_is)
    (case l36 => k_is)
    (case c36 => k_is)
    (case k36 => k_is)
    (case a37 => k_is)
    (case l37 => k_is)
    (case c37 => k_is)
    (case k37 => k_is)
    (case a38 => k_is)
    (case l38 => k_is)
    (case c38 => k_is)
    (case k38 => k_is)
    (case a39 => k_is)
    (case l39 => k_is)
    (case c39 => k_is)
    (case k39 => k_is)
    (case a40 => k_is)
    (case l40 => k_is)
    (case c40 => k_is)
    (case k40 => k_is)
    (case a41 => k_is)
    (case l41 => k_is)
    (case c41 => k_is)
    (case k41 => k_is)
    (case aN => k_is)
    (case lN => k_is)
    (case aL => k_is)
    (case aD => k_is)
    (case z_isinstance => k_is)
    (case z_str => k_is)
    (case z_len => k_is)
    (case z_tuple => k_is)
    (case z_max => k_is)
    (case z_sorted => k_is)
    (case z_range => k_is)
    (case z_int => k_is)
    (case z_sum => k_is)
    (case z_enumerate => k_is)
    (case z_any => k_is)
#print axioms PySem.Challenge.cw_conceptworlds_k01_concepts_holds
