import PyProof.Rows.All
import Wide.All
import OpenK.AllK
import Wide.FinOn
import HandS.ForMost
import HandS.More
import HandS.IsInst
import HandS.FStr
import HandS.Star
import HandS.Wide
import HandS.TupAny
import HandS.Walk
import HandS.OwnEq
import HandS.Property
import HandS.WideBits
import HandS.SetKeys
import HandS.SortRule
import HandS.Deep
import HandS.DictComp
import KE.DataCmp
import KE.SortData
import PyProof.InstNe
import HandS.IterVal
import HandS.Flow
import KE.GoesMore
import KE.GoesComp
import KE.KDictPairs
import KE.GoesEnum
import HandS.SetTxt0
import HandS.SetFor
import HandS.Lambda
import HandS.EndTab
import KE.SortKeyHeap
import KE.KDictKeyed
import HandS.StrMore
import HandS.Exc
import HandS.ExcOwn
import HandS.TryOnly
import HandS.WordsExc
import HandS.Set
import KE.BitLaws
import KE.KBits
import KE.OsArith
import KE.IntBitsLaws
import HandS.Style
import HandS.WordsDict
import HandS.Conv
import PySem.Challenge.RW_conceptworlds_k83_whole_lattice
set_option Elab.async false
set_option maxRecDepth 100000
set_option linter.all false
set_option maxHeartbeats 0
namespace K1
open PySem L2
def top (i : Nat) : Stmt := PySem.Challenge.pw_conceptworlds_k83_whole_lattice.main.body.getD i (.Pass ⟨0, 0, 0, 0⟩)
/-- a def of the program's top: where it stands, and that its name names it -/
structure Tx (K : PySem.W.Frag) (mg : Str → Option Value) (x : Str) (st : Stmt) (ps : List Str) : Type where
  f : Addr
  fd : FuncData
  F : Fun K x x st f fd
  m : mg x = some (.ref f)
  b : Binds K fd ps []
/-- a method of the class at C -/
structure Tm (K : PySem.W.Frag) (C : Addr) (x qual : Str) (st : Stmt) (ps : List Str) : Type where
  f : Addr
  fd : FuncData
  F : Fun K x qual st f fd
  me : Meth K C x f
  b : Binds K fd ps []
abbrev s_is_word : Stmt := top 9
theorem sc_is_word : FnScope ["thing", "sign"] ["thing"] (defScope s_is_word) := ⟨rfl, rfl, rfl, by decide +kernel, rfl, by decide +kernel, by decide +kernel⟩
abbrev s_is_concept : Stmt := top 10
theorem sc_is_concept : FnScope ["thing"] ["thing"] (defScope s_is_concept) := ⟨rfl, rfl, rfl, by decide +kernel, rfl, by decide +kernel, by decide +kernel⟩
abbrev s_is_nested : Stmt := top 11
theorem sc_is_nested : FnScope ["thing", "levels", "part"] ["thing", "levels"] (defScope s_is_nested) := ⟨rfl, rfl, rfl, by decide +kernel, rfl, by decide +kernel, by decide +kernel⟩
abbrev s_need_concept : Stmt := top 12
theorem sc_need_concept : FnScope ["thing"] ["thing"] (defScope s_need_concept) := ⟨rfl, rfl, rfl, by decide +kernel, rfl, by decide +kernel, by decide +kernel⟩
abbrev s_need_concepts : Stmt := top 13
theorem sc_need_concepts : FnScope ["things", "thing"] ["things"] (defScope s_need_concepts) := ⟨rfl, rfl, rfl, by decide +kernel, rfl, by decide +kernel, by decide +kernel⟩
abbrev s_inner : Stmt := top 14
theorem sc_inner : FnScope ["concept"] ["concept"] (defScope s_inner) := ⟨rfl, rfl, rfl, by decide +kernel, rfl, by decide +kernel, by decide +kernel⟩
abbrev s_is_without_none : Stmt := top 15
theorem sc_is_without_none : FnScope ["concept", "part"] ["concept"] (defScope s_is_without_none) := ⟨rfl, rfl, rfl, by decide +kernel, rfl, by decide +kernel, by decide +kernel⟩
abbrev s_conjoin : Stmt := top 16
theorem sc_conjoin : FnScope ["concepts"] ["concepts"] (defScope s_conjoin) := ⟨rfl, rfl, rfl, by decide +kernel, rfl, by decide +kernel, by decide +kernel⟩
abbrev s_lies_in : Stmt := top 18
theorem sc_lies_in : FnScope ["part", "whole"] ["part", "whole"] (defScope s_lies_in) := ⟨rfl, rfl, rfl, by decide +kernel, rfl, by decide +kernel, by decide +kernel⟩
abbrev s_f_init : Stmt := inClass (top 20) 0
theorem sc_f_init : FnScope ["self"] ["self"] (defScope s_f_init) := ⟨rfl, rfl, rfl, by decide +kernel, rfl, by decide +kernel, by decide +kernel⟩
abbrev s_f_of : Stmt := inClass (top 20) 1
theorem sc_f_of : FnScope ["self", "concept", "names", "children"] ["self", "concept"] (defScope s_f_of) := ⟨rfl, rfl, rfl, by decide +kernel, rfl, by decide +kernel, by decide +kernel⟩
abbrev s_f_gather : Stmt := inClass (top 20) 2
theorem sc_f_gather : FnScope ["self", "concept", "names", "children", "part"] ["self", "concept", "names", "children"] (defScope s_f_gather) := ⟨rfl, rfl, rfl, by decide +kernel, rfl, by decide +kernel, by decide +kernel⟩
abbrev s_f_make : Stmt := inClass (top 20) 3
theorem sc_f_make : FnScope ["self", "names", "children", "row", "least", "somes", "key", "items", "name", "told", "role", "form", "concept", "_"] ["self", "names", "children"] (defScope s_f_make) := ⟨rfl, rfl, rfl, by decide +kernel, rfl, by decide +kernel, by decide +kernel⟩
abbrev s_f_mask : Stmt := inClass (top 20) 4
theorem sc_f_mask : FnScope ["self", "names", "found", "name"] ["self", "names"] (defScope s_f_mask) := ⟨rfl, rfl, rfl, by decide +kernel, rfl, by decide +kernel, by decide +kernel⟩
abbrev s_f_text_of_some : Stmt := inClass (top 20) 5
theorem sc_f_text_of_some : FnScope ["self", "role", "form"] ["self", "role", "form"] (defScope s_f_text_of_some) := ⟨rfl, rfl, rfl, by decide +kernel, rfl, by decide +kernel, by decide +kernel⟩
abbrev s_f_needed_parts : Stmt := inClass (top 20) 6
theorem sc_f_needed_parts : FnScope ["self", "children", "known", "by_role", "role", "form", "found", "others", "child"] ["self", "children"] (defScope s_f_needed_parts) := ⟨rfl, rfl, rfl, by decide +kernel, rfl, by decide +kernel, by decide +kernel⟩
abbrev s_f_has_lower : Stmt := inClass (top 20) 7
theorem sc_f_has_lower : FnScope ["self", "form", "others", "masks", "own", "other", "one"] ["self", "form", "others"] (defScope s_f_has_lower) := ⟨rfl, rfl, rfl, by decide +kernel, rfl, by decide +kernel, by decide +kernel⟩
abbrev s_f_is_within : Stmt := inClass (top 20) 8
theorem sc_f_is_within : FnScope ["self", "form", "other", "key"] ["self", "form", "other"] (defScope s_f_is_within) := ⟨rfl, rfl, rfl, by decide +kernel, rfl, by decide +kernel, by decide +kernel⟩
abbrev s_f_maps : Stmt := inClass (top 20) 9
theorem sc_f_maps : FnScope ["self", "form", "other", "role", "goal", "met", "own", "child"] ["self", "form", "other"] (defScope s_f_maps) := ⟨rfl, rfl, rfl, by decide +kernel, rfl, by decide +kernel, by decide +kernel⟩
abbrev s_f_common : Stmt := inClass (top 20) 12
theorem sc_f_common : FnScope ["self", "forms", "first", "row", "children", "role", "choice", "name"] ["self", "forms"] (defScope s_f_common) := ⟨rfl, rfl, rfl, by decide +kernel, rfl, by decide +kernel, by decide +kernel⟩
abbrev s_f_lacks : Stmt := inClass (top 20) 13
theorem sc_f_lacks : FnScope ["self", "forms", "name", "form"] ["self", "forms", "name"] (defScope s_f_lacks) := ⟨rfl, rfl, rfl, by decide +kernel, rfl, by decide +kernel, by decide +kernel⟩
abbrev s_f_choices : Stmt := inClass (top 20) 14
theorem sc_f_choices : FnScope ["self", "forms", "found", "role", "rows", "ends", "ways", "way", "end"] ["self", "forms"] (defScope s_f_choices) := ⟨rfl, rfl, rfl, by decide +kernel, rfl, by decide +kernel, by decide +kernel⟩
abbrev s_f_many_choices : Stmt := inClass (top 20) 15
theorem sc_f_many_choices : FnScope ["self", "forms", "total", "role", "many", "ends"] ["self", "forms"] (defScope s_f_many_choices) := ⟨rfl, rfl, rfl, by decide +kernel, rfl, by decide +kernel, by decide +kernel⟩
abbrev s_f_roles_of : Stmt := inClass (top 20) 16
theorem sc_f_roles_of : FnScope ["self", "form", "role", "_"] ["self", "form"] (defScope s_f_roles_of) := ⟨rfl, rfl, rfl, by decide +kernel, rfl, by decide +kernel, by decide +kernel⟩
abbrev s_f_ends_by : Stmt := inClass (top 20) 17
theorem sc_f_ends_by : FnScope ["self", "forms", "role", "form", "child", "own"] ["self", "forms", "role"] (defScope s_f_ends_by) := ⟨rfl, rfl, rfl, by decide +kernel, rfl, by decide +kernel, by decide +kernel⟩
abbrev s_reduced : Stmt := top 23
theorem sc_reduced : FnScope ["concept", "forms"] ["concept"] (defScope s_reduced) := ⟨rfl, rfl, rfl, by decide +kernel, rfl, by decide +kernel, by decide +kernel⟩
abbrev s_need_small : Stmt := top 24
theorem sc_need_small : FnScope ["forms", "numbers", "many", "waiting", "chosen", "_", "choice"] ["forms", "numbers"] (defScope s_need_small) := ⟨rfl, rfl, rfl, by decide +kernel, rfl, by decide +kernel, by decide +kernel⟩
abbrev s_plain_common : Stmt := top 25
theorem sc_plain_common : FnScope ["concepts", "told", "forms", "numbers", "concept"] ["concepts"] (defScope s_plain_common) := ⟨rfl, rfl, rfl, by decide +kernel, rfl, by decide +kernel, by decide +kernel⟩
abbrev s_law_cell_at : Stmt := top 27
theorem sc_law_cell_at : FnScope ["script", "k"] ["script", "k"] (defScope s_law_cell_at) := ⟨rfl, rfl, rfl, by decide +kernel, rfl, by decide +kernel, by decide +kernel⟩
abbrev s_law_draw : Stmt := top 28
theorem sc_law_draw : FnScope ["cell", "k", "bound", "primes"] ["cell", "k", "bound"] (defScope s_law_draw) := ⟨rfl, rfl, rfl, by decide +kernel, rfl, by decide +kernel, by decide +kernel⟩
abbrev s_law_number : Stmt := top 29
theorem sc_law_number : FnScope ["cell", "k", "bound", "power", "lap", "remains", "small"] ["cell", "k", "bound"] (defScope s_law_number) := ⟨rfl, rfl, rfl, by decide +kernel, rfl, by decide +kernel, by decide +kernel⟩
abbrev s_law_next : Stmt := top 30
theorem sc_law_next : FnScope ["draw", "bound", "at", "cell"] ["draw", "bound"] (defScope s_law_next) := ⟨rfl, rfl, rfl, by decide +kernel, rfl, by decide +kernel, by decide +kernel⟩
abbrev s_law_pick : Stmt := top 31
theorem sc_law_pick : FnScope ["draw", "things"] ["draw", "things"] (defScope s_law_pick) := ⟨rfl, rfl, rfl, by decide +kernel, rfl, by decide +kernel, by decide +kernel⟩
abbrev s_law_words : Stmt := top 32
theorem sc_law_words : FnScope ["draw", "many", "letters", "front", "rest", "found", "turn", "own", "at"] ["draw", "many"] (defScope s_law_words) := ⟨rfl, rfl, rfl, by decide +kernel, rfl, by decide +kernel, by decide +kernel⟩
abbrev s_law_alphabet : Stmt := top 33
theorem sc_law_alphabet : FnScope ["draw", "words", "names", "roles"] ["draw"] (defScope s_law_alphabet) := ⟨rfl, rfl, rfl, by decide +kernel, rfl, by decide +kernel, by decide +kernel⟩
abbrev s_law_concept : Stmt := top 34
theorem sc_law_concept : FnScope ["draw", "names", "roles", "deep", "kind", "many", "turn"] ["draw", "names", "roles", "deep"] (defScope s_law_concept) := ⟨rfl, rfl, rfl, by decide +kernel, rfl, by decide +kernel, by decide +kernel⟩
abbrev s_law_larger : Stmt := top 35
theorem sc_law_larger : FnScope ["draw", "concept", "kind", "some", "part"] ["draw", "concept"] (defScope s_law_larger) := ⟨rfl, rfl, rfl, by decide +kernel, rfl, by decide +kernel, by decide +kernel⟩
abbrev s_law : Stmt := top 36
theorem sc_law : FnScope ["script", "draw", "names", "roles", "one", "two", "three", "common", "role"] ["script"] (defScope s_law) := ⟨rfl, rfl, rfl, by decide +kernel, rfl, by decide +kernel, by decide +kernel⟩
/-- what the top has written -/
structure Defs (K : PySem.W.Frag) (mg : Str → Option Value) : Type where
  fC : Addr
  d_is_word : Tx K mg "is_word" s_is_word ["thing"]
  d_is_concept : Tx K mg "is_concept" s_is_concept ["thing"]
  d_is_nested : Tx K mg "_is_nested" s_is_nested ["thing", "levels"]
  d_need_concept : Tx K mg "need_concept" s_need_concept ["thing"]
  d_need_concepts : Tx K mg "need_concepts" s_need_concepts ["things"]
  d_inner : Tx K mg "inner" s_inner ["concept"]
  d_is_without_none : Tx K mg "is_without_none" s_is_without_none ["concept"]
  d_conjoin : Tx K mg "conjoin" s_conjoin ["concepts"]
  d_lies_in : Tx K mg "lies_in" s_lies_in ["part", "whole"]
  d_f_init : Tm K fC "__init__" "Forms.__init__" s_f_init ["self"]
  d_f_of : Tm K fC "of" "Forms.of" s_f_of ["self", "concept"]
  d_f_gather : Tm K fC "_gather" "Forms._gather" s_f_gather ["self", "concept", "names", "children"]
  d_f_make : Tm K fC "make" "Forms.make" s_f_make ["self", "names", "children"]
  d_f_mask : Tm K fC "_mask" "Forms._mask" s_f_mask ["self", "names"]
  d_f_text_of_some : Tm K fC "_text_of_some" "Forms._text_of_some" s_f_text_of_some ["self", "role", "form"]
  d_f_needed_parts : Tm K fC "_needed_parts" "Forms._needed_parts" s_f_needed_parts ["self", "children"]
  d_f_has_lower : Tm K fC "_has_lower" "Forms._has_lower" s_f_has_lower ["self", "form", "others"]
  d_f_is_within : Tm K fC "is_within" "Forms.is_within" s_f_is_within ["self", "form", "other"]
  d_f_maps : Tm K fC "_maps" "Forms._maps" s_f_maps ["self", "form", "other"]
  d_f_common : Tm K fC "common" "Forms.common" s_f_common ["self", "forms"]
  d_f_lacks : Tm K fC "_lacks" "Forms._lacks" s_f_lacks ["self", "forms", "name"]
  d_f_choices : Tm K fC "choices" "Forms.choices" s_f_choices ["self", "forms"]
  d_f_many_choices : Tm K fC "many_choices" "Forms.many_choices" s_f_many_choices ["self", "forms"]
  d_f_roles_of : Tm K fC "_roles_of" "Forms._roles_of" s_f_roles_of ["self", "form"]
  d_f_ends_by : Tm K fC "_ends_by" "Forms._ends_by" s_f_ends_by ["self", "forms", "role"]
  d_reduced : Tx K mg "reduced" s_reduced ["concept"]
  d_need_small : Tx K mg "_need_small" s_need_small ["forms", "numbers"]
  d_law_cell_at : Tx K mg "_law_cell_at" s_law_cell_at ["script", "k"]
  d_law_draw : Tx K mg "_law_draw" s_law_draw ["cell", "k", "bound"]
  d_law_number : Tx K mg "_law_number" s_law_number ["cell", "k", "bound"]
  d_law_next : Tx K mg "_law_next" s_law_next ["draw", "bound"]
  d_law_pick : Tx K mg "_law_pick" s_law_pick ["draw", "things"]
  d_law_words : Tx K mg "_law_words" s_law_words ["draw", "many"]
  d_law_alphabet : Tx K mg "_law_alphabet" s_law_alphabet ["draw"]
  d_law_concept : Tx K mg "_law_concept" s_law_concept ["draw", "names", "roles", "deep"]
  d_law_larger : Tx K mg "_law_larger" s_law_larger ["draw", "concept"]
  d_law : Tx K mg "law" s_law ["script"]
  fC_m : mg "Forms" = some (.ref fC)
  fC_cl : Cls K fC
  fC_mk : PySem.W.makesIn K fC = true
  fC_kp : PySem.W.keepIn K (.ref fC) = true
  fC_nconcepts : NoAttr K fC "concepts"
  fC_ntexts : NoAttr K fC "texts"
  fC_nrows : NoAttr K fC "rows"
  fC_nchildren : NoAttr K fC "children"
  fC_n_numbers : NoAttr K fC "_numbers"
  fC_n_within : NoAttr K fC "_within"
  fC_n_upper : NoAttr K fC "_upper"
  fC_n_masks : NoAttr K fC "_masks"
  fC_n_bits : NoAttr K fC "_bits"
  fC_ntop : NoAttr K fC "top"
  law_b : ∀ (s : Shared) (v : Value), BindsTo s d_law.fd ⟨[v], []⟩ [("script", v)]
  nw : Addr
  nw_m : mg "NO_WORDS" = some (.ref nw)
  nw_l : SqT K (fun _ => none) nw [.str "all", .str "none", .str "some"]
  lo_m : ∃ t, mg "LONGEST" = some (.int 12 t)
  de_m : ∃ t, mg "DEEPEST" = some (.int 100 t)
  mo_m : ∃ t, mg "MOST_NODES" = some (.int 2000 t)
  pc : Addr
  pc_m : mg "plain_common" = some (.ref pc)
  pc_k : PySem.W.keepIn K (.ref pc) = true
  pc_l : ∃ (oc : Value) (od : Option Addr) (kV doc pm : Value) (an : Option Addr) (cdv ct : Value) (osl : Array (Option Value)), K.lookup pc = some ⟨oc, od, .func (PySem.W.fnOf "plain_common" "plain_common" (defArgs s_plain_common) (defBody s_plain_common) (defScope s_plain_common) .none kV doc pm an cdv ct), osl⟩ ∧ PySem.W.codeIn K cdv "plain_common" = true
  z_isinstance : mg "isinstance" = none
  z_str : mg "str" = none
  z_len : mg "len" = none
  z_tuple : mg "tuple" = none
  z_list : mg "list" = none
  z_int : mg "int" = none
  z_sorted : mg "sorted" = none
  z_range : mg "range" = none
  z_set : mg "set" = none
  z_min : mg "min" = none
end K1
namespace K1
open PySem L2
/-! ### the data: concepts as trees -/
inductive Con where
  | atom (s : Str)
  | ex (r : Str) (c : Con)
  | and2 (a b : Con)
  | and3 (a b c : Con)
abbrev cs (x : Str) : List Nat := x.cps.toList
theorem str_ext {a b : Str} (h : cs a = cs b) : a = b := by
  cases a; cases b
  simp only [cs, Array.toList_inj] at h
  rw [h]
def letters (l : List Nat) : Bool := l.all fun c => decide (97 ≤ c) && decide (c ≤ 122)
def noWords : List Str := ["all", "none", "some"]
def wordOk (s : Str) : Bool := decide (1 ≤ s.length) && decide (s.length ≤ 12) && !decide (s ∈ noWords) && letters (cs s)
def nest : Con → Nat
  | .atom _ => 0
  | .ex _ c => nest c + 1
  | .and2 a b => max (nest a) (nest b) + 1
  | .and3 a b c => max (nest a) (max (nest b) (nest c)) + 1
def nodes : Con → Nat
  | .atom _ => 1
  | .ex _ c => nodes c + 1
  | .and2 a b => nodes a + nodes b + 1
  | .and3 a b c => nodes a + (nodes b + nodes c) + 1
/-- the words of a concept are told ones -/
def In (N R : List Str) : Con → Prop
  | .atom s => s = "all" ∨ s = "none" ∨ s ∈ N
  | .ex r c => r ∈ R ∧ In N R c
  | .and2 a b => In N R a ∧ In N R b
  | .and3 a b c => In N R a ∧ In N R b ∧ In N R c
def Good (c : Con) : Prop := ∃ N R, (∀ x ∈ N, wordOk x = true) ∧ (∀ x ∈ R, wordOk x = true) ∧ In N R c
/-- texts -/
def isAnd : Con → Bool
  | .and2 _ _ => true
  | .and3 _ _ _ => true
  | _ => false
def wrap (b : Bool) (l : List Nat) : List Nat := if b then 40 :: (l ++ [41]) else l
def txt : Con → List Nat
  | .atom s => cs s
  | .ex r c => [115, 111, 109, 101, 32] ++ (cs r ++ (32 :: wrap (isAnd c) (txt c)))
  | .and2 a b => wrap (isAnd a) (txt a) ++ ([32, 38, 32] ++ wrap (isAnd b) (txt b))
  | .and3 a b c => wrap (isAnd a) (txt a) ++ ([32, 38, 32] ++ (wrap (isAnd b) (txt b) ++ ([32, 38, 32] ++ wrap (isAnd c) (txt c))))
abbrev par (c : Con) : List Nat := wrap (isAnd c) (txt c)
def End (x : List Nat) : Prop := ∀ c r, x = c :: r → c = 32 ∨ c = 41
theorem end_nil : End [] := fun _ _ h => nomatch h
theorem end_32 {x} : End (32 :: x) := fun c r h => .inl (by injection h with h _; exact h.symm)
theorem end_41 {x} : End (41 :: x) := fun c r h => .inr (by injection h with h _; exact h.symm)
theorem split_letters : ∀ {s t x y : List Nat}, letters s = true → letters t = true → End x → End y → s ++ x = t ++ y → s = t ∧ x = y
  | [], [], x, y, _, _, _, _, h => ⟨rfl, h⟩
  | [], d :: t, x, y, _, ht, ex, _, h => by
    simp [letters] at ht
    rcases ex d (t ++ y) h with rfl | rfl <;> omega
  | c :: s, [], x, y, hs, _, _, ey, h => by
    simp [letters] at hs
    rcases ey c (s ++ x) h.symm with rfl | rfl <;> omega
  | c :: s, d :: t, x, y, hs, ht, ex, ey, h => by
    simp only [List.cons_append, List.cons.injEq] at h
    simp only [letters, List.all_cons, Bool.and_eq_true] at hs ht
    obtain ⟨h1, h2⟩ := split_letters (s := s) (t := t) hs.2 ht.2 ex ey h.2
    exact ⟨by rw [h.1, h1], h2⟩
/-- what a word of a concept is -/
def Wd (s : Str) : Prop := letters (cs s) = true ∧ cs s ≠ [] ∧ cs s ≠ [115, 111, 109, 101]
def Wf : Con → Prop
  | .atom s => Wd s
  | .ex r c => Wd r ∧ Wf c
  | .and2 a b => Wf a ∧ Wf b
  | .and3 a b c => Wf a ∧ Wf b ∧ Wf c
theorem par_atom {s : Str} : par (.atom s) = cs s := rfl
theorem par_ex {r : Str} {c : Con} : par (.ex r c) = [115, 111, 109, 101, 32] ++ (cs r ++ (32 :: par c)) := rfl
theorem par_and2 {a b : Con} : par (.and2 a b) = 40 :: ((par a ++ ([32, 38, 32] ++ par b)) ++ [41]) := rfl
theorem par_and3 {a b c : Con} : par (.and3 a b c) = 40 :: ((par a ++ ([32, 38, 32] ++ (par b ++ ([32, 38, 32] ++ par c)))) ++ [41]) := rfl
theorem atom_ex {s r : Str} {c : Con} {x y : List Nat} (hs : Wd s) (ex : End x) (h : par (.atom s) ++ x = par (.ex r c) ++ y) : False := by
  rw [par_atom, par_ex] at h
  have h' : cs s ++ x = [115, 111, 109, 101] ++ (32 :: (cs r ++ (32 :: par c) ++ y)) := by rw [h]; simp
  exact hs.2.2 (split_letters hs.1 (by decide) ex end_32 h').1
theorem atom_40 {s : Str} {x y : List Nat} (hs : Wd s) (h : cs s ++ x = 40 :: y) : False := by
  cases e : cs s with
  | nil => exact hs.2.1 e
  | cons c l =>
    rw [e] at h
    have h1 := hs.1
    rw [e] at h1
    simp only [List.cons_append, List.cons.injEq] at h
    simp [letters] at h1
    omega
theorem par_inj : ∀ (a b : Con) (x y : List Nat), Wf a → Wf b → End x → End y → par a ++ x = par b ++ y → a = b ∧ x = y
  | .atom s, .atom t, x, y, ha, hb, ex, ey, h => by
    obtain ⟨h1, h2⟩ := split_letters (show letters (cs s) = true from ha.1) (show letters (cs t) = true from hb.1) ex ey h
    exact ⟨by rw [str_ext h1], h2⟩
  | .atom s, .ex r c, x, y, ha, _, ex, _, h => (atom_ex ha ex h).elim
  | .atom s, .and2 p q, x, y, ha, _, ex, _, h => (atom_40 ha (show cs s ++ x = 40 :: _ from h)).elim
  | .atom s, .and3 p q r, x, y, ha, _, ex, _, h => (atom_40 ha (show cs s ++ x = 40 :: _ from h)).elim
  | .ex r c, .atom t, x, y, _, hb, _, ey, h => (atom_ex hb ey h.symm).elim
  | .ex r c, .ex r' c', x, y, ha, hb, ex, ey, h => by
    rw [par_ex, par_ex] at h
    simp only [List.append_assoc, List.cons_append, List.nil_append, List.cons.injEq, true_and] at h
    obtain ⟨h1, h2⟩ := split_letters ha.1.1 hb.1.1 end_32 end_32 h
    simp only [List.cons.injEq, true_and] at h2
    obtain ⟨h3, h4⟩ := par_inj c c' x y ha.2 hb.2 ex ey h2
    exact ⟨by rw [str_ext h1, h3], h4⟩
  | .ex r c, .and2 p q, x, y, _, _, _, _, h => by
    rw [par_ex, par_and2] at h
    simp at h
  | .ex r c, .and3 p q s, x, y, _, _, _, _, h => by
    rw [par_ex, par_and3] at h
    simp at h
  | .and2 p q, .atom t, x, y, _, hb, _, ey, h => (atom_40 hb (show cs t ++ y = 40 :: _ from h.symm)).elim
  | .and2 p q, .ex r c, x, y, _, _, _, _, h => by
    rw [par_ex, par_and2] at h
    simp at h
  | .and2 p q, .and2 p' q', x, y, ha, hb, ex, ey, h => by
    rw [par_and2, par_and2] at h
    simp only [List.append_assoc, List.cons_append, List.nil_append, List.cons.injEq, true_and] at h
    obtain ⟨h1, h2⟩ := par_inj p p' _ _ ha.1 hb.1 end_32 end_32 h
    simp only [List.cons.injEq, true_and] at h2
    obtain ⟨h3, h4⟩ := par_inj q q' _ _ ha.2 hb.2 end_41 end_41 h2
    simp only [List.cons.injEq, true_and] at h4
    exact ⟨by rw [h1, h3], h4⟩
  | .and2 p q, .and3 p' q' s, x, y, ha, hb, ex, ey, h => by
    rw [par_and2, par_and3] at h
    simp only [List.append_assoc, List.cons_append, List.nil_append, List.cons.injEq, true_and] at h
    obtain ⟨h1, h2⟩ := par_inj p p' _ _ ha.1 hb.1 end_32 end_32 h
    simp only [List.cons.injEq, true_and] at h2
    obtain ⟨h3, h4⟩ := par_inj q q' _ _ ha.2 hb.2.1 end_41 end_32 h2
    simp at h4
  | .and3 p q s, .atom t, x, y, _, hb, _, ey, h => (atom_40 hb (show cs t ++ y = 40 :: _ from h.symm)).elim
  | .and3 p q s, .ex r c, x, y, _, _, _, _, h => by
    rw [par_ex, par_and3] at h
    simp at h
  | .and3 p q s, .and2 p' q', x, y, ha, hb, ex, ey, h => by
    rw [par_and2, par_and3] at h
    simp only [List.append_assoc, List.cons_append, List.nil_append, List.cons.injEq, true_and] at h
    obtain ⟨h1, h2⟩ := par_inj p p' _ _ ha.1 hb.1 end_32 end_32 h
    simp only [List.cons.injEq, true_and] at h2
    obtain ⟨h3, h4⟩ := par_inj q q' _ _ ha.2.1 hb.2 end_32 end_41 h2
    simp at h4
  | .and3 p q s, .and3 p' q' s', x, y, ha, hb, ex, ey, h => by
    rw [par_and3, par_and3] at h
    simp only [List.append_assoc, List.cons_append, List.nil_append, List.cons.injEq, true_and] at h
    obtain ⟨h1, h2⟩ := par_inj p p' _ _ ha.1 hb.1 end_32 end_32 h
    simp only [List.cons.injEq, true_and] at h2
    obtain ⟨h3, h4⟩ := par_inj q q' _ _ ha.2.1 hb.2.1 end_32 end_32 h2
    simp only [List.cons.injEq, true_and] at h4
    obtain ⟨h5, h6⟩ := par_inj s s' _ _ ha.2.2 hb.2.2 end_41 end_41 h4
    simp only [List.cons.injEq, true_and] at h6
    exact ⟨by rw [h1, h3, h5], h6⟩
/-- an and's text begins with its first part's and goes on with a blank -/
theorem txt_and {a : Con} (h : isAnd a = true) : ∃ p r, txt a = par p ++ (32 :: r) ∧ (Wf a → Wf p) := by
  cases a with
  | atom s => cases h
  | ex r c => cases h
  | and2 p q => exact ⟨p, 38 :: 32 :: par q, rfl, fun w => w.1⟩
  | and3 p q s => exact ⟨p, 38 :: 32 :: (par q ++ ([32, 38, 32] ++ par s)), rfl, fun w => w.1⟩
theorem par_no {c : Con} (h : isAnd c = false) : par c = txt c := by
  unfold par wrap
  rw [h]
  rfl
theorem txt_inj {a b : Con} (ha : Wf a) (hb : Wf b) (h : txt a = txt b) : a = b := by
  have key : ∀ c d : Con, Wf c → Wf d → isAnd c = true → isAnd d = false → txt c = txt d → False := by
    intro c d hc hd h1 h2 e
    obtain ⟨p, r, e1, w⟩ := txt_and h1
    have z : par p ++ (32 :: r) = par d ++ [] := by rw [List.append_nil, par_no h2, ← e, e1]
    have z2 := (par_inj p d _ _ (w hc) hd end_32 end_nil z).2
    cases z2
  cases h1 : isAnd a with
  | true =>
    cases h2 : isAnd b with
    | true =>
      have z : par a ++ [] = par b ++ [] := by
        unfold par wrap
        rw [h1, h2, h]
      exact (par_inj a b _ _ ha hb end_nil end_nil z).1
    | false => exact (key a b ha hb h1 h2 h).elim
  | false =>
    cases h2 : isAnd b with
    | true => exact (key b a hb ha h2 h1 h.symm).elim
    | false =>
      have z : par a ++ [] = par b ++ [] := by rw [List.append_nil, List.append_nil, par_no h1, par_no h2, h]
      exact (par_inj a b _ _ ha hb end_nil end_nil z).1
theorem wd_of {s : Str} (h : wordOk s = true) : Wd s := by
  unfold wordOk at h
  simp only [Bool.and_eq_true, decide_eq_true_eq, Bool.not_eq_true', decide_eq_false_iff_not] at h
  obtain ⟨⟨⟨h1, h2⟩, h3⟩, h4⟩ := h
  refine ⟨h4, fun e => ?_, fun e => ?_⟩
  · have : s.length = (cs s).length := rfl
    rw [e] at this
    simp at this
    omega
  · have : s = ("some" : Str) := str_ext (by rw [e]; decide +kernel)
    exact h3 (by rw [this]; decide +kernel)
theorem wf_of {N R : List Str} (hN : ∀ x ∈ N, wordOk x = true) (hR : ∀ x ∈ R, wordOk x = true) : ∀ {c : Con}, In N R c → Wf c
  | .atom s, h => by
    rcases h with h | h | h
    · rw [h]; exact ⟨by decide +kernel, by decide +kernel, by decide +kernel⟩
    · rw [h]; exact ⟨by decide +kernel, by decide +kernel, by decide +kernel⟩
    · exact wd_of (hN _ h)
  | .ex r c, h => ⟨wd_of (hR _ h.1), wf_of hN hR h.2⟩
  | .and2 a b, h => ⟨wf_of hN hR h.1, wf_of hN hR h.2⟩
  | .and3 a b c, h => ⟨wf_of hN hR h.1, wf_of hN hR h.2.1, wf_of hN hR h.2.2⟩
/-! ### ascending lists -/
def ltb (a b : Str) : Bool := PySem.Spec.ltCps (cs a) (cs b)
theorem ltc_irrefl : ∀ a : List Nat, PySem.Spec.ltCps a a = false
  | [] => rfl
  | a :: r => by simp [PySem.Spec.ltCps, ltc_irrefl r]
theorem ltc_trans : ∀ {a b c : List Nat}, PySem.Spec.ltCps a b = true → PySem.Spec.ltCps b c = true → PySem.Spec.ltCps a c = true
  | [], [], _, h, _ => by simp [PySem.Spec.ltCps] at h
  | [], _ :: _, [], _, h => by simp [PySem.Spec.ltCps] at h
  | [], _ :: _, _ :: _, _, _ => rfl
  | _ :: _, [], _, h, _ => by simp [PySem.Spec.ltCps] at h
  | _ :: _, _ :: _, [], _, h => by simp [PySem.Spec.ltCps] at h
  | a :: r, b :: t, c :: u, h1, h2 => by
    simp only [PySem.Spec.ltCps, Bool.or_eq_true, Bool.and_eq_true, decide_eq_true_eq, beq_iff_eq] at h1 h2 ⊢
    rcases h1 with h1 | ⟨rfl, h1⟩
    · rcases h2 with h2 | ⟨rfl, h2⟩
      · exact .inl (by omega)
      · exact .inl h1
    · rcases h2 with h2 | ⟨rfl, h2⟩
      · exact .inl h2
      · exact .inr ⟨rfl, ltc_trans h1 h2⟩
theorem ltc_total : ∀ {a b : List Nat}, PySem.Spec.ltCps a b = false → PySem.Spec.ltCps b a = false → a = b
  | [], [], _, _ => rfl
  | [], _ :: _, h, _ => by simp [PySem.Spec.ltCps] at h
  | _ :: _, [], _, h => by simp [PySem.Spec.ltCps] at h
  | a :: r, b :: t, h1, h2 => by
    simp only [PySem.Spec.ltCps, Bool.or_eq_false_iff, Bool.and_eq_false_imp, decide_eq_false_iff_not, beq_iff_eq] at h1 h2
    have e : a = b := by omega
    subst e
    rw [ltc_total (h1.2 rfl) (h2.2 rfl)]
theorem ltb_irrefl (a : Str) : ltb a a = false := ltc_irrefl _
theorem ltb_trans {a b c : Str} (h : ltb a b = true) (h' : ltb b c = true) : ltb a c = true := ltc_trans h h'
theorem ltb_total {a b : Str} (h : ltb a b = false) (h' : ltb b a = false) : a = b := str_ext (ltc_total h h')
theorem leb_trans {a b c : Str} (h : ltb b a = false) (h' : ltb c b = false) : ltb c a = false := by
  cases q : ltb c a with
  | false => rfl
  | true =>
    cases q2 : ltb b c with
    | true => rw [ltb_trans q2 q] at h; cases h
    | false =>
      have e := ltb_total h' q2
      subst e
      rw [h] at q
      cases q
def Asc (l : List Str) : Prop := l.Pairwise fun a b => ltb a b = true
def Weak (l : List Str) : Prop := l.Pairwise fun a b => ltb b a = false
theorem rising_weak : ∀ {p : Str} {l : List Str}, PyProof.Rows.risingS p l = true → Weak (p :: l)
  | p, [], _ => List.pairwise_singleton _ _
  | p, x :: r, h => by
    unfold PyProof.Rows.risingS at h
    simp only [Bool.and_eq_true, Bool.not_eq_true'] at h
    have ih := rising_weak h.2
    refine List.pairwise_cons.mpr ⟨fun y hy => ?_, ih⟩
    rcases List.mem_cons.mp hy with rfl | hy
    · exact h.1
    · exact leb_trans h.1 ((List.pairwise_cons.mp ih).1 y hy)
theorem weak_of {l : List Str} (h : PyProof.Rows.sortedS l = true) : Weak l := by
  cases l with
  | nil => exact List.Pairwise.nil
  | cons x r => exact rising_weak h
theorem asc_of {l : List Str} (h : Weak l) (nd : l.Nodup) : Asc l := by
  refine (h.and nd).imp ?_
  intro a b ⟨h1, h2⟩
  cases q : ltb a b with
  | true => rfl
  | false => exact (h2 (ltb_total q h1)).elim
theorem asc_uniq : ∀ {l m : List Str}, Asc l → Asc m → (∀ x, x ∈ l ↔ x ∈ m) → l = m
  | [], [], _, _, _ => rfl
  | [], y :: m, _, _, h => absurd ((h y).mpr (List.mem_cons_self ..)) (by simp)
  | x :: l, [], _, _, h => absurd ((h x).mp (List.mem_cons_self ..)) (by simp)
  | x :: l, y :: m, h1, h2, h => by
    have a1 := List.pairwise_cons.mp h1
    have a2 := List.pairwise_cons.mp h2
    have e : x = y := by
      rcases List.mem_cons.mp ((h x).mp (List.mem_cons_self ..)) with e | e
      · exact e
      · rcases List.mem_cons.mp ((h y).mpr (List.mem_cons_self ..)) with e' | e'
        · exact e'.symm
        · have q := ltb_trans (a1.1 y e') (a2.1 x e)
          rw [ltb_irrefl] at q
          cases q
    subst e
    rw [asc_uniq a1.2 a2.2 fun z => ?_]
    constructor
    · intro hz
      rcases List.mem_cons.mp ((h z).mp (List.mem_cons_of_mem _ hz)) with e | e
      · subst e
        have q := a1.1 z hz
        rw [ltb_irrefl] at q
        cases q
      · exact e
    · intro hz
      rcases List.mem_cons.mp ((h z).mpr (List.mem_cons_of_mem _ hz)) with e | e
      · subst e
        have q := a2.1 z hz
        rw [ltb_irrefl] at q
        cases q
      · exact e
/-! ### sizes -/
theorem nest_le_nodes : ∀ c : Con, nest c ≤ nodes c
  | .atom _ => Nat.zero_le _
  | .ex _ c => Nat.succ_le_succ (nest_le_nodes c)
  | .and2 a b => by have := nest_le_nodes a; have := nest_le_nodes b; unfold nest nodes; omega
  | .and3 a b c => by have := nest_le_nodes a; have := nest_le_nodes b; have := nest_le_nodes c; unfold nest nodes; omega
theorem nodes_pos : ∀ c : Con, 1 ≤ nodes c
  | .atom _ => Nat.le_refl _
  | .ex _ c => by unfold nodes; omega
  | .and2 a b => by unfold nodes; omega
  | .and3 a b c => by unfold nodes; omega
theorem word_len {s : Str} (h : wordOk s = true) : (cs s).length ≤ 12 := by
  unfold wordOk at h
  simp only [Bool.and_eq_true, decide_eq_true_eq] at h
  exact h.1.1.2
theorem wrap_len (b : Bool) (l : List Nat) : (wrap b l).length ≤ l.length + 2 := by
  unfold wrap
  split <;> simp
theorem txt_len {N R : List Str} (hN : ∀ x ∈ N, wordOk x = true) (hR : ∀ x ∈ R, wordOk x = true) : ∀ {c : Con}, In N R c → (txt c).length + 2 ≤ 24 * nodes c
  | .atom s, h => by
    have : (cs s).length ≤ 12 := by
      rcases h with h | h | h
      · rw [h]; decide +kernel
      · rw [h]; decide +kernel
      · exact word_len (hN _ h)
    simp only [txt, nodes]
    omega
  | .ex r c, h => by
    have := txt_len hN hR h.2
    have := word_len (hR _ h.1)
    have := wrap_len (isAnd c) (txt c)
    simp only [txt, nodes, List.length_append, List.length_cons, List.length_nil]
    omega
  | .and2 a b, h => by
    have := txt_len hN hR h.1
    have := txt_len hN hR h.2
    have := wrap_len (isAnd a) (txt a)
    have := wrap_len (isAnd b) (txt b)
    simp only [txt, nodes, List.length_append, List.length_cons, List.length_nil]
    omega
  | .and3 a b c, h => by
    have := txt_len hN hR h.1
    have := txt_len hN hR h.2.1
    have := txt_len hN hR h.2.2
    have := wrap_len (isAnd a) (txt a)
    have := wrap_len (isAnd b) (txt b)
    have := wrap_len (isAnd c) (txt c)
    simp only [txt, nodes, List.length_append, List.length_cons, List.length_nil]
    omega
/-! ### parts, depth, size, words -/
def prt : Con → List Con
  | .atom s => [.atom s]
  | .ex r c => .ex r c :: prt c
  | .and2 a b => .and2 a b :: (prt a ++ prt b)
  | .and3 a b c => .and3 a b c :: (prt a ++ (prt b ++ prt c))
theorem prt_len : ∀ c : Con, (prt c).length = nodes c
  | .atom _ => rfl
  | .ex r c => by simp [prt, nodes, prt_len c]
  | .and2 a b => by simp [prt, nodes, prt_len a, prt_len b]
  | .and3 a b c => by simp [prt, nodes, prt_len a, prt_len b, prt_len c]
theorem prt_self : ∀ c : Con, c ∈ prt c
  | .atom _ => by simp [prt]
  | .ex r c => by simp [prt]
  | .and2 a b => by simp [prt]
  | .and3 a b c => by simp [prt]
theorem prt_in {N R : List Str} : ∀ {c : Con}, In N R c → ∀ p ∈ prt c, In N R p
  | .atom s, h, p, hp => by simp only [prt, List.mem_singleton] at hp; subst hp; exact h
  | .ex r c, h, p, hp => by
    simp only [prt, List.mem_cons] at hp
    rcases hp with rfl | hp
    · exact h
    · exact prt_in h.2 p hp
  | .and2 a b, h, p, hp => by
    simp only [prt, List.mem_cons, List.mem_append] at hp
    rcases hp with rfl | hp | hp
    · exact h
    · exact prt_in h.1 p hp
    · exact prt_in h.2 p hp
  | .and3 a b c, h, p, hp => by
    simp only [prt, List.mem_cons, List.mem_append] at hp
    rcases hp with rfl | hp | hp | hp
    · exact h
    · exact prt_in h.1 p hp
    · exact prt_in h.2.1 p hp
    · exact prt_in h.2.2 p hp
def dep : Con → Int
  | .atom _ => 0
  | .ex _ c => dep c + 1
  | .and2 a b => max (dep a) (dep b)
  | .and3 a b c => max (dep a) (max (dep b) (dep c))
theorem dep_nn : ∀ c : Con, 0 ≤ dep c
  | .atom _ => Int.le_refl _
  | .ex _ c => by have := dep_nn c; unfold dep; omega
  | .and2 a b => by have := dep_nn a; unfold dep; omega
  | .and3 a b c => by have := dep_nn a; unfold dep; omega
def siz : Con → Int
  | .atom s => if s = "all" ∨ s = "none" then 0 else 1
  | .ex _ c => 1 + siz c
  | .and2 a b => siz a + siz b
  | .and3 a b c => siz a + siz b + siz c
/-- a name that a concept is -/
def isName (s : Str) : Prop := ¬ (s = "all" ∨ s = "none")
def nms : Con → List Str
  | .atom s => if s = "all" ∨ s = "none" then [] else [s]
  | .ex _ c => nms c
  | .and2 a b => nms a ++ nms b
  | .and3 a b c => nms a ++ (nms b ++ nms c)
def rls : Con → List Str
  | .atom _ => []
  | .ex r c => r :: rls c
  | .and2 a b => rls a ++ rls b
  | .and3 a b c => rls a ++ (rls b ++ rls c)
theorem nms_in {N R : List Str} : ∀ {c : Con}, In N R c → ∀ x ∈ nms c, x ∈ N
  | .atom s, h, x, hx => by
    unfold nms at hx
    split at hx
    · simp at hx
    · rename_i q
      simp only [List.mem_singleton] at hx
      subst hx
      rcases h with h | h | h
      · exact (q (.inl h)).elim
      · exact (q (.inr h)).elim
      · exact h
  | .ex r c, h, x, hx => nms_in h.2 x hx
  | .and2 a b, h, x, hx => by
    simp only [nms, List.mem_append] at hx
    rcases hx with hx | hx
    · exact nms_in h.1 x hx
    · exact nms_in h.2 x hx
  | .and3 a b c, h, x, hx => by
    simp only [nms, List.mem_append] at hx
    rcases hx with hx | hx | hx
    · exact nms_in h.1 x hx
    · exact nms_in h.2.1 x hx
    · exact nms_in h.2.2 x hx
theorem rls_in {N R : List Str} : ∀ {c : Con}, In N R c → ∀ x ∈ rls c, x ∈ R
  | .atom s, h, x, hx => by simp [rls] at hx
  | .ex r c, h, x, hx => by
    simp only [rls, List.mem_cons] at hx
    rcases hx with rfl | hx
    · exact h.1
    · exact rls_in h.2 x hx
  | .and2 a b, h, x, hx => by
    simp only [rls, List.mem_append] at hx
    rcases hx with hx | hx
    · exact rls_in h.1 x hx
    · exact rls_in h.2 x hx
  | .and3 a b c, h, x, hx => by
    simp only [rls, List.mem_append] at hx
    rcases hx with hx | hx | hx
    · exact rls_in h.1 x hx
    · exact rls_in h.2.1 x hx
    · exact rls_in h.2.2 x hx
/-- a list without repeats whose members are all in another one is no longer than it -/
theorem nodup_le : ∀ {l m : List Str}, l.Nodup → (∀ x ∈ l, x ∈ m) → l.length ≤ m.length
  | [], _, _, _ => Nat.zero_le _
  | x :: l, m, nd, h => by
    have h1 := List.nodup_cons.mp nd
    have hx := h x (List.mem_cons_self ..)
    have ih := nodup_le (l := l) (m := m.erase x) h1.2 fun y hy => by
      have ne : y ≠ x := fun e => h1.1 (e ▸ hy)
      exact (List.mem_erase_of_ne ne).mpr (h y (List.mem_cons_of_mem _ hy))
    rw [List.length_erase_of_mem hx] at ih
    have pos : 0 < m.length := List.length_pos_of_mem hx
    rw [List.length_cons]
    omega
end K1
namespace K1
open PySem L2
/-! ### what stands in the heap -/
theorem same_new {H : Hp} {p : Addr} (h : H p = none) (o : HO) : Same H (upd H p o) := fun b u q => by rw [upd_ne (ne_of_none q h)]; exact q
theorem Same.tup {H H' : Hp} {K : PySem.W.Frag} {a : Addr} {xs : List V} (e : Same H H') (h : SqT K H a xs) : SqT K H' a xs := by
  rcases h with (h | ⟨o, h⟩) | h
  · exact .inl (.inl (e _ _ h))
  · exact .inl (.inr ⟨o, e _ _ h⟩)
  · exact .inr h
theorem sqt_k {H' : Hp} {K : PySem.W.Frag} {a : Addr} {xs : List V} (h : SqT K (fun _ => none) a xs) : SqT K H' a xs := by
  rcases h with (h | ⟨o, h⟩) | h
  · cases h
  · cases h
  · exact .inr h
theorem take_more {α : Type} : ∀ {l : List α} {i : Nat} {x : α}, l[i]? = some x → l.take (i + 1) = l.take i ++ [x]
  | [], i, x, h => by simp at h
  | a :: l, 0, x, h => by
    have e : a = x := Option.some.inj h
    subst e
    rfl
  | a :: l, i + 1, x, h => by
    have ih := take_more (l := l) (i := i) (x := x) h
    show a :: l.take (i + 1) = a :: l.take i ++ [x]
    rw [ih]
    rfl
theorem paired_get {α β : Type} {F : α → β → Prop} : ∀ {xs : List α} {us : List β} {i : Nat} {u : β}, Paired F xs us → us[i]? = some u → ∃ x, xs[i]? = some x ∧ F x u
  | _, _, _, _, .nil, e => by simp at e
  | _, _, 0, _, .cons r _, e => by simp at e; subst e; exact ⟨_, rfl, r⟩
  | _, _, i + 1, u, .cons _ t, e => by
    obtain ⟨x, h1, h2⟩ := paired_get (i := i) (u := u) t (by simpa using e)
    exact ⟨x, by simpa using h1, h2⟩
theorem paired_get2 {α β : Type} {F : α → β → Prop} : ∀ {xs : List α} {us : List β} {i : Nat} {x : α}, Paired F xs us → xs[i]? = some x → ∃ u, us[i]? = some u ∧ F x u
  | _, _, _, _, .nil, e => by simp at e
  | _, _, 0, _, .cons r _, e => by simp at e; subst e; exact ⟨_, rfl, r⟩
  | _, _, i + 1, x, .cons _ t, e => by
    obtain ⟨u, h1, h2⟩ := paired_get2 (i := i) (x := x) t (by simpa using e)
    exact ⟨u, by simpa using h1, h2⟩
theorem paired_len {α β : Type} {F : α → β → Prop} : ∀ {xs : List α} {us : List β}, Paired F xs us → xs.length = us.length
  | _, _, .nil => rfl
  | _, _, .cons _ t => by simp [paired_len t]
theorem paired_snoc {α β : Type} {F : α → β → Prop} {x : α} {u : β} (h : F x u) : ∀ {xs : List α} {us : List β}, Paired F xs us → Paired F (xs ++ [x]) (us ++ [u])
  | _, _, .nil => .cons h .nil
  | _, _, .cons r t => .cons r (paired_snoc h t)
/-- a value that isinstance may be asked of -/
def Pl (H : Hp) : V → Prop
  | .non => True
  | .bl _ => True
  | .int _ => True
  | .str s => s.length ≤ 1000
  | .ref a => (∃ xs, H a = some (.lst xs)) ∨ ∃ xs, H a = some (.tup xs)
  | _ => False
theorem Pl.same {H H' : Hp} (e : Same H H') : ∀ {v : V}, Pl H v → Pl H' v
  | .non, h => h
  | .bl _, h => h
  | .int _, h => h
  | .str _, h => h
  | .ref a, h => by
    rcases h with ⟨xs, h⟩ | ⟨xs, h⟩
    · exact .inl ⟨xs, e _ _ h⟩
    · exact .inr ⟨xs, e _ _ h⟩
  | .byt _, h => h.elim
  | .flt _, h => h.elim
  | .ty _, h => h.elim
def isStr : V → Bool
  | .str _ => true
  | _ => false
def isTup (H : Hp) : V → Bool
  | .ref a => match H a with
    | some (.tup _) => true
    | _ => false
  | _ => false
theorem kbs1 : kitB "NoneType" "str" = some false := by decide +kernel
theorem kbs2 : kitB "bool" "str" = some false := by decide +kernel
theorem kbs3 : kitB "int" "str" = some false := by decide +kernel
theorem kbs4 : kitB "str" "str" = some true := by decide +kernel
theorem kbs5 : kitB "list" "str" = some false := by decide +kernel
theorem kbs6 : kitB "tuple" "str" = some false := by decide +kernel
theorem kbt1 : kitB "NoneType" "tuple" = some false := by decide +kernel
theorem kbt2 : kitB "bool" "tuple" = some false := by decide +kernel
theorem kbt3 : kitB "int" "tuple" = some false := by decide +kernel
theorem kbt4 : kitB "str" "tuple" = some false := by decide +kernel
theorem kbt5 : kitB "list" "tuple" = some false := by decide +kernel
theorem kbt6 : kitB "tuple" "tuple" = some true := by decide +kernel
theorem isTup_lst {H : Hp} {a : Addr} {xs : List V} (h : H a = some (.lst xs)) : isTup H (.ref a) = false := by simp [isTup, h]
theorem isTup_tup {H : Hp} {a : Addr} {xs : List V} (h : H a = some (.tup xs)) : isTup H (.ref a) = true := by simp [isTup, h]
theorem pl_str {K : PySem.W.Frag} {H : Hp} : ∀ {v : V}, Pl H v → ∃ t, TyX K H v t ∧ PySem.W.kitOne K t (.type "str") = some (isStr v)
  | .non, _ => ⟨_, .base .non, kit_ty kbs1⟩
  | .bl b, _ => ⟨_, .base (.bl b), kit_ty kbs2⟩
  | .int i, _ => ⟨_, .base (.int i), kit_ty kbs3⟩
  | .str s, _ => ⟨_, .base (.str s), kit_ty kbs4⟩
  | .ref a, h => by
    rcases h with ⟨xs, h⟩ | ⟨xs, h⟩
    · exact ⟨_, .base (.lst h), kit_ty kbs5⟩
    · exact ⟨_, .base (.tup h), kit_ty kbs6⟩
  | .byt _, h => h.elim
  | .flt _, h => h.elim
  | .ty _, h => h.elim
theorem pl_tup {K : PySem.W.Frag} {H : Hp} : ∀ {v : V}, Pl H v → ∃ t, TyX K H v t ∧ PySem.W.kitOne K t (.type "tuple") = some (isTup H v)
  | .non, _ => ⟨_, .base .non, kit_ty kbt1⟩
  | .bl b, _ => ⟨_, .base (.bl b), kit_ty kbt2⟩
  | .int i, _ => ⟨_, .base (.int i), kit_ty kbt3⟩
  | .str s, _ => ⟨_, .base (.str s), kit_ty kbt4⟩
  | .ref a, h => by
    rcases h with ⟨xs, h⟩ | ⟨xs, h⟩
    · exact ⟨_, .base (.lst h), by rw [isTup_lst h]; exact kit_ty kbt5⟩
    · exact ⟨_, .base (.tup h), by rw [isTup_tup h]; exact kit_ty kbt6⟩
  | .byt _, h => h.elim
  | .flt _, h => h.elim
  | .ty _, h => h.elim
def isWordV : V → Bool
  | .str s => wordOk s
  | _ => false
/-- what _is_nested answers -/
def nestedB (H : Hp) : Nat → V → Bool
  | 0, .str s => decide (s = "all" ∨ s = "none") || wordOk s
  | 0, _ => false
  | n + 1, .str s => decide (s = "all" ∨ s = "none") || wordOk s
  | n + 1, .ref a => match H a with
    | some (.tup (.str k :: x :: y :: r)) =>
      if k = "some" then decide (r = []) && (isWordV x && nestedB H n y)
      else if k = "and" then (x :: y :: r).all (nestedB H n) else false
    | _ => false
  | _ + 1, _ => false
theorem nestedB_str {H : Hp} {n : Nat} {s : Str} : nestedB H n (.str s) = (decide (s = "all" ∨ s = "none") || wordOk s) := by cases n <;> rfl
/-- known so deep that it can be asked -/
def Kn (H : Hp) : Nat → V → Prop
  | 0, v => Pl H v ∧ ∀ a xs, v = .ref a → H a ≠ some (.tup xs)
  | m + 1, v => Pl H v ∧ ∀ a xs, v = .ref a → H a = some (.tup xs) → ∀ x ∈ xs, Kn H m x
theorem Kn.pl {H : Hp} : ∀ {m : Nat} {v : V}, Kn H m v → Pl H v
  | 0, _, h => h.1
  | _ + 1, _, h => h.1
theorem Kn.same {H H' : Hp} (e : Same H H') : ∀ {m : Nat} {v : V}, Kn H m v → Kn H' m v
  | 0, v, h => ⟨h.1.same e, fun a xs hv q => by
    subst hv
    rcases h.1 with ⟨ys, g⟩ | ⟨ys, g⟩
    · rw [e _ _ g] at q; cases q
    · exact h.2 _ _ rfl g⟩
  | m + 1, v, h => ⟨h.1.same e, fun a xs hv q x hx => by
    subst hv
    rcases h.1 with ⟨ys, g⟩ | ⟨ys, g⟩
    · rw [e _ _ g] at q; cases q
    · have q' := e _ _ g
      rw [q] at q'
      cases q'
      exact Kn.same e (h.2 _ _ rfl g x hx)⟩
theorem nestedB_same {H H' : Hp} (e : Same H H') : ∀ {n m : Nat} {v : V}, Kn H m v → nestedB H' n v = nestedB H n v
  | n, m, .str s, _ => by rw [nestedB_str, nestedB_str]
  | 0, m, .ref a, _ => rfl
  | n + 1, m, .ref a, h => by
    rcases h.pl with ⟨ys, g⟩ | ⟨ys, g⟩
    · simp only [nestedB, g, e _ _ g]
    · have hk : ∀ x ∈ ys, ∃ m', Kn H m' x := by
        cases m with
        | zero => exact (h.2 _ _ rfl g).elim
        | succ m => exact fun x hx => ⟨m, h.2 _ _ rfl g x hx⟩
      simp only [nestedB, g, e _ _ g]
      split
      · rename_i k x y r hz
        cases hz
        have key : ∀ z ∈ (x :: y :: r), nestedB H' n z = nestedB H n z := fun z hz => by
          obtain ⟨m', q⟩ := hk z (List.mem_cons_of_mem _ hz)
          exact nestedB_same e q
        rw [key y (by simp)]
        have e2 : (x :: y :: r).all (nestedB H' n) = (x :: y :: r).all (nestedB H n) := by
          rw [Bool.eq_iff_iff, List.all_eq_true, List.all_eq_true]
          exact ⟨fun z w hw => (key w hw) ▸ z w hw, fun z w hw => (key w hw).symm ▸ z w hw⟩
        rw [e2]
      · rfl
  | 0, m, .non, _ => rfl
  | 0, m, .bl _, _ => rfl
  | 0, m, .int _, _ => rfl
  | 0, m, .byt _, _ => rfl
  | 0, m, .flt _, _ => rfl
  | 0, m, .ty _, _ => rfl
  | n + 1, m, .non, _ => rfl
  | n + 1, m, .bl _, _ => rfl
  | n + 1, m, .int _, _ => rfl
  | n + 1, m, .byt _, _ => rfl
  | n + 1, m, .flt _, _ => rfl
  | n + 1, m, .ty _, _ => rfl
/-- the value v stands for the concept c -/
def ConAt (H : Hp) : Con → V → Prop
  | .atom s, v => v = .str s ∧ s.length ≤ 12
  | .ex r c, v => ∃ p u, v = .ref p ∧ H p = some (.tup [.str "some", .str r, u]) ∧ ConAt H c u ∧ r.length ≤ 12
  | .and2 a b, v => ∃ p u1 u2, v = .ref p ∧ H p = some (.tup [.str "and", u1, u2]) ∧ ConAt H a u1 ∧ ConAt H b u2
  | .and3 a b c, v => ∃ p u1 u2 u3, v = .ref p ∧ H p = some (.tup [.str "and", u1, u2, u3]) ∧ ConAt H a u1 ∧ ConAt H b u2 ∧ ConAt H c u3
theorem ConAt.same {H H' : Hp} (e : Same H H') : ∀ {c : Con} {v : V}, ConAt H c v → ConAt H' c v
  | .atom s, v, h => h
  | .ex r c, v, ⟨p, u, h1, h2, h3, h9⟩ => ⟨p, u, h1, e _ _ h2, h3.same e, h9⟩
  | .and2 a b, v, ⟨p, u1, u2, h1, h2, h3, h4⟩ => ⟨p, u1, u2, h1, e _ _ h2, h3.same e, h4.same e⟩
  | .and3 a b c, v, ⟨p, u1, u2, u3, h1, h2, h3, h4, h5⟩ => ⟨p, u1, u2, u3, h1, e _ _ h2, h3.same e, h4.same e, h5.same e⟩
def kids : Con → List Con
  | .atom _ => []
  | .ex _ c => [c]
  | .and2 a b => [a, b]
  | .and3 a b c => [a, b, c]
theorem con_pl {H : Hp} : ∀ {c : Con} {v : V}, ConAt H c v → Pl H v
  | .atom s, v, h => by
    obtain ⟨rfl, h⟩ := h
    exact Nat.le_trans h (by decide)
  | .ex r c, v, ⟨p, u, h1, h2, h3, h9⟩ => by subst h1; exact .inr ⟨_, h2⟩
  | .and2 a b, v, ⟨p, u1, u2, h1, h2, _⟩ => by subst h1; exact .inr ⟨_, h2⟩
  | .and3 a b c, v, ⟨p, u1, u2, u3, h1, h2, _⟩ => by subst h1; exact .inr ⟨_, h2⟩
theorem kn_str {H : Hp} {m : Nat} {s : Str} (h : s.length ≤ 1000) : Kn H m (.str s) := by
  cases m with
  | zero => exact ⟨h, fun _ _ z => nomatch z⟩
  | succ m => exact ⟨h, fun _ _ z => nomatch z⟩
theorem con_kn {H : Hp} : ∀ {c : Con} {v : V} {m : Nat}, ConAt H c v → nest c ≤ m → Kn H m v
  | .atom s, v, m, h, _ => by
    obtain ⟨rfl, h⟩ := h
    exact kn_str (Nat.le_trans h (by decide))
  | .ex r c, v, m, ⟨p, u, h1, h2, h3, h9⟩, hm => by
    subst h1
    cases m with
    | zero => exact absurd hm (by simp [nest])
    | succ m =>
      refine ⟨.inr ⟨_, h2⟩, fun a xs e q x hx => ?_⟩
      cases e
      rw [h2] at q
      cases q
      simp only [List.mem_cons, List.not_mem_nil, or_false] at hx
      rcases hx with rfl | rfl | rfl
      · exact kn_str (by decide +kernel)
      · exact kn_str (Nat.le_trans h9 (by decide))
      · exact con_kn h3 (by simp only [nest] at hm; omega)
  | .and2 a b, v, m, ⟨p, u1, u2, h1, h2, h3, h4⟩, hm => by
    subst h1
    cases m with
    | zero => exact absurd hm (by simp [nest])
    | succ m =>
      refine ⟨.inr ⟨_, h2⟩, fun a xs e q x hx => ?_⟩
      cases e
      rw [h2] at q
      cases q
      simp only [List.mem_cons, List.not_mem_nil, or_false] at hx
      simp only [nest] at hm
      rcases hx with rfl | rfl | rfl
      · exact kn_str (by decide +kernel)
      · exact con_kn h3 (by omega)
      · exact con_kn h4 (by omega)
  | .and3 a b c, v, m, ⟨p, u1, u2, u3, h1, h2, h3, h4, h5⟩, hm => by
    subst h1
    cases m with
    | zero => exact absurd hm (by simp [nest])
    | succ m =>
      refine ⟨.inr ⟨_, h2⟩, fun a xs e q x hx => ?_⟩
      cases e
      rw [h2] at q
      cases q
      simp only [List.mem_cons, List.not_mem_nil, or_false] at hx
      simp only [nest] at hm
      rcases hx with rfl | rfl | rfl | rfl
      · exact kn_str (by decide +kernel)
      · exact con_kn h3 (by omega)
      · exact con_kn h4 (by omega)
      · exact con_kn h5 (by omega)
theorem con_nested {N R : List Str} (hN : ∀ x ∈ N, wordOk x = true) (hR : ∀ x ∈ R, wordOk x = true) {H : Hp} : ∀ {c : Con} {v : V} {n : Nat}, In N R c → ConAt H c v → nest c ≤ n → nestedB H n v = true
  | .atom s, v, n, hi, h, _ => by
    obtain ⟨rfl, h'⟩ := h
    rw [nestedB_str]
    rcases hi with h | h | h
    · rw [h]; decide +kernel
    · rw [h]; decide +kernel
    · rw [hN _ h, Bool.or_true]
  | .ex r c, v, n, hi, ⟨p, u, h1, h2, h3, h9⟩, hm => by
    subst h1
    cases n with
    | zero => exact absurd hm (by simp [nest])
    | succ n =>
      have ih := con_nested hN hR hi.2 h3 (n := n) (by simp only [nest] at hm; omega)
      simp [nestedB, h2, isWordV, hR _ hi.1, ih]
  | .and2 a b, v, n, hi, ⟨p, u1, u2, h1, h2, h3, h4⟩, hm => by
    subst h1
    cases n with
    | zero => exact absurd hm (by simp [nest])
    | succ n =>
      simp only [nest] at hm
      have i1 := con_nested hN hR hi.1 h3 (n := n) (by omega)
      have i2 := con_nested hN hR hi.2 h4 (n := n) (by omega)
      have e : ¬ (("and" : Str) = "some") := by decide +kernel
      simp [nestedB, h2, i1, i2, e]
  | .and3 a b c, v, n, hi, ⟨p, u1, u2, u3, h1, h2, h3, h4, h5⟩, hm => by
    subst h1
    cases n with
    | zero => exact absurd hm (by simp [nest])
    | succ n =>
      simp only [nest] at hm
      have i1 := con_nested hN hR hi.1 h3 (n := n) (by omega)
      have i2 := con_nested hN hR hi.2.1 h4 (n := n) (by omega)
      have i3 := con_nested hN hR hi.2.2 h5 (n := n) (by omega)
      have e : ¬ (("and" : Str) = "some") := by decide +kernel
      simp [nestedB, h2, i1, i2, i3, e]
end K1
namespace K1
open PySem L2
theorem inV_str (s : Str) : ∀ l : List Str, inV (.str s) (l.map V.str) = decide (s ∈ l)
  | [] => by simp [inV]
  | x :: l => by
    have ih := inV_str s l
    unfold inV at ih ⊢
    rw [List.map_cons, List.any_cons, ih]
    by_cases h : x = s
    · subst h; simp [eqV]
    · have h' : ¬ s = x := fun e => h e.symm
      simp [eqV, h, h']
theorem flat_strs : ∀ l : List Str, (l.map V.str).all flatV = true
  | [] => rfl
  | x :: l => by rw [List.map_cons, List.all_cons, flat_strs l]; rfl
section
variable {X : Cx}
/-- a text in a list or tuple of texts -/
def rInT (K : PySem.W.Frag) (neg : Bool) : R2 := fun x y H Q => ∃ (s : Str) (p : Addr) (l : List Str), x = .str s ∧ y = .ref p ∧ (SqL K H p (l.map V.str) ∨ SqT K H p (l.map V.str)) ∧ Q (.bl (if neg then !decide (s ∈ l) else decide (s ∈ l))) H
theorem op_inT : OpR X (compareOp .In) (rInT X.K false) := by
  intro pins s σ H x y v u Q I rx ry h
  obtain ⟨z, p, l, rfl, rfl, hq, q⟩ := h
  exact op_in_seq pins s σ H _ _ v u Q I rx ry ⟨p, l.map V.str, rfl, hq, rfl, flat_strs l, by rw [inV_str]; exact q⟩
theorem op_notInT : OpR X (compareOp .NotIn) (rInT X.K true) := by
  intro pins s σ H x y v u Q I rx ry h
  obtain ⟨z, p, l, rfl, rfl, hq, q⟩ := h
  exact op_notIn_seq pins s σ H _ _ v u Q I rx ry ⟨p, l.map V.str, rfl, hq, rfl, flat_strs l, by rw [inV_str]; exact q⟩
end
/-- the same within a comprehension -/
theorem op_inTK {X : Cx} {K : PySem.W.Frag} (h : X.K = K) : OpR X (compareOp .In) (rInT K false) := by subst h; exact op_inT
theorem op_notInTK {X : Cx} {K : PySem.W.Frag} (h : X.K = K) : OpR X (compareOp .NotIn) (rInT K true) := by subst h; exact op_notInT
theorem ix_listK {X : Cx} {K : PySem.W.Frag} (h : X.K = K) : IxR X (rIxL K) := by subst h; exact ix_list
theorem lt_a (c : Nat) : decide (([c] : List Nat) < ("a" : Str).cps.toList) = decide (c < 97) := by
  have e : ("a" : Str).cps.toList = [97] := by decide +kernel
  rw [e]
  by_cases h : c < 97
  · rw [decide_eq_true h]
    exact decide_eq_true (List.Lex.rel h)
  · rw [decide_eq_false h, decide_eq_false]
    intro z
    cases z with
    | rel z => exact h z
    | cons z => cases z
theorem lt_z (c : Nat) : decide (("z" : Str).cps.toList < ([c] : List Nat)) = decide (122 < c) := by
  have e : ("z" : Str).cps.toList = [122] := by decide +kernel
  rw [e]
  by_cases h : 122 < c
  · rw [decide_eq_true h]
    exact decide_eq_true (List.Lex.rel h)
  · rw [decide_eq_false h, decide_eq_false]
    intro z
    cases z with
    | rel z => exact h z
    | cons z => cases z
theorem letters_snoc {l : List Nat} {c : Nat} : letters (l ++ [c]) = (letters l && (decide (97 ≤ c) && decide (c ≤ 122))) := by
  unfold letters
  rw [List.all_append]
  simp
theorem letters_get {l : List Nat} {i c : Nat} (h : letters l = true) (hc : l[i]? = some c) : 97 ≤ c ∧ c ≤ 122 := by
  unfold letters at h
  rw [List.all_eq_true] at h
  have := h c (List.mem_of_getElem? hc)
  simpa using this
end K1
namespace K1
open PySem L2
section
variable {P : Program} {w : World} {K : PySem.W.Frag} {mg : Str → Option Value} {base : Heap}
/-! ### is_word -/
def spIsWord : Sp := fun vs H Q _ => ∃ v, vs = [v] ∧ Pl H v ∧ Q (.bl (isWordV v)) H
theorem ok_is_word (D : Defs K mg) : FnOk P w K mg base CX0 1 D.d_is_word.f D.d_is_word.fd ["thing"] spIsWord := by
  refine D.d_is_word.F.ok sc_is_word (fun vs H Q E h => ?_) (fun cdv A outer s H vs Q E hr h => ?_)
  · obtain ⟨v, rfl, _⟩ := h
    rfl
  obtain ⟨v, rfl, hp, q⟩ := h
  obtain ⟨tL, hL⟩ := D.lo_m
  refine ⟨_, pss_cons (ps_if (PW.pt (pw_or (pt_not (pt_val (pe_callB call_isi (by rfl) D.z_isinstance (by decide +kernel) (pa_cons (pv 0) (pa_cons (pe_bltn (v := .ty "str") (by rfl) D.z_str (by decide +kernel) rfl) pa_nil)))))
      (pw_or (pt_not (pt_chain op_le op_le pe_int (pe_callB call_len_str (by rfl) D.z_len PySem.boot_len (pa_cons (pv 0) pa_nil)) (pe_glob (v := .int 12) (by rfl) hL ⟨_, rfl⟩)))
        (pw_or1 (pt_cmpR op_inT (pv 0) (pe_glob (v := .ref D.nw) (by rfl) D.nw_m rfl) (by rfl))))))
      (pss_one (ps_ret pe_bl)) pss_nil)
    (pss_cons (ps_for PassesOwn.never rfl (pi_str (pv 0)) (pg_name (i := 1) sc_is_word.nd rfl (Or.inl rfl))
        (pss_one (ps_if (pt_not (pt_chain op_le_str op_le_str pe_str (pv 1) pe_str)) (pss_one (ps_ret pe_bl)) pss_nil)))
    (pss_one (ps_ret pe_bl))), ?_⟩
  obtain ⟨t, ty, kt⟩ := pl_str (K := K) hp
  refine ⟨_, rfl, _, _, _, _, _, rfl, .ty _, ty, kt, _, rfl, ?_⟩
  cases e : isStr v with
  | false =>
    refine iteT (iteT ?_)
    have e2 : isWordV v = false := by cases v <;> first | rfl | (cases e)
    rw [← e2]
    exact q
  | true =>
    obtain ⟨s, rfl⟩ : ∃ s, v = .str s := by cases v <;> first | exact ⟨_, rfl⟩ | (cases e)
    have hl : s.length ≤ 1000 := hp
    refine iteF ?_
    refine ⟨_, rfl, _, rfl, Nat.le_of_lt (small1000 hl), _, _, rfl, rfl, _, rfl, ?_⟩
    have ret : ∀ b, wordOk s = b → Q (.bl b) H := fun b hb => by rw [← hb]; exact q
    by_cases c1 : (1 : Int) ≤ (s.length : Int)
    · rw [decide_eq_true c1]
      refine iteT ⟨_, _, rfl, rfl, _, rfl, ?_⟩
      by_cases c2 : (s.length : Int) ≤ 12
      · rw [decide_eq_true c2]
        refine iteF ⟨_, rfl, s, D.nw, noWords, rfl, rfl, .inr (sqt_k D.nw_l), _, rfl, ?_⟩
        by_cases c3 : s ∈ noWords
        · rw [decide_eq_true c3]
          refine iteT ?_
          refine ret _ ?_
          unfold wordOk
          rw [decide_eq_true c3]
          simp
        rw [decide_eq_false c3]
        refine iteF ?_
        have all : letters (cs s) = true → wordOk s = true := fun hz => by
          unfold wordOk
          rw [decide_eq_true (show 1 ≤ s.length by omega), decide_eq_true (show s.length ≤ 12 by omega), decide_eq_false c3, hz]
          rfl
        have some_no : letters (cs s) = false → wordOk s = false := fun hz => by
          unfold wordOk
          rw [hz, Bool.and_false]
        refine ⟨_, rfl, s, rfl, for_it walk_str (fun i σ H2 => H2 = H ∧ (∃ o, σ = [some (.str s), o]) ∧ letters ((cs s).take i) = true) ⟨rfl, ⟨none, rfl⟩, rfl⟩ (fun _ _ _ _ _ => trivial) ?_ ?_⟩
        · rintro i x σ H1 H2 hi ⟨rfl, ⟨o, rfl⟩, hle⟩ ⟨rfl, c, hc, rfl⟩
          have hc' : (cs s)[i]? = some c := by rw [Array.getElem?_toList]; exact hc
          refine ⟨_, rfl, _, _, rfl, rfl, _, rfl, ?_⟩
          rw [lt_a]
          by_cases d1 : c < 97
          · rw [decide_eq_true d1]
            refine iteF ⟨_, rfl, ?_⟩
            refine iteT (ret _ (some_no ?_))
            cases hz : letters (cs s) with
            | false => rfl
            | true => have := letters_get hz hc'; omega
          · rw [decide_eq_false d1]
            refine iteT ⟨_, _, rfl, rfl, _, rfl, ?_⟩
            rw [lt_z]
            by_cases d2 : 122 < c
            · rw [decide_eq_true d2]
              refine iteT (ret _ (some_no ?_))
              cases hz : letters (cs s) with
              | false => rfl
              | true => have := letters_get hz hc'; omega
            · rw [decide_eq_false d2]
              refine iteF ⟨rfl, ⟨_, rfl⟩, ?_⟩
              rw [take_more hc', letters_snoc, hle, decide_eq_true (show 97 ≤ c by omega), decide_eq_true (show c ≤ 122 by omega)]
              rfl
        · rintro σ H1 ⟨rfl, ⟨o, rfl⟩, hle⟩
          refine ret _ (all ?_)
          have e : (cs s).take s.cps.size = cs s := by rw [List.take_of_length_le]; simp
          rw [e] at hle
          exact hle
      · rw [decide_eq_false c2]
        refine iteT (iteT ?_)
        refine ret _ ?_
        unfold wordOk
        rw [decide_eq_false (show ¬ s.length ≤ 12 by omega)]
        simp
    · rw [decide_eq_false c1]
      refine iteF ⟨_, rfl, ?_⟩
      refine iteT (iteT ?_)
      refine ret _ ?_
      unfold wordOk
      rw [decide_eq_false (show ¬ 1 ≤ s.length by omega)]
      simp
end
end K1
namespace K1
open PySem L2
section
variable {P : Program} {w : World} {K : PySem.W.Frag} {mg : Str → Option Value} {base : Heap}
theorem none_left {CX : CXT} {k : Nat} {f : Addr} {fd : FuncData} {ps : List Str} {sp : Sp} (no : ∀ vs H Q E, ¬ sp vs H Q E) : FnOk P w K mg base CX k f fd ps sp :=
  ⟨fun vs H Q E h => absurd h (no vs H Q E), fun A outer s H args us vs Q E _ _ _ _ h => absurd h (no vs H Q E)⟩
/-! ### _is_nested -/
def spN : Nat → Sp
  | 0 => fun _ _ _ _ => False
  | n + 1 => fun vs H Q _ => ∃ (v : V) (L : Nat), vs = [v, .int (L : Int)] ∧ Kn H n v ∧ ∀ H', Same H H' → Q (.bl (nestedB H L v)) H'
theorem ok_nested (D : Defs K mg) : ∀ n, FnOk P w K mg base CX0 (n + 1) D.d_is_nested.f D.d_is_nested.fd ["thing", "levels"] (spN n)
  | 0 => none_left fun _ _ _ _ h => h
  | n + 1 => by
    have G := ok_nested D n
    have GW := ok_is_word (P := P) (w := w) (base := base) D
    refine D.d_is_nested.F.ok sc_is_nested (fun vs H Q E h => ?_) (fun cdv A outer s H vs Q E hr h => ?_)
    · obtain ⟨v, L, rfl, _⟩ := h
      rfl
    obtain ⟨v, L, rfl, hk, q⟩ := h
    have hr1 : Room 1 _ := hr.mono (by omega)
    refine ⟨_, pss_cons (ps_if (pt_val (pe_callB call_isi (by rfl) D.z_isinstance (by decide +kernel) (pa_cons (pv 0) (pa_cons (pe_bltn (v := .ty "str") (by rfl) D.z_str (by decide +kernel) rfl) pa_nil))))
        (pss_one (ps_ret (pe_or (pe_cmpR op_inT (pv 0) (pe_tup (pa_cons pe_str (pa_cons pe_str pa_nil))) (by rfl)) (pe_one (pe_call GW hr1 rfl D.d_is_word.m D.d_is_word.F.kp D.d_is_word.b .nil pass0 (pa_cons (pv 0) pa_nil)))))) pss_nil)
      (pss_cons (ps_if (PW.pt (pw_or (pt_not (pt_val (pe_callB call_isi (by rfl) D.z_isinstance (by decide +kernel) (pa_cons (pv 0) (pa_cons (pe_bltn (v := .ty "tuple") (by rfl) D.z_tuple (by decide +kernel) rfl) pa_nil)))))
          (pw_or (pt_cmpR op_eq (pv 1) pe_int (nomark _))
          (pw_or (pt_cmpR op_lt (pe_callB call_len_seq (by rfl) D.z_len PySem.boot_len (pa_cons (pv 0) pa_nil)) pe_int (nomark _))
          (pw_or1 (pt_not (pt_val (pe_callB call_isi (by rfl) D.z_isinstance (by decide +kernel) (pa_cons (pe_ix ix_tup (pv 0) pe_int (fun _ _ => rfl)) (pa_cons (pe_bltn (v := .ty "str") (by rfl) D.z_str (by decide +kernel) rfl) pa_nil))))))))))
        (pss_one (ps_ret pe_bl)) pss_nil)
      (pss_cons (ps_if (pt_cmpR op_eq (pe_ix ix_tup (pv 0) pe_int (fun _ _ => rfl)) pe_str (nomark _))
        (pss_one (ps_ret (pe_and (pe_cmpR op_eq (pe_callB call_len_seq (by rfl) D.z_len PySem.boot_len (pa_cons (pv 0) pa_nil)) pe_int (nomark _))
          (pe_and (pe_call GW hr1 rfl D.d_is_word.m D.d_is_word.F.kp D.d_is_word.b .nil pass0 (pa_cons (pe_ix ix_tup (pv 0) pe_int (fun _ _ => rfl)) pa_nil))
          (pe_one (pe_call G hr rfl D.d_is_nested.m D.d_is_nested.F.kp D.d_is_nested.b .nil pass0 (pa_cons (pe_ix ix_tup (pv 0) pe_int (fun _ _ => rfl)) (pa_cons (pe_op op_sub (pv 1) pe_int) pa_nil)))))))) pss_nil)
      (pss_cons (ps_if (pt_cmpR op_ne (pe_ix ix_tup (pv 0) pe_int (fun _ _ => rfl)) pe_str (nomark _)) (pss_one (ps_ret pe_bl)) pss_nil)
      (pss_cons (ps_for PassesOwn.never rfl (pi_tup (pe_slice sl_tup (pv 0) (po_some pe_int) po_none)) (pg_name (i := 2) sc_is_nested.nd rfl (Or.inl rfl))
        (pss_one (ps_if (pt_not (pt_val (pe_call G hr rfl D.d_is_nested.m D.d_is_nested.F.kp D.d_is_nested.b .nil pass0 (pa_cons (pv 2) (pa_cons (pe_op op_sub (pv 1) pe_int) pa_nil))))) (pss_one (ps_ret pe_bl)) pss_nil)))
      (pss_one (ps_ret pe_bl)))))), ?_⟩
    obtain ⟨t, ty, kt⟩ := pl_str (K := K) hk.pl
    refine ⟨_, rfl, _, _, _, _, _, rfl, .ty _, ty, kt, _, rfl, ?_⟩
    cases e : isStr v with
    | true =>
      obtain ⟨s, rfl⟩ : ∃ s, v = .str s := by cases v <;> first | exact ⟨_, rfl⟩ | (cases e)
      rw [nestedB_str] at q
      refine iteT ⟨_, rfl, (by show 2 ≤ sizeLine; decide), fun p hp => ⟨s, p, ["all", "none"], rfl, rfl, .inr (SqT.of upd_same), _, rfl, ?_⟩⟩
      have em : decide (s ∈ (["all", "none"] : List Str)) = decide (s = "all" ∨ s = "none") := by simp
      by_cases c : s = "all" ∨ s = "none"
      · rw [em, decide_eq_true c]
        refine iteT ?_
        rw [decide_eq_true c] at q
        exact q _ (same_new hp _)
      · rw [em, decide_eq_false c]
        refine iteF ⟨_, rfl, _, rfl, hk.pl.same (same_new hp _), ?_⟩
        rw [decide_eq_false c] at q
        exact q _ (same_new hp _)
    | false =>
      refine iteF ?_
      obtain ⟨t2, ty2, kt2⟩ := pl_tup (K := K) hk.pl
      refine ⟨_, rfl, _, _, _, _, _, rfl, .ty _, ty2, kt2, _, rfl, ?_⟩
      have ret : ∀ b, nestedB H L v = b → Q (.bl b) H := fun b hb => by rw [← hb]; exact q H (Same.refl H)
      cases e2 : isTup H v with
      | false =>
        refine iteT (iteT (ret _ ?_))
        cases L with
        | zero => cases v <;> first | rfl | (cases e)
        | succ L =>
          cases v <;> first | rfl | (cases e) | skip
          rename_i a
          rcases hk.pl with ⟨xs, g⟩ | ⟨xs, g⟩
          · simp [nestedB, g]
          · rw [isTup_tup g] at e2
            cases e2
      | true =>
        obtain ⟨a, xs, rfl, ha⟩ : ∃ a xs, v = .ref a ∧ H a = some (.tup xs) := by
          cases v <;> first | (cases e2) | skip
          rename_i a
          rcases hk.pl with ⟨xs, g⟩ | ⟨xs, g⟩
          · rw [isTup_lst g] at e2
            cases e2
          · exact ⟨a, xs, rfl, g⟩
        refine iteF ⟨_, rfl, rfl, _, rfl, ?_⟩
        cases L with
        | zero =>
          rw [decide_eq_true (show V.int ((0 : Nat) : Int) = V.int 0 from rfl)]
          exact iteT (iteT (ret _ rfl))
        | succ L =>
          rw [decide_eq_false (show ¬ V.int ((L + 1 : Nat) : Int) = V.int 0 from fun z => by injection z with z; omega)]
          refine iteF ⟨_, rfl, a, xs, rfl, .inr (SqT.of ha), _, _, rfl, rfl, _, rfl, ?_⟩
          by_cases c3 : (xs.length : Int) < 3
          · rw [decide_eq_true c3]
            refine iteT (iteT (ret _ ?_))
            rcases xs with _ | ⟨x0, _ | ⟨x1, _ | ⟨x2, r⟩⟩⟩
            · simp [nestedB, ha]
            · cases x0 <;> simp [nestedB, ha]
            · cases x0 <;> simp [nestedB, ha]
            · simp only [List.length_cons] at c3; omega
          · rw [decide_eq_false c3]
            refine iteF ?_
            rcases xs with _ | ⟨x0, _ | ⟨x1, _ | ⟨x2, r⟩⟩⟩
            · exact absurd (by decide : ((0 : Nat) : Int) < 3) c3
            · exact absurd (by decide : ((1 : Nat) : Int) < 3) c3
            · exact absurd (by decide : ((2 : Nat) : Int) < 3) c3
            cases n with
            | zero => exact (hk.2 _ _ rfl ha).elim
            | succ n =>
              have hx := hk.2 _ _ rfl ha
              obtain ⟨t3, ty3, kt3⟩ := pl_str (K := K) (hx x0 (by simp)).pl
              refine ⟨_, rfl, a, _, _, x0, rfl, rfl, SqT.of ha, atI_nat (j := 0) rfl, _, _, _, _, _, rfl, .ty _, ty3, kt3, _, rfl, ?_⟩
              cases e4 : isStr x0 with
              | false =>
                refine iteT (ret _ ?_)
                cases x0 <;> first | (simp [nestedB, ha]; done) | (cases e4)
              | true =>
                obtain ⟨k, rfl⟩ : ∃ s, x0 = .str s := by cases x0 <;> first | exact ⟨_, rfl⟩ | (cases e4)
                refine iteF ?_
                refine ⟨_, rfl, a, _, _, _, rfl, rfl, SqT.of ha, atI_nat (j := 0) rfl, rfl, _, rfl, ?_⟩
                have lev : ((L + 1 : Nat) : Int) - 1 = (L : Int) := by omega
                have levs : ∀ x : V, ([x, V.int (((L + 1 : Nat) : Int) - 1)] ++ []) = [x, V.int (L : Int)] := fun x => by rw [lev]; rfl
                by_cases ck : k = "some"
                · subst ck
                  rw [decide_eq_true (show V.str ("some" : Str) = V.str "some" from rfl)]
                  refine iteT ⟨_, rfl, a, _, rfl, .inr (SqT.of ha), rfl, _, rfl, ?_⟩
                  have eN : nestedB H (L + 1) (.ref a) = (decide (r = []) && (isWordV x1 && nestedB H L x2)) := by simp [nestedB, ha]
                  by_cases cr : r = []
                  · subst cr
                    rw [decide_eq_true (by rfl)]
                    refine iteT ⟨_, rfl, a, _, _, x1, rfl, rfl, SqT.of ha, atI_nat (j := 1) rfl, _, rfl, (hx x1 (by simp)).pl, _, rfl, ?_⟩
                    cases cw : isWordV x1 with
                    | false =>
                      refine iteF (ret _ ?_)
                      rw [eN, cw]
                      rfl
                    | true =>
                      refine iteT ⟨_, rfl, a, _, _, x2, rfl, rfl, SqT.of ha, atI_nat (j := 2) rfl, _, rfl, _, _, rfl, rfl, x2, L, levs x2, hx x2 (by simp), fun H' g => ?_⟩
                      have z := q H' g
                      rw [eN, cw] at z
                      exact z
                  · have nz : ¬ V.int ((((V.str "some" :: x1 :: x2 :: r).length : Nat) : Int)) = V.int 3 := fun z => by
                      injection z with z
                      simp only [List.length_cons] at z
                      exact cr (List.length_eq_zero_iff.mp (by omega))
                    rw [decide_eq_false nz]
                    refine iteF (ret _ ?_)
                    rw [eN, decide_eq_false cr]
                    rfl
                · rw [decide_eq_false (show ¬ V.str k = V.str "some" from fun z => ck (by injection z))]
                  refine iteF ⟨_, rfl, a, _, _, _, rfl, rfl, SqT.of ha, atI_nat (j := 0) rfl, rfl, _, rfl, ?_⟩
                  by_cases ca : k = "and"
                  · subst ca
                    rw [decide_eq_true (show V.str ("and" : Str) = V.str "and" from rfl)]
                    refine iteF ?_
                    have eN : nestedB H (L + 1) (.ref a) = (x1 :: x2 :: r).all (nestedB H L) := by simp [nestedB, ha, ck]
                    refine ⟨_, rfl, _, rfl, a, _, rfl, SqT.of ha, (by rintro ⟨z, _⟩; simp [HT.sIx] at z), fun p hp => ?_⟩
                    have eC : cutV (V.str "and" :: x1 :: x2 :: r) (some 1) none = x1 :: x2 :: r := by simp [cutV, HT.sIx]
                    have g0 : Same H (upd H p (.tup (cutV (V.str "and" :: x1 :: x2 :: r) (some 1) none))) := same_new hp _
                    rw [eC] at g0
                    have hp' : (upd H p (.tup (cutV (V.str "and" :: x1 :: x2 :: r) (some 1) none))) = upd H p (.tup (x1 :: x2 :: r)) := by rw [eC]
                    rw [hp']
                    refine ⟨p, rfl, ⟨_, SqT.of upd_same⟩, for_tup (xs := x1 :: x2 :: r) (fun i σ H2 => Same (upd H p (.tup (x1 :: x2 :: r))) H2 ∧ (∃ o, σ = [some (.ref a), some (.int ((L + 1 : Nat) : Int)), o]) ∧ ((x1 :: x2 :: r).take i).all (nestedB H L) = true)
                      ⟨Same.refl _, ⟨none, rfl⟩, rfl⟩ (fun i σ H2 _ hh => SqT.of (hh.1 _ _ upd_same)) ?_ ?_⟩
                    · rintro i x σ H2 hi ⟨g, ⟨o, rfl⟩, hall⟩
                      have gg := g0.trans g
                      have hkx : Kn H n x := hx x (List.mem_cons_of_mem _ (List.mem_of_getElem? hi))
                      refine ⟨_, rfl, _, rfl, _, _, rfl, rfl, x, L, levs x, hkx.same gg, fun H3 g3 => ⟨_, rfl, ?_⟩⟩
                      rw [nestedB_same gg hkx]
                      cases cx : nestedB H L x with
                      | false =>
                        refine iteT ?_
                        have z := q H3 (gg.trans g3)
                        rw [eN] at z
                        have e0 : (x1 :: x2 :: r).all (nestedB H L) = false := by
                          rw [← Bool.not_eq_true, List.all_eq_true]
                          intro zz
                          have := zz x (List.mem_of_getElem? hi)
                          rw [cx] at this
                          cases this
                        rw [e0] at z
                        exact z
                      | true =>
                        refine iteF ⟨g.trans g3, ⟨_, rfl⟩, ?_⟩
                        rw [take_more hi, List.all_append, hall]
                        simp [cx]
                    · rintro σ H2 ⟨g, ⟨o, rfl⟩, hall⟩
                      have z := q H2 (g0.trans g)
                      rw [eN] at z
                      rw [List.take_length] at hall
                      rw [hall] at z
                      exact z
                  · rw [decide_eq_false (show ¬ V.str k = V.str "and" from fun z => ca (by injection z))]
                    refine iteT (ret _ ?_)
                    simp [nestedB, ha, ck, ca]
end
end K1
namespace K1
open PySem L2
section
variable {P : Program} {w : World} {K : PySem.W.Frag} {mg : Str → Option Value} {base : Heap}
/-! ### is_concept, need_concept, need_concepts -/
def spIsC : Sp := fun vs H Q _ => ∃ v, vs = [v] ∧ Kn H 9 v ∧ ∀ H', Same H H' → Q (.bl (nestedB H 100 v)) H'
theorem ok_is_concept (D : Defs K mg) : FnOk P w K mg base CX0 12 D.d_is_concept.f D.d_is_concept.fd ["thing"] spIsC := by
  have G := ok_nested (P := P) (w := w) (base := base) D 10
  obtain ⟨tD, hD⟩ := D.de_m
  refine D.d_is_concept.F.ok sc_is_concept (fun vs H Q E h => ?_) (fun cdv A outer s H vs Q E hr h => ?_)
  · obtain ⟨v, rfl, _⟩ := h
    rfl
  obtain ⟨v, rfl, hk, q⟩ := h
  refine ⟨_, pss_one (ps_ret (pe_call G hr rfl D.d_is_nested.m D.d_is_nested.F.kp D.d_is_nested.b .nil pass0 (pa_cons (pv 0) (pa_cons (pe_glob (v := .int 100) (by rfl) hD ⟨_, rfl⟩) pa_nil)))), ?_⟩
  exact ⟨_, rfl, v, 100, rfl, hk, q⟩
def spNeed : Sp := fun vs H Q _ => ∃ v, vs = [v] ∧ Kn H 9 v ∧ nestedB H 100 v = true ∧ ∀ H', Same H H' → Q .non H'
theorem ok_need (D : Defs K mg) : FnOk P w K mg base CX0 13 D.d_need_concept.f D.d_need_concept.fd ["thing"] spNeed := by
  have G := ok_is_concept (P := P) (w := w) (base := base) D
  refine D.d_need_concept.F.ok sc_need_concept (fun vs H Q E h => ?_) (fun cdv A outer s H vs Q E hr h => ?_)
  · obtain ⟨v, rfl, _⟩ := h
    rfl
  obtain ⟨v, rfl, hk, hn, q⟩ := h
  refine ⟨_, pss_one (ps_if (pt_not (pt_val (pe_call G hr rfl D.d_is_concept.m D.d_is_concept.F.kp D.d_is_concept.b .nil pass0 (pa_cons (pv 0) pa_nil)))) (pss_one ps_never) pss_nil), ?_⟩
  refine ⟨_, rfl, v, rfl, hk, fun H' g => ⟨_, rfl, ?_⟩⟩
  rw [hn]
  exact iteF (q H' g)
def spNeeds : Sp := fun vs H Q _ => ∃ p ws, vs = [.ref p] ∧ H p = some (.tup ws) ∧ (∀ v ∈ ws, Kn H 9 v ∧ nestedB H 100 v = true) ∧ ∀ H', Same H H' → Q .non H'
theorem ok_needs (D : Defs K mg) : FnOk P w K mg base CX0 14 D.d_need_concepts.f D.d_need_concepts.fd ["things"] spNeeds := by
  have G := ok_need (P := P) (w := w) (base := base) D
  refine D.d_need_concepts.F.ok sc_need_concepts (fun vs H Q E h => ?_) (fun cdv A outer s H vs Q E hr h => ?_)
  · obtain ⟨p, ws, rfl, _⟩ := h
    rfl
  obtain ⟨p, ws, rfl, hp, hk, q⟩ := h
  refine ⟨_, pss_one (ps_for PassesOwn.never rfl (pi_tup (pv 0)) (pg_name (i := 1) sc_need_concepts.nd rfl (Or.inl rfl))
    (pss_one (ps_expr (pe_call G hr rfl D.d_need_concept.m D.d_need_concept.F.kp D.d_need_concept.b .nil pass0 (pa_cons (pv 1) pa_nil))))), ?_⟩
  refine ⟨_, rfl, p, rfl, ⟨_, SqT.of hp⟩, for_tup (xs := ws) (fun i σ H2 => Same H H2 ∧ ∃ o, σ = [some (.ref p), o]) ⟨Same.refl _, ⟨none, rfl⟩⟩ (fun i σ H2 _ hh => SqT.of (hh.1 _ _ hp)) ?_ ?_⟩
  · rintro i x σ H2 hi ⟨g, ⟨o, rfl⟩⟩
    obtain ⟨k1, k2⟩ := hk x (List.mem_of_getElem? hi)
    exact ⟨_, rfl, x, rfl, k1.same g, (by rw [nestedB_same g k1]; exact k2), fun H3 g3 => ⟨g.trans g3, ⟨_, rfl⟩⟩⟩
  · rintro σ H2 ⟨g, ⟨o, rfl⟩⟩
    exact q H2 g
/-! ### inner -/
def KidsAt (H : Hp) (c : Con) (ws : List V) : Prop := Paired (ConAt H) (kids c) ws
theorem kids_same {H H' : Hp} (e : Same H H') : ∀ {ks : List Con} {ws : List V}, Paired (ConAt H) ks ws → Paired (ConAt H') ks ws
  | _, _, .nil => .nil
  | _, _, .cons r t => .cons (r.same e) (kids_same e t)
def spInner : Sp := fun vs H Q _ => ∃ v c, vs = [v] ∧ ConAt H c v ∧ ∀ p ws H', Same H H' → H' p = some (.tup ws) → Paired (ConAt H') (kids c) ws → Q (.ref p) H'
theorem ok_inner (D : Defs K mg) : FnOk P w K mg base CX0 1 D.d_inner.f D.d_inner.fd ["concept"] spInner := by
  refine D.d_inner.F.ok sc_inner (fun vs H Q E h => ?_) (fun cdv A outer s H vs Q E hr h => ?_)
  · obtain ⟨v, c, rfl, _⟩ := h
    rfl
  obtain ⟨v, c, rfl, hc, q⟩ := h
  refine ⟨_, pss_cons (ps_if (pt_val (pe_callB call_isi (by rfl) D.z_isinstance (by decide +kernel) (pa_cons (pv 0) (pa_cons (pe_bltn (v := .ty "str") (by rfl) D.z_str (by decide +kernel) rfl) pa_nil)))) (pss_one (ps_ret (pe_tup pa_nil))) pss_nil)
    (pss_one (ps_ret (pe_ifExp (pt_cmpR op_eq (pe_ix ix_tup (pv 0) pe_int (fun _ _ => rfl)) pe_str (nomark _)) (pe_slice sl_tup (pv 0) (po_some pe_int) po_none) (pe_slice sl_tup (pv 0) (po_some pe_int) po_none)))), ?_⟩
  obtain ⟨t, ty, kt⟩ := pl_str (K := K) (con_pl hc)
  refine ⟨_, rfl, _, _, _, _, _, rfl, .ty _, ty, kt, _, rfl, ?_⟩
  have sl1 : ∀ (x : V) (xs : List V), cutV (x :: xs) (some 1) none = xs := fun x xs => by simp [cutV, HT.sIx]
  have sl2 : ∀ (x y : V) (xs : List V), cutV (x :: y :: xs) (some 2) none = xs := fun x y xs => by simp [cutV, HT.sIx]
  cases c with
  | atom a =>
    obtain ⟨rfl, hl⟩ := hc
    refine iteT ⟨(by show 0 ≤ sizeLine; decide), fun p hp => ?_⟩
    exact q p [] _ (same_new hp _) upd_same .nil
  | ex r c =>
    obtain ⟨a, u, rfl, ha, hu, hl⟩ := hc
    refine iteF ⟨_, rfl, a, _, _, _, rfl, rfl, SqT.of ha, atI_nat (j := 0) rfl, rfl, _, rfl, ?_⟩
    rw [decide_eq_true (show V.str ("some" : Str) = V.str "some" from rfl)]
    refine iteT ⟨_, rfl, _, rfl, a, _, rfl, SqT.of ha, (by rintro ⟨z, _⟩; simp [HT.sIx] at z), fun p hp => ?_⟩
    rw [sl2]
    exact q p [u] _ (same_new hp _) upd_same (.cons (hu.same (same_new hp _)) .nil)
  | and2 x y =>
    obtain ⟨a, u1, u2, rfl, ha, h1, h2⟩ := hc
    refine iteF ⟨_, rfl, a, _, _, _, rfl, rfl, SqT.of ha, atI_nat (j := 0) rfl, rfl, _, rfl, ?_⟩
    rw [decide_eq_false (show ¬ V.str ("and" : Str) = V.str "some" from fun z => absurd (V.str.inj z) (by decide +kernel))]
    refine iteF ⟨_, rfl, _, rfl, a, _, rfl, SqT.of ha, (by rintro ⟨z, _⟩; simp [HT.sIx] at z), fun p hp => ?_⟩
    rw [sl1]
    exact q p [u1, u2] _ (same_new hp _) upd_same (.cons (h1.same (same_new hp _)) (.cons (h2.same (same_new hp _)) .nil))
  | and3 x y z =>
    obtain ⟨a, u1, u2, u3, rfl, ha, h1, h2, h3⟩ := hc
    refine iteF ⟨_, rfl, a, _, _, _, rfl, rfl, SqT.of ha, atI_nat (j := 0) rfl, rfl, _, rfl, ?_⟩
    rw [decide_eq_false (show ¬ V.str ("and" : Str) = V.str "some" from fun z => absurd (V.str.inj z) (by decide +kernel))]
    refine iteF ⟨_, rfl, _, rfl, a, _, rfl, SqT.of ha, (by rintro ⟨z, _⟩; simp [HT.sIx] at z), fun p hp => ?_⟩
    rw [sl1]
    exact q p [u1, u2, u3] _ (same_new hp _) upd_same (.cons (h1.same (same_new hp _)) (.cons (h2.same (same_new hp _)) (.cons (h3.same (same_new hp _)) .nil)))
end
end K1
namespace K1
open PySem L2
/-! ### texts as Str -/
def sOf (l : List Nat) : Str := ⟨l.toArray⟩
theorem cs_sOf (l : List Nat) : cs (sOf l) = l := by simp [sOf, cs]
theorem sOf_cs (s : Str) : sOf (cs s) = s := str_ext (cs_sOf _)
theorem len_sOf (l : List Nat) : (sOf l).length = l.length := by simp [sOf, Str.length]
theorem len_cs (s : Str) : s.length = (cs s).length := rfl
theorem cs_app (a b : Str) : cs (a ++ b) = cs a ++ cs b := PyProof.Rows.cps_toList_append a b
theorem len_app (a b : Str) : (a ++ b).length = a.length + b.length := by
  rw [len_cs, cs_app, List.length_append]
  rfl
def tS (c : Con) : Str := sOf (txt c)
def pS (c : Con) : Str := sOf (par c)
theorem tS_atom {s : Str} : tS (.atom s) = s := sOf_cs s
theorem pS_eq {c : Con} (h : isAnd c = false) : pS c = tS c := by unfold pS tS; rw [par_no h]
theorem cs_empty : cs Str.empty = [] := rfl
theorem cs_some : cs ("some " : Str) = [115, 111, 109, 101, 32] := by decide +kernel
theorem cs_sp : cs (" " : Str) = [32] := by decide +kernel
theorem cs_lp : cs ("(" : Str) = [40] := by decide +kernel
theorem cs_rp : cs (")" : Str) = [41] := by decide +kernel
theorem cs_amp : cs (" & " : Str) = [32, 38, 32] := by decide +kernel
/-- f'({piece})' -/
theorem paren_is {c : Con} (h : isAnd c = true) : Str.empty ++ "(" ++ tS c ++ ")" = pS c := str_ext (by
  rw [cs_app, cs_app, cs_app, cs_empty, cs_lp, cs_rp]
  unfold tS pS
  rw [cs_sOf, cs_sOf]
  unfold par wrap
  rw [h]
  rfl)
theorem paren_is2 {c : Con} (h : isAnd c = true) : ("(" : Str) ++ tS c ++ ")" = pS c := str_ext (by
  rw [cs_app, cs_app, cs_lp, cs_rp]
  unfold tS pS
  rw [cs_sOf, cs_sOf]
  unfold par wrap
  rw [h]
  rfl)
theorem ex_is {r : Str} {c : Con} : Str.empty ++ "some " ++ r ++ " " ++ pS c = tS (.ex r c) := str_ext (by
  rw [cs_app, cs_app, cs_app, cs_app, cs_empty, cs_some, cs_sp]
  unfold tS pS
  rw [cs_sOf, cs_sOf]
  simp [txt])
theorem ex_is2 {r : Str} {c : Con} : ("some " : Str) ++ r ++ " " ++ pS c = tS (.ex r c) := str_ext (by
  rw [cs_app, cs_app, cs_app, cs_some, cs_sp]
  unfold tS pS
  rw [cs_sOf, cs_sOf]
  simp [txt])
theorem join2 {a b : Con} : PySem.Txt.join " & " [pS a, pS b] = tS (.and2 a b) := str_ext (by
  rw [TL.join_eq]
  show TL.tl (Str.join " & " [pS a, pS b]) = _
  rw [TL.tl_join]
  show TL.joinL (cs " & ") [cs (pS a), cs (pS b)] = _
  rw [cs_amp]
  unfold tS pS
  rw [cs_sOf, cs_sOf, cs_sOf]
  rfl)
theorem join3 {a b c : Con} : PySem.Txt.join " & " [pS a, pS b, pS c] = tS (.and3 a b c) := str_ext (by
  rw [TL.join_eq]
  show TL.tl (Str.join " & " [pS a, pS b, pS c]) = _
  rw [TL.tl_join]
  show TL.joinL (cs " & ") [cs (pS a), cs (pS b), cs (pS c)] = _
  rw [cs_amp]
  unfold tS pS
  rw [cs_sOf, cs_sOf, cs_sOf, cs_sOf]
  rfl)
theorem con_len {H : Hp} : ∀ {c : Con} {v : V}, ConAt H c v → (txt c).length + 2 ≤ 24 * nodes c
  | .atom s, v, ⟨_, h⟩ => by
    have : (cs s).length ≤ 12 := h
    simp only [txt, nodes]
    omega
  | .ex r c, v, ⟨_, _, _, _, h, hr⟩ => by
    have := con_len h
    have : (cs r).length ≤ 12 := hr
    have := wrap_len (isAnd c) (txt c)
    simp only [txt, nodes, List.length_append, List.length_cons, List.length_nil]
    omega
  | .and2 a b, v, ⟨_, _, _, _, _, h1, h2⟩ => by
    have := con_len h1
    have := con_len h2
    have := wrap_len (isAnd a) (txt a)
    have := wrap_len (isAnd b) (txt b)
    simp only [txt, nodes, List.length_append, List.length_cons, List.length_nil]
    omega
  | .and3 a b c, v, ⟨_, _, _, _, _, _, h1, h2, h3⟩ => by
    have := con_len h1
    have := con_len h2
    have := con_len h3
    have := wrap_len (isAnd a) (txt a)
    have := wrap_len (isAnd b) (txt b)
    have := wrap_len (isAnd c) (txt c)
    simp only [txt, nodes, List.length_append, List.length_cons, List.length_nil]
    omega
theorem tS_inj {a b : Con} (ha : Wf a) (hb : Wf b) (h : tS a = tS b) : a = b := txt_inj ha hb (by have := congrArg cs h; unfold tS at this; rwa [cs_sOf, cs_sOf] at this)
/-! ### heaps that keep what stands, but for a few places -/
/-- tuples stay -/
def TSame (H H' : Hp) : Prop := ∀ b xs, H b = some (.tup xs) → H' b = some (.tup xs)
theorem Same.t {H H' : Hp} (e : Same H H') : TSame H H' := fun b xs h => e b _ h
theorem TSame.trans {H H1 H2 : Hp} (a : TSame H H1) (b : TSame H1 H2) : TSame H H2 := fun c xs h => b c xs (a c xs h)
theorem TSame.refl (H : Hp) : TSame H H := fun _ _ h => h
theorem ConAt.t {H H' : Hp} (e : TSame H H') : ∀ {c : Con} {v : V}, ConAt H c v → ConAt H' c v
  | .atom s, v, h => h
  | .ex r c, v, ⟨p, u, h1, h2, h3, h9⟩ => ⟨p, u, h1, e _ _ h2, h3.t e, h9⟩
  | .and2 a b, v, ⟨p, u1, u2, h1, h2, h3, h4⟩ => ⟨p, u1, u2, h1, e _ _ h2, h3.t e, h4.t e⟩
  | .and3 a b c, v, ⟨p, u1, u2, u3, h1, h2, h3, h4, h5⟩ => ⟨p, u1, u2, u3, h1, e _ _ h2, h3.t e, h4.t e, h5.t e⟩
theorem paired_t {H H' : Hp} (e : TSame H H') : ∀ {ks : List Con} {ws : List V}, Paired (ConAt H) ks ws → Paired (ConAt H') ks ws
  | _, _, .nil => .nil
  | _, _, .cons r t => .cons (r.t e) (paired_t e t)
/-- all but what stands at the places of D -/
def But (D : List Addr) (H H' : Hp) : Prop := ∀ b o, b ∉ D → H b = some o → H' b = some o
theorem But.of {D : List Addr} {H H' : Hp} (e : Same H H') : But D H H' := fun b o _ h => e b o h
theorem But.trans {D : List Addr} {H H1 H2 : Hp} (a : But D H H1) (b : But D H1 H2) : But D H H2 := fun c o n h => b c o n (a c o n h)
theorem But.refl {D : List Addr} (H : Hp) : But D H H := fun _ _ _ h => h
theorem But.put {D : List Addr} {H : Hp} {d : Addr} {o : HO} (hd : d ∈ D) : But D H (L2.upd H d o) := fun b u n h => by
  rw [upd_ne (fun e => n (by rw [e]; exact hd))]
  exact h
theorem But.new {D : List Addr} {H : Hp} {d : Addr} {o : HO} (hd : H d = none) : But D H (L2.upd H d o) := But.of (same_new hd o)
theorem But.mono {D D' : List Addr} {H H' : Hp} (a : But D H H') (h : ∀ x ∈ D, x ∈ D') : But D' H H' := fun b o n q => a b o (fun z => n (h b z)) q
/-- a place that was not there may be changed -/
theorem But.drop {D : List Addr} {l : Addr} {H H' : Hp} (a : But (l :: D) H H') (h : H l = none) : But D H H' := fun b o n q => a b o (fun z => by
  rcases List.mem_cons.mp z with rfl | z
  · rw [h] at q; cases q
  · exact n z) q
theorem But.t {D : List Addr} {H H' : Hp} (a : But D H H') (h : ∀ d ∈ D, ∀ xs, H d ≠ some (.tup xs)) : TSame H H' := fun b xs q => a b _ (fun z => h b z xs q) q
/-! ### a dict of texts -/
structure Dk (H : Hp) (d : Addr) (ks : List Str) (kvs : List (Key × V)) : Prop where
  at_ : H d = some (.dK kvs)
  keys : kvs.map (·.1) = ks.map Sum.inr
  nd : ks.Nodup
theorem Dk.len {H : Hp} {d : Addr} {ks : List Str} {kvs : List (Key × V)} (h : Dk H d ks kvs) : kvs.length = ks.length := by
  have := congrArg List.length h.keys
  simpa using this
def addS (ks : List Str) (s : Str) : List Str := if s ∈ ks then ks else ks ++ [s]
theorem mem_addS {ks : List Str} {s x : Str} : x ∈ addS ks s ↔ x ∈ ks ∨ x = s := by
  unfold addS
  split
  · constructor
    · exact .inl
    · rintro (h | rfl)
      · exact h
      · assumption
  · simp
theorem nd_addS {ks : List Str} {s : Str} (h : ks.Nodup) : (addS ks s).Nodup := by
  unfold addS
  split
  · exact h
  · rename_i n
    exact List.nodup_append.mpr ⟨h, by simp, fun a ha b hb e => n (by simp only [List.mem_singleton] at hb; rw [← hb, ← e]; exact ha)⟩
theorem len_addS {ks : List Str} {s : Str} : (addS ks s).length ≤ ks.length + 1 := by
  unfold addS
  split <;> simp
theorem Dk.any {H : Hp} {d : Addr} {ks : List Str} {kvs : List (Key × V)} (h : Dk H d ks kvs) (s : Str) : (kvs.any fun kv => decide (kv.1 = (Sum.inr s : Key))) = decide (s ∈ ks) := by
  rw [Bool.eq_iff_iff, List.any_eq_true, decide_eq_true_eq]
  have hk : (Sum.inr s : Key) ∈ kvs.map (·.1) ↔ s ∈ ks := by
    rw [h.keys, List.mem_map]
    constructor
    · rintro ⟨x, hx, e⟩
      cases e
      exact hx
    · exact fun hx => ⟨s, hx, rfl⟩
  rw [← hk, List.mem_map]
  constructor
  · rintro ⟨kv, h1, h2⟩
    exact ⟨kv, h1, of_decide_eq_true h2⟩
  · rintro ⟨kv, h1, h2⟩
    exact ⟨kv, h1, decide_eq_true h2⟩
theorem Dk.put {H : Hp} {d : Addr} {ks : List Str} {kvs : List (Key × V)} (h : Dk H d ks kvs) (s : Str) (v : V) : Dk (upd H d (.dK (putK kvs (Sum.inr s) v))) d (addS ks s) (putK kvs (Sum.inr s) v) := by
  refine ⟨upd_same, ?_, nd_addS h.nd⟩
  unfold putK addS
  rw [h.any s]
  by_cases c : s ∈ ks
  · rw [if_pos (decide_eq_true c), if_pos c, ← h.keys, List.map_map]
    refine List.map_congr_left fun kv _ => ?_
    show (if kv.1 = (Sum.inr s : Key) then (kv.1, v) else kv).1 = kv.1
    split <;> rfl
  · rw [decide_eq_false c, if_neg Bool.false_ne_true, if_neg c, List.map_append, h.keys, List.map_append]
    rfl
theorem Dk.some {H : Hp} {d : Addr} {ks : List Str} {kvs : List (Key × V)} (h : Dk H d ks kvs) {s : Str} (hs : s ∈ ks) : ∃ v, valV kvs (Sum.inr s : Key) = some v := by
  have := valV_any (Sum.inr s : Key) kvs
  rw [h.any s, decide_eq_true hs] at this
  exact Option.isSome_iff_exists.mp this.symm
theorem Dk.same {H H' : Hp} {d : Addr} {ks : List Str} {kvs : List (Key × V)} (h : Dk H d ks kvs) (e : H' d = H d) : Dk H' d ks kvs := ⟨e.trans h.at_, h.keys, h.nd⟩
end K1
namespace K1
open PySem L2
/-! ### the draws of the law -/
structure DrawAt (H : Hp) (d a : Addr) : Prop where
  ex : ∃ (ns : List Int) (n : Int), H d = some (.lst [.ref a, .int 0, .int n]) ∧ H a = some (.lst (ns.map V.int)) ∧ 0 ≤ n
theorem draw_ne {H : Hp} {a d : Addr} {ns : List Int} {n : Int} (h1 : H d = some (.lst [.ref a, .int 0, .int n])) (h2 : H a = some (.lst (ns.map V.int))) : a ≠ d := by
  rintro rfl
  rw [h1] at h2
  cases ns with
  | nil => cases h2
  | cons x r => cases h2
theorem DrawAt.same {H H' : Hp} {d a : Addr} (h : DrawAt H d a) (e : Same H H') : DrawAt H' d a := by
  obtain ⟨ns, n, h1, h2, h3⟩ := h.ex
  exact ⟨ns, n, e _ _ h1, e _ _ h2, h3⟩
theorem DrawAt.new {H : Hp} {d a l : Addr} (h : DrawAt H d a) (hl : H l = none) : l ≠ d ∧ l ≠ a := by
  obtain ⟨ns, n, h1, h2, h3⟩ := h.ex
  exact ⟨(ne_of_none h1 hl).symm, (ne_of_none h2 hl).symm⟩
theorem DrawAt.upd {H : Hp} {d a l : Addr} {o : HO} (h : DrawAt H d a) (n1 : l ≠ d) (n2 : l ≠ a) : DrawAt (L2.upd H l o) d a := by
  obtain ⟨ns, n, h1, h2, h3⟩ := h.ex
  exact ⟨ns, n, by rw [upd_ne n1.symm]; exact h1, by rw [upd_ne n2.symm]; exact h2, h3⟩
theorem DrawAt.nt {H : Hp} {d a : Addr} (h : DrawAt H d a) : ∀ e ∈ [d], ∀ xs, H e ≠ some (.tup xs) := fun e he xs z => by
  simp only [List.mem_singleton] at he
  subst he
  obtain ⟨ns, n, h1, _⟩ := h.ex
  rw [h1] at z
  cases z
def primesL : List Int := [1000003, 1000033, 1000037, 1000039, 1000081, 1000099, 1000117, 1000121, 1000133, 1000151, 1000159, 1000171, 1000183, 1000187, 1000193, 1000199]
theorem prime_get : ∀ j : Fin 16, ∃ p : Int, primesL[j.val]? = some p ∧ 0 < p := by
  intro j
  have h : ∀ j : Fin 16, primesL[j.val]? = some (primesL.getD j.val 0) ∧ 0 < primesL.getD j.val 0 := by decide +kernel
  exact ⟨_, h j⟩
theorem pow_small : ∀ i : Nat, 0 < (1009 : Int) ^ i ∧ ((1009 : Int) ^ i).natAbs < 2 ^ (10 * i + 1)
  | 0 => by decide
  | i + 1 => by
    obtain ⟨h1, h2⟩ := pow_small i
    constructor
    · rw [Int.pow_succ]; omega
    · rw [Int.pow_succ, Int.natAbs_mul, show 10 * (i + 1) + 1 = (10 * i + 1) + 10 from by omega, Nat.pow_add]
      have : (1009 : Int).natAbs < 2 ^ 10 := by decide
      exact Nat.mul_lt_mul'' h2 this
section
variable {P : Program} {w : World} {K : PySem.W.Frag} {mg : Str → Option Value} {base : Heap}
def spCell : Sp := fun vs H Q _ => ∃ (a : Addr) (ns : List Int) (k : Int), vs = [.ref a, .int k] ∧ H a = some (.lst (ns.map V.int)) ∧ 0 ≤ k ∧ ∀ z : Int, Q (.int z) H
theorem ok_cell_at (D : Defs K mg) : FnOk P w K mg base CX0 1 D.d_law_cell_at.f D.d_law_cell_at.fd ["script", "k"] spCell := by
  refine D.d_law_cell_at.F.ok sc_law_cell_at (fun vs H Q E h => ?_) (fun cdv A outer s H vs Q E hr h => ?_)
  · obtain ⟨a, ns, k, rfl, _⟩ := h
    rfl
  obtain ⟨a, ns, k, rfl, ha, hk, q⟩ := h
  refine ⟨_, (pss_cons (ps_if (pt_cmpR op_lt (pv 1) (pe_callB call_len_seq (by rfl) D.z_len (by decide +kernel) (pa_cons (pv 0) pa_nil)) (nomark _)) (pss_one (ps_ret (pe_ix ix_list (pv 0) (pv 1) (fun _ _ => rfl)))) pss_nil)
      (pss_one (ps_ret pe_int))), ?_⟩
  refine ⟨_, rfl, _, rfl, a, _, rfl, .inl (SqL.of ha), _, _, rfl, rfl, _, rfl, ?_⟩
  refine ite2 (fun c => ?_) (fun c => q 0)
  have c' : k < (((ns.map V.int).length : Nat) : Int) := of_decide_eq_true c
  rw [List.length_map] at c'
  have hk2 : k.toNat < ns.length := by omega
  have ek : k = ((k.toNat : Nat) : Int) := by omega
  have z : atI (ns.map V.int) ((k.toNat : Nat) : Int) = some (.int ns[k.toNat]) := atI_nat (by rw [List.getElem?_map, List.getElem?_eq_getElem hk2] <;> rfl)
  rw [← ek] at z
  exact ⟨_, rfl, _, rfl, a, _, _, _, rfl, rfl, SqL.of ha, z, q _⟩
def spDraw : Sp := fun vs H Q _ => ∃ (c k b : Int), vs = [.int c, .int k, .int b] ∧ 0 < b ∧ ∀ H' (r : Int), Same H H' → 0 ≤ r → r < b → Q (.int r) H'
theorem ok_draw (D : Defs K mg) : FnOk P w K mg base CX0 1 D.d_law_draw.f D.d_law_draw.fd ["cell", "k", "bound"] spDraw := by
  refine D.d_law_draw.F.ok sc_law_draw (fun vs H Q E h => ?_) (fun cdv A outer s H vs Q E hr h => ?_)
  · obtain ⟨c, k, b, rfl, _⟩ := h
    rfl
  obtain ⟨c, k, b, rfl, hb, q⟩ := h
  refine ⟨_, (pss_cons (ps_set (i := 3) sc_law_draw.nd rfl (Or.inl rfl) (pe_tup (pa_cons pe_int (pa_cons pe_int (pa_cons pe_int (pa_cons pe_int (pa_cons pe_int (pa_cons pe_int (pa_cons pe_int (pa_cons pe_int (pa_cons pe_int (pa_cons pe_int (pa_cons pe_int (pa_cons pe_int (pa_cons pe_int (pa_cons pe_int (pa_cons pe_int (pa_cons pe_int pa_nil))))))))))))))))))
      (pss_one (ps_ret (pe_op op_mod (pe_op op_mod (pe_callTy call_int1 (by rfl) D.z_int (by decide +kernel) (pa_cons (pe_op op_add (pe_op op_mul (pv 0) pe_int) (pe_op op_mul (pv 1) pe_int)) pa_nil)) (pe_ix ix_tup (pv 3) (pe_op op_mod (pe_callTy call_int1 (by rfl) D.z_int (by decide +kernel) (pa_cons (pv 1) pa_nil)) pe_int) (fun _ _ => rfl))) (pv 2))))), ?_⟩
  refine ⟨(by show 16 ≤ sizeLine; decide), fun p hp => ?_⟩
  have h0 : 0 ≤ k % 16 := Int.emod_nonneg _ (by decide)
  have h1 : k % 16 < 16 := Int.emod_lt_of_pos _ (by decide)
  obtain ⟨m, e1, e2⟩ := prime_get ⟨(k % 16).toNat, by omega⟩
  have z : atI (primesL.map V.int) (((k % 16).toNat : Nat) : Int) = some (.int m) := atI_nat (by rw [List.getElem?_map, e1] <;> rfl)
  rw [show (((k % 16).toNat : Nat) : Int) = k % 16 by omega] at z
  refine ⟨_, rfl, _, _, rfl, rfl, .inr ⟨by decide, by decide⟩, _, rfl, _, _, rfl, rfl, .inr ⟨by decide, by decide⟩, _, _, rfl, rfl, .inl ⟨_, rfl, ?_⟩⟩
  refine ⟨_, rfl, _, rfl, .inl ⟨_, rfl, _, _, rfl, rfl, (by show (0 : Int) < 16; decide), p, primesL.map V.int, _, .int m, rfl, rfl, SqT.of upd_same, z, _, _, rfl, rfl, e2, _, rfl, _, _, rfl, rfl, hb, ?_⟩⟩
  exact q _ _ (same_new hp _) (Int.emod_nonneg _ (by omega)) (Int.emod_lt_of_pos _ hb)
def spNumber : Sp := fun vs H Q _ => ∃ (c k b : Int), vs = [.int c, .int k, .int b] ∧ 0 < b ∧ 0 ≤ k ∧ k ≤ 100 ∧ ∀ H' (r : Int), Same H H' → 0 ≤ r → r < b → Q (.int r) H'
theorem ok_number (D : Defs K mg) : FnOk P w K mg base CX0 2 D.d_law_number.f D.d_law_number.fd ["cell", "k", "bound"] spNumber := by
  have G := ok_draw (P := P) (w := w) (base := base) D
  refine D.d_law_number.F.ok sc_law_number (fun vs H Q E h => ?_) (fun cdv A outer s H vs Q E hr h => ?_)
  · obtain ⟨c, k, b, rfl, _⟩ := h
    rfl
  obtain ⟨c, k, b, rfl, hb, hk0, hk1, q⟩ := h
  refine ⟨_, (pss_cons (ps_set (i := 3) sc_law_number.nd rfl (Or.inl rfl) pe_int)
      (pss_cons (ps_for PassesOwn.never rfl (pi_range1 rfl D.z_range (pa_cons (pe_op op_mod (pe_callTy call_int1 (by rfl) D.z_int (by decide +kernel) (pa_cons (pv 1) pa_nil)) pe_int) pa_nil)) (pg_name (i := 4) sc_law_number.nd rfl (Or.inl rfl)) (pss_one (ps_set (i := 3) sc_law_number.nd rfl (Or.inl rfl) (pe_op op_mul (pv 3) pe_int))))
      (pss_cons (ps_set (i := 5) sc_law_number.nd rfl (Or.inl rfl) (pe_op op_fdivW (pe_op op_sub (pv 0) (pe_op op_pow pe_int pe_int)) (pv 3)))
      (pss_cons (ps_if (pt_cmpR op_gt (pv 5) pe_int (nomark _)) (pss_one (ps_ret (pe_op op_mod (pe_op op_mod (pe_callTy call_int1 (by rfl) D.z_int (by decide +kernel) (pa_cons (pv 5) pa_nil)) pe_int) (pv 2)))) pss_nil)
      (pss_cons (ps_set (i := 6) sc_law_number.nd rfl (Or.inl rfl) (pe_op op_mod (pe_callTy call_int1 (by rfl) D.z_int (by decide +kernel) (pa_cons (pv 0) pa_nil)) pe_int))
      (pss_one (ps_ret (pe_op op_mod (pe_call G hr rfl D.d_law_draw.m D.d_law_draw.F.kp D.d_law_draw.b .nil pass0 (pa_cons (pe_op op_mul (pe_op op_add (pv 6) (pe_op op_mul pe_int (pv 1))) (pe_op op_add (pe_op op_add (pv 6) (pe_op op_mul pe_int (pv 1))) pe_int)) (pa_cons (pe_op op_add (pe_op op_mod (pe_callTy call_int1 (by rfl) D.z_int (by decide +kernel) (pa_cons (pv 1) pa_nil)) pe_int) pe_int) (pa_cons pe_int pa_nil)))) (pv 2))))))))), ?_⟩
  have h0 : 0 ≤ k % 24 := Int.emod_nonneg _ (by decide)
  have h1 : k % 24 < 24 := Int.emod_lt_of_pos _ (by decide)
  refine ⟨_, rfl, .inl ⟨_, rfl, _, _, rfl, rfl, (by show (0 : Int) < 24; decide), _, rfl, ?_, ?_, for_range (lo := 0) (n := (k % 24).toNat) (fun i σ H2 => H2 = H ∧ ∃ o, σ = [some (.int c), some (.int k), some (.int b), some (.int (1009 ^ i)), o, none, none]) ⟨rfl, none, rfl⟩ ?_ ?_⟩⟩
  · show -(2 ^ 62) ≤ k % 24
    omega
  · show k % 24 < 2 ^ 62
    omega
  · rintro i σ H2 hi ⟨rfl, o, rfl⟩
    exact ⟨_, rfl, _, _, rfl, rfl, .inr ⟨by decide, by decide⟩, rfl, _, by rw [Int.pow_succ]; rfl⟩
  · rintro σ H2 ⟨rfl, o, rfl⟩
    obtain ⟨p0, p1⟩ := pow_small (k % 24).toNat
    refine ⟨_, rfl, _, _, rfl, rfl, ⟨by decide, by decide, by decide⟩, _, _, rfl, rfl, _, rfl, _, _, rfl, rfl, wide_div p0 p1 (by omega) (by omega), ?_⟩
    refine ⟨_, rfl, _, _, rfl, rfl, _, rfl, ?_⟩
    refine ite2 (fun _ => ?_) (fun _ => ?_)
    · refine ⟨_, rfl, .inl ⟨_, rfl, _, _, rfl, rfl, (by show (0 : Int) < 1009; decide), _, rfl, _, _, rfl, rfl, hb, ?_⟩⟩
      exact q _ _ (Same.refl _) (Int.emod_nonneg _ (by omega)) (Int.emod_lt_of_pos _ hb)
    · refine ⟨_, rfl, .inl ⟨_, rfl, _, _, rfl, rfl, (by show (0 : Int) < 1000003; decide), ?_⟩⟩
      have s0 : 0 ≤ c % 1000003 := Int.emod_nonneg _ (by decide)
      have s1 : c % 1000003 < 1000003 := Int.emod_lt_of_pos _ (by decide)
      refine ⟨_, rfl, _, rfl, _, _, rfl, rfl, .inl ⟨by decide, by decide⟩, _, _, rfl, rfl, _, rfl, _, rfl, _, _, rfl, rfl, .inl ⟨by decide, by decide⟩, _, _, rfl, rfl, _, _, rfl, rfl, _, _, rfl, rfl, .inl ⟨?_, ?_⟩, ?_⟩
      · show -(2 ^ 64) < c % 1000003 + 977 * k
        omega
      · show c % 1000003 + 977 * k < 2 ^ 64
        omega
      refine ⟨_, rfl, .inl ⟨_, rfl, _, _, rfl, rfl, (by show (0 : Int) < 9; decide), _, _, rfl, rfl, _, _, _, rfl, (by show (0 : Int) < 999983; decide), fun H3 r g r0 r1 => ⟨_, rfl, _, _, rfl, rfl, hb, ?_⟩⟩⟩
      exact q _ _ g (Int.emod_nonneg _ (by omega)) (Int.emod_lt_of_pos _ hb)
def spNext : Sp := fun vs H Q _ => ∃ (d a : Addr) (b : Int), vs = [.ref d, .int b] ∧ 0 < b ∧ DrawAt H d a ∧ ∀ H' (r : Int), But [d] H H' → DrawAt H' d a → 0 ≤ r → r < b → Q (.int r) H'
theorem ok_next (D : Defs K mg) : FnOk P w K mg base CX0 3 D.d_law_next.f D.d_law_next.fd ["draw", "bound"] spNext := by
  have GC := ok_cell_at (P := P) (w := w) (base := base) D
  have GN := ok_number (P := P) (w := w) (base := base) D
  refine D.d_law_next.F.ok sc_law_next (fun vs H Q E h => ?_) (fun cdv A outer s H vs Q E hr h => ?_)
  · obtain ⟨d, a, b, rfl, _⟩ := h
    rfl
  obtain ⟨d, a, b, rfl, hb, hd, q⟩ := h
  have hr1 : Room 1 _ := hr.mono (by omega)
  refine ⟨_, (pss_cons (ps_asg (pe_op op_add (pe_ix ix_list (pv 0) pe_int (fun _ _ => rfl)) pe_int) (pg_sub (pv 0) pe_int set_list))
      (pss_cons (ps_set (i := 2) sc_law_next.nd rfl (Or.inl rfl) (pe_op op_fdiv (pe_ix ix_list (pv 0) pe_int (fun _ _ => rfl)) pe_int))
      (pss_cons (ps_set (i := 3) sc_law_next.nd rfl (Or.inl rfl) (pe_op op_add (pe_call GC hr1 rfl D.d_law_cell_at.m D.d_law_cell_at.F.kp D.d_law_cell_at.b .nil pass0 (pa_cons (pe_ix ix_list (pv 0) pe_int (fun _ _ => rfl)) (pa_cons (pe_op op_add (pe_ix ix_list (pv 0) pe_int (fun _ _ => rfl)) (pv 2)) pa_nil))) (pe_op op_mul pe_int (pv 2))))
      (pss_one (ps_ret (pe_call GN hr rfl D.d_law_number.m D.d_law_number.F.kp D.d_law_number.b .nil pass0 (pa_cons (pv 3) (pa_cons (pe_op op_add (pe_op op_mod (pe_callTy call_int1 (by rfl) D.z_int (by decide +kernel) (pa_cons (pe_ix ix_list (pv 0) pe_int (fun _ _ => rfl)) pa_nil)) pe_int) pe_int) (pa_cons (pv 1) pa_nil))))))))), ?_⟩
  obtain ⟨ns, n, h1, h2, h3⟩ := hd.ex
  have ne := draw_ne h1 h2
  refine ⟨_, rfl, d, _, _, _, rfl, rfl, SqL.of h1, atI_nat (j := 2) rfl, _, _, rfl, rfl, _, rfl, d, _, _, 2, rfl, rfl, h1, rfl, ?_⟩
  have e1 : upd H d (.lst ([V.ref a, V.int 0, V.int n].set 2 (V.int (n + 1)))) d = some (.lst [.ref a, .int 0, .int (n + 1)]) := upd_same
  have e2 : upd H d (.lst ([V.ref a, V.int 0, V.int n].set 2 (V.int (n + 1)))) a = some (.lst (ns.map V.int)) := by rw [upd_ne ne]; exact h2
  have b1 : But [d] H (upd H d (.lst ([V.ref a, V.int 0, V.int n].set 2 (V.int (n + 1))))) := But.put (by simp)
  refine ⟨_, rfl, d, _, _, _, rfl, rfl, SqL.of e1, atI_nat (j := 2) rfl, _, _, rfl, rfl, ⟨by decide, by decide⟩, ?_⟩
  have p0 : 0 ≤ (n + 1) / 12 := Int.ediv_nonneg (by omega) (by decide)
  refine ⟨_, rfl, d, _, _, _, rfl, rfl, SqL.of e1, atI_nat (j := 0) rfl, _, rfl, d, _, _, _, rfl, rfl, SqL.of e1, atI_nat (j := 1) rfl, _, rfl, _, _, rfl, rfl, a, ns, _, rfl, e2, (by show (0 : Int) ≤ 0 + (n + 1) / 12; omega), fun z => ⟨_, rfl, _, _, rfl, rfl, .inl ⟨by decide, by decide⟩, _, _, rfl, rfl, ?_⟩⟩
  have m0 : 0 ≤ (n + 1) % 12 := Int.emod_nonneg _ (by decide)
  have m1 : (n + 1) % 12 < 12 := Int.emod_lt_of_pos _ (by decide)
  refine ⟨_, rfl, _, rfl, d, _, _, _, rfl, rfl, SqL.of e1, atI_nat (j := 2) rfl, .inl ⟨_, rfl, _, _, rfl, rfl, (by show (0 : Int) < 12; decide), _, _, rfl, rfl, _, rfl, _, _, _, rfl, hb, ?_, ?_, fun H' r g r0 r1 => ?_⟩⟩
  · show 0 ≤ (n + 1) % 12 + 1
    omega
  · show (n + 1) % 12 + 1 ≤ 100
    omega
  exact q H' r (b1.trans (But.of g)) ⟨ns, n + 1, g _ _ e1, g _ _ e2, by omega⟩ r0 r1
def spPick : Sp := fun vs H Q _ => ∃ (d a t : Addr) (xs : List L2.V), vs = [.ref d, .ref t] ∧ DrawAt H d a ∧ H t = some (.lst xs) ∧ t ≠ d ∧ 0 < xs.length ∧ ∀ H' x, x ∈ xs → But [d] H H' → DrawAt H' d a → Q x H'
theorem ok_pick (D : Defs K mg) : FnOk P w K mg base CX0 4 D.d_law_pick.f D.d_law_pick.fd ["draw", "things"] spPick := by
  have G := ok_next (P := P) (w := w) (base := base) D
  refine D.d_law_pick.F.ok sc_law_pick (fun vs H Q E h => ?_) (fun cdv A outer s H vs Q E hr h => ?_)
  · obtain ⟨d, a, t, xs, rfl, _⟩ := h
    rfl
  obtain ⟨d, a, t, xs, rfl, hd, ht, ne, pos, q⟩ := h
  refine ⟨_, (pss_one (ps_ret (pe_ix ix_list (pv 1) (pe_call G hr rfl D.d_law_next.m D.d_law_next.F.kp D.d_law_next.b .nil pass0 (pa_cons (pv 0) (pa_cons (pe_callB call_len_seq (by rfl) D.z_len (by decide +kernel) (pa_cons (pv 1) pa_nil)) pa_nil))) (fun _ _ => rfl)))), ?_⟩
  refine ⟨_, rfl, _, rfl, _, rfl, t, _, rfl, .inl (SqL.of ht), d, a, _, rfl, (by show (0 : Int) < (xs.length : Int); omega), hd, fun H' r b hd' r0 r1 => ?_⟩
  have hr2 : r.toNat < xs.length := by omega
  have er : r = ((r.toNat : Nat) : Int) := by omega
  have z : atI xs ((r.toNat : Nat) : Int) = some xs[r.toNat] := atI_nat (by rw [List.getElem?_eq_getElem hr2])
  rw [← er] at z
  refine ⟨t, xs, r, _, rfl, rfl, SqL.of (b _ _ (by simpa using ne) ht), z, q H' _ (List.getElem_mem hr2) b hd'⟩
end
end K1
namespace K1
open PySem L2
/-! ### data for == -/
theorem letters_strOk {s : Str} (h : letters (cs s) = true) : PyData.strOk s = true := by
  unfold PyData.strOk
  rw [Array.all_eq_true_iff_forall_mem]
  intro x hx
  unfold letters at h
  rw [List.all_eq_true] at h
  have := h x (Array.mem_toList_iff.mpr hx)
  simp only [Bool.and_eq_true, decide_eq_true_eq] at this ⊢
  omega
def strsD (l : List Str) : List PyData := l.map PyData.str
theorem dp_strs {K : PySem.W.Frag} {H : Hp} : ∀ l : List Str, DpAll K H (l.map V.str) (strsD l)
  | [] => .nil
  | x :: l => .cons (.str x) (dp_strs l)
theorem lay_strs : ∀ {l : List Str}, (∀ x ∈ l, PyData.strOk x = true) → PyData.canLayAll0 (strsD l) = true
  | [], _ => rfl
  | x :: l, h => by
    show (PyData.canLay0 (.str x) && PyData.canLayAll0 (strsD l)) = true
    rw [lay_strs fun y hy => h y (List.mem_cons_of_mem _ hy), Bool.and_true]
    exact h x (List.mem_cons_self ..)
theorem depth_strs : ∀ l : List Str, PyData.depthAll (strsD l) = 0
  | [] => rfl
  | x :: l => by
    show max (PyData.depth (.str x)) (PyData.depthAll (strsD l)) = 0
    rw [depth_strs l]
    rfl
theorem shaped_of {d : PyData} (h1 : d.canLay0 = true) (h2 : d.depth ≤ 64) : SeqAt.shaped d = true := by
  unfold SeqAt.shaped
  rw [h1, decide_eq_true h2]
  rfl
/-- a concept as data -/
def conD : Con → PyData
  | .atom s => .str s
  | .ex r c => .tuple [.str "some", .str r, conD c]
  | .and2 a b => .tuple [.str "and", conD a, conD b]
  | .and3 a b c => .tuple [.str "and", conD a, conD b, conD c]
theorem dp_con {K : PySem.W.Frag} {H : Hp} : ∀ {c : Con} {v : V}, ConAt H c v → Dp K H v (conD c)
  | .atom s, v, ⟨h, _⟩ => by subst h; exact .str s
  | .ex r c, v, ⟨p, u, h1, h2, h3, _⟩ => by subst h1; exact .tup (SqT.of h2) (.cons (.str _) (.cons (.str _) (.cons (dp_con h3) .nil)))
  | .and2 a b, v, ⟨p, u1, u2, h1, h2, h3, h4⟩ => by subst h1; exact .tup (SqT.of h2) (.cons (.str _) (.cons (dp_con h3) (.cons (dp_con h4) .nil)))
  | .and3 a b c, v, ⟨p, u1, u2, u3, h1, h2, h3, h4, h5⟩ => by subst h1; exact .tup (SqT.of h2) (.cons (.str _) (.cons (dp_con h3) (.cons (dp_con h4) (.cons (dp_con h5) .nil))))
theorem ok_some_str : PyData.strOk ("some" : Str) = true := by decide +kernel
theorem ok_and_str : PyData.strOk ("and" : Str) = true := by decide +kernel
theorem lay_con : ∀ {c : Con}, Wf c → (conD c).canLay0 = true
  | .atom s, h => letters_strOk h.1
  | .ex r c, h => by simp [conD, PyData.canLay0, PyData.canLayAll0, ok_some_str, letters_strOk h.1.1, lay_con h.2]
  | .and2 a b, h => by simp [conD, PyData.canLay0, PyData.canLayAll0, ok_and_str, lay_con h.1, lay_con h.2]
  | .and3 a b c, h => by simp [conD, PyData.canLay0, PyData.canLayAll0, ok_and_str, lay_con h.1, lay_con h.2.1, lay_con h.2.2]
theorem depth_con : ∀ c : Con, (conD c).depth ≤ nest c
  | .atom s => Nat.le_refl _
  | .ex r c => by have := depth_con c; simp only [conD, PyData.depth, PyData.depthAll, nest]; omega
  | .and2 a b => by have := depth_con a; have := depth_con b; simp only [conD, PyData.depth, PyData.depthAll, nest]; omega
  | .and3 a b c => by have := depth_con a; have := depth_con b; have := depth_con c; simp only [conD, PyData.depth, PyData.depthAll, nest]; omega
theorem dp_cons {K : PySem.W.Frag} {H : Hp} : ∀ {cl : List Con} {ws : List V}, Paired (ConAt H) cl ws → DpAll K H ws (cl.map conD)
  | _, _, .nil => .nil
  | _, _, .cons r t => .cons (dp_con r) (dp_cons t)
theorem lay_cons : ∀ {cl : List Con}, (∀ c ∈ cl, Wf c) → PyData.canLayAll0 (cl.map conD) = true
  | [], _ => rfl
  | c :: cl, h => by
    show ((conD c).canLay0 && PyData.canLayAll0 (cl.map conD)) = true
    rw [lay_con (h c (List.mem_cons_self ..)), lay_cons fun y hy => h y (List.mem_cons_of_mem _ hy)]
    rfl
theorem depth_cons {n : Nat} : ∀ {cl : List Con}, (∀ c ∈ cl, nest c ≤ n) → PyData.depthAll (cl.map conD) ≤ n
  | [], _ => Nat.zero_le _
  | c :: cl, h => by
    show max (conD c).depth (PyData.depthAll (cl.map conD)) ≤ n
    have := depth_con c
    have := h c (List.mem_cons_self ..)
    have := depth_cons (n := n) fun y hy => h y (List.mem_cons_of_mem _ hy)
    omega
def boolsD (l : List Bool) : List PyData := l.map PyData.bool
theorem dp_bools {K : PySem.W.Frag} {H : Hp} : ∀ l : List Bool, DpAll K H (l.map V.bl) (boolsD l)
  | [] => .nil
  | x :: l => .cons (.bl x) (dp_bools l)
theorem lay_bools : ∀ l : List Bool, PyData.canLayAll0 (boolsD l) = true
  | [] => rfl
  | x :: l => by
    show (PyData.canLay0 (.bool x) && PyData.canLayAll0 (boolsD l)) = true
    rw [lay_bools l]
    rfl
theorem depth_bools : ∀ l : List Bool, PyData.depthAll (boolsD l) = 0
  | [] => rfl
  | x :: l => by
    show max (PyData.depth (.bool x)) (PyData.depthAll (boolsD l)) = 0
    rw [depth_bools l]
    rfl
/-- told words as data -/
def toldD (ys zs : List Str) : PyData := .tuple [.tuple (strsD ys), .tuple (strsD zs)]
theorem shaped_told {ys zs : List Str} (h1 : ∀ x ∈ ys, PyData.strOk x = true) (h2 : ∀ x ∈ zs, PyData.strOk x = true) : SeqAt.shaped (toldD ys zs) = true := by
  refine shaped_of ?_ ?_
  · simp [toldD, PyData.canLay0, PyData.canLayAll0, lay_strs h1, lay_strs h2]
  · simp [toldD, PyData.depth, PyData.depthAll, depth_strs]
theorem word_strOk {s : Str} (h : wordOk s = true) : PyData.strOk s = true := letters_strOk (wd_of h).1
section
variable {X : Cx}
/-- 'z' * 12 -/
theorem op_mul_str : OpR X (binaryOp .Mult) (fun x y H Q => ∃ (s : Str) (n : Int), x = .str s ∧ y = .int n ∧ MulOk s n ∧ Q (.str (PySem.Txt.mul s n)) H) := by
  intro pins s σ H x y v u Q I rx ry h
  obtain ⟨z, n, rfl, rfl, ok, q⟩ := h
  obtain ⟨t, rfl⟩ := rx
  obtain ⟨t', rfl⟩ := ry
  exact SB.mul ok fun tk k => ⟨.str _, H, I.tok k, ⟨_, rfl⟩, q⟩
end
end K1
namespace K1
open PySem L2
/-! concepts with ands of any length, their texts -/
inductive T where
  | atom (s : Str)
  | ex (r : Str) (t : T)
  | and (l : List T)
def isAndT : T → Bool
  | .and _ => true
  | _ => false
def amp : List Nat := [32, 38, 32]
mutual
def tx : T → List Nat
  | .atom s => cs s
  | .ex r t => [115, 111, 109, 101, 32] ++ (cs r ++ (32 :: wrap (isAndT t) (tx t)))
  | .and l => TL.joinL amp (txs l)
def txs : List T → List (List Nat)
  | [] => []
  | t :: l => wrap (isAndT t) (tx t) :: txs l
end
abbrev pr (t : T) : List Nat := wrap (isAndT t) (tx t)
theorem txs_eq : ∀ l : List T, txs l = l.map pr
  | [] => by simp [txs]
  | t :: l => by rw [txs, txs_eq l]; rfl
mutual
/-- it is a concept, but for how deep it is -/
def CW : T → Prop
  | .atom s => s = "all" ∨ s = "none" ∨ wordOk s = true
  | .ex r t => wordOk r = true ∧ CW t
  | .and l => 2 ≤ l.length ∧ CWs l
def CWs : List T → Prop
  | [] => True
  | t :: l => CW t ∧ CWs l
end
theorem CWs_iff : ∀ {l : List T}, CWs l ↔ ∀ t ∈ l, CW t
  | [] => by simp [CWs]
  | t :: l => by rw [CWs, CWs_iff (l := l)]; simp
mutual
def ns : T → Nat
  | .atom _ => 0
  | .ex _ t => ns t + 1
  | .and l => nss l + 1
def nss : List T → Nat
  | [] => 0
  | t :: l => max (ns t) (nss l)
end
theorem nss_le : ∀ {l : List T} {t : T}, t ∈ l → ns t ≤ nss l
  | [], t, h => by cases h
  | u :: l, t, h => by
    rw [nss]
    rcases List.mem_cons.mp h with h | h
    · rw [h]; exact Nat.le_max_left _ _
    · exact Nat.le_trans (nss_le h) (Nat.le_max_right _ _)
theorem nss_bound {n : Nat} : ∀ {l : List T}, (∀ t ∈ l, ns t ≤ n) → nss l ≤ n
  | [], _ => Nat.zero_le _
  | u :: l, h => by
    rw [nss]
    exact Nat.max_le.mpr ⟨h u List.mem_cons_self, nss_bound fun t ht => h t (List.mem_cons_of_mem _ ht)⟩
/-! ### letters and signs -/
def lower (c : Nat) : Bool := decide (97 ≤ c) && decide (c ≤ 122)
def special (c : Nat) : Bool := decide (c = 32) || decide (c = 38) || decide (c = 40) || decide (c = 41)
theorem lower_not_special {c : Nat} (h : lower c = true) : special c = false := by
  unfold lower at h
  unfold special
  simp only [Bool.and_eq_true, decide_eq_true_eq] at h
  simp only [Bool.or_eq_false_iff, decide_eq_false_iff_not]
  omega
def someL : List Nat := [115, 111, 109, 101]
theorem cs_someL : cs ("some" : Str) = someL := by decide +kernel
/-- a word of letters: what a concept's atoms and roles are -/
structure Wl (l : List Nat) : Prop where
  ne : l ≠ []
  lo : ∀ c ∈ l, lower c = true
theorem Wl.of_word {s : Str} (h : wordOk s = true) : Wl (cs s) ∧ cs s ≠ someL := by
  unfold wordOk at h
  simp only [Bool.and_eq_true, decide_eq_true_eq, Bool.not_eq_true', decide_eq_false_iff_not] at h
  obtain ⟨⟨⟨h1, h2⟩, h3⟩, h4⟩ := h
  refine ⟨⟨fun z => ?_, fun c hc => ?_⟩, fun z => h3 ?_⟩
  · have : s.length = (cs s).length := rfl
    rw [this, z] at h1
    simp at h1
  · unfold letters at h4
    rw [List.all_eq_true] at h4
    exact h4 c hc
  · have : s = "some" := str_ext (z.trans cs_someL.symm)
    rw [this]; decide +kernel
theorem atom_wl {s : Str} (h : s = "all" ∨ s = "none" ∨ wordOk s = true) : Wl (cs s) ∧ cs s ≠ someL := by
  rcases h with rfl | rfl | h
  · exact ⟨⟨by decide +kernel, by decide +kernel⟩, by decide +kernel⟩
  · exact ⟨⟨by decide +kernel, by decide +kernel⟩, by decide +kernel⟩
  · exact Wl.of_word h
/-- the first of a list, if any, is not so -/
def NoHead (f : Nat → Bool) (l : List Nat) : Prop := ∀ c r, l = c :: r → f c = false
theorem take_all {f : Nat → Bool} : ∀ {l rest : List Nat}, (∀ c ∈ l, f c = true) → NoHead f rest → (l ++ rest).takeWhile f = l ∧ (l ++ rest).dropWhile f = rest
  | [], rest, _, h => by
    cases rest with
    | nil => simp
    | cons c r => have := h c r rfl; simp [List.takeWhile, List.dropWhile, this]
  | c :: l, rest, h1, h2 => by
    have := take_all (l := l) (fun c hc => h1 c (List.mem_cons_of_mem _ hc)) h2
    have hc := h1 c List.mem_cons_self
    simp [List.takeWhile, List.dropWhile, hc, this]
def one (l : List T) : T := match l with | [t] => t | l => .and l
/-! ### the program's reader -/
mutual
def rItem : Nat → List Nat → Option (T × List Nat)
  | 0, _ => none
  | n + 1, u =>
    if u.head? = some 40 then
      match rItems n u.tail with
      | some (l, 41 :: w) => some (one l, w)
      | _ => none
    else if u.takeWhile lower = someL ∧ (u.dropWhile lower).head? = some 32 then
      if ((u.dropWhile lower).tail.dropWhile lower).head? = some 32 then
        match rItem n ((u.dropWhile lower).tail.dropWhile lower).tail with
        | some (t, x) => some (.ex (sOf ((u.dropWhile lower).tail.takeWhile lower)) t, x)
        | none => none
      else none
    else some (.atom (sOf (u.takeWhile lower)), u.dropWhile lower)
def rItems : Nat → List Nat → Option (List T × List Nat)
  | 0, _ => none
  | n + 1, u => match rItem n u with
    | none => none
    | some (t, v) => if amp.isPrefixOf v = true then (match rItems n (v.drop 3) with | some (l, x) => some (t :: l, x) | none => none) else some ([t], v)
end
/-! ### the statement's own reader -/
def tok (u : List Nat) : List Nat := match u with
  | [] => []
  | c :: r => if special c then [c] else (c :: r).takeWhile fun c => !special c
mutual
def dItem : Nat → Nat → List Nat → Option (T × List Nat)
  | 0, _, _ => none
  | n + 1, d, u =>
    if u = [] ∨ 60 < d then none
    else if tok u = [40] then
      match dItems n (d + 1) u.tail with
      | some (l, 41 :: w) => if l.length = 1 then none else some (.and l, w)
      | _ => none
    else if tok u ≠ someL then
      if sOf (tok u) = "all" ∨ sOf (tok u) = "none" ∨ wordOk (sOf (tok u)) = true then some (.atom (sOf (tok u)), u.drop (tok u).length) else none
    else if (u.drop 4).head? = some 32 ∧ (u.drop 5) ≠ [] ∧ wordOk (sOf (tok (u.drop 5))) = true ∧ ((u.drop 5).drop (tok (u.drop 5)).length).head? = some 32 then
      match dItem n (d + 1) ((u.drop 5).drop (tok (u.drop 5)).length).tail with
      | some (t, x) => some (.ex (sOf (tok (u.drop 5))) t, x)
      | none => none
    else none
def dItems : Nat → Nat → List Nat → Option (List T × List Nat)
  | 0, _, _ => none
  | n + 1, d, u => match dItem n d u with
    | none => none
    | some (t, v) => if amp.isPrefixOf v = true then (match dItems n d (v.drop 3) with | some (l, x) => some (t :: l, x) | none => none) else some ([t], v)
end
/-- the whole text, by the program's reader and by the statement's -/
def rWhole (n : Nat) (u : List Nat) : Option (T × List Nat) := match rItems n u with
  | some (l, v) => some (one l, v)
  | none => none
def dWhole (n d : Nat) (u : List Nat) : Option (T × List Nat) := match dItems n d u with
  | some ([t], v) => if isAndT t = true then none else some (t, v)
  | some (l, v) => some (.and l, v)
  | none => none
theorem pr_not {t : T} (h : isAndT t = false) : pr t = tx t := by unfold pr wrap; rw [h]; rfl
theorem pr_and (l : List T) : pr (.and l) = 40 :: (tx (.and l) ++ [41]) := rfl
theorem tx_and (l : List T) : tx (.and l) = TL.joinL amp (l.map pr) := by rw [tx, txs_eq]
theorem tx_ex (r : Str) (t : T) : tx (.ex r t) = someL ++ (32 :: (cs r ++ (32 :: pr t))) := by rw [tx]; rfl
theorem join_one (x : List Nat) : TL.joinL amp [x] = x := by simp [TL.joinL]
theorem join_cons {x y : List Nat} {l : List (List Nat)} : TL.joinL amp (x :: y :: l) = x ++ (amp ++ TL.joinL amp (y :: l)) := by simp [TL.joinL]
/-- behind an item: nothing, a blank or a parenthesis -/
def Stop (l : List Nat) : Prop := ∀ c r, l = c :: r → special c = true
theorem Stop.noLower {l : List Nat} (h : Stop l) : NoHead lower l := fun c r e => by
  have := h c r e
  cases q : lower c with
  | false => rfl
  | true => rw [lower_not_special q] at this; cases this
theorem Stop.noWord {l : List Nat} (h : Stop l) : NoHead (fun c => !special c) l := fun c r e => by simp [h c r e]
theorem stop_nil : Stop [] := fun c r e => by cases e
theorem stop_cons {c : Nat} {r : List Nat} (h : special c = true) : Stop (c :: r) := fun c' r' e => by cases e; exact h
theorem stop_amp {v : List Nat} : Stop (amp ++ v) := stop_cons (c := 32) (r := 38 :: 32 :: v) rfl
theorem wl_head {l rest : List Nat} (h : Wl l) : ∃ c r, l ++ rest = c :: r ∧ lower c = true ∧ c ≠ 40 ∧ special c = false := by
  obtain ⟨c, r, rfl⟩ : ∃ c r, l = c :: r := by
    cases l with
    | nil => exact (h.ne rfl).elim
    | cons c r => exact ⟨c, r, rfl⟩
  have hc := h.lo c List.mem_cons_self
  refine ⟨c, r ++ rest, rfl, hc, fun z => ?_, lower_not_special hc⟩
  rw [z] at hc; exact absurd hc (by decide)
theorem someL_wl : Wl someL := ⟨by decide, by decide⟩
theorem amp_no {v : List Nat} : amp.isPrefixOf (amp ++ v) = true := by simp [amp, List.isPrefixOf]
mutual
/-- the program's reader reads the text of a concept -/
theorem rItem_pr : ∀ (t : T), CW t → ∀ (n : Nat) (rest : List Nat), 2 * (pr t).length + 1 ≤ n → Stop rest → rItem n (pr t ++ rest) = some (t, rest)
  | .atom s, h, n, rest, hn, hs => by
    obtain ⟨wl, nsome⟩ := atom_wl h
    cases n with
    | zero => omega
    | succ n =>
      have e : pr (.atom s) = cs s := by rw [pr_not rfl]; simp [tx]
      rw [e]
      obtain ⟨c, r, hcr, lc, n40, _⟩ := wl_head (rest := rest) wl
      obtain ⟨t1, t2⟩ := take_all (f := lower) wl.lo hs.noLower
      rw [rItem, if_neg (by rw [hcr]; simp [n40]), t1, t2, if_neg (fun z => nsome z.1), sOf_cs]
  | .ex r t, h, n, rest, hn, hs => by
    obtain ⟨hr, ht⟩ := (by simpa [CW] using h : wordOk r = true ∧ CW t)
    obtain ⟨wl, _⟩ := Wl.of_word hr
    cases n with
    | zero => omega
    | succ n =>
      have e : pr (.ex r t) ++ rest = someL ++ (32 :: (cs r ++ (32 :: (pr t ++ rest)))) := by rw [pr_not rfl, tx_ex]; simp
      have el : (pr (.ex r t)).length = 4 + (1 + ((cs r).length + (1 + (pr t).length))) := by rw [pr_not rfl, tx_ex]; simp [someL]; omega
      rw [e]
      obtain ⟨c, r', hcr, lc, n40, _⟩ := wl_head (rest := 32 :: (cs r ++ (32 :: (pr t ++ rest)))) someL_wl
      obtain ⟨t1, t2⟩ := take_all (f := lower) (rest := 32 :: (cs r ++ (32 :: (pr t ++ rest)))) someL_wl.lo (fun c r e => by cases e; rfl)
      obtain ⟨t3, t4⟩ := take_all (f := lower) (rest := 32 :: (pr t ++ rest)) wl.lo (fun c r e => by cases e; rfl)
      rw [rItem, if_neg (by rw [hcr]; simp [n40]), t1, t2, if_pos ⟨rfl, rfl⟩, List.tail_cons, t3, t4, if_pos List.head?_cons, List.tail_cons, rItem_pr t ht n rest (by omega) hs, sOf_cs]
  | .and l, h, n, rest, hn, hs => by
    obtain ⟨h2, hl⟩ := (by simpa [CW] using h : 2 ≤ l.length ∧ CWs l)
    cases n with
    | zero => omega
    | succ n =>
      have e : pr (.and l) ++ rest = 40 :: (TL.joinL amp (txs l) ++ (41 :: rest)) := by rw [pr_and, tx_and, txs_eq]; simp
      have el : (pr (.and l)).length = (TL.joinL amp (txs l)).length + 2 := by rw [pr_and, tx_and, txs_eq]; simp
      have ne : l ≠ [] := fun z => by rw [z] at h2; simp at h2
      rw [e, rItem, if_pos List.head?_cons, List.tail_cons, rItems_pr l hl ne n (41 :: rest) (by omega) (stop_cons rfl) (by simp [amp, List.isPrefixOf])]
      have : one l = .and l := by
        match l, h2 with
        | _ :: _ :: _, _ => rfl
      show some (one l, rest) = some (.and l, rest)
      rw [this]
theorem rItems_pr : ∀ (l : List T), CWs l → l ≠ [] → ∀ (n : Nat) (rest : List Nat), 2 * (TL.joinL amp (txs l)).length + 2 ≤ n → Stop rest → amp.isPrefixOf rest = false → rItems n (TL.joinL amp (txs l) ++ rest) = some (l, rest)
  | [], _, ne, _, _, _, _, _ => (ne rfl).elim
  | [t], h, _, n, rest, hn, hs, hp => by
    cases n with
    | zero => omega
    | succ n =>
      have e : TL.joinL amp (txs [t]) = pr t := by rw [txs_eq]; exact join_one _
      rw [e] at hn ⊢
      rw [rItems, rItem_pr t (by simpa [CWs] using h) n rest (by omega) hs]
      simp [hp]
  | t :: u :: l, h, _, n, rest, hn, hs, hp => by
    cases n with
    | zero => omega
    | succ n =>
      have e : TL.joinL amp (txs (t :: u :: l)) = pr t ++ (amp ++ TL.joinL amp (txs (u :: l))) := by rw [txs_eq, txs_eq]; exact join_cons
      obtain ⟨h1, h2⟩ := (by simpa [CWs] using h : CW t ∧ CW u ∧ CWs l)
      rw [e] at hn
      simp only [List.length_append] at hn
      have la : amp.length = 3 := rfl
      rw [e, List.append_assoc, List.append_assoc, rItems, rItem_pr t h1 n _ (by omega) stop_amp]
      have e2 : (amp ++ (TL.joinL amp (txs (u :: l)) ++ rest)).drop 3 = TL.joinL amp (txs (u :: l)) ++ rest := rfl
      simp only [amp_no, if_true, e2]
      rw [rItems_pr (u :: l) (by simpa [CWs] using h2) (by simp) n rest (by omega) hs hp]
end
theorem tok_split (u : List Nat) : u = tok u ++ u.drop (tok u).length := by
  obtain ⟨s, hs⟩ : ∃ s, u = tok u ++ s := by
    cases u with
    | nil => exact ⟨[], rfl⟩
    | cons c r =>
      show ∃ s, c :: r = (if special c = true then [c] else (c :: r).takeWhile fun c => !special c) ++ s
      by_cases h : special c = true
      · rw [if_pos h]; exact ⟨r, rfl⟩
      · rw [if_neg h]; exact ⟨_, (List.takeWhile_append_dropWhile).symm⟩
  have e : u.drop (tok u).length = s := by
    generalize tok u = p at hs
    subst hs
    simp
  rw [e]; exact hs
theorem tok_wl {l rest : List Nat} (h : Wl l) (hs : Stop rest) : tok (l ++ rest) = l := by
  obtain ⟨c, r, e, lc, _, sc⟩ := wl_head (rest := rest) h
  have : tok (l ++ rest) = (l ++ rest).takeWhile fun c => !special c := by rw [e]; unfold tok; simp only [sc]; rfl
  rw [this]
  exact (take_all (f := fun c => !special c) (fun c hc => by simp [lower_not_special (h.lo c hc)]) hs.noWord).1
theorem tok_paren {u : List Nat} (h : tok u = [40]) : u = 40 :: u.tail := by
  cases u with
  | nil => cases h
  | cons c r =>
    have := tok_split (c :: r)
    rw [h] at this
    have e : c = 40 := by
      have := congrArg List.head? this
      simpa using this
    rw [e]; rfl
theorem wl_not_paren {l : List Nat} (h : Wl l) : l ≠ [40] := fun z => by
  have := h.lo 40 (by rw [z]; simp)
  exact absurd this (by decide)
mutual
/-- the statement's reader reads the text of a concept -/
theorem dItem_pr : ∀ (t : T), CW t → ∀ (n d : Nat) (rest : List Nat), 2 * (pr t).length + 1 ≤ n → d + ns t ≤ 60 → Stop rest → dItem n d (pr t ++ rest) = some (t, rest)
  | .atom s, h, n, d, rest, hn, hd, hs => by
    obtain ⟨wl, nsome⟩ := atom_wl h
    cases n with
    | zero => omega
    | succ n =>
      have e : pr (.atom s) = cs s := by rw [pr_not rfl]; simp [tx]
      rw [e]
      obtain ⟨c, r, hcr, _⟩ := wl_head (rest := rest) wl
      have h' : s = "all" ∨ s = "none" ∨ wordOk s = true := h
      rw [dItem, if_neg (by rw [hcr]; simp; omega), tok_wl wl hs, if_neg (wl_not_paren wl), if_pos nsome, sOf_cs, if_pos h', List.drop_left]
  | .ex r t, h, n, d, rest, hn, hd, hs => by
    obtain ⟨hr, ht⟩ := (by simpa [CW] using h : wordOk r = true ∧ CW t)
    obtain ⟨wl, _⟩ := Wl.of_word hr
    cases n with
    | zero => omega
    | succ n =>
      have e : pr (.ex r t) ++ rest = someL ++ (32 :: (cs r ++ (32 :: (pr t ++ rest)))) := by rw [pr_not rfl, tx_ex]; simp
      have el : (pr (.ex r t)).length = 4 + (1 + ((cs r).length + (1 + (pr t).length))) := by rw [pr_not rfl, tx_ex]; simp [someL]; omega
      rw [e]
      have hd' : d + (ns t + 1) ≤ 60 := by simpa [ns] using hd
      obtain ⟨c, r', hcr, _⟩ := wl_head (rest := 32 :: (cs r ++ (32 :: (pr t ++ rest)))) someL_wl
      have e1 : tok (someL ++ (32 :: (cs r ++ (32 :: (pr t ++ rest))))) = someL := tok_wl someL_wl (stop_cons rfl)
      have e2 : tok (cs r ++ (32 :: (pr t ++ rest))) = cs r := tok_wl wl (stop_cons rfl)
      have e3 : (someL ++ (32 :: (cs r ++ (32 :: (pr t ++ rest))))).drop 4 = 32 :: (cs r ++ (32 :: (pr t ++ rest))) := rfl
      have e4 : (someL ++ (32 :: (cs r ++ (32 :: (pr t ++ rest))))).drop 5 = cs r ++ (32 :: (pr t ++ rest)) := rfl
      rw [dItem, if_neg (by rw [hcr]; simp; omega), e1, if_neg (by decide), if_neg (by simp), e3, e4, e2, sOf_cs, List.drop_left,
        if_pos ⟨List.head?_cons, by simp, hr, List.head?_cons⟩, List.tail_cons, dItem_pr t ht n (d + 1) rest (by omega) (by omega) hs]
  | .and l, h, n, d, rest, hn, hd, hs => by
    obtain ⟨h2, hl⟩ := (by simpa [CW] using h : 2 ≤ l.length ∧ CWs l)
    cases n with
    | zero => omega
    | succ n =>
      have e : pr (.and l) ++ rest = 40 :: (TL.joinL amp (txs l) ++ (41 :: rest)) := by rw [pr_and, tx_and, txs_eq]; simp
      have el : (pr (.and l)).length = (TL.joinL amp (txs l)).length + 2 := by rw [pr_and, tx_and, txs_eq]; simp
      have ne : l ≠ [] := fun z => by rw [z] at h2; simp at h2
      have hd' : d + (nss l + 1) ≤ 60 := by simpa [ns] using hd
      have e1 : tok (40 :: (TL.joinL amp (txs l) ++ (41 :: rest))) = [40] := rfl
      rw [e, dItem, if_neg (by simp; omega), if_pos e1, List.tail_cons, dItems_pr l hl ne n (d + 1) (41 :: rest) (by omega) (by omega) (stop_cons rfl) (by simp [amp, List.isPrefixOf])]
      show (if l.length = 1 then none else some (T.and l, rest)) = _
      rw [if_neg (by omega)]
theorem dItems_pr : ∀ (l : List T), CWs l → l ≠ [] → ∀ (n d : Nat) (rest : List Nat), 2 * (TL.joinL amp (txs l)).length + 2 ≤ n → d + nss l ≤ 60 → Stop rest → amp.isPrefixOf rest = false → dItems n d (TL.joinL amp (txs l) ++ rest) = some (l, rest)
  | [], _, ne, _, _, _, _, _, _, _ => (ne rfl).elim
  | [t], h, _, n, d, rest, hn, hd, hs, hp => by
    cases n with
    | zero => omega
    | succ n =>
      have e : TL.joinL amp (txs [t]) = pr t := by rw [txs_eq]; exact join_one _
      rw [e] at hn ⊢
      have hd' : d + ns t ≤ 60 := by simpa [nss] using hd
      rw [dItems, dItem_pr t (by simpa [CWs] using h) n d rest (by omega) hd' hs]
      simp [hp]
  | t :: u :: l, h, _, n, d, rest, hn, hd, hs, hp => by
    cases n with
    | zero => omega
    | succ n =>
      have e : TL.joinL amp (txs (t :: u :: l)) = pr t ++ (amp ++ TL.joinL amp (txs (u :: l))) := by rw [txs_eq, txs_eq]; exact join_cons
      obtain ⟨h1, h2⟩ := (by simpa [CWs] using h : CW t ∧ CW u ∧ CWs l)
      rw [e] at hn
      simp only [List.length_append] at hn
      have la : amp.length = 3 := rfl
      have hd' : d + max (ns t) (nss (u :: l)) ≤ 60 := by rw [nss] at hd; exact hd
      rw [e, List.append_assoc, List.append_assoc, dItems, dItem_pr t h1 n d _ (by omega) (by omega) stop_amp]
      have e2 : (amp ++ (TL.joinL amp (txs (u :: l)) ++ rest)).drop 3 = TL.joinL amp (txs (u :: l)) ++ rest := rfl
      simp only [amp_no, if_true, e2]
      rw [dItems_pr (u :: l) (by simpa [CWs] using h2) (by simp) n d rest (by omega) (by omega) hs hp]
end
theorem amp_of {v : List Nat} (h : amp.isPrefixOf v = true) : v = amp ++ v.drop 3 := by
  rw [List.isPrefixOf_iff_prefix] at h
  obtain ⟨s, rfl⟩ := h
  rfl
theorem head_of {v : List Nat} {c : Nat} (h : v.head? = some c) : v = c :: v.tail := by
  cases v with
  | nil => cases h
  | cons x r => simp at h; rw [h]; rfl
mutual
/-- what the statement's reader reads is a concept, and what it read is its text -/
theorem dItem_sound : ∀ (n d : Nat) (u : List Nat) (t : T) (v : List Nat), dItem n d u = some (t, v) → CW t ∧ u = pr t ++ v
  | 0, _, _, _, _, h => by simp [dItem] at h
  | n + 1, d, u, t, v, h => by
    rw [dItem] at h
    split at h
    · cases h
    split at h
    · rename_i hp
      have eu := tok_paren hp
      split at h
      · rename_i l w hl
        split at h
        · cases h
        · rename_i hne
          cases h
          obtain ⟨c1, c2, c3⟩ := dItems_sound n (d + 1) u.tail l (41 :: v) hl
          refine ⟨?_, ?_⟩
          · rw [CW]
            refine ⟨?_, c1⟩
            cases l with
            | nil => exact (c2 rfl).elim
            | cons a r => cases r with
              | nil => exact (hne rfl).elim
              | cons b r => simp
          · rw [eu, c3, pr_and, tx_and, txs_eq]
            simp
      · cases h
    split at h
    · split at h
      · rename_i hok
        cases h
        refine ⟨by rw [CW]; exact hok, ?_⟩
        rw [pr_not rfl, tx, cs_sOf]
        exact tok_split u
      · cases h
    · rename_i hsome
      have hs : tok u = someL := by
        by_cases z : tok u = someL
        · exact z
        · exact (hsome z).elim
      split at h
      · rename_i hc
        obtain ⟨h1, h2, h3, h4⟩ := hc
        split at h
        · rename_i t' x hi
          cases h
          obtain ⟨c1, c2⟩ := dItem_sound n (d + 1) _ t' v hi
          refine ⟨by rw [CW]; exact ⟨h3, c1⟩, ?_⟩
          have e1 := tok_split u
          rw [hs] at e1
          have e2 : u.drop 4 = 32 :: u.drop 5 := by
            have := head_of h1
            rwa [List.tail_drop] at this
          have e3 := tok_split (u.drop 5)
          have e4 := head_of h4
          rw [e4, c2] at e3
          rw [pr_not rfl, tx_ex, cs_sOf]
          have e1' : u = someL ++ u.drop 4 := e1
          calc u = someL ++ u.drop 4 := e1'
            _ = someL ++ (32 :: u.drop 5) := congrArg (fun z => someL ++ z) e2
            _ = someL ++ (32 :: (tok (u.drop 5) ++ (32 :: (pr t' ++ v)))) := congrArg (fun z => someL ++ (32 :: z)) e3
            _ = _ := by simp
        · cases h
      · cases h
theorem dItems_sound : ∀ (n d : Nat) (u : List Nat) (l : List T) (v : List Nat), dItems n d u = some (l, v) → CWs l ∧ l ≠ [] ∧ u = TL.joinL amp (txs l) ++ v
  | 0, _, _, _, _, h => by simp [dItems] at h
  | n + 1, d, u, l, v, h => by
    rw [dItems] at h
    split at h
    · cases h
    · rename_i t w hi
      obtain ⟨c1, c2⟩ := dItem_sound n d u t w hi
      split at h
      · rename_i ha
        split at h
        · rename_i l' x hl
          cases h
          obtain ⟨d1, d2, d3⟩ := dItems_sound n d _ l' v hl
          refine ⟨by rw [CWs]; exact ⟨c1, d1⟩, by simp, ?_⟩
          cases l' with
          | nil => exact (d2 rfl).elim
          | cons b r =>
            have e : TL.joinL amp (txs (t :: b :: r)) = pr t ++ (amp ++ TL.joinL amp (txs (b :: r))) := by rw [txs_eq, txs_eq]; exact join_cons
            rw [e, c2, amp_of ha, d3]
            simp [amp]
        · cases h
      · cases h
        refine ⟨by rw [CWs]; exact ⟨c1, by rw [CWs]; trivial⟩, by simp, ?_⟩
        rw [txs_eq]
        show u = TL.joinL amp [pr t] ++ v
        rw [join_one]; exact c2
end
end K1
namespace K1
open PySem L2
/-! how deep a text can go, and that the two readers agree -/
abbrev sp (l : List Nat) : Nat := l.count 32
theorem sp_pr (t : T) : sp (pr t) = sp (tx t) := by
  unfold pr wrap
  split
  · simp [sp]
  · rfl
theorem sp_join : ∀ (xs : List (List Nat)) (x : List Nat), x ∈ xs → 2 ≤ xs.length → sp x + 2 ≤ sp (TL.joinL amp xs)
  | [], x, h, _ => by cases h
  | [y], x, h, l => by simp at l
  | [y, z], x, h, _ => by
    rw [join_cons, join_one]
    simp only [sp, List.count_append]
    have : List.count 32 amp = 2 := rfl
    simp only [List.mem_cons, List.not_mem_nil, or_false] at h
    rcases h with rfl | rfl <;> omega
  | y :: z :: w :: l, x, h, _ => by
    rw [join_cons]
    simp only [sp, List.count_append]
    have e : List.count 32 amp = 2 := rfl
    rcases List.mem_cons.mp h with h | h
    · rw [h]; omega
    · have := sp_join (z :: w :: l) x h (by simp)
      simp only [sp] at this
      omega
mutual
theorem ns_sp : ∀ (t : T), CW t → 2 * ns t ≤ sp (tx t)
  | .atom s, _ => by simp [ns]
  | .ex r t, h => by
    have ht : CW t := by rw [CW] at h; exact h.2
    have ih := ns_sp t ht
    rw [ns, tx_ex]
    simp only [sp, List.count_append, List.count_cons]
    have := sp_pr t
    simp only [sp] at this ih
    rw [this]
    simp
    omega
  | .and l, h => by
    have hl : 2 ≤ l.length ∧ CWs l := by rw [CW] at h; exact h
    rw [ns, tx_and]
    have : nss l ≤ (sp (TL.joinL amp (l.map pr)) - 2) / 2 := nss_bound fun t ht => by
      have h1 := nss_sp l hl.2 t ht
      have h2 := sp_join (l.map pr) (pr t) (List.mem_map.mpr ⟨t, ht, rfl⟩) (by rw [List.length_map]; exact hl.1)
      rw [sp_pr] at h2
      omega
    have : 2 ≤ sp (TL.joinL amp (l.map pr)) := by
      obtain ⟨t, ht⟩ : ∃ t, t ∈ l := by
        cases l with
        | nil => simp at hl
        | cons a r => exact ⟨a, List.mem_cons_self⟩
      have h2 := sp_join (l.map pr) (pr t) (List.mem_map.mpr ⟨t, ht, rfl⟩) (by rw [List.length_map]; exact hl.1)
      omega
    omega
theorem nss_sp : ∀ (l : List T), CWs l → ∀ t ∈ l, 2 * ns t ≤ sp (tx t)
  | [], _, t, h => by cases h
  | u :: l, hw, t, h => by
    have hw' : CW u ∧ CWs l := by rw [CWs] at hw; exact hw
    rcases List.mem_cons.mp h with h | h
    · rw [h]; exact ns_sp u hw'.1
    · exact nss_sp l hw'.2 t h
end
theorem amp_nil : amp.isPrefixOf ([] : List Nat) = false := rfl
/-- what is the text of a concept is read so by the program -/
theorem rWhole_tx {t : T} (h : CW t) {n : Nat} (hn : 2 * (tx t).length + 2 ≤ n) : rWhole n (tx t) = some (t, []) := by
  unfold rWhole
  cases t with
  | and l =>
    have hl : 2 ≤ l.length ∧ CWs l := by rw [CW] at h; exact h
    have ne : l ≠ [] := fun z => by rw [z] at hl; simp at hl
    have e : tx (.and l) = TL.joinL amp (txs l) := by rw [tx_and, txs_eq]
    rw [e] at hn ⊢
    have := rItems_pr l hl.2 ne n [] hn stop_nil amp_nil
    rw [List.append_nil] at this
    rw [this]
    have : one l = .and l := by
      match l, hl.1 with
      | _ :: _ :: _, _ => rfl
    show some (one l, []) = _
    rw [this]
  | atom s =>
    have e : tx (.atom s) = TL.joinL amp (txs [.atom s]) := by rw [txs_eq]; show _ = TL.joinL amp [pr (.atom s)]; rw [join_one, pr_not rfl]
    rw [e] at hn ⊢
    have := rItems_pr [.atom s] (by rw [CWs]; exact ⟨h, by rw [CWs]; trivial⟩) (by simp) n [] hn stop_nil amp_nil
    rw [List.append_nil] at this
    rw [this]; rfl
  | ex r t =>
    have e : tx (.ex r t) = TL.joinL amp (txs [.ex r t]) := by rw [txs_eq]; show _ = TL.joinL amp [pr (.ex r t)]; rw [join_one, pr_not rfl]
    rw [e] at hn ⊢
    have := rItems_pr [.ex r t] (by rw [CWs]; exact ⟨h, by rw [CWs]; trivial⟩) (by simp) n [] hn stop_nil amp_nil
    rw [List.append_nil] at this
    rw [this]; rfl
theorem dWhole_tx {t : T} (h : CW t) {n : Nat} (hn : 2 * (tx t).length + 2 ≤ n) (hd : ns t ≤ 60) : dWhole n 0 (tx t) = some (t, []) := by
  unfold dWhole
  cases t with
  | and l =>
    have hl : 2 ≤ l.length ∧ CWs l := by rw [CW] at h; exact h
    have ne : l ≠ [] := fun z => by rw [z] at hl; simp at hl
    have e : tx (.and l) = TL.joinL amp (txs l) := by rw [tx_and, txs_eq]
    rw [e] at hn ⊢
    have hd' : nss l + 1 ≤ 60 := by rw [ns] at hd; exact hd
    have := dItems_pr l hl.2 ne n 0 [] hn (by omega) stop_nil amp_nil
    rw [List.append_nil] at this
    rw [this]
    match l, hl.1 with
    | _ :: _ :: _, _ => rfl
  | atom s =>
    have e : tx (.atom s) = TL.joinL amp (txs [.atom s]) := by rw [txs_eq]; show _ = TL.joinL amp [pr (.atom s)]; rw [join_one, pr_not rfl]
    rw [e] at hn ⊢
    have := dItems_pr [.atom s] (by rw [CWs]; exact ⟨h, by rw [CWs]; trivial⟩) (by simp) n 0 [] hn (by simp [nss, ns]) stop_nil amp_nil
    rw [List.append_nil] at this
    rw [this]; rfl
  | ex r t =>
    have e : tx (.ex r t) = TL.joinL amp (txs [.ex r t]) := by rw [txs_eq]; show _ = TL.joinL amp [pr (.ex r t)]; rw [join_one, pr_not rfl]
    rw [e] at hn ⊢
    have := dItems_pr [.ex r t] (by rw [CWs]; exact ⟨h, by rw [CWs]; trivial⟩) (by simp) n 0 [] hn (by simp only [nss, Nat.zero_add]; omega) stop_nil amp_nil
    rw [List.append_nil] at this
    rw [this]; rfl
theorem dWhole_sound {n d : Nat} {u v : List Nat} {t : T} (h : dWhole n d u = some (t, v)) : CW t ∧ u = tx t ++ v := by
  unfold dWhole at h
  split at h
  · rename_i t' v' hi
    split at h
    · cases h
    · rename_i na
      cases h
      obtain ⟨c1, c2, c3⟩ := dItems_sound _ _ _ _ _ hi
      have hc : CW t := by rw [CWs] at c1; exact c1.1
      have na' : isAndT t = false := by cases z : isAndT t with | false => rfl | true => exact (na z).elim
      refine ⟨hc, ?_⟩
      rw [c3, txs_eq]
      show TL.joinL amp [pr t] ++ v = _
      rw [join_one, pr_not na']
  · rename_i l v' hne hi
    cases h
    obtain ⟨c1, c2, c3⟩ := dItems_sound _ _ _ _ _ hi
    refine ⟨?_, by rw [c3, tx_and, txs_eq]⟩
    rw [CW]
    refine ⟨?_, c1⟩
    cases l with
    | nil => exact (c2 rfl).elim
    | cons a r => cases r with
      | nil => exact (hne a rfl).elim
      | cons b r => simp
  · cases h
/-- what the program gives back: the concept, if any, whose text it is -/
def IsTx (u : List Nat) (t : T) : Prop := CW t ∧ ns t ≤ 100 ∧ tx t = u
theorem due_iff {u : List Nat} {n : Nat} (hn : 2 * u.length + 2 ≤ n) (hs : sp u ≤ 112) (t : T) : dWhole n 0 u = some (t, []) ↔ IsTx u t := by
  constructor
  · intro h
    obtain ⟨c1, c2⟩ := dWhole_sound h
    rw [List.append_nil] at c2
    have := ns_sp t c1
    rw [← c2] at this
    exact ⟨c1, by omega, c2.symm⟩
  · rintro ⟨c1, c2, rfl⟩
    have := ns_sp t c1
    exact dWhole_tx c1 hn (by omega)
theorem read_iff {u : List Nat} {n : Nat} (hn : 2 * u.length + 2 ≤ n) (t : T) : (rWhole n u = some (t, []) ∧ IsTx u t) ↔ IsTx u t := by
  constructor
  · exact fun h => h.2
  · intro h
    refine ⟨?_, h⟩
    rw [← h.2.2] at hn ⊢
    exact rWhole_tx h.1 hn
theorem tx_inj {a b : T} (ha : CW a) (hb : CW b) (h : tx a = tx b) : a = b := by
  have h1 := rWhole_tx ha (Nat.le_refl _)
  have h2 := rWhole_tx hb (Nat.le_refl _)
  rw [h, h2] at h1
  cases h1
  rfl
end K1
namespace K1
open PySem L2
/-! concepts with ands of any length, in the heap and as data -/
mutual
def TAt (H : Hp) : T → V → Prop
  | .atom s, v => v = .str s ∧ s.length ≤ 1000
  | .ex r t, v => ∃ p u, v = .ref p ∧ H p = some (.tup [.str "some", .str r, u]) ∧ TAt H t u ∧ r.length ≤ 1000
  | .and l, v => ∃ p us, v = .ref p ∧ H p = some (.tup (.str "and" :: us)) ∧ TsAt H l us
def TsAt (H : Hp) : List T → List V → Prop
  | [], us => us = []
  | t :: l, us => ∃ u us', us = u :: us' ∧ TAt H t u ∧ TsAt H l us'
end
theorem TsAt.pair {H : Hp} : ∀ {l : List T} {us : List V}, TsAt H l us → Paired (TAt H) l us
  | [], us, h => by rw [TsAt] at h; subst h; exact .nil
  | t :: l, us, h => by
    rw [TsAt] at h
    obtain ⟨u, us', rfl, h1, h2⟩ := h
    exact .cons h1 (TsAt.pair h2)
theorem TsAt.of {H : Hp} : ∀ {l : List T} {us : List V}, Paired (TAt H) l us → TsAt H l us
  | _, _, .nil => by rw [TsAt]
  | _, _, .cons r t => by rw [TsAt]; exact ⟨_, _, rfl, r, TsAt.of t⟩
mutual
theorem TAt.t {H H' : Hp} (e : TSame H H') : ∀ {t : T} {v : V}, TAt H t v → TAt H' t v
  | .atom s, v, h => by rw [TAt] at h ⊢; exact h
  | .ex r t, v, h => by
    rw [TAt] at h ⊢
    obtain ⟨p, u, h1, h2, h3, h4⟩ := h
    exact ⟨p, u, h1, e _ _ h2, TAt.t e h3, h4⟩
  | .and l, v, h => by
    rw [TAt] at h ⊢
    obtain ⟨p, us, h1, h2, h3⟩ := h
    exact ⟨p, us, h1, e _ _ h2, TsAt.t e h3⟩
theorem TsAt.t {H H' : Hp} (e : TSame H H') : ∀ {l : List T} {us : List V}, TsAt H l us → TsAt H' l us
  | [], us, h => by rw [TsAt] at h ⊢; exact h
  | t :: l, us, h => by
    rw [TsAt] at h ⊢
    obtain ⟨u, us', h1, h2, h3⟩ := h
    exact ⟨u, us', h1, TAt.t e h2, TsAt.t e h3⟩
end
theorem TAt.same {H H' : Hp} (e : Same H H') {t : T} {v : V} (h : TAt H t v) : TAt H' t v := h.t (Same.t e)
theorem pairT_t {H H' : Hp} (e : TSame H H') : ∀ {l : List T} {us : List V}, Paired (TAt H) l us → Paired (TAt H') l us
  | _, _, .nil => .nil
  | _, _, .cons r t => .cons (r.t e) (pairT_t e t)
theorem TAt.pl {H : Hp} {t : T} {v : V} (h : TAt H t v) : Pl H v := by
  cases t with
  | atom s => rw [TAt] at h; obtain ⟨rfl, h⟩ := h; exact h
  | ex r t => rw [TAt] at h; obtain ⟨p, u, rfl, h2, _⟩ := h; exact .inr ⟨_, h2⟩
  | and l => rw [TAt] at h; obtain ⟨p, us, rfl, h2, _⟩ := h; exact .inr ⟨_, h2⟩
mutual
theorem TAt.kn {H : Hp} : ∀ {t : T} {v : V} {m : Nat}, TAt H t v → ns t ≤ m → Kn H m v
  | .atom s, v, m, h, _ => by rw [TAt] at h; obtain ⟨rfl, h⟩ := h; exact kn_str h
  | .ex r t, v, m, h, hm => by
    rw [TAt] at h
    obtain ⟨p, u, rfl, h2, h3, h9⟩ := h
    rw [ns] at hm
    cases m with
    | zero => omega
    | succ m =>
      refine ⟨.inr ⟨_, h2⟩, fun a xs e q x hx => ?_⟩
      cases e
      rw [h2] at q
      cases q
      simp only [List.mem_cons, List.not_mem_nil, or_false] at hx
      rcases hx with rfl | rfl | rfl
      · exact kn_str (by decide +kernel)
      · exact kn_str h9
      · exact TAt.kn h3 (by omega)
  | .and l, v, m, h, hm => by
    rw [TAt] at h
    obtain ⟨p, us, rfl, h2, h3⟩ := h
    rw [ns] at hm
    cases m with
    | zero => omega
    | succ m =>
      refine ⟨.inr ⟨_, h2⟩, fun a xs e q x hx => ?_⟩
      cases e
      rw [h2] at q
      cases q
      rcases List.mem_cons.mp hx with rfl | hx
      · exact kn_str (by decide +kernel)
      · exact TsAt.kn h3 (by omega) x hx
theorem TsAt.kn {H : Hp} : ∀ {l : List T} {us : List V} {m : Nat}, TsAt H l us → nss l ≤ m → ∀ x ∈ us, Kn H m x
  | [], us, m, h, _ => by rw [TsAt] at h; subst h; intro x hx; cases hx
  | t :: l, us, m, h, hm => by
    rw [TsAt] at h
    obtain ⟨u, us', rfl, h1, h2⟩ := h
    rw [nss] at hm
    intro x hx
    rcases List.mem_cons.mp hx with rfl | hx
    · exact TAt.kn h1 (by omega)
    · exact TsAt.kn h2 (by omega) x hx
end
theorem and_not_some : ¬ ("and" : Str) = "some" := by decide +kernel
mutual
/-- is_concept tells just the concepts that are not too deep -/
theorem TAt.nested {H : Hp} : ∀ {t : T} {v : V} (n : Nat), TAt H t v → (nestedB H n v = true ↔ CW t ∧ ns t ≤ n)
  | .atom s, v, n, h => by
    rw [TAt] at h
    obtain ⟨rfl, _⟩ := h
    rw [nestedB_str, CW, ns, Bool.or_eq_true, decide_eq_true_eq]
    constructor
    · rintro (h | h)
      · exact ⟨h.elim .inl fun h => .inr (.inl h), Nat.zero_le _⟩
      · exact ⟨.inr (.inr h), Nat.zero_le _⟩
    · rintro ⟨h | h | h, _⟩
      · exact .inl (.inl h)
      · exact .inl (.inr h)
      · exact .inr h
  | .ex r t, v, n, h => by
    rw [TAt] at h
    obtain ⟨p, u, rfl, h2, h3, h9⟩ := h
    rw [CW, ns]
    cases n with
    | zero => simp [nestedB]
    | succ n =>
      have ih := TAt.nested n h3
      have : nestedB H (n + 1) (.ref p) = (wordOk r && nestedB H n u) := by simp [nestedB, h2, isWordV]
      rw [this, Bool.and_eq_true, ih]
      constructor
      · rintro ⟨a, b, c⟩; exact ⟨⟨a, b⟩, by omega⟩
      · rintro ⟨⟨a, b⟩, c⟩; exact ⟨a, b, by omega⟩
  | .and l, v, n, h => by
    rw [TAt] at h
    obtain ⟨p, us, rfl, h2, h3⟩ := h
    rw [CW, ns]
    cases n with
    | zero => simp [nestedB]
    | succ n =>
      have ih := TsAt.nested n h3
      have hl := paired_len h3.pair
      match us, h2, h3, ih, hl with
      | [], h2, _, _, hl =>
        simp only [nestedB, h2]
        simp only [List.length_nil] at hl
        constructor
        · intro z; cases z
        · rintro ⟨⟨a, _⟩, _⟩; omega
      | [x], h2, _, _, hl =>
        simp only [nestedB, h2]
        simp only [List.length_cons, List.length_nil] at hl
        constructor
        · intro z; cases z
        · rintro ⟨⟨a, _⟩, _⟩; omega
      | x :: y :: r, h2, _, ih, hl =>
        have : nestedB H (n + 1) (.ref p) = (x :: y :: r).all (nestedB H n) := by simp only [nestedB, h2]; rw [if_neg and_not_some]; simp
        rw [this, List.all_eq_true, ih]
        simp only [List.length_cons] at hl
        constructor
        · rintro ⟨a, b⟩; exact ⟨⟨by omega, a⟩, by omega⟩
        · rintro ⟨⟨_, a⟩, b⟩; exact ⟨a, by omega⟩
theorem TsAt.nested {H : Hp} : ∀ {l : List T} {us : List V} (n : Nat), TsAt H l us → ((∀ x ∈ us, nestedB H n x = true) ↔ CWs l ∧ nss l ≤ n)
  | [], us, n, h => by rw [TsAt] at h; subst h; simp [CWs, nss]
  | t :: l, us, n, h => by
    rw [TsAt] at h
    obtain ⟨u, us', rfl, h1, h2⟩ := h
    have a := TAt.nested n h1
    have b := TsAt.nested n h2
    rw [CWs, nss, List.forall_mem_cons, a, b]
    constructor
    · rintro ⟨⟨a, b⟩, c, d⟩; exact ⟨⟨a, c⟩, Nat.max_le.mpr ⟨b, d⟩⟩
    · rintro ⟨⟨a, c⟩, d⟩; exact ⟨⟨a, (Nat.max_le.mp d).1⟩, c, (Nat.max_le.mp d).2⟩
end
mutual
def datT : T → PyData
  | .atom s => .str s
  | .ex r t => .tuple [.str "some", .str r, datT t]
  | .and l => .tuple (.str "and" :: datTs l)
def datTs : List T → List PyData
  | [] => []
  | t :: l => datT t :: datTs l
end
mutual
theorem dp_T {K : PySem.W.Frag} {H : Hp} : ∀ {t : T} {v : V}, TAt H t v → Dp K H v (datT t)
  | .atom s, v, h => by rw [TAt] at h; obtain ⟨rfl, _⟩ := h; rw [datT]; exact .str s
  | .ex r t, v, h => by
    rw [TAt] at h
    obtain ⟨p, u, rfl, h2, h3, _⟩ := h
    rw [datT]
    exact .tup (SqT.of h2) (.cons (.str _) (.cons (.str _) (.cons (dp_T h3) .nil)))
  | .and l, v, h => by
    rw [TAt] at h
    obtain ⟨p, us, rfl, h2, h3⟩ := h
    rw [datT]
    exact .tup (SqT.of h2) (.cons (.str _) (dp_Ts h3))
theorem dp_Ts {K : PySem.W.Frag} {H : Hp} : ∀ {l : List T} {us : List V}, TsAt H l us → DpAll K H us (datTs l)
  | [], us, h => by rw [TsAt] at h; subst h; rw [datTs]; exact .nil
  | t :: l, us, h => by
    rw [TsAt] at h
    obtain ⟨u, us', rfl, h1, h2⟩ := h
    rw [datTs]
    exact .cons (dp_T h1) (dp_Ts h2)
end
theorem strOk_atom {s : Str} (h : s = "all" ∨ s = "none" ∨ wordOk s = true) : PyData.strOk s = true := by
  rcases h with rfl | rfl | h
  · decide +kernel
  · decide +kernel
  · exact word_strOk h
mutual
theorem lay_T : ∀ {t : T}, CW t → (datT t).canLay0 = true
  | .atom s, h => by rw [CW] at h; rw [datT]; exact strOk_atom h
  | .ex r t, h => by
    rw [CW] at h
    rw [datT]
    simp [PyData.canLay0, PyData.canLayAll0, ok_some_str, word_strOk h.1, lay_T h.2]
  | .and l, h => by
    rw [CW] at h
    rw [datT]
    simp [PyData.canLay0, PyData.canLayAll0, ok_and_str, lay_Ts h.2]
theorem lay_Ts : ∀ {l : List T}, CWs l → PyData.canLayAll0 (datTs l) = true
  | [], _ => by rw [datTs]; rfl
  | t :: l, h => by
    rw [CWs] at h
    rw [datTs]
    simp [PyData.canLayAll0, lay_T h.1, lay_Ts h.2]
end
mutual
theorem depth_T : ∀ t : T, (datT t).depth ≤ ns t
  | .atom s => by rw [datT]; exact Nat.zero_le _
  | .ex r t => by have := depth_T t; rw [datT, ns]; simp only [PyData.depth, PyData.depthAll]; omega
  | .and l => by have := depth_Ts l; rw [datT, ns]; simp only [PyData.depth, PyData.depthAll]; omega
theorem depth_Ts : ∀ l : List T, PyData.depthAll (datTs l) ≤ nss l
  | [] => by rw [datTs]; exact Nat.zero_le _
  | t :: l => by have := depth_T t; have := depth_Ts l; rw [datTs, nss]; simp only [PyData.depthAll]; omega
end
theorem shaped_T {t : T} (h : CW t) (n : ns t ≤ 64) : SeqAt.shaped (datT t) = true := shaped_of (lay_T h) (Nat.le_trans (depth_T t) n)
mutual
theorem eqv_T : ∀ t : T, PyData.eqv (datT t) (datT t) = true
  | .atom s => by rw [datT]; simp [PyData.eqv]
  | .ex r t => by rw [datT]; simp [PyData.eqv, PyData.eqvAll, eqv_T t]
  | .and l => by rw [datT]; simp [PyData.eqv, PyData.eqvAll, eqv_Ts l]
theorem eqv_Ts : ∀ l : List T, PyData.eqvAll (datTs l) (datTs l) = true
  | [] => by rw [datTs]; simp [PyData.eqvAll]
  | t :: l => by rw [datTs]; simp [PyData.eqvAll, eqv_T t, eqv_Ts l]
end
def kidsT : T → List T
  | .atom _ => []
  | .ex _ t => [t]
  | .and l => l
mutual
def nd : T → Nat
  | .atom _ => 1
  | .ex _ t => nd t + 1
  | .and l => nds l + 1
def nds : List T → Nat
  | [] => 0
  | t :: l => nd t + nds l
end
theorem nds_append : ∀ (l m : List T), nds (l ++ m) = nds l + nds m
  | [], m => by simp [nds]
  | t :: l, m => by rw [List.cons_append, nds, nds, nds_append l m]; omega
theorem nd_kids (t : T) : nds (kidsT t) + 1 = nd t := by
  cases t with
  | atom s => simp [kidsT, nds, nd]
  | ex r t => simp [kidsT, nds, nd]
  | and l => simp [kidsT, nd]
theorem ns_kids {t k : T} (h : k ∈ kidsT t) : ns k + 1 ≤ ns t := by
  cases t with
  | atom s => cases h
  | ex r t => rw [List.mem_singleton.mp h, ns]; exact Nat.le_refl _
  | and l => rw [ns]; exact Nat.succ_le_succ (nss_le h)
theorem cw_kids {t k : T} (hw : CW t) (h : k ∈ kidsT t) : CW k := by
  cases t with
  | atom s => cases h
  | ex r t => rw [CW] at hw; rw [List.mem_singleton.mp h]; exact hw.2
  | and l => rw [CW] at hw; exact CWs_iff.mp hw.2 k h
/-- the text as Str -/
def sT (t : T) : Str := sOf (tx t)
def sP (t : T) : Str := sOf (pr t)
theorem cs_sT (t : T) : cs (sT t) = tx t := cs_sOf _
theorem sT_atom {s : Str} : sT (.atom s) = s := by unfold sT; rw [tx]; exact sOf_cs s
theorem len_sT (t : T) : (sT t).length = (tx t).length := len_sOf _
theorem len_sP (t : T) : (sP t).length = (pr t).length := len_sOf _
theorem pr_len (t : T) : (pr t).length ≤ (tx t).length + 2 := wrap_len _ _
theorem tx_len_pr (t : T) : (tx t).length ≤ (pr t).length := by
  unfold pr wrap
  split
  · simp; omega
  · exact Nat.le_refl _
theorem join_len : ∀ (xs : List (List Nat)) (x : List Nat), x ∈ xs → x.length ≤ (TL.joinL amp xs).length
  | [], x, h => by cases h
  | [y], x, h => by rw [List.mem_singleton.mp h, join_one]; exact Nat.le_refl _
  | y :: z :: l, x, h => by
    rw [join_cons]
    simp only [List.length_append]
    rcases List.mem_cons.mp h with h | h
    · rw [h]; omega
    · have := join_len (z :: l) x h; omega
theorem kid_len {t k : T} (h : k ∈ kidsT t) : (pr k).length ≤ (tx t).length := by
  cases t with
  | atom s => cases h
  | ex r t => rw [List.mem_singleton.mp h, tx_ex]; simp only [List.length_append, List.length_cons]; omega
  | and l => rw [tx_and]; exact join_len _ _ (List.mem_map.mpr ⟨k, h, rfl⟩)
theorem join_sum : ∀ (xs : List (List Nat)), (xs.map List.length).sum + 3 * (xs.length - 1) = (TL.joinL amp xs).length
  | [] => rfl
  | [y] => by rw [join_one]; simp
  | y :: z :: l => by
    have := join_sum (z :: l)
    rw [join_cons]
    simp only [List.length_append, List.map_cons, List.sum_cons, List.length_cons] at this ⊢
    have la : amp.length = 3 := rfl
    omega
mutual
/-- as many nodes as letters at most -/
theorem nd_len : ∀ {t : T}, CW t → nd t ≤ 2 * (tx t).length
  | .atom s, h => by
    rw [CW] at h
    have := (atom_wl h).1.ne
    rw [nd, tx]
    have : 0 < (cs s).length := List.length_pos_iff.mpr this
    omega
  | .ex r t, h => by
    rw [CW] at h
    have := nd_len h.2
    have := tx_len_pr t
    rw [nd, tx_ex]
    simp only [List.length_append, List.length_cons]
    omega
  | .and l, h => by
    rw [CW] at h
    have a := nds_len h.2
    have b := join_sum (l.map pr)
    rw [nd, tx_and]
    rw [List.length_map] at b
    omega
theorem nds_len : ∀ {l : List T}, CWs l → nds l ≤ 2 * ((l.map pr).map List.length).sum
  | [], _ => by simp [nds]
  | t :: l, h => by
    rw [CWs] at h
    have := nd_len h.1
    have := tx_len_pr t
    have := nds_len h.2
    rw [nds]
    simp only [List.map_cons, List.sum_cons]
    omega
end
end K1
namespace K1
open PySem L2
theorem and_ne_some : ¬ V.str ("and" : Str) = V.str "some" := fun z => absurd (V.str.inj z) (by decide +kernel)
theorem one_ne_and (c : Nat) : ¬ V.str ⟨#[c]⟩ = V.str "and" := fun z => by
  have e := congrArg Str.length (V.str.inj z)
  have e2 : ("and" : Str).length = 3 := by decide +kernel
  rw [e2] at e
  exact absurd (show (1 : Nat) = 3 from e) (by decide)
theorem atomT_or (t : T) : (∃ s, t = .atom s) ∨ ∀ s, t ≠ .atom s := by
  cases t with
  | atom s => exact .inl ⟨s, rfl⟩
  | ex r t => exact .inr fun s h => nomatch h
  | and l => exact .inr fun s h => nomatch h
def isExT : T → Bool
  | .ex _ _ => true
  | _ => false
theorem some_isT : decide (V.str ("some" : Str) = V.str "some") = true := by decide +kernel
theorem and_isT : decide (V.str ("and" : Str) = V.str "some") = false := by decide +kernel
theorem T_str {H : Hp} {t : T} {v : V} (h : TAt H t v) (n : ∀ s, t ≠ .atom s) : isStr v = false := by
  cases t with
  | atom s => exact (n s rfl).elim
  | ex r t => rw [TAt] at h; obtain ⟨p, u, rfl, _⟩ := h; rfl
  | and l => rw [TAt] at h; obtain ⟨p, us, rfl, _⟩ := h; rfl
/-- f'({piece})' -/
theorem parenT {t : T} (h : isAndT t = true) : Str.empty ++ "(" ++ sT t ++ ")" = sP t := str_ext (by
  rw [cs_app, cs_app, cs_app, cs_empty, cs_lp, cs_rp, cs_sT]
  unfold sP
  rw [cs_sOf]
  unfold pr wrap
  rw [h]
  rfl)
theorem sP_eq {t : T} (h : isAndT t = false) : sP t = sT t := by unfold sP sT; rw [pr_not h]
theorem exT_is {r : Str} {t : T} : Str.empty ++ "some " ++ r ++ " " ++ sP t = sT (.ex r t) := str_ext (by
  rw [cs_app, cs_app, cs_app, cs_app, cs_empty, cs_some, cs_sp]
  unfold sP sT
  rw [cs_sOf, cs_sOf, tx_ex]
  simp [someL])
theorem joinT_is {l : List T} : PySem.Txt.join " & " (l.map sP) = sT (.and l) := str_ext (by
  rw [TL.join_eq]
  show TL.tl (Str.join " & " (l.map sP)) = _
  rw [TL.tl_join]
  show TL.joinL (cs " & ") ((l.map sP).map cs) = _
  rw [cs_amp, cs_sT, tx_and, List.map_map]
  exact congrArg _ (List.map_congr_left fun t _ => cs_sOf _))
section
variable {P : Program} {w : World} {K : PySem.W.Frag} {mg : Str → Option Value} {base : Heap}
/-! ### is_concept, need_concept -/
def spIsT : Sp := fun vs H Q _ => ∃ v, vs = [v] ∧ Kn H 60 v ∧ ∀ H', Same H H' → Q (.bl (nestedB H 100 v)) H'
theorem ok_isT (D : Defs K mg) : FnOk P w K mg base CX0 63 D.d_is_concept.f D.d_is_concept.fd ["thing"] spIsT := by
  have G := ok_nested (P := P) (w := w) (base := base) D 61
  obtain ⟨tD, hD⟩ := D.de_m
  refine D.d_is_concept.F.ok sc_is_concept (fun vs H Q E h => ?_) (fun cdv A outer s H vs Q E hr h => ?_)
  · obtain ⟨v, rfl, _⟩ := h
    rfl
  obtain ⟨v, rfl, hk, q⟩ := h
  refine ⟨_, pss_one (ps_ret (pe_call G hr rfl D.d_is_nested.m D.d_is_nested.F.kp D.d_is_nested.b .nil pass0 (pa_cons (pv 0) (pa_cons (pe_glob (v := .int 100) (by rfl) hD ⟨_, rfl⟩) pa_nil)))), ?_⟩
  exact ⟨_, rfl, v, 100, rfl, hk, q⟩
def spNeedT : Sp := fun vs H Q _ => ∃ v, vs = [v] ∧ Kn H 60 v ∧ nestedB H 100 v = true ∧ ∀ H', Same H H' → Q .non H'
theorem ok_needT (D : Defs K mg) : FnOk P w K mg base CX0 64 D.d_need_concept.f D.d_need_concept.fd ["thing"] spNeedT := by
  have G := ok_isT (P := P) (w := w) (base := base) D
  refine D.d_need_concept.F.ok sc_need_concept (fun vs H Q E h => ?_) (fun cdv A outer s H vs Q E hr h => ?_)
  · obtain ⟨v, rfl, _⟩ := h
    rfl
  obtain ⟨v, rfl, hk, hn, q⟩ := h
  refine ⟨_, (pss_one (ps_if (pt_not (pt_val (pe_call G hr rfl D.d_is_concept.m D.d_is_concept.F.kp D.d_is_concept.b .nil pass0 (pa_cons (pv 0) pa_nil)))) (pss_one ps_never) pss_nil)), ?_⟩
  refine ⟨_, rfl, v, rfl, hk, fun H' g => ⟨_, rfl, ?_⟩⟩
  rw [hn]
  exact iteF (q H' g)
/-! ### inner -/
def spInnerT : Sp := fun vs H Q _ => ∃ v t, vs = [v] ∧ TAt H t v ∧ CW t ∧ ∀ p ws H', Same H H' → H' p = some (.tup ws) → Paired (TAt H') (kidsT t) ws → Q (.ref p) H'
theorem ok_innerT (D : Defs K mg) : FnOk P w K mg base CX0 1 D.d_inner.f D.d_inner.fd ["concept"] spInnerT := by
  refine D.d_inner.F.ok sc_inner (fun vs H Q E h => ?_) (fun cdv A outer s H vs Q E hr h => ?_)
  · obtain ⟨v, c, rfl, _⟩ := h
    rfl
  obtain ⟨v, c, rfl, hc, hw, q⟩ := h
  refine ⟨_, pss_cons (ps_if (pt_val (pe_callB call_isi (by rfl) D.z_isinstance (by decide +kernel) (pa_cons (pv 0) (pa_cons (pe_bltn (v := .ty "str") (by rfl) D.z_str (by decide +kernel) rfl) pa_nil)))) (pss_one (ps_ret (pe_tup pa_nil))) pss_nil)
    (pss_one (ps_ret (pe_ifExp (pt_cmpR op_eq (pe_ix ix_tup (pv 0) pe_int (fun _ _ => rfl)) pe_str (nomark _)) (pe_slice sl_tup (pv 0) (po_some pe_int) po_none) (pe_slice sl_tup (pv 0) (po_some pe_int) po_none)))), ?_⟩
  obtain ⟨t, ty, kt⟩ := pl_str (K := K) hc.pl
  refine ⟨_, rfl, _, _, _, _, _, rfl, .ty _, ty, kt, _, rfl, ?_⟩
  have sl1 : ∀ (x : V) (xs : List V), cutV (x :: xs) (some 1) none = xs := fun x xs => by simp [cutV, HT.sIx]
  have sl2 : ∀ (x y : V) (xs : List V), cutV (x :: y :: xs) (some 2) none = xs := fun x y xs => by simp [cutV, HT.sIx]
  cases c with
  | atom a =>
    rw [TAt] at hc
    obtain ⟨rfl, hl⟩ := hc
    refine iteT ⟨(by show 0 ≤ sizeLine; decide), fun p hp => ?_⟩
    exact q p [] _ (same_new hp _) upd_same .nil
  | ex r c =>
    rw [TAt] at hc
    obtain ⟨a, u, rfl, ha, hu, hl⟩ := hc
    refine iteF ⟨_, rfl, a, _, _, _, rfl, rfl, SqT.of ha, atI_nat (j := 0) rfl, rfl, _, rfl, ?_⟩
    rw [decide_eq_true (show V.str ("some" : Str) = V.str "some" from rfl)]
    refine iteT ⟨_, rfl, _, rfl, a, _, rfl, SqT.of ha, (by rintro ⟨z, _⟩; simp [HT.sIx] at z), fun p hp => ?_⟩
    rw [sl2]
    exact q p [u] _ (same_new hp _) upd_same (.cons (hu.same (same_new hp _)) .nil)
  | and l =>
    rw [TAt] at hc
    obtain ⟨a, us, rfl, ha, hus⟩ := hc
    rw [CW] at hw
    have lu := paired_len hus.pair
    refine iteF ⟨_, rfl, a, _, _, _, rfl, rfl, SqT.of ha, atI_nat (j := 0) rfl, rfl, _, rfl, ?_⟩
    rw [decide_eq_false and_ne_some]
    refine iteF ⟨_, rfl, _, rfl, a, _, rfl, SqT.of ha, (by
      rintro ⟨z, _⟩
      simp [HT.sIx] at z), fun p hp => ?_⟩
    rw [sl1]
    exact q p us _ (same_new hp _) upd_same (pairT_t (Same.t (same_new hp _)) hus.pair)
end
end K1
namespace K1
open PySem L2
theorem none_sameT {H H' : Hp} (e : Same H H') {p : Addr} (h : H' p = none) : H p = none := by
  cases z : H p with
  | none => rfl
  | some o => rw [e _ _ z] at h; cases h
section
variable {P : Program} {w : World} {K : PySem.W.Frag} {mg : Str → Option Value} {base : Heap}
/-! ### _law_is_word, _law_is_and -/
def spLWord : Sp := fun vs H Q _ => ∃ s : Str, vs = [.str s] ∧ s.length ≤ 1000 ∧ ∀ H', Same H H' → Q (.bl (wordOk s)) H'
def spLAnd : Sp := fun vs H Q _ => ∃ v t, vs = [v] ∧ TAt H t v ∧ Q (.bl (isAndT t)) H
end
end K1
namespace K1
open PySem L2
theorem exT_law {r : Str} {t : T} : "some " ++ r ++ " " ++ sP t = sT (.ex r t) := by
  rw [← exT_is]
  refine str_ext ?_
  rw [cs_app, cs_app, cs_app, cs_app, cs_app, cs_app, cs_app, cs_empty]
  rfl
theorem paren_law {t : T} (h : isAndT t = true) : "(" ++ sT t ++ ")" = sP t := by
  rw [← parenT h]
  refine str_ext ?_
  rw [cs_app, cs_app, cs_app, cs_app, cs_app, cs_empty]
  rfl
theorem ix_tupK {X : Cx} {K : PySem.W.Frag} (h : X.K = K) : IxR X (rIxT K) := by subst h; exact ix_tup
theorem call_isiK {X : Cx} {K : PySem.W.Frag} (h : X.K = K) : CallR X (.builtin "isinstance") (rIsi K) := by subst h; exact call_isi
section
variable {P : Program} {w : World} {K : PySem.W.Frag} {mg : Str → Option Value} {base : Heap}
/-! ### _law_due -/
/-! ### _law_text -/
def spLText : Nat → Sp
  | 0 => fun _ _ _ _ => False
  | n + 1 => fun vs H Q _ => ∃ v t, vs = [v] ∧ TAt H t v ∧ CW t ∧ ns t ≤ n ∧ (tx t).length ≤ 1000 ∧ ∀ H', Same H H' → Q (.str (sT t)) H'
end
end K1
namespace K1
open PySem L2
/-! words as they are drawn -/
def oneS (c : Nat) : Str := ⟨#[c]⟩
theorem joinL_ones : ∀ l : List Nat, TL.joinL [] (l.map fun c => [c]) = l
  | [] => rfl
  | [c] => rfl
  | c :: e :: l => by
    have ih := joinL_ones (e :: l)
    show [c] ++ ([] ++ TL.joinL [] ((e :: l).map fun c => [c])) = c :: e :: l
    rw [ih]
    rfl
theorem join_ones (l : List Nat) : PySem.Txt.join "" (l.map oneS) = sOf l := str_ext (by
  rw [TL.join_eq]
  show TL.tl (Str.join "" (l.map oneS)) = _
  rw [TL.tl_join, cs_sOf]
  show TL.joinL (cs "") ((l.map oneS).map TL.tl) = l
  rw [show cs ("" : Str) = [] by decide +kernel, List.map_map]
  exact joinL_ones l)
theorem az : letters (cs ("abcdefghijklmnopqrstuvwxyz" : Str)) = true := by decide +kernel
theorem az_len : (cs ("abcdefghijklmnopqrstuvwxyz" : Str)).length = 26 := by decide +kernel
theorem sum_ones : ∀ l : List Nat, ((l.map oneS).map (·.length)).sum = l.length
  | [] => rfl
  | c :: l => by simp only [List.map_cons, List.sum_cons, sum_ones l, List.length_cons]; show 1 + l.length = l.length + 1; omega
theorem wordOk_of {l : List Nat} (h1 : 1 ≤ l.length) (h2 : l.length ≤ 12) (h3 : letters l = true) (h4 : sOf l ∉ noWords) : wordOk (sOf l) = true := by
  unfold wordOk
  rw [len_sOf, cs_sOf, decide_eq_true h1, decide_eq_true h2, decide_eq_false h4, h3]
  rfl
def owns : List Nat := [98, 99, 100, 102, 103, 104, 107]
theorem cs_owns : cs ("bcdfghk" : Str) = owns := by decide +kernel
theorem own_letter {c : Nat} (h : c ∈ owns) : (97 ≤ c ∧ c ≤ 122) ∧ c ≠ 97 ∧ c ≠ 110 ∧ c ≠ 115 ∧ c ≠ 108 ∧ c ≠ 101 := by
  simp only [owns, List.mem_cons, List.not_mem_nil, or_false] at h
  omega
theorem no_words {l : List Nat} (h : sOf l ∈ noWords) : l = [97, 108, 108] ∨ l = [110, 111, 110, 101] ∨ l = [115, 111, 109, 101] := by
  simp only [noWords, List.mem_cons, List.not_mem_nil, or_false] at h
  have e1 : cs ("all" : Str) = [97, 108, 108] := by decide +kernel
  have e2 : cs ("none" : Str) = [110, 111, 110, 101] := by decide +kernel
  have e3 : cs ("some" : Str) = [115, 111, 109, 101] := by decide +kernel
  rcases h with h | h | h
  · exact .inl (by rw [← e1, ← h, cs_sOf])
  · exact .inr (.inl (by rw [← e2, ← h, cs_sOf]))
  · exact .inr (.inr (by rw [← e3, ← h, cs_sOf]))
theorem own_front {c : Nat} {l : List Nat} (hc : c ∈ owns) (h1 : l.length ≤ 11) (h2 : letters l = true) : wordOk (oneS c ++ sOf l) = true := by
  have e : oneS c ++ sOf l = sOf (c :: l) := str_ext (by rw [cs_app, cs_sOf, cs_sOf]; rfl)
  obtain ⟨hl, n1, n2, n3, _⟩ := own_letter hc
  rw [e]
  refine wordOk_of (by simp) (by simp; omega) ?_ fun z => ?_
  · unfold letters at h2 ⊢
    rw [List.all_cons, h2, decide_eq_true hl.1, decide_eq_true hl.2]
    rfl
  · rcases no_words z with z | z | z <;> (cases z; omega)
theorem own_behind {c : Nat} {l : List Nat} (hc : c ∈ owns) (h1 : l.length ≤ 11) (h2 : letters l = true) : wordOk (sOf l ++ oneS c) = true := by
  have e : sOf l ++ oneS c = sOf (l ++ [c]) := str_ext (by rw [cs_app, cs_sOf, cs_sOf]; rfl)
  obtain ⟨hl, n1, n2, n3, n4, n5⟩ := own_letter hc
  rw [e]
  refine wordOk_of (by simp) (by simp; omega) ?_ fun z => ?_
  · rw [letters_snoc, h2, decide_eq_true hl.1, decide_eq_true hl.2]
    rfl
  · have z2 := no_words z
    have : (l ++ [c]).getLast? = some c := by simp
    rcases z2 with z | z | z <;> (rw [z] at this; simp at this; omega)
section
variable {P : Program} {w : World} {K : PySem.W.Frag} {mg : Str → Option Value} {base : Heap}
/-! ### _law_words -/
def spWords5 : Sp := fun vs H Q _ => ∃ d a : Addr, vs = [.ref d, .int 5] ∧ DrawAt H d a ∧ ∀ (H' : Hp) (l : Addr) (ws : List Str), ws.length = 5 → (∀ x ∈ ws, wordOk x = true) → But [d] H H' → DrawAt H' d a → H' l = some (.lst (ws.map V.str)) → H l = none → Q (.ref l) H'
theorem ok_words5 (D : Defs K mg) : FnOk P w K mg base CX0 5 D.d_law_words.f D.d_law_words.fd ["draw", "many"] spWords5 := by
  have GP := ok_pick (P := P) (w := w) (base := base) D
  have GX := ok_next (P := P) (w := w) (base := base) D
  refine D.d_law_words.F.ok sc_law_words (fun vs H Q E h => ?_) (fun cdv A outer s H vs Q E hr h => ?_)
  · obtain ⟨d, a, rfl, _⟩ := h
    rfl
  obtain ⟨d, a, rfl, hd, q⟩ := h
  have hr3 : Room 3 _ := hr.mono (by omega)
  refine ⟨_, (pss_cons (ps_asg (pe_tup (pa_cons pe_str (pa_cons (pe_cmpR op_eq (pe_call GX hr3 rfl D.d_law_next.m D.d_law_next.F.kp D.d_law_next.b .nil pass0 (pa_cons (pv 0) (pa_cons pe_int pa_nil))) pe_int (nomark _)) pa_nil))) (pg_tup rfl (pgs_cons (pg_name (i := 2) sc_law_words.nd rfl (Or.inr rfl)) (pgs_cons (pg_name (i := 3) sc_law_words.nd rfl (Or.inl rfl)) pgs_nil))))
      (pss_cons (ps_par (i := 4) (j := 5) rfl sc_law_words.nd rfl rfl (by decide) rfl rfl (pa_cons pe_str (pa_cons (pe_lst pa_nil) pa_nil)) (by rfl))
      (pss_cons (ps_for PassesOwn.never rfl (pi_range1 rfl D.z_range (pa_cons (pv 1) pa_nil)) (pg_name (i := 6) sc_law_words.nd rfl (Or.inl rfl)) (pss_cons (ps_if (PW.pt (pw_or (pt_cmpR op_eq (pv 6) pe_int (nomark _)) (pw_or1 (pt_cmpR op_gt (pe_call GX hr3 rfl D.d_law_next.m D.d_law_next.F.kp D.d_law_next.b .nil pass0 (pa_cons (pv 0) (pa_cons pe_int pa_nil))) pe_int (nomark _)))))
          (pss_one (ps_set (i := 4) sc_law_words.nd rfl (Or.inl rfl) (pe_join pe_str (pe_lc (own := [("at", 8)]) (g := gName 8) rfl sc_law_words.nd (pi_range1 rfl D.z_range (pa_cons (pe_call GP hr rfl D.d_law_pick.m D.d_law_pick.F.kp D.d_law_pick.b .nil pass0 (pa_cons (pv 0) (pa_cons (pe_lst (pa_cons pe_int (pa_cons pe_int (pa_cons pe_int (pa_cons pe_int (pa_cons pe_int pa_nil)))))) pa_nil))) pa_nil)) (blkOk_by (N := ["draw", "many", "letters", "front", "rest", "found", "turn", "own", "at"]) (sc := defScope s_law_words) (by decide +kernel)) (fun _ _ _ _ _ => pg_name (i := 8) sc_law_words.nd rfl (Or.inl rfl)) (fun _ _ _ _ _ => pts_nil) (fun _ _ _ _ _ => (pe_ix ix_str (pv 2) (pe_call GX hr3 rfl D.d_law_next.m D.d_law_next.F.kp D.d_law_next.b .nil pass0 (pa_cons (pv 0) (pa_cons pe_int pa_nil))) (fun _ _ => rfl))))))) pss_nil)
      (pss_cons (ps_set (i := 7) sc_law_words.nd rfl (Or.inl rfl) (pe_ix ix_str pe_str (pv 6) (fun _ _ => rfl)))
      (pss_one (ps_expr (pe_bm PySem.F.plainAttrs_list PySem.F.slot_list_append PySem.F.type_list_append mt_append (pv 5) (pa_cons (pe_ifExp (pt_val (pv 3)) (pe_op op_add_str (pv 7) (pv 4)) (pe_op op_add_str (pv 4) (pv 7))) pa_nil)))))))
      (pss_one (ps_ret (pv 5)))))), ?_⟩
  refine ⟨_, rfl, d, a, 2, rfl, (by decide), hd, fun H1 r1 b1 hd1 r0 r2 => ⟨rfl, (by show 2 ≤ sizeLine; decide), fun t ht => ⟨t, _, rfl, SqT.of upd_same, rfl, _, _, rfl, _, _, rfl, rfl, ?_⟩⟩⟩
  refine ⟨(by show 0 ≤ sizeLine; decide), fun L hL => ⟨_, _, rfl, ?_⟩⟩
  have g1 := same_new ht (.tup [V.str "abcdefghijklmnopqrstuvwxyz", V.bl (decide (V.int r1 = V.int 0))])
  have g2 := same_new hL (.lst [])
  obtain ⟨nld, nla⟩ := (hd1.same g1).new hL
  have hL1 : H1 L = none := none_sameT g1 hL
  have hL0 : H L = none := by
    cases z : H L with
    | none => rfl
    | some o => rw [b1 _ _ (by simpa using nld) z] at hL1; cases hL1
  generalize hH2 : upd (upd H1 t (.tup [V.str "abcdefghijklmnopqrstuvwxyz", V.bl (decide (V.int r1 = V.int 0))])) L (.lst []) = H2
  have b02 : But [d] H H2 := by rw [← hH2]; exact (b1.trans (But.of g1)).trans (But.of g2)
  have hd2 : DrawAt H2 d a := by rw [← hH2]; exact (hd1.same g1).same g2
  have hl2 : H2 L = some (.lst []) := by rw [← hH2]; exact upd_same
  refine ⟨_, rfl, 5, rfl, (by decide), (by decide), for_range (lo := 0) (n := (5 : Int).toNat) (fun i σ H3 => ∃ (o6 o7 : Option V) (rs : Str) (ws : List Str), σ = [some (.ref d), some (.int 5), some (.str "abcdefghijklmnopqrstuvwxyz"), some (.bl (decide (V.int r1 = V.int 0))), some (.str rs), some (.ref L), o6, o7, none] ∧ But [L, d] H2 H3 ∧ DrawAt H3 d a ∧ H3 L = some (.lst (ws.map V.str)) ∧ ws.length = i ∧ (∀ x ∈ ws, wordOk x = true) ∧ letters (cs rs) = true ∧ rs.length ≤ 11)
    ⟨none, none, "", [], rfl, But.refl _, hd2, hl2, rfl, (fun x hx => nomatch hx), by decide +kernel, by decide +kernel⟩ ?_ ?_⟩
  rotate_left
  · rintro σ H3 ⟨o6, o7, rs, ws, rfl, b3, hd3, hl3, lw, okw, _, _⟩
    refine ⟨_, rfl, ?_⟩
    have b23 : But [d] H H3 := ((b02.mono (by simp)).trans b3).drop hL0
    exact q H3 L ws lw okw b23 hd3 hl3 hL0
  rintro i σ HA hi ⟨o6, o7, rs, ws, rfl, bA, hdA, hlA, lw, okw, lr, nr⟩
  have i5 : i < 5 := hi
  obtain ⟨c, hcg, hc⟩ : ∃ c, owns[i]? = some c ∧ c ∈ owns := by
    have : i < owns.length := by show i < 7; omega
    exact ⟨owns[i], List.getElem?_eq_getElem this, List.getElem_mem this⟩
  have zc : atI (cs ("bcdfghk" : Str)) ((0 : Int) + (i : Int)) = some c := by rw [Int.zero_add, cs_owns]; exact atI_nat hcg
  have lenL : (ws.map V.str).length < sizeLine := by rw [List.length_map]; exact small1000 (by omega)
  refine ⟨_, rfl, rfl, _, rfl, ?_⟩
  refine ite2 (fun _ => iteT ?_) (fun _ => ?_)
  · clear hi
    refine ⟨⟨_, rfl⟩, _, rfl, (by show 5 ≤ sizeLine; decide), fun p hp => ?_⟩
    have hdB := hdA.same (same_new hp (.lst [.int 0, .int 0, .int 1, .int 2, .int 11]))
    have hlB := same_new hp (.lst [.int 0, .int 0, .int 1, .int 2, .int 11]) _ _ hlA
    have pL : p ≠ L := fun z => by rw [z, hlA] at hp; cases hp
    refine ⟨d, a, p, _, rfl, hdB, upd_same, (hdA.new hp).1, (by show 0 < 5; decide), fun HC x hx bC hdC => ?_⟩
    obtain ⟨m, rfl, m1, m2⟩ : ∃ m : Int, x = .int m ∧ 0 ≤ m ∧ m ≤ 11 := by
      simp only [List.mem_cons, List.not_mem_nil, or_false] at hx
      rcases hx with rfl | rfl | rfl | rfl | rfl <;> exact ⟨_, rfl, by decide, by decide⟩
    have hlC := bC _ _ (by simpa using nld) hlB
    have bAC : But [L, d] H2 HC := (bA.trans (But.new hp)).trans (bC.mono (by simp))
    refine ⟨m, rfl, (by show -(2 ^ 62) ≤ m; omega), (by show m < 2 ^ 62; omega), fun D0 hD => ?_⟩
    obtain ⟨hDd, hDa⟩ := hdC.new hD
    have DL : D0 ≠ L := fun z => by rw [z, hlC] at hD; cases hD
    refine lc_range (lo := 0) (n := m.toNat) (fun i H4 => But [D0, d] HC H4 ∧ DrawAt H4 d a ∧ ∃ l : List Nat, H4 D0 = some (.lst ((l.map oneS).map V.str)) ∧ l.length = i ∧ letters l = true)
      ⟨But.new hD, hdC.same (same_new hD _), [], upd_same, rfl, rfl⟩ ?_ ?_
    · rintro i H4 hi ⟨b4, hd4, l, hl, li, ll⟩
      refine ⟨rfl, _, rfl, _, rfl, d, a, 26, rfl, (by decide), hd4, fun H5 r b5 hd5 r0 r26 => ?_⟩
      have hr2 : r.toNat < (cs ("abcdefghijklmnopqrstuvwxyz" : Str)).length := by rw [az_len]; omega
      have er : r = ((r.toNat : Nat) : Int) := by omega
      have z : atI (cs ("abcdefghijklmnopqrstuvwxyz" : Str)) ((r.toNat : Nat) : Int) = some (cs ("abcdefghijklmnopqrstuvwxyz" : Str))[r.toNat] := atI_nat (by rw [List.getElem?_eq_getElem hr2])
      rw [← er] at z
      have hl5 := b5 _ _ (by simpa using hDd) hl
      have gl := letters_get az (List.getElem?_eq_getElem hr2)
      refine ⟨_, r, _, rfl, rfl, (by decide +kernel), z, _, hl5, ?_, ((b4.trans (b5.mono (by simp))).trans (But.put (by simp))), hd5.upd hDd hDa, l ++ [(cs ("abcdefghijklmnopqrstuvwxyz" : Str))[r.toNat]], ?_, ?_, ?_⟩
      · rw [List.length_map, List.length_map]
        exact small1000 (by omega)
      · rw [upd_same, List.map_append, List.map_append]
        rfl
      · rw [List.length_append, li]
        rfl
      · rw [letters_snoc, ll, decide_eq_true gl.1, decide_eq_true gl.2]
        rfl
    · rintro H4 ⟨b4', hd4, l, hl, li, ll⟩
      refine ⟨_, D0, l.map oneS, rfl, rfl, .inl (SqL.of hl), ?_, ?_⟩
      · rw [sum_ones, List.length_map]
        rw [show ("" : Str).length = 0 from rfl]
        omega
      rw [join_ones]
      have b4 : But [L, d] H2 H4 := bAC.trans ((b4'.drop hD).mono (by simp))
      have hl4 : H4 L = some (.lst (ws.map V.str)) := b4' _ _ (by simp only [List.mem_cons, List.not_mem_nil, or_false]; rintro (z | z); exact DL z.symm; exact nld z) hlC
      obtain ⟨rs4, hrs4⟩ : ∃ r, r = sOf l := ⟨_, rfl⟩
      have l4 : letters (cs rs4) = true := by rw [hrs4, cs_sOf]; exact ll
      have n4 : rs4.length ≤ 11 := by rw [hrs4, len_sOf]; omega
      rw [← hrs4]
      have nld4 : L ≠ d := nld
      refine ⟨_, rfl, _, _, _, rfl, rfl, (by decide +kernel), zc, ?_⟩
      refine ⟨_, rfl, .inl ⟨rfl, _, SqL.of hl4⟩, _, rfl, _, rfl, ite2 (fun _ => ⟨_, rfl, _, rfl, _, _, rfl, rfl, Nat.le_of_lt (small1000 (by show 1 + rs4.length ≤ 1000; omega)), L, _, _, rfl, rfl, hl4, lenL, ?_⟩) (fun _ => ⟨_, rfl, _, rfl, _, _, rfl, rfl, Nat.le_of_lt (small1000 (by show rs4.length + 1 ≤ 1000; omega)), L, _, _, rfl, rfl, hl4, lenL, ?_⟩)⟩
      · refine ⟨_, _, rs4, ws ++ [oneS c ++ rs4], rfl, b4.trans (But.put (by simp)), hd4.upd nld nla, by rw [upd_same, List.map_append]; rfl, by rw [List.length_append]; show ws.length + 1 = i + 1; omega, fun x hx => ?_, l4, n4⟩
        rcases List.mem_append.mp hx with z | z
        · exact okw x z
        · rw [List.mem_singleton.mp z]
          have := own_front hc (l := cs rs4) n4 l4
          rwa [sOf_cs] at this
      · refine ⟨_, _, rs4, ws ++ [rs4 ++ oneS c], rfl, b4.trans (But.put (by simp)), hd4.upd nld nla, by rw [upd_same, List.map_append]; rfl, by rw [List.length_append]; show ws.length + 1 = i + 1; omega, fun x hx => ?_, l4, n4⟩
        rcases List.mem_append.mp hx with z | z
        · exact okw x z
        · rw [List.mem_singleton.mp z]
          have := own_behind hc (l := cs rs4) n4 l4
          rwa [sOf_cs] at this
  · refine ⟨_, rfl, d, a, 3, rfl, (by decide), hdA, fun HB r3 bB hdB' r30 r33 => ⟨_, _, rfl, rfl, _, rfl, ite2 (fun _ => ?_) (fun _ => ?_)⟩⟩
    · replace bA := bA.trans (bB.mono (D' := [L, d]) (by simp))
      replace hlA := bB _ _ (by simpa using nld) hlA
      replace hdA := hdB'
      clear hi hdB'
      refine ⟨⟨_, rfl⟩, _, rfl, (by show 5 ≤ sizeLine; decide), fun p hp => ?_⟩
      have hdB := hdA.same (same_new hp (.lst [.int 0, .int 0, .int 1, .int 2, .int 11]))
      have hlB := same_new hp (.lst [.int 0, .int 0, .int 1, .int 2, .int 11]) _ _ hlA
      have pL : p ≠ L := fun z => by rw [z, hlA] at hp; cases hp
      refine ⟨d, a, p, _, rfl, hdB, upd_same, (hdA.new hp).1, (by show 0 < 5; decide), fun HC x hx bC hdC => ?_⟩
      obtain ⟨m, rfl, m1, m2⟩ : ∃ m : Int, x = .int m ∧ 0 ≤ m ∧ m ≤ 11 := by
        simp only [List.mem_cons, List.not_mem_nil, or_false] at hx
        rcases hx with rfl | rfl | rfl | rfl | rfl <;> exact ⟨_, rfl, by decide, by decide⟩
      have hlC := bC _ _ (by simpa using nld) hlB
      have bAC : But [L, d] H2 HC := (bA.trans (But.new hp)).trans (bC.mono (by simp))
      refine ⟨m, rfl, (by show -(2 ^ 62) ≤ m; omega), (by show m < 2 ^ 62; omega), fun D0 hD => ?_⟩
      obtain ⟨hDd, hDa⟩ := hdC.new hD
      have DL : D0 ≠ L := fun z => by rw [z, hlC] at hD; cases hD
      refine lc_range (lo := 0) (n := m.toNat) (fun i H4 => But [D0, d] HC H4 ∧ DrawAt H4 d a ∧ ∃ l : List Nat, H4 D0 = some (.lst ((l.map oneS).map V.str)) ∧ l.length = i ∧ letters l = true)
        ⟨But.new hD, hdC.same (same_new hD _), [], upd_same, rfl, rfl⟩ ?_ ?_
      · rintro i H4 hi ⟨b4, hd4, l, hl, li, ll⟩
        refine ⟨rfl, _, rfl, _, rfl, d, a, 26, rfl, (by decide), hd4, fun H5 r b5 hd5 r0 r26 => ?_⟩
        have hr2 : r.toNat < (cs ("abcdefghijklmnopqrstuvwxyz" : Str)).length := by rw [az_len]; omega
        have er : r = ((r.toNat : Nat) : Int) := by omega
        have z : atI (cs ("abcdefghijklmnopqrstuvwxyz" : Str)) ((r.toNat : Nat) : Int) = some (cs ("abcdefghijklmnopqrstuvwxyz" : Str))[r.toNat] := atI_nat (by rw [List.getElem?_eq_getElem hr2])
        rw [← er] at z
        have hl5 := b5 _ _ (by simpa using hDd) hl
        have gl := letters_get az (List.getElem?_eq_getElem hr2)
        refine ⟨_, r, _, rfl, rfl, (by decide +kernel), z, _, hl5, ?_, ((b4.trans (b5.mono (by simp))).trans (But.put (by simp))), hd5.upd hDd hDa, l ++ [(cs ("abcdefghijklmnopqrstuvwxyz" : Str))[r.toNat]], ?_, ?_, ?_⟩
        · rw [List.length_map, List.length_map]
          exact small1000 (by omega)
        · rw [upd_same, List.map_append, List.map_append]
          rfl
        · rw [List.length_append, li]
          rfl
        · rw [letters_snoc, ll, decide_eq_true gl.1, decide_eq_true gl.2]
          rfl
      · rintro H4 ⟨b4', hd4, l, hl, li, ll⟩
        refine ⟨_, D0, l.map oneS, rfl, rfl, .inl (SqL.of hl), ?_, ?_⟩
        · rw [sum_ones, List.length_map]
          rw [show ("" : Str).length = 0 from rfl]
          omega
        rw [join_ones]
        have b4 : But [L, d] H2 H4 := bAC.trans ((b4'.drop hD).mono (by simp))
        have hl4 : H4 L = some (.lst (ws.map V.str)) := b4' _ _ (by simp only [List.mem_cons, List.not_mem_nil, or_false]; rintro (z | z); exact DL z.symm; exact nld z) hlC
        obtain ⟨rs4, hrs4⟩ : ∃ r, r = sOf l := ⟨_, rfl⟩
        have l4 : letters (cs rs4) = true := by rw [hrs4, cs_sOf]; exact ll
        have n4 : rs4.length ≤ 11 := by rw [hrs4, len_sOf]; omega
        rw [← hrs4]
        have nld4 : L ≠ d := nld
        refine ⟨_, rfl, _, _, _, rfl, rfl, (by decide +kernel), zc, ?_⟩
        refine ⟨_, rfl, .inl ⟨rfl, _, SqL.of hl4⟩, _, rfl, _, rfl, ite2 (fun _ => ⟨_, rfl, _, rfl, _, _, rfl, rfl, Nat.le_of_lt (small1000 (by show 1 + rs4.length ≤ 1000; omega)), L, _, _, rfl, rfl, hl4, lenL, ?_⟩) (fun _ => ⟨_, rfl, _, rfl, _, _, rfl, rfl, Nat.le_of_lt (small1000 (by show rs4.length + 1 ≤ 1000; omega)), L, _, _, rfl, rfl, hl4, lenL, ?_⟩)⟩
        · refine ⟨_, _, rs4, ws ++ [oneS c ++ rs4], rfl, b4.trans (But.put (by simp)), hd4.upd nld nla, by rw [upd_same, List.map_append]; rfl, by rw [List.length_append]; show ws.length + 1 = i + 1; omega, fun x hx => ?_, l4, n4⟩
          rcases List.mem_append.mp hx with z | z
          · exact okw x z
          · rw [List.mem_singleton.mp z]
            have := own_front hc (l := cs rs4) n4 l4
            rwa [sOf_cs] at this
        · refine ⟨_, _, rs4, ws ++ [rs4 ++ oneS c], rfl, b4.trans (But.put (by simp)), hd4.upd nld nla, by rw [upd_same, List.map_append]; rfl, by rw [List.length_append]; show ws.length + 1 = i + 1; omega, fun x hx => ?_, l4, n4⟩
          rcases List.mem_append.mp hx with z | z
          · exact okw x z
          · rw [List.mem_singleton.mp z]
            have := own_behind hc (l := cs rs4) n4 l4
            rwa [sOf_cs] at this
    · have b4 : But [L, d] H2 HB := bA.trans (bB.mono (by simp))
      have hl4 := bB _ _ (by simpa using nld) hlA
      have hd4 := hdB'
      obtain ⟨rs4, hrs4⟩ : ∃ r, r = rs := ⟨_, rfl⟩
      have l4 : letters (cs rs4) = true := by rw [hrs4]; exact lr
      have n4 : rs4.length ≤ 11 := by rw [hrs4]; exact nr
      rw [← hrs4]
      have nld4 : L ≠ d := nld
      refine ⟨_, rfl, _, _, _, rfl, rfl, (by decide +kernel), zc, ?_⟩
      refine ⟨_, rfl, .inl ⟨rfl, _, SqL.of hl4⟩, _, rfl, _, rfl, ite2 (fun _ => ⟨_, rfl, _, rfl, _, _, rfl, rfl, Nat.le_of_lt (small1000 (by show 1 + rs4.length ≤ 1000; omega)), L, _, _, rfl, rfl, hl4, lenL, ?_⟩) (fun _ => ⟨_, rfl, _, rfl, _, _, rfl, rfl, Nat.le_of_lt (small1000 (by show rs4.length + 1 ≤ 1000; omega)), L, _, _, rfl, rfl, hl4, lenL, ?_⟩)⟩
      · refine ⟨_, _, rs4, ws ++ [oneS c ++ rs4], rfl, b4.trans (But.put (by simp)), hd4.upd nld nla, by rw [upd_same, List.map_append]; rfl, by rw [List.length_append]; show ws.length + 1 = i + 1; omega, fun x hx => ?_, l4, n4⟩
        rcases List.mem_append.mp hx with z | z
        · exact okw x z
        · rw [List.mem_singleton.mp z]
          have := own_front hc (l := cs rs4) n4 l4
          rwa [sOf_cs] at this
      · refine ⟨_, _, rs4, ws ++ [rs4 ++ oneS c], rfl, b4.trans (But.put (by simp)), hd4.upd nld nla, by rw [upd_same, List.map_append]; rfl, by rw [List.length_append]; show ws.length + 1 = i + 1; omega, fun x hx => ?_, l4, n4⟩
        rcases List.mem_append.mp hx with z | z
        · exact okw x z
        · rw [List.mem_singleton.mp z]
          have := own_behind hc (l := cs rs4) n4 l4
          rwa [sOf_cs] at this
end
end K1
namespace K1
open PySem L2
/-! how long a drawn concept's text is, its parentheses and blanks -/
def cL : Nat → Nat
  | 0 => 12
  | m + 1 => 3 * cL m + 8
def cP : Nat → Nat
  | 0 => 0
  | m + 1 => 3 * cP m + 1
def cB : Nat → Nat
  | 0 => 0
  | m + 1 => 3 * cB m + 4
theorem cL_ge : ∀ m, 12 ≤ cL m
  | 0 => Nat.le_refl _
  | m + 1 => by have := cL_ge m; rw [cL]; omega
structure Bnd (a b c : Nat) (l : List Nat) : Prop where
  len : l.length ≤ a
  par : l.count 40 ≤ b
  bla : l.count 32 ≤ c
theorem wl_count {l : List Nat} (h : Wl l) : l.count 40 = 0 ∧ l.count 32 = 0 := by
  constructor
  · rw [List.count_eq_zero]; intro z; exact absurd (h.lo 40 z) (by decide)
  · rw [List.count_eq_zero]; intro z; exact absurd (h.lo 32 z) (by decide)
structure Drawn (m : Nat) (t : T) : Prop where
  cw : CW t
  ns : ns t ≤ m
  b : Bnd (cL m) (cP m) (cB m) (pr t)
theorem word_le {s : Str} (h : s = "all" ∨ wordOk s = true) : s.length ≤ 12 := by
  rcases h with rfl | h
  · decide +kernel
  · unfold wordOk at h
    simp only [Bool.and_eq_true, decide_eq_true_eq] at h
    omega
theorem drawn_atom {s : Str} (h : s = "all" ∨ wordOk s = true) (m : Nat) : Drawn m (.atom s) := by
  have h' : s = "all" ∨ s = "none" ∨ wordOk s = true := h.elim .inl fun z => .inr (.inr z)
  have e : pr (.atom s) = cs s := by rw [pr_not rfl, tx]
  obtain ⟨c1, c2⟩ := wl_count (atom_wl h').1
  refine ⟨h', by rw [K1.ns]; omega, ⟨?_, ?_, ?_⟩⟩
  · rw [e]; have := word_le h; have := cL_ge m; show s.length ≤ _; omega
  · rw [e, c1]; omega
  · rw [e, c2]; omega
theorem drawn_ex {r : Str} {t : T} {m : Nat} (hr : wordOk r = true) (h : Drawn m t) : Drawn (m + 1) (.ex r t) := by
  obtain ⟨c1, c2⟩ := wl_count (Wl.of_word hr).1
  have e : pr (.ex r t) = someL ++ (32 :: (cs r ++ (32 :: pr t))) := by rw [pr_not rfl, tx_ex]
  have hb := h.b
  refine ⟨by rw [CW]; exact ⟨hr, h.cw⟩, by rw [K1.ns]; have := h.ns; omega, ⟨?_, ?_, ?_⟩⟩
  · rw [e]
    have := hb.len
    have := cL_ge m
    have : (cs r).length ≤ 12 := word_le (.inr hr)
    simp only [List.length_append, List.length_cons, someL, List.length_nil, cL]
    omega
  · rw [e]
    have := hb.par
    simp only [List.count_append, List.count_cons, c1, cP]
    have : List.count 40 someL = 0 := by decide
    simp
    omega
  · rw [e]
    have := hb.bla
    simp only [List.count_append, List.count_cons, c2, cB]
    have : List.count 32 someL = 0 := by decide
    simp
    omega
theorem amp_counts : List.count 40 amp = 0 ∧ List.count 32 amp = 2 ∧ amp.length = 3 := by decide
theorem drawn_and {l : List T} {m : Nat} (h2 : l.length = 2 ∨ l.length = 3) (h : ∀ t ∈ l, Drawn m t) : Drawn (m + 1) (.and l) := by
  obtain ⟨a1, a2, a3⟩ := amp_counts
  refine ⟨?_, ?_, ?_⟩
  · rw [CW]; exact ⟨by omega, CWs_iff.mpr fun t ht => (h t ht).cw⟩
  · rw [K1.ns]; have := nss_bound (n := m) fun t ht => (h t ht).ns; omega
  have e : pr (.and l) = 40 :: (TL.joinL amp (l.map pr) ++ [41]) := by rw [pr_and, tx_and]
  rw [e]
  match l, h2, h with
  | [x, y], _, h =>
    have hx := (h x (by simp)).b
    have hy := (h y (by simp)).b
    have := hx.len; have := hx.par; have := hx.bla; have := hy.len; have := hy.par; have := hy.bla
    have := cL_ge m
    simp only [List.map_cons, List.map_nil, join_cons, join_one]
    refine ⟨?_, ?_, ?_⟩
    · simp only [List.length_append, List.length_cons, List.length_nil, a3, cL]; omega
    · simp only [List.count_append, List.count_cons, List.count_nil, a1, cP]; simp; omega
    · simp only [List.count_append, List.count_cons, List.count_nil, a2, cB]; simp; omega
  | [x, y, z], _, h =>
    have hx := (h x (by simp)).b
    have hy := (h y (by simp)).b
    have hz := (h z (by simp)).b
    have := hx.len; have := hx.par; have := hx.bla; have := hy.len; have := hy.par; have := hy.bla; have := hz.len; have := hz.par; have := hz.bla
    have := cL_ge m
    simp only [List.map_cons, List.map_nil, join_cons, join_one]
    refine ⟨?_, ?_, ?_⟩
    · simp only [List.length_append, List.length_cons, List.length_nil, a3, cL]; omega
    · simp only [List.count_append, List.count_cons, List.count_nil, a1, cP]; simp; omega
    · simp only [List.count_append, List.count_cons, List.count_nil, a2, cB]; simp; omega
theorem cL_mono {m n : Nat} (h : m ≤ n) : cL m ≤ cL n ∧ cP m ≤ cP n ∧ cB m ≤ cB n := by
  induction h with
  | refl => exact ⟨Nat.le_refl _, Nat.le_refl _, Nat.le_refl _⟩
  | step h ih => obtain ⟨a, b, c⟩ := ih; refine ⟨?_, ?_, ?_⟩ <;> simp only [cL, cP, cB] <;> omega
theorem Drawn.mono {m n : Nat} {t : T} (h : Drawn m t) (l : m ≤ n) : Drawn n t := by
  obtain ⟨a, b, c⟩ := cL_mono l
  exact ⟨h.cw, Nat.le_trans h.ns l, ⟨Nat.le_trans h.b.len a, Nat.le_trans h.b.par b, Nat.le_trans h.b.bla c⟩⟩
/-- what the law asks of: perhaps with none in it -/
structure Asked (t : T) : Prop where
  cw : CW t
  ns : ns t ≤ 4
  b : Bnd 435 13 54 (tx t)
theorem tx_count_pr (t : T) : (tx t).count 40 ≤ (pr t).count 40 ∧ (tx t).count 32 ≤ (pr t).count 32 := by
  unfold pr wrap
  split
  · simp
  · exact ⟨Nat.le_refl _, Nat.le_refl _⟩
theorem Asked.of {t : T} (h : Drawn 3 t) : Asked t := by
  have e : cL 3 = 428 ∧ cP 3 = 13 ∧ cB 3 = 52 := by decide
  have := tx_len_pr t
  obtain ⟨c1, c2⟩ := tx_count_pr t
  have := h.b.len; have := h.b.par; have := h.b.bla
  exact ⟨h.cw, by have := h.ns; omega, ⟨by omega, by omega, by omega⟩⟩
theorem none_pr : pr (.atom "none") = [110, 111, 110, 101] := by rw [pr_not rfl, tx]; decide +kernel
theorem Asked.none : Asked (.atom "none") := by
  have e : tx (.atom "none") = [110, 111, 110, 101] := by rw [tx]; decide +kernel
  refine ⟨by rw [CW]; exact .inr (.inl rfl), by rw [K1.ns]; omega, ?_⟩
  rw [e]
  exact ⟨by decide, by decide, by decide⟩
theorem Asked.pair {t : T} (h : Drawn 3 t) : Asked (.and [t, .atom "none"]) ∧ Asked (.and [.atom "none", t]) := by
  have e : cL 3 = 428 ∧ cP 3 = 13 ∧ cB 3 = 52 := by decide
  have := h.b.len; have := h.b.par; have := h.b.bla
  obtain ⟨a1, a2, a3⟩ := amp_counts
  have hn : CW (.atom "none") := by rw [CW]; exact .inr (.inl rfl)
  have n0 : K1.ns (.atom "none") = 0 := by rw [K1.ns]
  have hns := h.ns
  refine ⟨⟨?_, ?_, ?_⟩, ⟨?_, ?_, ?_⟩⟩
  · rw [CW, CWs, CWs, CWs]; exact ⟨by simp, h.cw, hn, trivial⟩
  · rw [K1.ns, nss, nss, nss, n0]; omega
  · rw [tx_and]
    simp only [List.map_cons, List.map_nil, join_cons, join_one, none_pr]
    refine ⟨?_, ?_, ?_⟩
    · simp only [List.length_append, List.length_cons, List.length_nil, a3]; omega
    · simp only [List.count_append, a1, show List.count 40 [110, 111, 110, 101] = 0 by decide]; omega
    · simp only [List.count_append, a2, show List.count 32 [110, 111, 110, 101] = 0 by decide]; omega
  · rw [CW, CWs, CWs, CWs]; exact ⟨by simp, hn, h.cw, trivial⟩
  · rw [K1.ns, nss, nss, nss, n0]; omega
  · rw [tx_and]
    simp only [List.map_cons, List.map_nil, join_cons, join_one, none_pr]
    refine ⟨?_, ?_, ?_⟩
    · simp only [List.length_append, List.length_cons, List.length_nil, a3]; omega
    · simp only [List.count_append, a1, show List.count 40 [110, 111, 110, 101] = 0 by decide]; omega
    · simp only [List.count_append, a2, show List.count 32 [110, 111, 110, 101] = 0 by decide]; omega
end K1
namespace K1
open PySem L2
/-- the names and the roles that are drawn -/
structure Alph (H : Hp) (d tn tr : Addr) (N R : List Str) : Prop where
  hn : H tn = some (.lst (N.map V.str))
  hr : H tr = some (.lst (R.map V.str))
  nd : tn ≠ d
  rd : tr ≠ d
  l3 : N.length = 3
  l2 : R.length = 2
  okN : ∀ x ∈ N, wordOk x = true
  okR : ∀ x ∈ R, wordOk x = true
theorem Alph.but {H H' : Hp} {d tn tr : Addr} {N R : List Str} (h : Alph H d tn tr N R) (b : But [d] H H') : Alph H' d tn tr N R :=
  { h with hn := b _ _ (by simpa using h.nd) h.hn, hr := b _ _ (by simpa using h.rd) h.hr }
theorem Alph.same {H H' : Hp} {d tn tr : Addr} {N R : List Str} (h : Alph H d tn tr N R) (b : Same H H') : Alph H' d tn tr N R := h.but (But.of b)
section
variable {P : Program} {w : World} {K : PySem.W.Frag} {mg : Str → Option Value} {base : Heap}
/-! ### _law_alphabet -/
def spAlpha : Sp := fun vs H Q _ => ∃ d a : Addr, vs = [.ref d] ∧ DrawAt H d a ∧ ∀ (H' : Hp) (p tn tr : Addr) (N R : List Str), But [d] H H' → DrawAt H' d a → H' p = some (.tup [.ref tn, .ref tr]) → Alph H' d tn tr N R → Q (.ref p) H'
theorem ok_alpha (D : Defs K mg) : FnOk P w K mg base CX0 6 D.d_law_alphabet.f D.d_law_alphabet.fd ["draw"] spAlpha := by
  have GW := ok_words5 (P := P) (w := w) (base := base) D
  have GX := ok_next (P := P) (w := w) (base := base) D
  refine D.d_law_alphabet.F.ok sc_law_alphabet (fun vs H Q E h => ?_) (fun cdv A outer s H vs Q E hr h => ?_)
  · obtain ⟨d, a, rfl, _⟩ := h
    rfl
  obtain ⟨d, a, rfl, hd, q⟩ := h
  have hr3 : Room 3 _ := hr.mono (by omega)
  refine ⟨_, (pss_cons (ps_set (i := 1) sc_law_alphabet.nd rfl (Or.inl rfl) (pe_call GW hr rfl D.d_law_words.m D.d_law_words.F.kp D.d_law_words.b .nil pass0 (pa_cons (pv 0) (pa_cons pe_int pa_nil))))
      (pss_cons (ps_par (i := 2) (j := 3) rfl sc_law_alphabet.nd rfl rfl (by decide) rfl rfl (pa_cons (pe_slice sl_list (pv 1) po_none (po_some pe_int)) (pa_cons (pe_slice sl_list (pv 1) (po_some pe_int) po_none) pa_nil)) (by rfl))
      (pss_cons (ps_if (pt_cmpR op_eq (pe_call GX hr3 rfl D.d_law_next.m D.d_law_next.F.kp D.d_law_next.b .nil pass0 (pa_cons (pv 0) (pa_cons pe_int pa_nil))) pe_int (nomark _)) (pss_one (ps_asg (pe_ix ix_list (pv 3) pe_int (fun _ _ => rfl)) (pg_sub (pv 2) pe_int set_list))) pss_nil)
      (pss_one (ps_ret (pe_tup (pa_cons (pv 2) (pa_cons (pv 3) pa_nil)))))))), ?_⟩
  refine ⟨_, rfl, d, a, rfl, hd, fun H1 l ws l5 okw b1 hd1 hl1 newl => ?_⟩
  have e1 : cutV (ws.map V.str) none (some 3) = (ws.take 3).map V.str := by
    simp only [cutV, HT.sIx, List.drop_zero, List.length_map, l5]
    rw [List.map_take]; rfl
  have e2 : cutV (ws.map V.str) (some 3) none = (ws.drop 3).map V.str := by
    simp only [cutV, HT.sIx, List.length_map, l5]
    rw [List.map_drop]
    exact List.take_of_length_le (by rw [List.length_drop, List.length_map, l5]; decide)
  refine ⟨_, rfl, _, rfl, l, _, rfl, SqL.of hl1, fun tn htn => ?_⟩
  rw [e1] at *
  have g1 := same_new htn (.lst ((ws.take 3).map V.str))
  refine ⟨_, rfl, _, rfl, l, _, rfl, SqL.of (g1 _ _ hl1), fun tr htr => ⟨_, _, rfl, ?_⟩⟩
  rw [e2] at *
  have g2 := same_new htr (.lst ((ws.drop 3).map V.str))
  have hd3 := (hd1.same g1).same g2
  have A0 : Alph (upd (upd H1 tn (.lst ((ws.take 3).map V.str))) tr (.lst ((ws.drop 3).map V.str))) d tn tr (ws.take 3) (ws.drop 3) :=
    ⟨g2 _ _ upd_same, upd_same, (hd1.new htn).1, ((hd1.same g1).new htr).1, by rw [List.length_take, l5]; rfl, by rw [List.length_drop, l5], fun x hx => okw x (List.mem_of_mem_take hx), fun x hx => okw x (List.mem_of_mem_drop hx)⟩
  refine ⟨_, rfl, d, a, 5, rfl, (by decide), hd3, fun H4 r b4 hd4 r0 r5 => ?_⟩
  have A4 := A0.but b4
  have b04 : But [d] H H4 := ((b1.trans (But.of g1)).trans (But.of g2)).trans b4
  have htn0 : H tn = none := by
    cases z : H tn with
    | none => rfl
    | some o => rw [b1 _ _ (by simpa using A0.nd) z] at htn; cases htn
  have tntr : tn ≠ tr := ne_of_none upd_same htr
  refine ⟨rfl, _, rfl, ite2 (fun _ => ?_) (fun _ => ?_)⟩
  · obtain ⟨r0', rr, er⟩ : ∃ x rr, ws.drop 3 = x :: rr := by
      cases z : ws.drop 3 with
      | nil => have := A0.l2; rw [z] at this; cases this
      | cons x rr => exact ⟨x, rr, rfl⟩
    obtain ⟨n0, n1, n2, en⟩ : ∃ x y z, ws.take 3 = [x, y, z] := by
      have := A0.l3
      match h : ws.take 3, this with
      | [x, y, z], _ => exact ⟨x, y, z, rfl⟩
    have okr0 : wordOk r0' = true := A0.okR r0' (by rw [er]; simp)
    have hnx := A4.hn
    have hrx := A4.hr
    rw [en] at hnx
    rw [er] at hrx
    refine ⟨_, rfl, tr, _, _, _, rfl, rfl, SqL.of hrx, atI_nat (j := 0) rfl, _, rfl, tn, _, _, 2, rfl, rfl, hnx, rfl, ?_⟩
    refine ⟨_, rfl, _, rfl, (by show 2 ≤ sizeLine; decide), fun p hp => ?_⟩
    generalize hH5 : upd H4 tn (.lst ((List.map V.str [n0, n1, n2]).set 2 (V.str r0'))) = H5 at hp ⊢
    have b5 : But [tn, d] H4 H5 := by rw [← hH5]; exact But.put (by simp)
    have g6 := same_new hp (.tup [.ref tn, .ref tr])
    have hd5 : DrawAt H5 d a := by
      rw [← hH5]
      refine hd4.upd A0.nd ?_
      obtain ⟨nsx, nx, d1, d2, d3⟩ := hd1.ex
      exact (ne_of_none d2 htn).symm
    have A5 : Alph H5 d tn tr [n0, n1, r0'] (ws.drop 3) := ⟨by rw [← hH5, upd_same]; rfl, by rw [← hH5, upd_ne tntr.symm]; exact A4.hr, A0.nd, A0.rd, rfl, A0.l2, fun x hx => by
        simp only [List.mem_cons, List.not_mem_nil, or_false] at hx
        rcases hx with rfl | rfl | rfl
        · exact A0.okN _ (by rw [en]; simp)
        · exact A0.okN _ (by rw [en]; simp)
        · exact okr0, A0.okR⟩
    refine q _ p tn tr _ _ ?_ (hd5.same g6) upd_same (A5.same g6)
    exact (((b04.mono (D' := [tn, d]) (by simp)).trans b5).trans (But.of g6)).drop htn0
  · refine ⟨_, rfl, _, rfl, (by show 2 ≤ sizeLine; decide), fun p hp => ?_⟩
    have g6 := same_new hp (.tup [.ref tn, .ref tr])
    exact q _ p tn tr _ _ (b04.trans (But.of g6)) (hd4.same g6) upd_same (A4.same g6)
/-! ### _law_concept -/
def spLCon : Nat → Sp
  | 0 => fun _ _ _ _ => False
  | n + 1 => fun vs H Q _ => ∃ (d a tn tr : Addr) (N R : List Str) (m : Nat), vs = [.ref d, .ref tn, .ref tr, .int (m : Nat)] ∧ m ≤ n ∧ DrawAt H d a ∧ Alph H d tn tr N R ∧
    ∀ H' v t, TAt H' t v → Drawn m t → But [d] H H' → DrawAt H' d a → Q v H'
theorem ok_lcon (D : Defs K mg) : ∀ n, FnOk P w K mg base CX0 (n + 5) D.d_law_concept.f D.d_law_concept.fd ["draw", "names", "roles", "deep"] (spLCon n)
  | 0 => none_left fun _ _ _ _ h => h
  | n + 1 => by
    have G := ok_lcon D n
    have GP := ok_pick (P := P) (w := w) (base := base) D
    have GX := ok_next (P := P) (w := w) (base := base) D
    refine D.d_law_concept.F.ok sc_law_concept (fun vs H Q E h => ?_) (fun cdv A outer s H vs Q E hr h => ?_)
    · obtain ⟨d, a, tn, tr, N, R, m, rfl, _⟩ := h
      rfl
    obtain ⟨d, a, tn, tr, N, R, m, rfl, hmn, hd, A0, q⟩ := h
    have hr3 : Room 3 _ := hr.mono (by omega)
    have hr4 : Room 4 _ := hr.mono (by omega)
    refine ⟨_, (pss_cons (ps_set (i := 4) sc_law_concept.nd rfl (Or.inl rfl) (pe_call GX hr3 rfl D.d_law_next.m D.d_law_next.F.kp D.d_law_next.b .nil pass0 (pa_cons (pv 0) (pa_cons pe_int pa_nil))))
      (pss_cons (ps_if (PW.pt (pw_or (pt_cmpR op_eq (pv 3) pe_int (nomark _)) (pw_or1 (pt_cmpR op_lt (pv 4) pe_int (nomark _))))) (pss_one (ps_ret (pe_call GP hr4 rfl D.d_law_pick.m D.d_law_pick.F.kp D.d_law_pick.b .nil pass0 (pa_cons (pv 0) (pa_cons (pe_op op_cat (pe_op op_cat (pv 1) (pv 1)) (pe_lst (pa_cons pe_str pa_nil))) pa_nil))))) pss_nil)
      (pss_cons (ps_if (pt_cmpR op_lt (pv 4) pe_int (nomark _)) (pss_one (ps_ret (pe_tup (pa_cons pe_str (pa_cons (pe_call GP hr4 rfl D.d_law_pick.m D.d_law_pick.F.kp D.d_law_pick.b .nil pass0 (pa_cons (pv 0) (pa_cons (pv 2) pa_nil))) (pa_cons (pe_call G hr rfl D.d_law_concept.m D.d_law_concept.F.kp D.d_law_concept.b .nil pass0 (pa_cons (pv 0) (pa_cons (pv 1) (pa_cons (pv 2) (pa_cons (pe_op op_sub (pv 3) pe_int) pa_nil))))) pa_nil)))))) pss_nil)
      (pss_cons (ps_set (i := 5) sc_law_concept.nd rfl (Or.inl rfl) (pe_op op_add pe_int (pe_callTy call_int1 (by rfl) D.z_int (by decide +kernel) (pa_cons (pe_cmpR op_eq (pe_call GX hr3 rfl D.d_law_next.m D.d_law_next.F.kp D.d_law_next.b .nil pass0 (pa_cons (pv 0) (pa_cons pe_int pa_nil))) pe_int (nomark _)) pa_nil))))
      (pss_one (ps_ret (pe_op op_catT (pe_tup (pa_cons pe_str pa_nil)) (pe_callTy call_tuple_of (by rfl) D.z_tuple (by decide +kernel) (pa_cons (pe_lc (own := [("turn", 6)]) (g := gName 6) rfl sc_law_concept.nd (pi_range1 rfl D.z_range (pa_cons (pv 5) pa_nil)) (blkOk_by (N := ["draw", "names", "roles", "deep", "kind", "many", "turn"]) (sc := defScope s_law_concept) (by decide +kernel)) (fun _ _ _ _ _ => pg_name (i := 6) sc_law_concept.nd rfl (Or.inl rfl)) (fun _ _ _ _ _ => pts_nil) (fun _ _ _ _ _ => (pe_call G hr rfl D.d_law_concept.m D.d_law_concept.F.kp D.d_law_concept.b .nil pass0 (pa_cons (pv 0) (pa_cons (pv 1) (pa_cons (pv 2) (pa_cons (pe_op op_sub (pv 3) pe_int) pa_nil))))))) pa_nil)) ))))))), ?_⟩
    refine ⟨_, rfl, d, a, 8, rfl, (by decide), hd, fun H1 r b1 hd1 r0 r8 => ?_⟩
    have A1 := A0.but b1
    have HX := A1
    have HD := hd1
    have HB := b1
    refine ⟨_, rfl, rfl, _, rfl, ?_⟩
    refine ite2 (fun _ => iteT ?_) (fun cm => ?_)
    · skip
      refine ⟨_, rfl, _, rfl, _, rfl, tn, tn, _, _, rfl, rfl, HX.hn, HX.hn, (by rw [List.length_map]; have := A0.l3; exact Nat.le_of_lt (small1000 (by omega))), fun p1 hp1 => ?_⟩
      have k1 := same_new hp1 (.lst (N.map V.str ++ N.map V.str))
      refine ⟨(by show 1 ≤ sizeLine; decide), fun p2 hp2 => ?_⟩
      have k2 := same_new hp2 (.lst [V.str "all"])
      refine ⟨p1, p2, _, _, rfl, rfl, k2 _ _ upd_same, upd_same, (by rw [List.length_append, List.length_map]; have := A0.l3; exact Nat.le_of_lt (small1000 (by show N.length + N.length + 1 ≤ 1000; omega))), fun p3 hp3 => ?_⟩
      have k3 := same_new hp3 (.lst ((N.map V.str ++ N.map V.str) ++ [V.str "all"]))
      have kk := (k1.trans k2).trans k3
      refine ⟨d, a, p3, _, rfl, HD.same kk, upd_same, ((HD.same (k1.trans k2)).new hp3).1, (by rw [List.length_append]; show 0 < _ + 1; omega), fun H5 x hx b5 hd5 => ?_⟩
      obtain ⟨sw, rfl, hsw⟩ : ∃ sw : Str, x = .str sw ∧ (sw = "all" ∨ wordOk sw = true) := by
        simp only [List.mem_append, List.mem_map, List.mem_cons, List.not_mem_nil, or_false] at hx
        rcases hx with (⟨y, hy, rfl⟩ | ⟨y, hy, rfl⟩) | rfl
        · exact ⟨y, rfl, .inr (A0.okN y hy)⟩
        · exact ⟨y, rfl, .inr (A0.okN y hy)⟩
        · exact ⟨_, rfl, .inl rfl⟩
      exact q H5 (.str sw) (.atom sw) (by rw [TAt]; exact ⟨rfl, Nat.le_trans (word_le hsw) (by decide)⟩) (drawn_atom hsw m) ((HB.trans (But.of kk)).trans b5) hd5
    have cm' : m ≠ 0 := fun z => by subst z; exact cm (decide_eq_true rfl)
    refine ⟨_, rfl, _, _, rfl, rfl, _, rfl, ite2 (fun _ => ?_) (fun _ => ?_)⟩
    · skip
      refine ⟨_, rfl, _, rfl, _, rfl, tn, tn, _, _, rfl, rfl, HX.hn, HX.hn, (by rw [List.length_map]; have := A0.l3; exact Nat.le_of_lt (small1000 (by omega))), fun p1 hp1 => ?_⟩
      have k1 := same_new hp1 (.lst (N.map V.str ++ N.map V.str))
      refine ⟨(by show 1 ≤ sizeLine; decide), fun p2 hp2 => ?_⟩
      have k2 := same_new hp2 (.lst [V.str "all"])
      refine ⟨p1, p2, _, _, rfl, rfl, k2 _ _ upd_same, upd_same, (by rw [List.length_append, List.length_map]; have := A0.l3; exact Nat.le_of_lt (small1000 (by show N.length + N.length + 1 ≤ 1000; omega))), fun p3 hp3 => ?_⟩
      have k3 := same_new hp3 (.lst ((N.map V.str ++ N.map V.str) ++ [V.str "all"]))
      have kk := (k1.trans k2).trans k3
      refine ⟨d, a, p3, _, rfl, HD.same kk, upd_same, ((HD.same (k1.trans k2)).new hp3).1, (by rw [List.length_append]; show 0 < _ + 1; omega), fun H5 x hx b5 hd5 => ?_⟩
      obtain ⟨sw, rfl, hsw⟩ : ∃ sw : Str, x = .str sw ∧ (sw = "all" ∨ wordOk sw = true) := by
        simp only [List.mem_append, List.mem_map, List.mem_cons, List.not_mem_nil, or_false] at hx
        rcases hx with (⟨y, hy, rfl⟩ | ⟨y, hy, rfl⟩) | rfl
        · exact ⟨y, rfl, .inr (A0.okN y hy)⟩
        · exact ⟨y, rfl, .inr (A0.okN y hy)⟩
        · exact ⟨_, rfl, .inl rfl⟩
      exact q H5 (.str sw) (.atom sw) (by rw [TAt]; exact ⟨rfl, Nat.le_trans (word_le hsw) (by decide)⟩) (drawn_atom hsw m) ((HB.trans (But.of kk)).trans b5) hd5
    obtain ⟨m, rfl⟩ : ∃ k, m = k + 1 := ⟨m - 1, by omega⟩
    have em : (((m + 1 : Nat) : Nat) : Int) - 1 = ((m : Nat) : Int) := by omega
    have emv : ∀ x y z : L2.V, [x, y, z, L2.V.int ((((m + 1 : Nat) : Nat) : Int) - 1)] = [x, y, z, L2.V.int ((m : Nat) : Int)] := fun x y z => by rw [em]
    cases n with
    | zero => omega
    | succ n =>
    refine ⟨_, rfl, _, _, rfl, rfl, _, rfl, ite2 (fun _ => ?_) (fun _ => ?_)⟩
    · refine ⟨_, rfl, _, rfl, d, a, tr, _, rfl, hd1, A1.hr, A1.rd, (by rw [List.length_map, A1.l2]; decide), fun H3 x hx b3 hd3 => ?_⟩
      obtain ⟨y, hy, rfl⟩ := List.mem_map.mp hx
      have okr := A0.okR y hy
      refine ⟨_, rfl, _, rfl, _, rfl, _, rfl, _, _, rfl, rfl, d, a, tn, tr, N, R, m, emv _ _ _, by omega, hd3, A1.but b3, fun H4 v t h1 h2 b4 hd4 => ⟨(by show 3 ≤ sizeLine; decide), fun p2 hp2 => ?_⟩⟩
      have g2 := same_new hp2 (.tup [.str "some", .str y, v])
      refine q _ (.ref p2) (.ex y t) ?_ (drawn_ex okr h2) (((b1.trans b3).trans b4).trans (But.of g2)) (hd4.same g2)
      rw [TAt]
      exact ⟨p2, v, rfl, upd_same, h1.same g2, Nat.le_trans (word_le (.inr okr)) (by decide)⟩
    · refine ⟨_, rfl, d, a, 4, rfl, (by decide), hd1, fun H2 r2 b2 hd2 r20 r24 => ⟨rfl, .inr ⟨_, rfl, _, _, rfl, rfl, ?_⟩⟩⟩
      obtain ⟨many, hmany, h23⟩ : ∃ k : Nat, (2 : Int) + (if decide (V.int r2 = V.int 0) = true then 1 else 0) = (k : Int) ∧ (k = 2 ∨ k = 3) := by
        by_cases c : decide (V.int r2 = V.int 0) = true
        · exact ⟨3, by rw [if_pos c]; rfl, .inr rfl⟩
        · exact ⟨2, by rw [if_neg c]; rfl, .inl rfl⟩
      have A2 := A1.but b2
      refine ⟨(by show 1 ≤ sizeLine; decide), fun t1 ht1 => ⟨_, rfl, ((many : Nat) : Int), congrArg (fun z => [V.int z]) hmany, (by show -(2 ^ 62) ≤ ((many : Nat) : Int); omega), (by show ((many : Nat) : Int) < 2 ^ 62; omega), fun D0 hD => ?_⟩⟩
      have g1 := same_new ht1 (.tup [.str "and"])
      have hdt := hd2.same g1
      obtain ⟨nDd, nDa⟩ := hdt.new hD
      have t1D : t1 ≠ D0 := ne_of_none upd_same hD
      have At := A2.same g1
      have nDn : tn ≠ D0 := ne_of_none At.hn hD
      have nDr : tr ≠ D0 := ne_of_none At.hr hD
      refine lc_range (lo := 0) (n := (((many : Nat) : Int)).toNat) (fun i H4 => But [D0, d] (upd H2 t1 (.tup [.str "and"])) H4 ∧ DrawAt H4 d a ∧ ∃ ts ws, H4 D0 = some (.lst ws) ∧ Paired (TAt H4) ts ws ∧ ts.length = i ∧ ∀ t ∈ ts, Drawn m t)
        ⟨But.of (same_new hD _), hdt.same (same_new hD _), [], [], upd_same, .nil, rfl, fun t ht => nomatch ht⟩ ?_ ?_
      · rintro i H4 hi ⟨b4, hd4, ts, ws, h4, pt4, li, dr⟩
        have i3 : i < 3 := by rw [Int.toNat_natCast] at hi; omega
        have A4 : Alph H4 d tn tr N R := { At with hn := b4 _ _ (by simp only [List.mem_cons, List.not_mem_nil, or_false]; rintro (z | z); exact nDn z; exact At.nd z) At.hn, hr := b4 _ _ (by simp only [List.mem_cons, List.not_mem_nil, or_false]; rintro (z | z); exact nDr z; exact At.rd z) At.hr }
        refine ⟨rfl, _, rfl, _, rfl, _, rfl, _, rfl, _, _, rfl, rfl, d, a, tn, tr, N, R, m, emv _ _ _, by omega, hd4, A4, fun H5 v t h1 h2 b5 hd5 => ?_⟩
        have h5 := b5 _ _ (by simpa using nDd) h4
        have pt5 := pairT_t (b5.t hd4.nt) pt4
        have t6 : TSame H5 (upd H5 D0 (.lst (ws ++ [v]))) := (But.put (D := [D0]) (by simp)).t fun c hc xs z => by rw [List.mem_singleton.mp hc, h5] at z; cases z
        refine ⟨_, h5, by rw [← paired_len pt5]; exact small1000 (by omega), (b4.trans (b5.mono (by simp))).trans (But.put (by simp)), hd5.upd nDd nDa, ts ++ [t], _, upd_same, paired_snoc (h1.t t6) (pairT_t t6 pt5), by rw [List.length_append, li]; rfl, fun t' ht' => ?_⟩
        rcases List.mem_append.mp ht' with z | z
        · exact dr t' z
        · rw [List.mem_singleton.mp z]; exact h2
      · rintro H4 ⟨b4, hd4, ts, ws, h4, pt4, li, dr⟩
        rw [Int.toNat_natCast] at li
        have lws : ws.length = ts.length := (paired_len pt4).symm
        refine ⟨D0, _, rfl, .inl ⟨SqL.of h4, fun t2 ht2 => ?_⟩⟩
        have g2 := same_new ht2 (.tup ws)
        have nt1d : t1 ≠ d := (hd2.new ht1).1
        have h41 : H4 t1 = some (.tup [.str "and"]) := b4 _ _ (by simp only [List.mem_cons, List.not_mem_nil, or_false]; rintro (z | z); exact t1D z; exact nt1d z) upd_same
        refine ⟨t1, t2, _, _, rfl, rfl, SqT.of (g2 _ _ h41), SqT.of upd_same, (by simp), Nat.le_of_lt (small1000 (by show 1 + ws.length ≤ 1000; omega)), (fun z => by rw [z] at lws; simp at lws; omega), fun _ p6 hp6 => ?_⟩
        have g6 := same_new hp6 (.tup ([.str "and"] ++ ws))
        have bD : But [d] (upd H2 t1 (.tup [.str "and"])) H4 := b4.drop hD
        refine q _ (.ref p6) (.and ts) ?_ (drawn_and (by omega) dr) (((((b1.trans b2).trans (But.of g1)).trans bD).trans (But.of g2)).trans (But.of g6)) ((hd4.same g2).same g6)
        rw [TAt]
        exact ⟨p6, ws, rfl, upd_same, TsAt.of (pairT_t ((Same.t g2).trans (Same.t g6)) pt4)⟩
/-! ### _law_none -/
end
end K1
namespace K2
open PySem L2 PySem.W PyProof.Rows
section
variable {X : Cx}
/-! own rules: an order of alike data; walks over a list or a tuple; sorted -/
def rLtD (K : PySem.W.Frag) : R2 := fun x y H Q => ∃ d e, Dp K H x d ∧ Dp K H y e ∧ alike d e = true ∧ d ≠ .none ∧ d.depth ≤ 64 ∧ Q (.bl (dataLt d e)) H
theorem op_ltD (hu : X.A.units + 64 < cLine) : OpR X (compareOp .Lt) (rLtD X.K) := by
  intro pins s σ H x y v u Q I rx ry h
  obtain ⟨d, e, hd, he, al, dn, dd, q⟩ := h
  obtain ⟨as, r1⟩ := Dp.reads I d x v hd rx
  obtain ⟨bs, r2⟩ := Dp.reads I e y u he ry
  exact lt_data r1 r2 al dn (by omega) ⟨.bl _, H, I, rfl, q⟩
/-- a list or a tuple is walked -/
def iSq (K : PySem.W.Frag) (tl : TE) : TI := fun σ H R => iList K tl σ H R ∨ iTup K tl σ H R
theorem pi_sq {tg l : Expr} {tl : TE} (hl : PE X l tl) : PI X tg l (iSq X.K tl) := by
  refine ⟨fun pins s σ H R I h => ?_⟩
  rcases h with h | h
  · exact (pi_list hl).run pins s σ H R I h
  · exact (pi_tup hl).run pins s σ H R I h
/-- sorted(xs), xs a list of alike data of any length: a new list, the same values with their data in order -/
def rSortedD (K : PySem.W.Frag) : List V → Hp → VK → Prop := fun vs H Q => ∃ (a : Addr) (xs : List V) (β : Type) (bs : List β) (enc : β → PyData), vs = [V.ref a] ∧ SqL K H a xs ∧ DpAll K H xs (bs.map enc) ∧ AllAlike (bs.map enc) ∧ Sortable (bs.map enc) ∧ (∀ b ∈ bs, (enc b).depth ≤ 32) ∧
  ∀ ys p, ys.Perm xs → DpAll K H ys ((bs.mergeSort (dataLe false enc)).map enc) → H p = none → Q (.ref p) (upd H p (.lst ys))
theorem dpAll_len {K : PySem.W.Frag} {H : Hp} : ∀ {xs : List V} {ds : List PyData}, DpAll K H xs ds → xs.length = ds.length
  | _, _, .nil => rfl
  | _, _, .cons _ h => by rw [List.length_cons, List.length_cons, dpAll_len h]
theorem dpAll_zip {β : Type} {K : PySem.W.Frag} {H : Hp} {enc : β → PyData} : ∀ {xs : List V} {bs : List β}, DpAll K H xs (bs.map enc) → ∀ b ∈ xs.zip bs, Dp K H b.1 (enc b.2)
  | [], _, _, b, hb => by simp at hb
  | x :: xs, [], _, b, hb => by simp at hb
  | x :: xs, c :: bs, h, b, hb => by
    rw [List.map_cons] at h
    cases h with
    | cons h1 h2 =>
      rw [List.zip_cons_cons] at hb
      rcases List.mem_cons.mp hb with e | e
      · rw [e]; exact h1
      · exact dpAll_zip h2 b e
theorem dpAll_of {β : Type} {K : PySem.W.Frag} {H : Hp} {enc : β → PyData} : ∀ {ps : List (V × β)}, (∀ b ∈ ps, Dp K H b.1 (enc b.2)) → DpAll K H (ps.map Prod.fst) ((ps.map Prod.snd).map enc)
  | [], _ => .nil
  | p :: ps, h => .cons (h p List.mem_cons_self) (dpAll_of fun b hb => h b (List.mem_cons_of_mem _ hb))
theorem each_zip {β : Type} : ∀ {xs : List V} {us : List Value} {bs : List β}, Vals xs us → xs.length = bs.length → EachIs (fun v (b : V × β) => RelV b.1 v) us (xs.zip bs)
  | [], _, bs, r, h => by cases r; cases bs <;> exact .nil
  | x :: xs, _, [], r, h => by simp at h
  | x :: xs, _, b :: bs, r, h => by
    cases r with
    | cons r1 r2 => exact .cons r1 (each_zip r2 (by simpa using h))
theorem each_vals {β : Type} : ∀ {us : List Value} {ps : List (V × β)}, EachIs (fun v (b : V × β) => RelV b.1 v) us ps → Vals (ps.map Prod.fst) us
  | _, _, .nil => .nil
  | _, _, .cons h1 h2 => .cons h1 (each_vals h2)
theorem each_reads {β : Type} {pins : List (Addr × Obj)} {σ : L2.St} {H : Hp} {s : Shared} {enc : β → PyData} (I : Inv X pins σ H s) : ∀ {us : List Value} {ps : List (V × β)}, EachIs (fun v (b : V × β) => RelV b.1 v) us ps → (∀ b ∈ ps, Dp X.K H b.1 (enc b.2)) → EachIs (fun v (b : V × β) => ∃ as, Reads s.heap v (enc b.2) as) us ps
  | _, _, .nil, _ => .nil
  | _, _, .cons h1 h2, hd => .cons (Dp.reads I _ _ _ (hd _ List.mem_cons_self) h1) (each_reads I h2 fun b hb => hd b (List.mem_cons_of_mem _ hb))
theorem zip_snd {α β : Type} : ∀ {xs : List α} {bs : List β}, xs.length = bs.length → (xs.zip bs).map Prod.snd = bs
  | [], [], _ => rfl
  | [], _ :: _, h => by simp at h
  | _ :: _, [], h => by simp at h
  | x :: xs, b :: bs, h => by rw [List.zip_cons_cons, List.map_cons, zip_snd (by simpa using h)]
theorem zip_fst {α β : Type} : ∀ {xs : List α} {bs : List β}, xs.length = bs.length → (xs.zip bs).map Prod.fst = xs
  | [], [], _ => rfl
  | [], _ :: _, h => by simp at h
  | _ :: _, [], h => by simp at h
  | x :: xs, b :: bs, h => by rw [List.zip_cons_cons, List.map_cons, zip_fst (by simpa using h)]
theorem cr_sortedD (hu : X.A.units + 64 < cLine) : CallR X (.builtin "sorted") (rSortedD X.K) := by
  intro pins s σ H vs us Q I r h
  obtain ⟨a, xs, β, bs, enc, rfl, hs, hd, al, so, dep, q⟩ := h
  obtain ⟨its, rv, hl, hz⟩ := I.list hs
  obtain ⟨u, rfl, ru⟩ := vals1 r
  obtain rfl : u = Value.ref a := ru
  have hlen : xs.length = bs.length := by rw [dpAll_len hd, List.length_map]
  have hm : (xs.zip bs).map (fun b => enc b.2) = bs.map enc := by
    have := congrArg (List.map enc) (zip_snd hlen)
    rw [List.map_map] at this
    exact this
  have hdp := dpAll_zip hd
  refine sorted_data (R := fun v (b : V × β) => RelV b.1 v) (enc := fun b : V × β => enc b.2) (bs := xs.zip bs) hl.isList (each_zip rv hlen) (each_reads I (each_zip rv hlen) hdp) (by rw [hm]; exact al) (by rw [hm]; exact so) ?_ ?_ ?_
  · rw [List.length_zip]; omega
  · intro b hb
    have := dep b.2 (List.of_mem_zip hb).2
    show X.A.units + 2 + (enc b.2).depth < cLine
    omega
  · intro out _ ho
    obtain ⟨n, hn⟩ := sortedAll_at s.heap its out.toArray
    generalize hp : (xs.zip bs).mergeSort (dataLe false fun b : V × β => enc b.2) = ps at ho
    have pm : ps.Perm (xs.zip bs) := by rw [← hp]; exact List.mergeSort_perm _ _
    have pm1 : (ps.map Prod.fst).Perm xs := by
      have := pm.map Prod.fst
      rwa [zip_fst hlen] at this
    have e2 : ps.map Prod.snd = bs.mergeSort (dataLe false enc) := by
      rw [← hp]; exact (List.map_mergeSort (r := dataLe false fun b : V × β => enc b.2) (s := dataLe false enc) (f := Prod.snd) (l := xs.zip bs) (fun _ _ _ _ => rfl)).trans (by rw [zip_snd hlen])
    have d2 := dpAll_of (enc := enc) (ps := ps) fun b hb => hdp b (pm.mem_iff.mp hb)
    rw [e2] at d2
    have hd : s.heap.objs.size ≤ s.heap.objs.size + 1 := Nat.le_succ _
    refine ⟨.ref (s.heap.objs.size + 1), upd H (s.heap.objs.size + 1) (.lst (ps.map Prod.fst)), I.laid (t' := s.toks) (fun b o e => sortedAll_old e) hd ⟨?_, out, n, each_vals ho, hn⟩, rfl, q _ _ pm1 d2 (I.hok.fresh hd)⟩
    rw [pm1.length_eq]
    exact hz
end
end K2
namespace K2
open PySem L2 PySem.W PyProof.Rows
section
variable {X : Cx} {CX : CXT} {k : Nat} {f C : Addr} {fd : FuncData} {ps : List Str} {sp : Sp} {E : XK}
/-- a def called one call deeper -/
theorem run_in1 {pins : List (Addr × Obj)} {σ : L2.St} {H : Hp} {s : Shared} {Q : VK} {us : List Value} {vs : List V} (F : FnOk X.prog X.w X.K X.mg X.base CX k f fd ps sp) (hr : Room (k + 1) X.A) (hb : Binds X.K fd ps []) (hx : Passes CX X E)
    (I : Inv X pins σ H s) (r : Vals vs us) (h : sp vs H Q E) : wpAny (model X.prog X.w) X.A.in1 (call (.ref f) us) (EP X pins σ Q) X.xe s := by
  have hl : us.length = ps.length := by rw [← r.length]; exact F.len _ _ _ _ h
  have hb' := hb s us I.kIn (by simpa using hl)
  rw [List.append_nil] at hb'
  refine wpAny_call (codeAny_mono (F.run X.A.in1 X.stack s H ⟨us, []⟩ us vs Q E hr.in1 I.env0.in1 hb' r h) fun r s' hq => ?_)
  cases r with
  | error e => exact hx pins σ H s e s' I hq
  | ok fl =>
    cases fl with
    | ret u => exact I.after hq
    | next => exact False.elim hq
    | brk => exact False.elim hq
    | cont => exact False.elim hq
theorem run_0 {pins : List (Addr × Obj)} {σ : L2.St} {H : Hp} {s : Shared} {Q : VK} {us : List Value} {vs : List V} (F : FnOk X.prog X.w X.K X.mg X.base CX k f fd ps sp) (hr : Room k X.A) (hb : Binds X.K fd ps []) (hx : Passes CX X E)
    (I : Inv X pins σ H s) (r : Vals vs us) (h : sp vs H Q E) : wpAny (model X.prog X.w) X.A (call (.ref f) us) (EP X pins σ Q) X.xe s := by
  have h' : sp (vs ++ []) H Q E := by rw [List.append_nil]; exact h
  exact run_fn F hr hb .nil hx I r h'
/-- a == b by the class's own def -/
def rEqO (C : Addr) (sp : Sp) (E : XK) : R2 := fun x y H Q => ∃ a b dx dy fs gs, x = .ref a ∧ y = .ref b ∧ H a = some (.ins C dx fs) ∧ H b = some (.ins C dy gs) ∧ sp [.ref a, .ref b] H (fun v H' => ∃ r, v = .bl r ∧ Q (.bl r) H') E
theorem op_eqO (F : FnOk X.prog X.w X.K X.mg X.base CX k f fd ps sp) (hr : Room k X.A) (hb : Binds X.K fd ps []) (hx : Passes CX X E)
    (hs : findIn X.K (.ref C) "__eq__" = some (some (.ref f))) (hf : isFn X.K (.ref f) = true) : OpR X (compareOp .Eq) (rEqO C sp E) := by
  intro pins s σ H x y v u Q I rx ry d
  obtain ⟨a, b, dx, dy, fs, gs, rfl, rfl, ha, hb', hr'⟩ := d
  cases rx
  cases ry
  obtain ⟨mA, J, _⟩ := ins_get I.hok ha
  obtain ⟨mB, J', _⟩ := ins_get I.hok hb'
  obtain ⟨od, J, _⟩ := J.look
  obtain ⟨od', J', _⟩ := J'.look
  obtain ⟨m, hF⟩ := I.fr
  refine cmp_ofEq (cmp_K (op := .Eq) (tb := .ref C) hr.units0 hF I.ok.mod.kin J J'.type (by simp [notFirst]) hs hf ?_)
  refine wpAny_mono (run_0 F hr hb hx I (vs := [.ref a, .ref b]) (.cons rfl (.cons rfl .nil)) hr') (fun v s' ⟨z, H', I', rz, r, ez, q⟩ => ?_) fun _ _ e => e
  subst ez
  cases rz
  exact ⟨.bl r, H', I', rfl, q⟩
/-- len(a) by the class's own def -/
def rLenO (C : Addr) (sp : Sp) (E : XK) : List V → Hp → VK → Prop := fun vs H Q => ∃ a dx fs, vs = [.ref a] ∧ H a = some (.ins C dx fs) ∧ sp [.ref a] H (fun v H' => ∃ n : Int, v = .int n ∧ 0 ≤ n ∧ n < 2 ^ 63 ∧ Q (.int n) H') E
theorem call_lenO (F : FnOk X.prog X.w X.K X.mg X.base CX k f fd ps sp) (hr : Room (k + 1) X.A) (hb : Binds X.K fd ps []) (hx : Passes CX X E)
    (hs : findIn X.K (.ref C) "__len__" = some (some (.ref f))) (hf : isFn X.K (.ref f) = true) : CallR X (.builtin "len") (rLenO C sp E) := by
  intro pins s σ H vs us Q I r d
  obtain ⟨a, dx, fs, rfl, ha, h⟩ := d
  obtain ⟨u, rfl, ru⟩ := vals1 r
  obtain rfl : u = Value.ref a := ru
  obtain ⟨mA, J, _⟩ := ins_get I.hok ha
  obtain ⟨od, J, _⟩ := J.look
  obtain ⟨m, hF⟩ := I.fr
  refine len_K hF I.ok.mod.kin J hs hf ?_
  refine wpAny_mono (run_in1 F hr hb hx I (vs := [.ref a]) (.cons rfl .nil) h) (fun v s' ⟨z, H', I', rz, n, ez, h0, h1, q⟩ => ?_) fun _ _ e => e
  subst ez
  obtain ⟨t, rfl⟩ := rz
  exact ⟨⟨h0, h1⟩, .int n, H', I'.tok _, ⟨_, rfl⟩, q⟩
/-- v in a, by the class's own def -/
def rInO (C : Addr) (sp : Sp) (E : XK) : R2 := fun x y H Q => ∃ a dx fs, y = .ref a ∧ H a = some (.ins C dx fs) ∧ sp [.ref a, x] H (fun v H' => ∃ r, v = .bl r ∧ Q (.bl r) H') E
theorem op_inO (F : FnOk X.prog X.w X.K X.mg X.base CX k f fd ps sp) (hr : Room k X.A) (hb : Binds X.K fd ps []) (hx : Passes CX X E)
    (hs : findIn X.K (.ref C) "__contains__" = some (some (.ref f))) (hf : isFn X.K (.ref f) = true) : OpR X (compareOp .In) (rInO C sp E) := by
  intro pins s σ H x y v u Q I rx ry d
  obtain ⟨a, dx, fs, rfl, ha, h⟩ := d
  cases ry
  obtain ⟨mA, J, _⟩ := ins_get I.hok ha
  obtain ⟨od, J, _⟩ := J.look
  obtain ⟨m, hF⟩ := I.fr
  refine in_K hF I.ok.mod.kin J hs hf ?_
  refine wpAny_mono (run_0 F hr hb hx I (vs := [.ref a, x]) (.cons rfl (.cons rx .nil)) h) (fun v s' ⟨z, H', I', rz, r, ez, q⟩ => ?_) fun _ _ e => e
  subst ez
  cases rz
  exact wpAny_truthy_bool ⟨.bl r, H', I', rfl, q⟩
end
end K2
namespace K2
open PySem L2 PySem.W PyProof.Rows Builtin
theorem slot_ne : PySem.Slot "object" "__ne__" "object.__ne__" := PySem.F.cmp_object.ne
section
variable {M : Model} {prog : Program} {w : World} {A : Around} {E : Value → Shared → Prop} {s : Shared} {K : Frag} {x C f : Addr} {ox : Obj} {od : Option Obj}
theorem ifBound_ne {args : List Value} {Q : Option Value → Shared → Prop} (X : K.In s.heap) (I : PySem.W.InstAt s.heap x ox C od) (hs : findIn K (.ref C) "__ne__" = some (some (.builtin "object.__ne__")))
    (h : wpAny M A (call (.builtin "object.__ne__") (.ref x :: args)) (fun v => Q (some v)) E s) : wpAny M A (callSpecialIfBound? (.ref x) "__ne__" args) Q E s := by
  simp only [callSpecialIfBound?, bindSpecialIfBound?]
  refine wpAny_holding (wpAny_bind (wpAny_bind (wpAny_bind (I.type.here ((looks_findIn X hs).here ?_)))))
  refine wpAny_bind (wpAny_askSetting (wpAny_ite ?_))
  have fin : wpAny M A (call (.builtin "object.__ne__") ([.ref x] ++ args) >>= fun v => pure (some v)) Q E s := wpAny_bind (wpAny_mono h (fun v s' h' => wpAny_pure h') fun _ _ h' => h')
  rw [slot_ne.bind]
  split
  · exact wpAny_bind (wpAny_pure (wpAny_pure (by exact fin)))
  · exact wpAny_tryCatch (wpAny_bind (wpAny_pure (wpAny_pure (by exact fin))))
theorem objNe_in {b : Value} {Q : Fin → Shared → Prop} (X : K.In s.heap) (I : PySem.W.InstAt s.heap x ox C od) (hs : findIn K (.ref C) "__eq__" = some (some (.ref f))) (hf : isFn K (.ref f) = true) (hu : A.units < cLine)
    (h : wpAny (model prog w) A (call (.ref f) [.ref x, b]) (fun v s' => ∃ r, v = .bool r ∧ Q (.done (.ret (.bool (!r)))) s') E s) : wpAny (model prog w) A (Builtin.«object.__ne__» ⟨[.ref x, b], []⟩) Q E s := by
  unfold Builtin.«object.__ne__»
  repeat (first
    | with_reducible refine wpAny_cRoomFor hu ?_
    | (refine wpAny_bind (m := callSpecialIfBound? (.ref x) (Str.ofString "__eq__") [b])
        (ifBound_K X I hs hf (wpAny_mono h (fun r s' hr => by
          obtain ⟨b, rfl, hq⟩ := hr
          repeat (first | exact hq | exact wpAny_pure hq | exact wpAny_truthy_bool hq | (refine wpAny_bind (m := truthy (.bool _)) (wpAny_truthy_bool ?_)) | wp_step)) fun _ _ e => e)))
    | wp_step)
theorem ne_own {b : Value} {tb : Value} {Q : Value → Shared → Prop} (X : K.In s.heap) (I : PySem.W.InstAt s.heap x ox C od) (hb : Looks (model prog w) s.heap (typeOf b) (.ref C))
    (hn : findIn K (.ref C) "__ne__" = some (some (.builtin "object.__ne__"))) (ho : mroIn K C (.type "object") = some true) (hs : findIn K (.ref C) "__eq__" = some (some (.ref f))) (hf : isFn K (.ref f) = true) (hu : A.units + 1 < cLine)
    (h : wpAny (model prog w) A.in1 (call (.ref f) [.ref x, b]) (fun v s' => ∃ r, v = .bool r ∧ Q (.bool (!r)) s') E s) : wpAny (model prog w) A (compareOp .NotEq (.ref x) b) Q E s := by
  have one : wpAny (model prog w) A (tryCompare (.ref x) "__ne__" b) (fun r s' => ∃ v, r = some v ∧ Q v s') E s := by
    unfold tryCompare
    have inst : Looks (model prog w) s.heap (isInstance (.ref x) (.type "object")) true := I.type.andThen (looks_mroIn X ho)
    refine wpAny_bind (ifBound_ne X I hn (wpAny_call (codeAny_call_builtin slot_ne.plain PySem.F.cmpEntry_ne (@PySem.W.check_slot (model prog w) _ _ _ "object.__ne__" "object" "__ne__" (.ref x) [b] [] _ (by decide +kernel) (by decide +kernel) inst (PySem.F.cmpArgs_ne _ _)
      (objNe_in (A := A.in1) X I hs hf ?_ (wpAny_mono h (fun v s' hv => ?_) fun _ _ e => e))))))
    · exact hu
    · obtain ⟨r, rfl, hq⟩ := hv
      first | exact ⟨r, rfl, wpAny_pure ⟨_, rfl, hq⟩⟩ | exact ⟨r, rfl, wpAny_pure (wpAny_pure ⟨_, rfl, hq⟩)⟩ | exact ⟨r, rfl, _, rfl, hq⟩
  refine cmp_ofNotEq ?_
  unfold richCompare
  simp only [oneThing_ref]
  refine wpAny_holding (wpAny_bind (wpAny_cRoomFor (by omega) ?_))
  refine wpAny_bind (I.type.here (wpAny_bind (hb.here ?_)))
  rw [show (Value.ref C != Value.ref C) = false from by simp]
  refine wpAny_bind (wpAny_pure ?_)
  simp only [Bool.false_eq_true, if_false]
  refine wpAny_bind (wpAny_mono one (fun r s' z => ?_) fun _ _ e => e)
  obtain ⟨v, rfl, hq⟩ := z
  exact wpAny_pure hq
end
section
variable {X : Cx} {CX : CXT} {k : Nat} {f C : Addr} {fd : FuncData} {ps : List Str} {sp : Sp} {E : XK}
/-- a != b by the class's own == -/
def rNeO (C : Addr) (sp : Sp) (E : XK) : R2 := fun x y H Q => ∃ a b dx dy fs gs, x = .ref a ∧ y = .ref b ∧ H a = some (.ins C dx fs) ∧ H b = some (.ins C dy gs) ∧ sp [.ref a, .ref b] H (fun v H' => ∃ r, v = .bl r ∧ Q (.bl (!r)) H') E
theorem op_neO (F : FnOk X.prog X.w X.K X.mg X.base CX k f fd ps sp) (hr : Room (k + 1) X.A) (hb : Binds X.K fd ps []) (hx : Passes CX X E)
    (hn : findIn X.K (.ref C) "__ne__" = some (some (.builtin "object.__ne__"))) (ho : mroIn X.K C (.type "object") = some true) (hs : findIn X.K (.ref C) "__eq__" = some (some (.ref f))) (hf : isFn X.K (.ref f) = true) : OpR X (compareOp .NotEq) (rNeO C sp E) := by
  intro pins s σ H x y v u Q I rx ry d
  obtain ⟨a, b, dx, dy, fs, gs, rfl, rfl, ha, hb', hr'⟩ := d
  cases rx
  cases ry
  obtain ⟨mA, J, _⟩ := ins_get I.hok ha
  obtain ⟨mB, J', _⟩ := ins_get I.hok hb'
  obtain ⟨od, J, _⟩ := J.look
  obtain ⟨od', J', _⟩ := J'.look
  have hu : X.A.units + 1 < cLine := hr.in1.units0
  refine ne_own (tb := .ref C) I.kIn J J'.type hn ho hs hf hu ?_
  refine wpAny_mono (run_in1 F hr hb hx I (vs := [.ref a, .ref b]) (.cons rfl (.cons rfl .nil)) hr') (fun v s' ⟨z, H', I', rz, r, ez, q⟩ => ?_) fun _ _ e => e
  subst ez
  cases rz
  exact ⟨r, rfl, .bl (!r), H', I', rfl, q⟩
end
end K2
namespace K2
open PySem L2 PySem.W PyProof.Rows
section
variable {X : Cx} {CX : CXT} {k : Nat} {f C : Addr} {fd : FuncData} {ps : List Str} {sp : Sp} {E : XK} {tg e : Expr} {te : TE}
/-- the heap, its length made longer by places that hold nothing -/
def padTo (h : Heap) (n : Nat) : Heap := ⟨h.objs ++ Array.replicate (n - h.objs.size) ⟨.none, none, .freed, #[]⟩, h.life⟩
theorem pad_size {h : Heap} {n : Nat} (le : h.objs.size ≤ n) : (padTo h n).objs.size = n := by
  simp [padTo]; omega
theorem pad_get {h : Heap} {n : Nat} (a : Addr) : (padTo h n).get? a = h.get? a := by
  unfold Heap.get? padTo
  dsimp only
  by_cases lt : (show Nat from a) < h.objs.size
  · rw [Array.getElem?_append_left lt]
  · rw [Array.getElem?_append_right (Nat.le_of_not_lt lt), Array.getElem?_eq_none (xs := h.objs) (Nat.le_of_not_lt lt), Array.getElem?_replicate]
    by_cases c : a - h.objs.size < n - h.objs.size
    · rw [if_pos c]
    · rw [if_neg c]
theorem pad_frames {h b : Heap} {n : Nat} : ∀ {l : List Env}, h.FunFrames b l → h.FunFrames (padTo b n) l
  | [], x => x
  | e :: l, x => by
    simp only [Heap.FunFrames] at x ⊢
    obtain ⟨x1, ⟨L, o, x2, x3, x4⟩, x5⟩ := x
    exact ⟨x1, ⟨L, o, x2, by rw [pad_get]; exact x3, x4⟩, pad_frames x5⟩
theorem pad_mod {K : Frag} {mg : Str → Option Value} {b : Heap} {n : Nat} (m : Mod K mg b) : Mod K mg (padTo b n) := by
  have k : ∀ a o, b.get? a = some o → (padTo b n).get? a = some o := fun a o e => by rw [pad_get]; exact e
  obtain ⟨mb, x, y⟩ := m.blt
  exact ⟨m.kin.keeps k, m.glob.keeps k, ⟨mb, x.keeps k, y⟩, m.nolimit.keeps k⟩
theorem pad_env {P : Program} {w : World} {K : Frag} {mg : Str → Option Value} {b : Heap} {A : Around} {outer : List Env} {s : Shared} {H : Hp} (e : Env0 P w K mg b A outer s H) : Env0 P w K mg (padTo b s.heap.objs.size) A outer s H :=
  ⟨e.frames, pad_mod e.mod, fun a o q => e.bs a o (by rw [pad_get] at q; exact q), Nat.le_of_eq (pad_size e.bsz), pad_frames e.funs, e.frf, e.hok, e.bare⟩
/-- an own instance is walked: its __iter__ hands back a new iterator over a list -/
def iOwn (C : Addr) (K : PySem.W.Frag) (sp : Nat → Sp) (E : XK) (te : TE) : TI := fun σ H R => te σ H fun x H1 => ∃ a dx fs, x = .ref a ∧ H1 a = some (.ins C dx fs) ∧
  ∀ n, sp n [.ref a] H1 (fun v H2 => ∃ it l, v = .ref it ∧ n ≤ it ∧ H2 it = some (ItO l it 0) ∧ R (Itl K l) (ItX.dropH H2 it)) E
theorem pi_own {sp : Nat → Sp} (he : PE X e te) (F : ∀ base : Heap, FnOk X.prog X.w X.K X.mg base CX k f fd ps (sp base.objs.size)) (hr : Room k X.A) (hb : Binds X.K fd ps []) (hx : Passes CX X E)
    (hs : findIn X.K (.ref C) "__iter__" = some (some (.ref f))) (hf : isFn X.K (.ref f) = true) : PI X tg e (iOwn C X.K sp E te) := by
  refine ⟨fun pins s σ H R I h => ?_⟩
  refine thn (he.run pins s σ H _ I h) fun u s1 ⟨x, H1, I1, rx, a, dx, fs, ex, ha, q⟩ => ?_
  subst ex
  obtain rfl : u = Value.ref a := rx
  obtain ⟨mA, J, _⟩ := ins_get I1.hok ha
  obtain ⟨od, J, _⟩ := J.look
  obtain ⟨m, hF⟩ := I1.fr
  refine owit_iter hF I1.ok.mod.kin J hs hf ?_
  have r2 : Vals [V.ref a] [Value.ref a] := .cons rfl .nil
  have q := q (padTo X.base s1.heap.objs.size).objs.size
  have F := F (padTo X.base s1.heap.objs.size)
  rw [pad_size (Nat.le_trans I1.ok.bsz I1.sz)] at q F
  have hl : [Value.ref a].length = ps.length := by rw [← r2.length]; exact F.len _ _ _ _ q
  have hb' := hb s1 [.ref a] I1.kIn (by simpa using hl)
  rw [List.append_nil] at hb'
  refine wpAny_call (codeAny_mono (F.run X.A X.stack s1 H1 ⟨[.ref a], []⟩ [.ref a] [.ref a] _ E hr (pad_env I1.env0) hb' r2 q) fun r s' hq => ?_)
  cases r with
  | error e => exact hx pins σ H1 s1 e s' I1 hq
  | ok fl =>
    cases fl with
    | ret u =>
      obtain ⟨v, H2, o1, o2, un, o4, o5, it, l, ev, hn, hi, qq⟩ := hq
      have ce : CE X.stack X.prog X.w H1 s1 (fun x h => x = v ∧ h = H2) u s' := ⟨v, H2, o1, o2, un, o4, o5, rfl, rfl⟩
      obtain ⟨v', H2', I2, rv, e1, e2⟩ := I1.after ce
      subst e1
      subst e2
      subst ev
      obtain rfl : u = Value.ref it := rv
      have eo := itO_get I2 hi
      have hy : X.s_0.heap.objs.size ≤ it := Nat.le_trans I1.sz hn
      have hi' := hi
      unfold ItO at hi'
      have st : s'.heap.IsListIter it l 0 := ⟨_, eo, rfl, rfl⟩
      show OwitIt _ _ _ _ _ _
      unfold OwitIt
      refine wpAny_specialOf (T := "list_iterator") ⟨_, eo, rfl⟩ slot_listiter_next.lookup ?_
      refine ⟨it, [it], _, _, ItX.dropH H2' it, rfl, ItX.inv_drop I2 hi', turn_list l it, st, fun b hb => ?_, qq⟩
      have e : b = it := by simpa using hb
      rw [e]
      exact ItX.inv_fp I2 hi hy
    | next => exact False.elim hq
    | brk => exact False.elim hq
    | cont => exact False.elim hq
/-- iter(xs): the iterator is younger than what was laid ahead of the law's own run -/
def rIterB (K : PySem.W.Frag) (n : Nat) : List V → Hp → VK → Prop := fun xs H Q => ∃ (l : Addr) (zs : List V), xs = [.ref l] ∧ SqL K H l zs ∧ ∀ it, H it = none → n ≤ it → Q (.ref it) (upd H it (ItO l it 0))
theorem call_iterB : CallR X (.builtin "iter") (rIterB X.K X.base.objs.size) := by
  intro pins s σ H xs us Q I r h
  obtain ⟨l, zs, rfl, hq, q⟩ := h
  exact ItX.call_iterN pins s σ H _ us Q I r ⟨l, zs, rfl, hq, fun it h1 h2 => q it h1 (Nat.le_trans I.ok.bsz h2)⟩
end
end K2
namespace K2
open PySem L2 PySem.W PyProof.Rows
/-! {k: True for k in ks}, the keys tuples of ints and texts -/
def keysT (ks : List (List L2.Key)) : List (List L2.Key × V) := ks.foldl (fun acc k => putK acc k (.bl true)) []
theorem keysT_snoc (ks : List (List L2.Key)) (k : List L2.Key) : keysT (ks ++ [k]) = putK (keysT ks) k (.bl true) := by
  unfold keysT; rw [List.foldl_append]; rfl
def entsT (ps : List (List L2.Key × Addr)) : List (List L2.Key × Addr × Value) := ps.foldl (fun acc p => storedH acc p.1 p.2 (.bool true)) []
theorem entsT_snoc (ps : List (List L2.Key × Addr)) (p : List L2.Key × Addr) : entsT (ps ++ [p]) = storedH (entsT ps) p.1 p.2 (.bool true) := by
  unfold entsT; rw [List.foldl_append]; rfl
theorem snoc_ind {α : Type} {P : List α → Prop} (h0 : P []) (h1 : ∀ l x, P l → P (l ++ [x])) (l : List α) : P l := by
  rw [← List.reverse_reverse l]
  induction l.reverse with
  | nil => exact h0
  | cons x r ih => rw [List.reverse_cons]; exact h1 _ _ ih
theorem ents_len (ps : List (List L2.Key × Addr)) : (entsT ps).length ≤ ps.length := by
  refine snoc_ind (P := fun ps => (entsT ps).length ≤ ps.length) (Nat.le_refl _) (fun l x h => ?_) ps
  rw [entsT_snoc, List.length_append]
  exact Nat.le_trans (storedH_length _ _ _ _) (Nat.succ_le_succ h)
theorem keys_len (ks : List (List L2.Key)) : (keysT ks).length ≤ ks.length := by
  refine snoc_ind (P := fun ks => (keysT ks).length ≤ ks.length) (Nat.le_refl _) (fun l x h => ?_) ks
  rw [keysT_snoc, List.length_append]
  exact Nat.le_trans (length_putK _ _ _) (Nat.succ_le_succ h)
theorem keys_kt {H : Hp} (ps : List (List L2.Key × Addr)) (h : ∀ p ∈ ps, H p.2 = some (.tup (p.1.map kV))) : L2.KT H (keysT (ps.map Prod.fst)) (entsT ps) := by
  revert h
  refine snoc_ind (P := fun ps => (∀ p ∈ ps, H p.2 = some (.tup (p.1.map kV))) → L2.KT H (keysT (ps.map Prod.fst)) (entsT ps)) (fun _ => .nil) (fun l x ih h => ?_) ps
  rw [List.map_append, entsT_snoc]
  show L2.KT H (keysT (l.map Prod.fst ++ [x.1])) _
  rw [keysT_snoc]
  exact (ih fun p hp => h p (List.mem_append_left _ hp)).put x.1 (h x (by simp)) rfl
theorem ents_is {P : Program} {w : World} {H : Hp} {h : Heap} (ok : HOk P w H h) : ∀ {kvs : List (List L2.Key × V)} {xs : List (List L2.Key × Addr × Value)}, L2.KT H kvs xs → ∀ x ∈ xs, (tupleKind (mixKind P w)).is h x.1 x.2.1
  | _, _, .nil, x, hx => nomatch hx
  | _, _, .cons hq t, x, hx => by
    rcases List.mem_cons.mp hx with e | hx
    · subst e
      exact key_of ok (by rw [← hq.1]; exact hq.2.1)
    · exact ents_is ok t x hx
/-- the dict's cell holds the entries -/
def CellT (P : Program) (w : World) (h : Heap) (D : Addr) (xs : List (List L2.Key × Addr × Value)) : Prop :=
  ∃ o es ep, h.get? D = some o ∧ o.ExactDict ∧ o.data = .dict es ep ∧ es.toList = xs.map (entryOfKey (tupleKind (mixKind P w))) ∧ (xs.map (·.1)).Nodup
theorem CellT.to {P : Program} {w : World} {H : Hp} {h : Heap} {D : Addr} {kvs : List (List L2.Key × V)} {xs : List (List L2.Key × Addr × Value)} (c : CellT P w h D xs) (ok : HOk P w H h) (r : L2.KT H kvs xs) : h.DictOfH (tupleKind (mixKind P w)) D xs := by
  obtain ⟨o, es, ep, h1, h2, h3, h4, h5⟩ := c
  exact ⟨o, es, ep, h1, h2, h3, h4, ents_is ok r, h5⟩
theorem CellT.of {P : Program} {w : World} {h : Heap} {D : Addr} {xs : List (List L2.Key × Addr × Value)} (c : h.DictOfH (tupleKind (mixKind P w)) D xs) : CellT P w h D xs := by
  obtain ⟨o, es, ep, h1, h2, h3, h4, _, h5⟩ := c
  exact ⟨o, es, ep, h1, h2, h3, h4, h5⟩
theorem CellT.keep {P : Program} {w : World} {h h' : Heap} {D : Addr} {xs : List (List L2.Key × Addr × Value)} (c : CellT P w h D xs) (k : ∀ o, h.get? D = some o → h'.get? D = some o) : CellT P w h' D xs := by
  obtain ⟨o, es, ep, h1, r⟩ := c
  exact ⟨o, es, ep, k _ h1, r⟩
section
variable {X : Cx} {pins : List (Addr × Obj)} {σ : L2.St} {H1 : Hp} {s1 : Shared} {Q : VK} {scope : Scope} {x : Str} {pa pe pc pos : Pos} {u : Nat}
theorem dcT_core {s2 : Shared} {I : Addr} {fp : List Addr} {Y : Nat → Value → Heap → Prop} {St : Nat → Heap → Prop} {ps : List (List L2.Key × Addr)} (hu : X.A.units < cLine)
    (hlx : scope.names.lookup x = some .local) (hkind : scope.kind = .function) (hdeb : (x == ("__debug__" : Str)) = false)
    (hp : ∀ p ∈ ps, H1 p.2 = some (.tup (p.1.map kV))) (hz : ps.length ≤ sizeLine)
    (W : Goes X.prog X.w X.A (.Name x pa) I fp [I] ps.length Y St) (hY : ∀ i v h, Y i v h → ∃ p, ps[i]? = some p ∧ v = .ref p.2) (st : St 0 s2.heap) (hfp : ∀ b ∈ fp, b < s2.heap.objs.size) (hI : s1.heap.objs.size ≤ I) (hI2 : I < s2.heap.objs.size)
    (stK : ∀ i h h', St i h → (∀ b ∈ fp, ∀ o, h.get? b = some o → h'.get? b = some o) → St i h') (old : ∀ b o, s1.heap.get? b = some o → s2.heap.get? b = some o) (I1 : Inv X pins σ H1 s1)
    (eq2 : ∃ h tk, s2 = { s1 with heap := h, toks := tk })
    (q : ∀ D, H1 D = none → Q (.ref D) (upd H1 D (.dT (keysT (ps.map Prod.fst))))) :
    DcGoes X.prog X.w X.A X.xe X.env scope [] (.Name x pa) [] (.Name x pe) (.Constant (.bool true) u pc) none (EP X pins σ Q) (.ref I) s2 := by
  obtain ⟨hs2, tk2, rfl⟩ := eq2
  refine ⟨I, fp, [I], ps.length, Y, St, rfl, W, st, fun D C s₃ hB hD => ?_⟩
  obtain ⟨⟨h₃, tk₃, rfl⟩, old3, nD, nC, hDC, hnm⟩ := hB
  dsimp only at old nD nC hD hnm old3 hfp hI2
  have kx : (compEnvC scope [] C X.env).kindOf x = some .local := lookup_relabel_local hlx
  have hpl : ((compEnvC scope [] C X.env).scope.kind == .class || ((compEnvC scope [] C X.env).scope.kind == .module && (compEnvC scope [] C X.env).locals != (compEnvC scope [] C X.env).globals)) = false := by
    show (scope.kind == .class || (scope.kind == .module && _)) = false
    rw [hkind]; rfl
  have dI : (D : Nat) ≠ I := Nat.ne_of_gt (Nat.lt_of_lt_of_le hI2 nD)
  have cI : (C : Nat) ≠ I := Nat.ne_of_gt (Nat.lt_of_lt_of_le hI2 nC)
  have n2 : ∀ b o, s1.heap.get? b = some o → (b : Nat) < hs2.objs.size := fun b o e => Heap.lt_size (old b o e)
  have bI : ∀ b o, s1.heap.get? b = some o → b ≠ I := fun b o e => Nat.ne_of_lt (Nat.lt_of_lt_of_le (Heap.lt_size e) hI)
  have bC : ∀ b o, s1.heap.get? b = some o → b ≠ C := fun b o e => Nat.ne_of_lt (Nat.lt_of_lt_of_le (n2 b o e) nC)
  have bD : ∀ b o, s1.heap.get? b = some o → b ≠ D := fun b o e => Nat.ne_of_lt (Nat.lt_of_lt_of_le (n2 b o e) nD)
  have hs1 : s1.heap.objs.size ≤ D := Nat.le_trans hI (Nat.le_trans (Nat.le_of_lt hI2) nD)
  have kt := fun i => keys_kt (H := H1) (ps.take i) fun p hpp => hp p (List.mem_of_mem_take hpp)
  refine ⟨fun i s₁ => ∃ h' tk m, s₁ = { s1 with heap := h', toks := tk } ∧ h'.Ns C m ∧ CellT X.prog X.w h' D (entsT (ps.take i)) ∧ ∀ b o, s1.heap.get? b = some o → h'.get? b = some o,
    ⟨h₃, tk₃, _, rfl, hnm, ⟨_, #[], 0, hD, ⟨rfl, rfl, rfl⟩, rfl, rfl, List.nodup_nil⟩, fun b o e => old3 b o (old b o e)⟩, ?_, ?_, ?_⟩
  · rintro i s₁ h' tk ⟨h₄, tk₄, m, rfl, n₄, e₄, k₄⟩ hk' _
    have off : ∀ b : Addr, b ≠ I → b ∉ [I] := fun b hb => by simpa using hb
    exact ⟨h', tk, m, rfl, n₄.at' fun o e => hk' _ o (off _ cI) e, e₄.keep fun o e => hk' _ o (off _ dI) e, fun b o e => hk' b o (off _ (bI b o e)) (k₄ b o e)⟩
  · rintro i v s₁ hi hv st ⟨h₄, tk₄, m, rfl, n₄, e₄, k₄⟩
    obtain ⟨p, hpi, rfl⟩ := hY _ _ _ hv
    refine wpAny_assign_Name (wpAny_storeName_local kx n₄ (fun h₅ n₅ s₅ => ?_) hpl)
    refine wpAny_tests_nil ?_
    show wpAny _ _ _ _ _ _
    rw [eval_Name _ _ _ hdeb]
    refine wpAny_bind (wpAny_standAt (wpAny_loadName_local hkind kx n₅ (v := .ref p.2) (if_pos rfl) ?_))
    have offC : ∀ b : Addr, b < hs2.objs.size → b ≠ C := fun b hb => Nat.ne_of_lt (Nat.lt_of_lt_of_le hb nC)
    have k5 : ∀ b o, s1.heap.get? b = some o → h₅.get? b = some o := fun b o e => s₅.extBut b o (bC b o e) (k₄ b o e)
    have ok5 : HOk X.prog X.w H1 h₅ := I1.hok.kept k5
    have c5 := e₄.keep (h' := h₅) fun o e => s₅.extBut _ o hDC e
    have d5 := c5.to ok5 (kt i)
    have mp : p ∈ ps := List.mem_of_getElem? hpi
    refine wpAny_Constant_bool ?_
    refine wpAny_dictSet_heap (hsz := Nat.le_trans (ents_len _) (Nat.le_trans (by rw [List.length_take]; exact Nat.min_le_right _ _) hz)) (show (tupleKind (mixKind X.prog X.w)).room X.A from hu) (key_of ok5 (hp p mp)) d5 fun h₆ d6 s₆ => ?_
    refine ⟨⟨h₆, _, _, rfl, n₅.at' fun o e => s₆.extBut _ o (Ne.symm hDC) e, ?_, fun b o e => s₆.extBut b o (bD b o e) (k5 b o e)⟩, ?_⟩
    · have e : ps.take (i + 1) = ps.take i ++ [p] := by rw [List.take_add_one, hpi]; rfl
      rw [e, entsT_snoc]
      exact .of d6
    · refine stK _ _ _ st fun b hb o e => ?_
      have lt := hfp b hb
      exact s₆.extBut b o (Nat.ne_of_lt (Nat.lt_of_lt_of_le lt nD)) (s₅.extBut b o (offC b lt) e)
  · rintro s₁ ⟨h₄, tk₄, m, rfl, n₄, e₄, k₄⟩
    rw [List.take_length] at e₄
    refine ⟨m, n₄, fun h' hs' => ?_⟩
    have kk : ∀ b o, s1.heap.get? b = some o → h'.get? b = some o := fun b o e => hs'.extBut b o (bC b o e) (k₄ b o e)
    have c := e₄.keep (h' := h') fun o e => hs'.extBut _ o hDC e
    have hn := I1.hok.fresh hs1
    have kt' := keys_kt (H := H1) ps hp
    refine ⟨.ref D, upd H1 D (.dT (keysT (ps.map Prod.fst))), I1.laid (t' := tk₄) kk hs1 ⟨?_, ?_, entsT ps, kt'.keeps fun b ys e => ?_, c⟩, rfl, q D hn⟩
    · exact Nat.le_trans (keys_len _) (by rw [List.length_map]; exact hz)
    · exact beq_eq_false_iff_ne.mpr (Ne.symm (Nat.ne_of_lt (Nat.lt_of_lt_of_le I1.big hs1)))
    · rw [upd_ne (ne_of_none e hn)]; exact e
/-- the walked list or tuple holds keys -/
def KeysAt (H : Hp) (ps : List (List L2.Key × Addr)) (xs : List V) : Prop := xs = ps.map (fun p => V.ref p.2) ∧ ∀ p ∈ ps, H p.2 = some (.tup (p.1.map kV))
def tDcT (K : PySem.W.Frag) (te : TE) : TE := fun σ H Q => te σ H fun y H1 => ∃ a xs ps, y = .ref a ∧ (SqL K H1 a xs ∨ SqT K H1 a xs) ∧ KeysAt H1 ps xs ∧ ∀ D, H1 D = none → Q (.ref D) (upd H1 D (.dT (keysT (ps.map Prod.fst))))
theorem refs_eq {ps : List (List L2.Key × Addr)} {its : List Value} (r : Vals (ps.map fun p => V.ref p.2) its) : its = ps.map fun p => Value.ref p.2 := by
  induction ps generalizing its with
  | nil => cases r; rfl
  | cons p l ih =>
    cases r with
    | cons h t =>
      rw [List.map_cons, ← ih t]
      rw [show _ = Value.ref p.2 from h]
theorem pe_dcT {iter : Expr} {te : TE} {d0 : Str} (hcalm : X.calm = true) (hu : X.A.units < cLine) (he : PE X iter te) (hnames : scope.names = [(d0, .local), (x, .local)]) (hne : (x == d0) = false) (hkind : scope.kind = .function) (hdeb : (x == ("__debug__" : Str)) = false := by decide)
    (hs : ∀ y, foldedSetIterable iter X.env y = pure y := by intro _; rfl) :
    PE X (.DictComp (.Name x pe) (.Constant (.bool true) u pc) [⟨.Name x pa, iter, [], 0⟩] scope pos) (tDcT X.K te) := by
  refine ⟨fun pins s σ H Q I h => ?_⟩
  have allL : ∀ y ∈ scope.names, y.2 = .local := fun y hy => by
    rw [hnames] at hy
    rcases List.mem_cons.mp hy with e | e
    · rw [e]
    · rw [List.mem_singleton.mp e]
  have hlx : scope.names.lookup x = some .local := by rw [hnames]; simp [List.lookup, hne]
  have hcl : closureFor scope X.env = pure [] := by
    have e := closure_ok (scope := scope) (env := X.env) (fun y hy e => by rw [allL y hy] at e; cases e)
    rw [hnames] at e
    exact e
  refine DictComp_goes hcl (fun y hy => by rw [allL y hy]; intro z; cases z) hkind (fun y hy _ => by
    rw [hnames] at hy
    rcases List.mem_cons.mp hy with e | e
    · rw [e, hnames]; simp
    · rw [List.mem_singleton.mp e]; exact hlx) ?_ hs
  refine thn (he.run pins s σ H _ I h) fun v s1 ⟨y, H1, I1, r1, a, xs, ps, ey, hq, ⟨hx, hp⟩, q⟩ => ?_
  subst ey
  subst hx
  obtain rfl : v = Value.ref a := r1
  have hd := I1.ok.hd hcalm
  rcases hq with hq | hq
  · obtain ⟨its, rv, p, hz⟩ := I1.list hq
    have e := refs_eq rv
    subst e
    have hlt : (a : Nat) < s1.heap.objs.size := by obtain ⟨o, ho, _⟩ := p.isList; exact Heap.lt_size ho
    refine wpAny_pyIter_list p.isList ?_
    have W := Goes.list (prog := X.prog) (w := X.w) (target := .Name x pa) hd s1.heap.objs.size a (Nat.ne_of_lt hlt) (ps.map fun p => Value.ref p.2).toArray
    have e : (ps.map fun p => Value.ref p.2).toArray.size = ps.length := by simp
    rw [e] at W
    refine dcT_core (s1 := s1) (W := W) hu hlx hkind hdeb hp (by simpa using hz) (fun i v _ hv => ?_) ⟨⟨_, Heap.get?_push_size _ rfl, rfl, rfl⟩, p.isList.push _⟩ (fun b hb => ?_) (Nat.le_refl _) ?_ (fun i h h' st k => ⟨st.1.at fun o e => k _ (by simp) o e, st.2.at fun o e => k _ (by simp) o e⟩) (fun b o e => Heap.get?_push_of_some _ e) I1 ⟨_, _, rfl⟩ q
    · simp only [List.getElem?_toArray, List.getElem?_map] at hv
      obtain ⟨p, h1, h2⟩ := Option.map_eq_some_iff.mp hv
      exact ⟨p, h1, h2.symm⟩
    · show b < (s1.heap.push _).objs.size
      rw [Heap.size_push]
      rcases List.mem_cons.mp hb with e | e
      · rw [e]; exact Nat.lt_succ_self _
      · rw [List.mem_singleton.mp e]; exact Nat.lt_succ_of_lt hlt
    · show s1.heap.objs.size < (s1.heap.push _).objs.size
      rw [Heap.size_push]; exact Nat.lt_succ_self _
  · obtain ⟨its, rv, p, hz⟩ := I1.tuple hq
    have e := refs_eq rv
    subst e
    have pt : s1.heap.IsTuple a (ps.map fun p => Value.ref p.2).toArray := p
    have hlt : (a : Nat) < s1.heap.objs.size := by obtain ⟨o, ho, _⟩ := pt; exact Heap.lt_size ho
    refine wpAny_pyIter_tuple pt ?_
    have W := Goes.tuple (prog := X.prog) (w := X.w) (target := .Name x pa) hd s1.heap.objs.size a (Nat.ne_of_lt hlt) (ps.map fun p => Value.ref p.2).toArray
    have e : (ps.map fun p => Value.ref p.2).toArray.size = ps.length := by simp
    rw [e] at W
    refine dcT_core (s1 := s1) (W := W) hu hlx hkind hdeb hp (by simpa using hz) (fun i v _ hv => ?_) ⟨⟨_, Heap.get?_push_size _ rfl, rfl, rfl⟩, pt.at fun o e => Heap.get?_push_of_some _ e⟩ (fun b hb => ?_) (Nat.le_refl _) ?_ (fun i h h' st k => ⟨st.1.at fun o e => k _ (by simp) o e, st.2.at fun o e => k _ (by simp) o e⟩) (fun b o e => Heap.get?_push_of_some _ e) I1 ⟨_, _, rfl⟩ q
    · simp only [List.getElem?_toArray, List.getElem?_map] at hv
      obtain ⟨p, h1, h2⟩ := Option.map_eq_some_iff.mp hv
      exact ⟨p, h1, h2.symm⟩
    · show b < (s1.heap.push _).objs.size
      rw [Heap.size_push]
      rcases List.mem_cons.mp hb with e | e
      · rw [e]; exact Nat.lt_succ_self _
      · rw [List.mem_singleton.mp e]; exact Nat.lt_succ_of_lt hlt
    · show s1.heap.objs.size < (s1.heap.push _).objs.size
      rw [Heap.size_push]; exact Nat.lt_succ_self _
end
end K2
namespace K2
open PySem L2 PySem.W PyProof.Rows
/-! enumerate over a tuple, one argument -/
set_option maxHeartbeats 1000000 in
theorem meets_enum1 {v : Value} {o : Obj} {H : Heap → Prop} (B : Begins v o H) :
    Meets (Builtin.«enumerate.__new__» ⟨[.type "enumerate", v], []⟩) (fun _ R s => H s.heap ∧
      R (.ok (.ret (.ref (s.heap.push o).objs.size))) { s with heap := (s.heap.push o).push { cls := .type "enumerate", data := .fields #[.none, .bool false, .ref s.heap.objs.size, rawInt 0, .none, .none] } }) :=
  .of_wp fun prog w A R s h => by
    obtain ⟨hp, g, d, tk, os⟩ := s; obtain ⟨h1, h⟩ := h
    have hsub := sub_enumerate
    have q1 : ∀ {A' : Around} {E : Value → Shared → Prop} {Q : Value → Shared → Prop}, Q (.ref hp.objs.size) ⟨hp.push o, g, d, tk, os⟩ → wpAny (model prog w) A' (pyIter v) Q E ⟨hp, g, d, tk, os⟩ :=
      fun q => B.iter prog w _ _ ⟨hp, g, d, tk, os⟩ _ h1 q
    wp_walk using q1
    refine wpAny_stack_any fun st => wpAny_pure ?_
    split
    · rename_i c _ _ _ _ _
      cases (c == Value.type "enumerate") <;> (wp_walk using q1; exact ⟨_, rfl, h⟩)
    · wp_walk using q1
      exact ⟨_, rfl, h⟩
theorem enum1 {prog : Program} {w : World} {A : Around} {E : Value → Shared → Prop} {s : Shared} {v : Value} {o : Obj} {H : Heap → Prop} {Q : Value → Shared → Prop} (B : Begins v o H) (h1 : H s.heap)
    (h : ∀ h', IsEnum h' (s.heap.objs.size + 1) s.heap.objs.size 0 .none → h'.get? s.heap.objs.size = some o →
      (∀ b o, s.heap.get? b = some o → h'.get? b = some o) → Q (.ref (s.heap.objs.size + 1)) { s with heap := h' }) :
    wpAny (model prog w) A (call (.type "enumerate") [v]) Q E s := by
  refine callType_new F.called_enumerate (by decide) (F.typeCall_enumerate_1 _) (F.newCall_enumerate_1 _) (fun obj => F.args_object_init_2 obj _) F.entry_enumerate_new (meets_enum1 B) ⟨h1, ?_⟩
  have hz : (s.heap.push o).objs.size = s.heap.objs.size + 1 := Heap.size_push ..
  show _ ∧ _
  rw [hz]
  have he := Heap.get?_push_size (s.heap.push o) (o := { cls := .type "enumerate", data := .fields #[.none, .bool false, .ref s.heap.objs.size, rawInt 0, .none, .none] }) rfl
  rw [hz] at he
  exact ⟨⟨_, he, rfl⟩, h _ he (Heap.get?_push_of_some _ (Heap.get?_push_size _ B.free)) fun b o x => Heap.get?_push_of_some _ (Heap.get?_push_of_some _ x)⟩
/-- the tuple at a, each item in a new pair -/
def IteT (K : PySem.W.Frag) (a : Addr) : It :=
  ⟨fun i H => ∃ (xs : List V) (x : V), SqT K H a xs ∧ xs[i]? = some x, fun i H v H' => ∃ T x, v = .ref T ∧ H T = none ∧ H' = upd H T (.tup [.int (i : Nat), x]) ∧ ∀ xs, SqT K H a xs → xs[i]? = some x, fun i H => ∃ xs : List V, SqT K H a xs ∧ xs.length = i⟩
theorem apart3 {h : Heap} {a e it : Addr} {i : Nat} {c : Int} {old : Value} {its : Array Value} (he : IsEnum h e it c old) (hit : h.IsTupleIter it a i) (ha : h.IsTuple a its) : e ≠ a ∧ a ≠ it := by
  obtain ⟨o, ho, hc, _⟩ := ha
  obtain ⟨o2, ho2, hc2, _⟩ := hit
  refine ⟨fun z => ?_, fun z => ?_⟩
  · have he' : h.get? e = _ := he
    rw [z, ho] at he'
    have e := congrArg Obj.cls (Option.some.inj he')
    rw [hc] at e
    have e2 := Value.type.inj e
    exact absurd e2 (by decide)
  · rw [z, ho2] at ho
    have e := congrArg Obj.cls (Option.some.inj ho)
    have e2 : ("tuple_iterator" : String) = "tuple" := Value.type.inj (hc2.symm.trans (e.trans hc))
    exact absurd e2 (by decide)
theorem turn_enumT {P : Program} {w : World} {K : PySem.W.Frag} {elts : List Expr} {kk : Nat} {tpos : Pos} (a e it : Addr) :
    Turn P w K (.Tuple elts kk tpos) (IteT K a) [e, it] e (fun i h => (∃ old, IsEnum h e it ((i : Nat) : Int) old) ∧ h.IsTupleIter it a i ∧ e ≠ it) where
  mem := by simp
  obj := fun i h st b hb => by
    obtain ⟨⟨old, he⟩, ⟨o, ho, hc, hd⟩, _⟩ := st
    rcases List.mem_cons.mp hb with z | z
    · rw [z]; exact ⟨_, he, fun v q => nomatch q⟩
    · rw [List.mem_singleton.mp z]; exact ⟨o, ho, fun v q => by rw [hd] at q; cases q⟩
  keep := fun i h h' st k => let ⟨⟨old, he⟩, hi, hne⟩ := st; ⟨⟨old, k e (by simp) _ he⟩, hi.at fun o q => k it (by simp) o q, hne⟩
  item := by
    intro X hP hw hK hc i pins s σ H E I hf st hg
    subst hP hw hK
    obtain ⟨⟨old, he⟩, hit, hne⟩ := st
    obtain ⟨xs, x, hq, hx⟩ := hg
    obtain ⟨its, rv, p, hz⟩ := I.tuple hq
    obtain ⟨u, hu, ru⟩ := rv.get hx
    have pt : s.heap.IsTuple a its.toArray := p
    obtain ⟨nea, nai⟩ := apart3 he hit pt
    have D := Draws.tuple (prog := X.prog) (w := X.w) (A := X.A.in1) (I.ok.hd hc) it a nai its.toArray
    have hlt : i < its.toArray.size := by
      have := (List.getElem?_eq_some_iff.mp hu).1
      simpa using this
    refine wpAny_pyNext_enum_itemD D he ⟨hit, pt⟩ hlt hne (by simp [hne, nea]) fun y h' tk hy ho st' hT hsz hk => ?_
    have ey : u = y := by
      have h1 : its[i]? = some y := by simpa using hy
      rw [hu] at h1
      exact Option.some.inj h1
    subst ey
    have hel : e < s.heap.objs.size := Heap.lt_size he
    have hil : it < s.heap.objs.size := by obtain ⟨_, q, _⟩ := hit; exact Heap.lt_size q
    refine ⟨_, rfl, wpAny_letOwnedTupleGo_enum (s := { s with heap := h', toks := tk + 1 }) ho fun h'' he' sb => ?_⟩
    have hT2 := (sb.2 _ (Nat.ne_of_gt hel)).trans hT
    have new : ObjOk X.prog X.w (upd H s.heap.objs.size (.tup [.int (i : Nat), x])) h'' s.heap.objs.size (.tup [.int (i : Nat), x]) :=
      ⟨by show 2 ≤ sizeLine; decide, [.int i tk, u], .cons ⟨_, rfl⟩ (.cons ru .nil), ⟨_, hT2, rfl, _, rfl⟩⟩
    have I1 : Inv X pins σ (upd H s.heap.objs.size (.tup [.int (i : Nat), x])) { s with heap := h'', toks := tk + 1 } :=
      I.turnedNew (ch := [e, it]) (fun b ob hb q => (sb.2 b (fun z => hb (by simp [z]))).trans (hk b ob (fun z => hb (by simp [z])) (fun z => hb (by simp [z])) q)) hf (Nat.le_refl _) new
    refine ⟨.ref s.heap.objs.size, _, I1, rfl, ⟨_, x, rfl, I.hok.fresh (Nat.le_refl _), rfl, fun ys hy => by rw [I.tuple_inj hy hq]; exact hx⟩, ⟨⟨u, ?_⟩, st'.1.at fun o q => (sb.2 it (Ne.symm hne)).trans q, hne⟩, fun b hb => ?_⟩
    · have e1 : ((i + 1 : Nat) : Int) = (i : Int) + 1 := by omega
      rw [e1]; exact he'
    · have hb' : b < s.heap.objs.size := by
        rcases List.mem_cons.mp hb with z | z
        · rw [z]; exact hel
        · rw [List.mem_singleton.mp z]; exact hil
      rw [upd_ne (Nat.ne_of_lt hb')]
      exact (hf b hb).1
  done := by
    intro X hP hw hK hc i pins s σ H E I hf st hg
    subst hP hw hK
    obtain ⟨⟨old, he⟩, hit, hne⟩ := st
    obtain ⟨xs, hq, hx⟩ := hg
    obtain ⟨its, rv, p, hz⟩ := I.tuple hq
    have pt : s.heap.IsTuple a its.toArray := p
    obtain ⟨nea, nai⟩ := apart3 he hit pt
    obtain ⟨f0, f1, f2, f3, f4, f5⟩ := hf it (by simp)
    have hl := rv.length
    have D := Draws.tuple (prog := X.prog) (w := X.w) (A := X.A.in1) (I.ok.hd hc) it a nai its.toArray
    have ei : its.toArray.size = i := by simp; omega
    exact wpAny_pyNext_enum_endD D he (by rw [ei]; exact ⟨hit, pt⟩) fun h' eb => ⟨rfl, I.turned (t' := s.toks) (fun b o hb q => eb b o hb q) f0 f1 f3 f4 f5⟩
  self := fun A i s Q E st h => let ⟨⟨_, he⟩, _⟩ := st; wpAny_pyIter_enum he h
/-- a list or a tuple by enumerate -/
def iEnumT (K : PySem.W.Frag) (ta : TA) : TI := fun σ H R => ta σ H fun vs H1 => ∃ a xs, vs = [.ref a] ∧ SqT K H1 a xs ∧ R (IteT K a) H1
theorem pi_enumT {X : Cx} {e : Expr} {ta : TA} {p pos tpos : Pos} {elts : List Expr} {kk : Nat} (hg : Gl X "enumerate") (hm : X.mg "enumerate" = none) (ha : PA X [e] ta) (hs : starEach [e] X.env = [(false, eval e X.env)] := by rfl) :
    PI X (.Tuple elts kk tpos) (.Call (.Name "enumerate" p) [e] [] pos) (iEnumT X.K ta) := by
  refine ⟨fun pins s σ H R I h => ?_⟩
  refine Call_ (ld_blt I hg hm boot_enumerate (PyProof.Rows.callWith_type1 (thn (ha.run pos pins s σ H _ I h) fun us s1 ⟨vs, H1, I1, r1, q1⟩ => ?_) hs rfl))
  obtain ⟨a, xs, ex, hq, q⟩ := q1
  subst ex
  obtain ⟨u, rfl, ru⟩ := vals1 r1
  obtain rfl : u = Value.ref a := ru
  obtain ⟨its, rv, p', hz⟩ := I1.tuple hq
  have pt : s1.heap.IsTuple a its.toArray := p'
  refine enum1 (begins_tuple a its.toArray) pt fun h' he hit hk => wpAny_pyIter_enum he ?_
  have I2 : Inv X pins σ H1 { s1 with heap := h' } := I1.kept (t' := s1.toks) hk
  refine ⟨s1.heap.objs.size + 1, [s1.heap.objs.size + 1, s1.heap.objs.size], _, _, H1, rfl, I2, turn_enumT a (s1.heap.objs.size + 1) s1.heap.objs.size, ⟨⟨.none, he⟩, ⟨_, hit, rfl, rfl⟩, Nat.succ_ne_self _⟩, fun b hb => ?_, q⟩
  have hle : s1.heap.objs.size ≤ b := by
    rcases List.mem_cons.mp hb with z | z
    · rw [z]; exact Nat.le_succ _
    · rw [List.mem_singleton.mp z]; exact Nat.le_refl _
  exact I1.fpOk hle (I1.hok.fresh hle)
def iEnumS (K : PySem.W.Frag) (ta : TA) : TI := fun σ H R => iEnum K ta σ H R ∨ iEnumT K ta σ H R
theorem pi_enumS {X : Cx} {e : Expr} {ta : TA} {p pos tpos : Pos} {elts : List Expr} {kk : Nat} (hg : Gl X "enumerate") (hm : X.mg "enumerate" = none) (ha : PA X [e] ta) (hs : starEach [e] X.env = [(false, eval e X.env)] := by rfl) :
    PI X (.Tuple elts kk tpos) (.Call (.Name "enumerate" p) [e] [] pos) (iEnumS X.K ta) := by
  refine ⟨fun pins s σ H R I h => ?_⟩
  rcases h with h | h
  · exact (pi_enum hg hm ha hs).run pins s σ H R I h
  · exact (pi_enumT hg hm ha hs).run pins s σ H R I h
theorem walk_enumT {K : PySem.W.Frag} {a : Addr} {xs : List V} : Walk (IteT K a) xs.length (fun H => SqT K H a xs) (YPair (fun i => some (.int (i : Nat))) (fun i => xs[i]?)) := by
  refine ⟨fun i _ hi q => ⟨xs, xs[i], q, by simp [hi]⟩, fun _ q => ⟨xs, q, rfl⟩, fun i H v H' _ q y => ?_⟩
  obtain ⟨T, x, h1, h2, h3, h4⟩ := y
  exact ⟨T, .int (i : Nat), x, h1, h2, h3, rfl, h4 xs q⟩
end K2
namespace K2
open PySem L2 PySem.W PyProof.Rows
section
variable {prog : Program} {w : World} {A : Around} {kx vx t1 it1 t2 it2 : Expr} {scope : Scope} {pos : Pos} {R : Result → Shared → Prop} {s : Shared}
/-- {kx: vx for t1 in it1 for t2 in it2} -/
abbrev DC2 (kx vx t1 it1 t2 it2 : Expr) (scope : Scope) (pos : Pos) : Expr := .DictComp kx vx [⟨t1, it1, [], 0⟩, ⟨t2, it2, [], 0⟩] scope pos
theorem turn2_in (it : Value) (D : Addr) (env : Env) : compTurn (DC2 kx vx t1 it1 t2 it2 scope pos) 1 it (.ref D) env = (do
    standAt it2.pos
    match ← pyNext it with
    | none => pure (.done .next)
    | some v =>
      letOwnedTupleGo t2 it v
      assign t2 env v
      let mut ok := true
      for c in ([] : List Expr) do
        if ok then ok ← isTrue c env (eval c env)
      if ok then
        (do
          let kv ← eval kx env
          let vv ← holding [kv] (eval vx env)
          standAt { kx.pos with endLine := vx.pos.endLine, endCol := vx.pos.endCol }
          holding [kv, vv] (dictSet D kv vv))
      again (.compLoop (DC2 kx vx t1 it1 t2 it2 scope pos) 1 it (.ref D) env)) := by rfl
theorem turn2_out (it acc : Value) (env : Env) : compTurn (DC2 kx vx t1 it1 t2 it2 scope pos) 0 it acc env = (do
    standAt it1.pos
    match ← pyNext it with
    | none => pure (.done .next)
    | some v =>
      letOwnedTupleGo t1 it v
      assign t1 env v
      let mut ok := true
      for c in ([] : List Expr) do
        if ok then ok ← isTrue c env (eval c env)
      if ok then
        let x ← eval it2 env
        standAt it2.pos
        let x ← foldedSetIterable it2 env x
        let _ ← runOwn (.compStart (DC2 kx vx t1 it1 t2 it2 scope pos) 1 (← holding [x] (pyIter x)) acc env) env
      again (.compLoop (DC2 kx vx t1 it1 t2 it2 scope pos) 0 it acc env)) := by rfl
theorem start2_in {it acc : Value} {env : Env}
    (h0 : codeAny (model prog w) A (.compLoop (DC2 kx vx t1 it1 t2 it2 scope pos) 1 it acc env) R s)
    (h : wpAny (model prog w) A (pyIter it) (fun it' s' => codeAny (model prog w) A (.compLoop (DC2 kx vx t1 it1 t2 it2 scope pos) 1 it' acc env) R s') (notedBy (model prog w) A env fun x s' => R (.error x) s') s) :
    codeAny (model prog w) A (.compStart (DC2 kx vx t1 it1 t2 it2 scope pos) 1 it acc env) R s := by
  refine codeAny_of_tree ?_
  show wpAny _ A ((compStart (DC2 kx vx t1 it1 t2 it2 scope pos) 1 it acc env).onRaise (fun x => do noteFrame x env; standAt theWindowsPlace)) _ _ s
  refine wpAny_notedAt ?_
  unfold compStart
  show wpAny _ A (ask >>= _) _ _ s
  refine wpAny_bind (wpAny_askSetting (wpAny_ite ?_))
  split
  · first
      | exact wpAny_bind (wpAny_pure (wpAny_pure (And.intro rfl h0)))
      | exact wpAny_pure (And.intro rfl h0)
  · first
      | exact wpAny_bind (wpAny_rule (wpAny_bind (wpAny_standAt (wpAny_bind (wpAny_mono h (fun it' s' h' => wpAny_pure (And.intro rfl h')) fun _ _ x => x)))))
      | (refine wpAny_bind (wpAny_rule ?_); show wpAny _ _ (standAt it2.pos >>= _) _ _ s; exact wpAny_bind (wpAny_standAt (wpAny_bind (wpAny_mono h (fun it' s' h' => wpAny_pure (And.intro rfl h')) fun _ _ x => x))))
abbrev No : Value → Shared → Prop := fun _ _ => False
/-- the inner loop -/
theorem loop2_in {J D : Addr} {cenv : Env} {fp wr : List Addr} {n : Nat} {Y : Nat → Value → Heap → Prop} {St : Nat → Heap → Prop} {G : Nat → Shared → Prop} (W : Goes prog w A t2 J fp wr n Y St) (st0 : St 0 s.heap) (h0 : G 0 s)
    (keep : ∀ i s₁ h' tk, G i s₁ → (∀ b o, b ∉ wr → s₁.heap.get? b = some o → h'.get? b = some o) → s₁.toks ≤ tk → G i { s₁ with heap := h', toks := tk })
    (turn : ∀ i v s₁, i < n → Y i v s₁.heap → St (i + 1) s₁.heap → G i s₁ → wpAny (model prog w) A (assign t2 cenv v) (fun _ s₂ => wpAny (model prog w) A (eval kx cenv) (fun kv s₃ => wpAny (model prog w) A (eval vx cenv) (fun vv s₄ =>
      wpAny (model prog w) A (dictSet D kv vv) (fun _ s₅ => G (i + 1) s₅ ∧ St (i + 1) s₅.heap) No s₄) No s₃) No s₂) No s₁)
    (done : ∀ s₁, G n s₁ → R (.ok .next) s₁) : codeAny (model prog w) A (.compLoop (DC2 kx vx t1 it1 t2 it2 scope pos) 1 (.ref J) (.ref D) cenv) R s := by
  have no : ∀ {F : Value → Shared → Prop} (e : Value) (s : Shared), No e s → F e s := fun _ _ h => h.elim
  refine codeAny_loop rfl (fun k s' => ∃ i, i ≤ n ∧ k = n + 1 - i ∧ St i s'.heap ∧ G i s') ?_ (n + 1) ⟨0, Nat.zero_le _, rfl, st0, h0⟩
  rintro k s' ⟨i, hi, rfl, st, g⟩
  show wpAny _ A ((compTurn (DC2 kx vx t1 it1 t2 it2 scope pos) 1 (.ref J) (.ref D) cenv).onRaise (fun x => do noteFrame x cenv; theTreesLotGoes x)) _ _ s'
  refine wpAny_noted ?_
  rw [turn2_in]
  refine wpAny_bind (wpAny_standAt ?_)
  by_cases hlt : i < n
  · refine wpAny_bind (wpAny_mono (W.goes i s' (fun v s₁ => wpAny (model prog w) A (assign t2 cenv v) (fun _ s₂ => wpAny (model prog w) A (eval kx cenv) (fun kv s₃ => wpAny (model prog w) A (eval vx cenv) (fun vv s₄ =>
      wpAny (model prog w) A (dictSet D kv vv) (fun _ s₅ => G (i + 1) s₅ ∧ St (i + 1) s₅.heap) No s₄) No s₃) No s₂) No s₁) _ hlt st fun v h' tk hY st' hk htk => turn i v _ hlt hY st' (keep i s' h' tk g hk htk)) (fun r s₁ h₁ => ?_) fun _ _ e => e)
    obtain ⟨v, rfl, h₂⟩ := h₁
    refine wpAny_bind (wpAny_mono h₂ (fun _ s₁' h₁' => ?_) fun _ _ h' => h')
    refine wpAny_bind (wpAny_mono h₁' (fun _ s₂ h₂ => ?_) no)
    refine wpAny_bind (wpAny_pure ?_)
    exact wpAny_bind (wpAny_bind (wpAny_mono h₂ (fun kv s₃ h₃ => wpAny_bind (wpAny_holding (wpAny_mono h₃ (fun vv s₄ h₄ => wpAny_bind (wpAny_standAt (wpAny_holding (wpAny_mono h₄ (fun _ s₅ h₅ =>
      wpAny_pure ⟨rfl, n + 1 - (i + 1), by omega, i + 1, hlt, rfl, h₅.2, h₅.1⟩) no)))) no))) no))
  · have hin : i = n := by omega
    subst hin
    refine wpAny_bind (wpAny_mono (W.stops s' (fun s₁ => R (.ok .next) s₁) _ st fun h' tk hk htk => done _ (keep i s' h' tk g hk htk)) (fun r s₁ h₁ => ?_) fun _ _ e => e)
    obtain ⟨rfl, h₂⟩ := h₁
    exact wpAny_pure h₂
/-- what the inner loop owes where its iterator stands -/
def In2 (prog : Program) (w : World) (A : Around) (cenv : Env) (t2 kx vx : Expr) (D : Addr) (Out : Shared → Prop) (it : Value) (s : Shared) : Prop :=
  ∃ (J : Addr) (fp wr : List Addr) (n : Nat) (Y : Nat → Value → Heap → Prop) (St : Nat → Heap → Prop) (G : Nat → Shared → Prop), it = .ref J ∧ Goes prog w A t2 J fp wr n Y St ∧ St 0 s.heap ∧ G 0 s ∧
    (∀ i s₁ h' tk, G i s₁ → (∀ b o, b ∉ wr → s₁.heap.get? b = some o → h'.get? b = some o) → s₁.toks ≤ tk → G i { s₁ with heap := h', toks := tk }) ∧
    (∀ i v s₁, i < n → Y i v s₁.heap → St (i + 1) s₁.heap → G i s₁ → wpAny (model prog w) A (assign t2 cenv v) (fun _ s₂ => wpAny (model prog w) A (eval kx cenv) (fun kv s₃ => wpAny (model prog w) A (eval vx cenv) (fun vv s₄ =>
      wpAny (model prog w) A (dictSet D kv vv) (fun _ s₅ => G (i + 1) s₅ ∧ St (i + 1) s₅.heap) No s₄) No s₃) No s₂) No s₁) ∧
    ∀ s₁, G n s₁ → Out s₁
/-- the outer loop -/
theorem loop2_out {I D : Addr} {cenv : Env} {fp wr : List Addr} {n : Nat} {Y : Nat → Value → Heap → Prop} {St : Nat → Heap → Prop} {G : Nat → Shared → Prop} (W : Goes prog w A t1 I fp wr n Y St) (st0 : St 0 s.heap) (h0 : G 0 s)
    (hs : ∀ x, foldedSetIterable it2 cenv x = pure x)
    (keep : ∀ i s₁ h' tk, G i s₁ → (∀ b o, b ∉ wr → s₁.heap.get? b = some o → h'.get? b = some o) → s₁.toks ≤ tk → G i { s₁ with heap := h', toks := tk })
    (turn : ∀ i v s₁, i < n → Y i v s₁.heap → St (i + 1) s₁.heap → G i s₁ → wpAny (model prog w) A (assign t1 cenv v) (fun _ s₂ => wpAny (model prog w) A (eval it2 cenv) (fun xv s₃ => wpAny (model prog w) A (pyIter xv)
      (In2 prog w A cenv t2 kx vx D fun s₅ => G (i + 1) s₅ ∧ St (i + 1) s₅.heap) No s₃) No s₂) No s₁)
    (done : ∀ s₁, G n s₁ → R (.ok .next) s₁) : codeAny (model prog w) A (.compLoop (DC2 kx vx t1 it1 t2 it2 scope pos) 0 (.ref I) (.ref D) cenv) R s := by
  have no : ∀ {F : Value → Shared → Prop} (e : Value) (s : Shared), No e s → F e s := fun _ _ h => h.elim
  refine codeAny_loop rfl (fun k s' => ∃ i, i ≤ n ∧ k = n + 1 - i ∧ St i s'.heap ∧ G i s') ?_ (n + 1) ⟨0, Nat.zero_le _, rfl, st0, h0⟩
  rintro k s' ⟨i, hi, rfl, st, g⟩
  show wpAny _ A ((compTurn (DC2 kx vx t1 it1 t2 it2 scope pos) 0 (.ref I) (.ref D) cenv).onRaise (fun x => do noteFrame x cenv; theTreesLotGoes x)) _ _ s'
  refine wpAny_noted ?_
  rw [turn2_out]
  refine wpAny_bind (wpAny_standAt ?_)
  by_cases hlt : i < n
  · refine wpAny_bind (wpAny_mono (W.goes i s' (fun v s₁ => wpAny (model prog w) A (assign t1 cenv v) (fun _ s₂ => wpAny (model prog w) A (eval it2 cenv) (fun xv s₃ => wpAny (model prog w) A (pyIter xv)
      (In2 prog w A cenv t2 kx vx D fun s₅ => G (i + 1) s₅ ∧ St (i + 1) s₅.heap) No s₃) No s₂) No s₁) _ hlt st fun v h' tk hY st' hk htk => turn i v _ hlt hY st' (keep i s' h' tk g hk htk)) (fun r s₁ h₁ => ?_) fun _ _ e => e)
    obtain ⟨v, rfl, h₂⟩ := h₁
    refine wpAny_bind (wpAny_mono h₂ (fun _ s₁' h₁' => ?_) fun _ _ h' => h')
    refine wpAny_bind (wpAny_mono h₁' (fun _ s₂ h₂ => ?_) no)
    refine wpAny_bind (wpAny_pure ?_)
    refine wpAny_bind (wpAny_mono h₂ (fun xv s₃ h₃ => ?_) no)
    refine wpAny_bind (wpAny_standAt (wpAny_bind (wpAny_of_eq (hs xv) ?_)))
    refine wpAny_bind (wpAny_holding (wpAny_mono h₃ (fun it s₄ h₄ => ?_) no))
    obtain ⟨J, fp2, wr2, n2, Y2, St2, G2, rfl, W2, st2, g2, keep2, turn2, done2⟩ := h₄
    refine wpAny_bind (wpAny_runOwn ?_)
    have loop : codeAny (model prog w) A (.compLoop (DC2 kx vx t1 it1 t2 it2 scope pos) 1 (.ref J) (.ref D) cenv)
        (fun r s' => match r with
          | .ok f => wpAny (model prog w) A (again (.compLoop (DC2 kx vx t1 it1 t2 it2 scope pos) 0 (.ref I) (.ref D) cenv)) (fun fin s' => match fin with
              | .done f => R (.ok f) s'
              | .again c' => c' = .compLoop (DC2 kx vx t1 it1 t2 it2 scope pos) 0 (.ref I) (.ref D) cenv ∧ ∃ m, m < n + 1 - i ∧ ∃ i, i ≤ n ∧ m = n + 1 - i ∧ St i s'.heap ∧ G i s') (notedBy (model prog w) A cenv fun e s' => R (.error e) s') s'
          | .error e => cameBackBy (model prog w) A cenv (notedBy (model prog w) A cenv fun e s' => R (.error e) s') e s') s₄ := by
      refine loop2_in W2 st2 g2 keep2 turn2 fun s₅ g5 => ?_
      obtain ⟨g', st'⟩ := done2 s₅ g5
      exact wpAny_pure ⟨rfl, n + 1 - (i + 1), by omega, i + 1, hlt, rfl, st', g'⟩
    exact start2_in loop (W2.self 0 _ _ _ st2 loop)
  · have hin : i = n := by omega
    subst hin
    refine wpAny_bind (wpAny_mono (W.stops s' (fun s₁ => R (.ok .next) s₁) _ st fun h' tk hk htk => done _ (keep i s' h' tk g hk htk)) (fun r s₁ h₁ => ?_) fun _ _ e => e)
    obtain ⟨rfl, h₂⟩ := h₁
    exact wpAny_pure h₂
end
section
variable {prog : Program} {w : World} {A : Around} {E : Value → Shared → Prop} {env : Env} {kx vx t1 it1 t2 it2 : Expr} {scope : Scope} {pos : Pos} {cl : List (Str × Addr)}
theorem block2 {use : Option (Value → Sem Unit)} {Q : Value → Shared → Prop} {I : Addr} {s₂ : Shared} (hcell : ∀ y ∈ scope.names, y.2 ≠ .cell) (hkind : scope.kind = .function)
    (self : ∀ (s : Shared) (Q : Value → Shared → Prop) (E : Value → Shared → Prop), (∀ b o, s₂.heap.get? b = some o → s.heap.get? b = some o) → Q (.ref I) s → wpAny (model prog w) A (pyIter (.ref I)) Q E s)
    (h : ∀ D C s₃, CompBegins s₂ D C s₃ → s₃.heap.get? D = some { cls := .type "dict", dict := none, data := .dict #[] } →
      codeAny (model prog w) A (.compLoop (DC2 kx vx t1 it1 t2 it2 scope pos) 0 (.ref I) (.ref D) (compEnvC scope cl C env)) (compEnds (model prog w) A E use Q (.ref D) (compEnvC scope cl C env)) s₃) :
    wpAny (model prog w) A newDict (fun acc s₃ => wpAny (model prog w) A (newFunctionEnv scope env.globals cl [] env.qual none .none (some env)) (fun cenv s₄ =>
      codeAny (model prog w) A (.compStart (DC2 kx vx t1 it1 t2 it2 scope pos) 0 (.ref I) acc { cenv with scope := relabel scope env }) (compEnds (model prog w) A E use Q acc { cenv with scope := relabel scope env }) s₄) E s₃) E s₂ := by
  refine wpAny_newObj_type (wpAny_newFunctionEnv hcell (by intro y hy; simp at hy) (fun h₁ ns sb => ?_) hkind)
  dsimp only at ns sb ⊢
  have e2 := Heap.get?_push_size s₂.heap (o := { cls := .type "dict", dict := none, data := .dict #[] }) rfl
  have k2 : ∀ b o, s₂.heap.get? b = some o → (s₂.heap.push { cls := .type "dict", dict := none, data := .dict #[] }).get? b = some o := fun b o e => Heap.get?_push_of_some _ e
  have z2 : (s₂.heap.push { cls := .type "dict", dict := none, data := .dict #[] }).objs.size = s₂.heap.objs.size + 1 := Heap.size_push ..
  generalize s₂.heap.push { cls := .type "dict", dict := none, data := .dict #[] } = H2 at ns sb e2 k2 z2 ⊢
  have k3 : ∀ b o, H2.get? b = some o → h₁.get? b = some o := fun b o e => sb.extBut b o (Nat.ne_of_lt (Heap.lt_size e)) (by first | exact e | exact Heap.get?_push_of_some _ e)
  have old : ∀ b o, s₂.heap.get? b = some o → h₁.get? b = some o := fun b o e => k3 b o (k2 b o e)
  have loop := h s₂.heap.objs.size H2.objs.size { s₂ with heap := h₁, toks := s₂.toks + ([] : List (Str × Value)).length } ⟨⟨_, _, rfl⟩, old, Nat.le_refl _, by rw [z2]; exact Nat.le_succ _, by rw [z2]; exact Nat.ne_of_lt (Nat.lt_succ_self _), ns⟩ (k3 _ _ e2)
  exact codeAny_compStart_dict loop (self _ _ _ old loop)
end
end K2
namespace K2
open PySem L2 PySem.W PyProof.Rows
/-! {name: True for row in rows for name in row}, rows a list of tuples of texts -/
def keysS (ss : List Str) : List (L2.Key × V) := ss.foldl (fun acc s => putK acc (Sum.inr s) (.bl true)) []
theorem keysS_snoc (ss : List Str) (k : Str) : keysS (ss ++ [k]) = putK (keysS ss) (Sum.inr k) (.bl true) := by
  unfold keysS; rw [List.foldl_append]; rfl
def entsS (ss : List Str) : List (L2.Key × Value) := ss.foldl (fun acc s => stored acc (Sum.inr s) (.bool true)) []
theorem entsS_snoc (ss : List Str) (k : Str) : entsS (ss ++ [k]) = stored (entsS ss) (Sum.inr k) (.bool true) := by
  unfold entsS; rw [List.foldl_append]; rfl
theorem keysS_kv (ss : List Str) : L2.KV (keysS ss) (entsS ss) := by
  refine snoc_ind (P := fun ss => L2.KV (keysS ss) (entsS ss)) .nil (fun l x ih => ?_) ss
  rw [keysS_snoc, entsS_snoc]
  exact ih.put (Sum.inr x) rfl
theorem keysS_len (ss : List Str) : (keysS ss).length ≤ ss.length := by
  refine snoc_ind (P := fun ss => (keysS ss).length ≤ ss.length) (Nat.le_refl _) (fun l x ih => ?_) ss
  rw [keysS_snoc, List.length_append]
  exact Nat.le_trans (length_putK _ _ _) (Nat.succ_le_succ ih)
theorem entsS_len (ss : List Str) : (entsS ss).length ≤ ss.length := by
  rw [← (keysS_kv ss).length]; exact keysS_len ss
/-- the rows taken so far -/
def flatR (rows : List (Addr × List Str)) : List Str := (rows.map (·.2)).flatten
theorem flatR_snoc (rows : List (Addr × List Str)) (r : Addr × List Str) : flatR (rows ++ [r]) = flatR rows ++ r.2 := by simp [flatR]
theorem flatR_take (rows : List (Addr × List Str)) (i : Nat) (r : Addr × List Str) (h : rows[i]? = some r) : flatR (rows.take (i + 1)) = flatR (rows.take i) ++ r.2 := by
  rw [List.take_add_one, h]; exact flatR_snoc _ _
theorem flatR_le (rows : List (Addr × List Str)) (i : Nat) : (flatR (rows.take i)).length ≤ (flatR rows).length := by
  have : flatR rows = flatR (rows.take i) ++ flatR (rows.drop i) := by
    unfold flatR
    rw [← List.flatten_append, ← List.map_append, List.take_append_drop]
  rw [this, List.length_append]
  exact Nat.le_add_right _ _
theorem refs_eqR : ∀ {rows : List (Addr × List Str)} {its : List Value}, Vals (rows.map fun p => V.ref p.1) its → its = rows.map fun p => Value.ref p.1
  | [], its, r => by cases r; rfl
  | p :: l, its, r => by
    cases r with
    | cons h t =>
      rw [List.map_cons, ← refs_eqR t]
      rw [show _ = Value.ref p.1 from h]
def CellK (P : Program) (w : World) (h : Heap) (D : Addr) (xs : List (L2.Key × Value)) : Prop := h.DictOf (mixKind P w) D xs
theorem CellK.keep {P : Program} {w : World} {h h' : Heap} {D : Addr} {xs : List (L2.Key × Value)} (c : CellK P w h D xs) (k : ∀ o, h.get? D = some o → h'.get? D = some o) : CellK P w h' D xs := by
  obtain ⟨o, es, ep, h1, r⟩ := c
  exact ⟨o, es, ep, k _ h1, r⟩
theorem CellK.lt {P : Program} {w : World} {h : Heap} {D : Addr} {xs : List (L2.Key × Value)} (c : CellK P w h D xs) : (D : Nat) < h.objs.size := by
  obtain ⟨o, es, ep, h1, r⟩ := c
  exact Heap.lt_size h1
theorem paired_at {xs : List V} {us : List Value} (r : Vals xs us) {i : Nat} {u : Value} (h : us[i]? = some u) : ∃ x, xs[i]? = some x ∧ RelV x u := by
  induction r generalizing i with
  | nil => simp at h
  | cons h1 t ih =>
    cases i with
    | zero => exact ⟨_, rfl, by have e := Option.some.inj (by simpa using h); rw [← e]; exact h1⟩
    | succ n => exact ih (by simpa using h)
section
variable {X : Cx} {scope : Scope} {x1 x2 : Str} {pa1 pa2 pi2 pe pc pos : Pos} {u : Nat}
def tDc2 (K : PySem.W.Frag) (te : TE) : TE := fun σ H Q => te σ H fun y H1 => ∃ a rows, y = .ref a ∧ SqL K H1 a (rows.map fun r : Addr × List Str => V.ref r.1) ∧ (∀ r ∈ rows, SqT K H1 r.1 (r.2.map V.str)) ∧ (flatR rows).length < sizeLine ∧
  ∀ D, H1 D = none → Q (.ref D) (upd H1 D (.dK (keysS (flatR rows))))
theorem dc2_core {iter : Expr} {te : TE} {d0 : Str} {use : Option (Value → Sem Unit)} {Qf : Value → Shared → Prop} {pins : List (Addr × Obj)} {s : Shared} {σ : L2.St} {H : Hp} {Q : VK} (hcalm : X.calm = true) (he : PE X iter te) (hnames : scope.names = [(d0, .local), (x1, .local), (x2, .local)]) (hn1 : (x1 == d0) = false) (hn2 : (x2 == d0) = false) (hne : (x2 == x1) = false) (hkind : scope.kind = .function) (hdeb1 : (x1 == ("__debug__" : Str)) = false) (hdeb2 : (x2 == ("__debug__" : Str)) = false)
    (hs : ∀ y, foldedSetIterable iter X.env y = pure y) (I : Inv X pins σ H s) (h : tDc2 X.K te σ H Q)
    (hRR : ∀ D C s' m H', Inv X pins σ H' s' → Q (.ref D) H' → s'.heap.Ns C m → FpOk X pins H' C → compEnds (model X.prog X.w) X.A X.xe use Qf (.ref D) (compEnvC scope [] C X.env) (.ok .next) s') :
    wpAny (model X.prog X.w) X.A (comprehension (DC2 (.Name x2 pe) (.Constant (.bool true) u pc) (.Name x1 pa1) iter (.Name x2 pa2) (.Name x1 pi2) scope pos) scope X.env (firstIterPos [⟨.Name x1 pa1, iter, [], 0⟩, ⟨.Name x2 pa2, .Name x1 pi2, [], 0⟩] pos) newDict false (eval iter X.env) use) Qf X.xe s := by
  have nofree : ∀ y ∈ scope.names, y.2 = .local := fun y hy => by
    rw [hnames] at hy
    rcases List.mem_cons.mp hy with e | e
    · rw [e]
    rcases List.mem_cons.mp e with e | e
    · rw [e]
    · rw [List.mem_singleton.mp e]
  have hcl : closureFor scope X.env = pure [] := by
    have e := closure_ok (scope := scope) (env := X.env) (fun y hy e => by rw [nofree y hy] at e; cases e)
    rw [hnames] at e
    exact e
  have hcell : ∀ y ∈ scope.names, y.2 ≠ .cell := fun y hy => by rw [nofree y hy]; intro z; cases z
  have l1 : scope.names.lookup x1 = some .local := by rw [hnames]; simp [List.lookup, hn1]
  have l2 : scope.names.lookup x2 = some .local := by rw [hnames]; simp [List.lookup, hn2, hne]
  refine comprehension_at (use := use) rfl hs hcl hkind (fun y hy _ => by
    rw [hnames] at hy
    rcases List.mem_cons.mp hy with e | e
    · rw [e, hnames]; simp
    rcases List.mem_cons.mp e with e | e
    · rw [e]; exact l1
    · rw [List.mem_singleton.mp e]; exact l2) ?_
  refine thn (he.run pins s σ H _ I h) fun v s1 ⟨y, H1, I1, r1, a, rows, ey, hq, hr, hz, q⟩ => ?_
  subst ey
  obtain rfl : v = Value.ref a := r1
  have hd := I1.ok.hd hcalm
  obtain ⟨its, rv, p, hzz⟩ := I1.list hq
  have e := refs_eqR rv
  subst e
  have hlt : (a : Nat) < s1.heap.objs.size := by obtain ⟨o, ho, _⟩ := p.isList; exact Heap.lt_size ho
  refine wpAny_pyIter_list p.isList ?_
  have W := Goes.list (prog := X.prog) (w := X.w) (target := .Name x1 pa1) hd s1.heap.objs.size a (Nat.ne_of_lt hlt) (rows.map fun p => Value.ref p.1).toArray
  have esz : (rows.map fun p => Value.ref p.1).toArray.size = rows.length := by simp
  rw [esz] at W
  have pl : s1.heap.IsList a (rows.map fun p => Value.ref p.1).toArray := p.isList
  refine block2 hcell hkind (fun s Q E k hQ => W.self 0 s Q E ⟨⟨_, k _ _ (Heap.get?_push_size _ rfl), rfl, rfl⟩, pl.at fun o e => k _ _ (Heap.get?_push_of_some _ e)⟩ hQ) fun D C s₃ hB hD => ?_
  obtain ⟨⟨h₃, tk₃, rfl⟩, old3, nD, nC, hDC, hnm⟩ := hB
  dsimp only at nD nC hD hnm old3
  have ez : (s1.heap.push { cls := .type "list_iterator", data := .fields #[.ref a, .int 0 0] }).objs.size = s1.heap.objs.size + 1 := Heap.size_push ..
  rw [ez] at nD nC
  have kxy : ∀ {y : Str}, scope.names.lookup y = some .local → (compEnvC scope [] C X.env).kindOf y = some .local := fun hy => lookup_relabel_local hy
  have hpl : ((compEnvC scope [] C X.env).scope.kind == .class || ((compEnvC scope [] C X.env).scope.kind == .module && (compEnvC scope [] C X.env).locals != (compEnvC scope [] C X.env).globals)) = false := by
    show (scope.kind == .class || (scope.kind == .module && _)) = false
    rw [hkind]; rfl
  have hs1 : (s1.heap.objs.size : Nat) ≤ D := Nat.le_of_succ_le nD
  have ltI : ∀ b o, s1.heap.get? b = some o → (b : Nat) < s1.heap.objs.size := fun b o e => Heap.lt_size e
  have bC : ∀ b o, s1.heap.get? b = some o → b ≠ C := fun b o e => Nat.ne_of_lt (Nat.lt_of_lt_of_le (ltI b o e) (Nat.le_of_succ_le nC))
  have bD : ∀ b o, s1.heap.get? b = some o → b ≠ D := fun b o e => Nat.ne_of_lt (Nat.lt_of_lt_of_le (ltI b o e) hs1)
  have bI : ∀ b o, s1.heap.get? b = some o → b ≠ s1.heap.objs.size := fun b o e => Nat.ne_of_lt (ltI b o e)
  have dI : D ≠ s1.heap.objs.size := Nat.ne_of_gt nD
  have cI : C ≠ s1.heap.objs.size := Nat.ne_of_gt nC
  have st3 : h₃.IsListIter s1.heap.objs.size a 0 ∧ h₃.IsList a (rows.map fun p => Value.ref p.1).toArray :=
    ⟨⟨_, old3 _ _ (Heap.get?_push_size _ rfl), rfl, rfl⟩, pl.at fun o e => old3 _ _ (Heap.get?_push_of_some _ e)⟩
  refine loop2_out (G := fun i s => ∃ h' tk m, s = { s1 with heap := h', toks := tk } ∧ h'.Ns C m ∧ CellK X.prog X.w h' D (entsS (flatR (rows.take i))) ∧ ∀ b o, s1.heap.get? b = some o → h'.get? b = some o) W st3
    ⟨h₃, tk₃, _, rfl, hnm, ⟨_, #[], 0, hD, ⟨rfl, rfl, rfl⟩, rfl, fun _ he => by simp at he, .nil, List.nodup_nil⟩, fun b o e => old3 b o (Heap.get?_push_of_some _ e)⟩ (fun _ => rfl) ?_ ?_ ?_
  · rintro i s₁ h' tk ⟨h₄, tk₄, m, rfl, n₄, e₄, k₄⟩ hk' _
    have off : ∀ b : Addr, b ≠ s1.heap.objs.size → b ∉ [s1.heap.objs.size] := fun b hb => by simpa using hb
    exact ⟨h', tk, m, rfl, n₄.at' fun o e => hk' _ o (off _ cI) e, e₄.keep fun o e => hk' _ o (off _ dI) e, fun b o e => hk' b o (off _ (bI b o e)) (k₄ b o e)⟩
  · rintro i v s₁ hi hv st ⟨h₄, tk₄, m, rfl, n₄, e₄, k₄⟩
    obtain ⟨r, hri, rfl⟩ : ∃ r, rows[i]? = some r ∧ v = .ref r.1 := by
      simp only [List.getElem?_toArray, List.getElem?_map] at hv
      obtain ⟨p, h1, h2⟩ := Option.map_eq_some_iff.mp hv
      exact ⟨p, h1, h2.symm⟩
    obtain ⟨its2, rv2, p2, z2⟩ := I1.tuple (hr r (List.mem_of_getElem? hri))
    have pt1 : s1.heap.IsTuple r.1 its2.toArray := p2
    refine wpAny_assign_Name (wpAny_storeName_local (kxy l1) n₄ (fun h₅ n₅ s₅ => ?_) hpl)
    rw [eval_Name _ _ _ hdeb1]
    refine wpAny_bind (wpAny_standAt (wpAny_loadName_local hkind (kxy l1) n₅ (v := .ref r.1) (if_pos rfl) ?_))
    have k5 : ∀ b o, s1.heap.get? b = some o → h₅.get? b = some o := fun b o e => s₅.extBut b o (bC b o e) (k₄ b o e)
    have c5 := e₄.keep (h' := h₅) fun o e => s₅.extBut _ o hDC e
    have pt5 : h₅.IsTuple r.1 its2.toArray := pt1.at fun o e => k5 _ o e
    have st5 : h₅.IsListIter s1.heap.objs.size a (i + 1) ∧ h₅.IsList a (rows.map fun p => Value.ref p.1).toArray :=
      ⟨st.1.at fun o e => s₅.extBut _ o (Ne.symm cI) e, pl.at fun o e => k5 _ o e⟩
    have ltC : (C : Nat) < h₅.objs.size := n₅.lt
    have ltD : (D : Nat) < h₅.objs.size := c5.lt
    have ltI5 : (s1.heap.objs.size : Nat) < h₅.objs.size := by obtain ⟨o, ho, _⟩ := st5.1; exact Heap.lt_size ho
    have ltR : (r.1 : Nat) < h₅.objs.size := by obtain ⟨o, ho, _⟩ := pt5; exact Heap.lt_size ho
    refine wpAny_pyIter_tuple pt5 ?_
    have W2 := Goes.tuple (prog := X.prog) (w := X.w) (target := .Name x2 pa2) hd h₅.objs.size r.1 (Nat.ne_of_lt ltR) its2.toArray
    have esz2 : its2.toArray.size = r.2.length := by
      have := rv2.length
      rw [List.length_map] at this
      simp [this]
    rw [esz2] at W2
    have pk : ∀ b o, h₅.get? b = some o → (h₅.push { cls := .type "tuple_iterator", data := .fields #[.ref r.1, .int 0 0] }).get? b = some o := fun b o e => Heap.get?_push_of_some _ e
    refine ⟨_, _, _, _, _, _, fun j s => ∃ h' tk m, s = { s1 with heap := h', toks := tk } ∧ h'.Ns C m ∧ CellK X.prog X.w h' D (entsS (flatR (rows.take i) ++ r.2.take j)) ∧ (∀ b o, s1.heap.get? b = some o → h'.get? b = some o) ∧ h'.IsListIter s1.heap.objs.size a (i + 1),
      rfl, W2, ⟨⟨_, Heap.get?_push_size _ rfl, rfl, rfl⟩, pt5.at fun o e => pk _ o e⟩, ⟨_, _, _, rfl, n₅.at' fun o e => pk _ o e, by rw [List.take_zero, List.append_nil]; exact c5.keep fun o e => pk _ o e, fun b o e => pk b o (k5 b o e), st5.1.at fun o e => pk _ o e⟩, ?_, ?_, ?_⟩
    · rintro j s₁ h' tk ⟨h₆, tk₆, m, rfl, n₆, e₆, k₆, st6⟩ hk' _
      have off : ∀ b : Addr, b < h₅.objs.size → b ∉ [h₅.objs.size] := fun b hb => by
        intro z
        rw [List.mem_singleton.mp z] at hb
        exact absurd hb (Nat.lt_irrefl _)
      exact ⟨h', tk, m, rfl, n₆.at' fun o e => hk' _ o (off _ ltC) e, e₆.keep fun o e => hk' _ o (off _ ltD) e, fun b o e => hk' b o (off _ (Heap.lt_size (k5 b o e))) (k₆ b o e), st6.at fun o e => hk' _ o (off _ ltI5) e⟩
    · rintro j v s₁ hj hv st2 ⟨h₆, tk₆, m, rfl, n₆, e₆, k₆, st6⟩
      obtain ⟨z, tz, hzj, rfl⟩ : ∃ z tz, r.2[j]? = some z ∧ v = .str z tz := by
        have hv' : its2[j]? = some v := by simpa using hv
        obtain ⟨w0, hw0, rw0⟩ := paired_at rv2 hv'
        rw [List.getElem?_map] at hw0
        obtain ⟨z, h1, h2⟩ := Option.map_eq_some_iff.mp hw0
        subst h2
        obtain ⟨tz, rfl⟩ := (show ∃ t, v = Value.str z t from rw0)
        exact ⟨z, tz, h1, rfl⟩
      refine wpAny_assign_Name (wpAny_storeName_local (kxy l2) n₆ (fun h₇ n₇ s₇ => ?_) hpl)
      rw [eval_Name _ _ _ hdeb2]
      refine wpAny_bind (wpAny_standAt (wpAny_loadName_local hkind (kxy l2) n₇ (v := .str z tz) (if_pos rfl) ?_))
      refine wpAny_Constant_bool ?_
      have k7 : ∀ b o, s1.heap.get? b = some o → h₇.get? b = some o := fun b o e => s₇.extBut b o (bC b o e) (k₆ b o e)
      have c7 : h₇.DictOf (mixKind X.prog X.w) D _ := e₆.keep (h' := h₇) fun o e => s₇.extBut _ o hDC e
      have hl : (entsS (flatR (rows.take i) ++ r.2.take j)).length ≤ sizeLine := by
        refine Nat.le_trans (entsS_len _) (Nat.le_trans ?_ (Nat.le_of_lt hz))
        have h1 := flatR_le rows (i + 1)
        rw [flatR_take rows i r hri] at h1
        rw [List.length_append] at h1 ⊢
        rw [List.length_take]
        omega
      refine wpAny_dictSet_pairs (hsz := hl) (kV_is (k := Sum.inr z) ⟨tz, rfl⟩) c7 fun h₈ d8 s₈ => ?_
      refine ⟨⟨h₈, _, _, rfl, n₇.at' fun o e => s₈.extBut _ o (Ne.symm hDC) e, ?_, fun b o e => s₈.extBut b o (bD b o e) (k7 b o e), ?_⟩, ?_, ?_⟩
      · have e : r.2.take (j + 1) = r.2.take j ++ [z] := by rw [List.take_add_one, hzj]; rfl
        rw [e, ← List.append_assoc, entsS_snoc]
        exact d8
      · exact st6.at fun o e => s₈.extBut _ o (Ne.symm dI) (s₇.extBut _ o (Ne.symm cI) e)
      · have nJC : (h₅.objs.size : Addr) ≠ C := Nat.ne_of_gt ltC
        have nJD : (h₅.objs.size : Addr) ≠ D := Nat.ne_of_gt ltD
        exact st2.1.at fun o e => s₈.extBut _ o nJD (s₇.extBut _ o nJC e)
      · exact pt1.at fun o e => s₈.extBut _ o (bD _ o e) (k7 _ o e)
    · rintro s₁ ⟨h₆, tk₆, m, rfl, n₆, e₆, k₆, st6⟩
      refine ⟨⟨h₆, tk₆, m, rfl, n₆, ?_, k₆⟩, st6, pl.at fun o e => k₆ _ o e⟩
      rw [flatR_take rows i r hri]
      rw [List.take_length] at e₆
      exact e₆
  · rintro s₁ ⟨h₄, tk₄, m, rfl, n₄, e₄, k₄⟩
    rw [List.take_length] at e₄
    have hn := I1.hok.fresh hs1
    have hC1 : (s1.heap.objs.size : Nat) ≤ C := Nat.le_of_succ_le nC
    have I9 : Inv X pins σ (upd H1 D (.dK (keysS (flatR rows)))) { s1 with heap := h₄, toks := tk₄ } := I1.laid (t' := tk₄) k₄ hs1 ⟨Nat.le_trans (keysS_len _) (Nat.le_of_lt hz), beq_eq_false_iff_ne.mpr (Ne.symm (Nat.ne_of_lt (Nat.lt_of_lt_of_le I1.big hs1))), entsS (flatR rows), keysS_kv _, e₄⟩
    exact hRR D C _ m _ I9 (q D hn) n₄ (I1.fpOk hC1 (by rw [upd_ne (Ne.symm hDC)]; exact I1.hok.fresh hC1))
theorem pe_dc2 {iter : Expr} {te : TE} {d0 : Str} (hcalm : X.calm = true) (he : PE X iter te) (hnames : scope.names = [(d0, .local), (x1, .local), (x2, .local)]) (hn1 : (x1 == d0) = false) (hn2 : (x2 == d0) = false) (hne : (x2 == x1) = false) (hkind : scope.kind = .function) (hdeb1 : (x1 == ("__debug__" : Str)) = false := by decide) (hdeb2 : (x2 == ("__debug__" : Str)) = false := by decide)
    (hs : ∀ y, foldedSetIterable iter X.env y = pure y := by intro _; rfl) :
    PE X (.DictComp (.Name x2 pe) (.Constant (.bool true) u pc) [⟨.Name x1 pa1, iter, [], 0⟩, ⟨.Name x2 pa2, .Name x1 pi2, [], 0⟩] scope pos) (tDc2 X.K te) := by
  refine ⟨fun pins s σ H Q I h => ?_⟩
  rw [arm_eval_DictComp]
  refine dc2_core (use := none) hcalm he hnames hn1 hn2 hne hkind hdeb1 hdeb2 hs I h fun D C s' m H' I' q hn f => ⟨m, hn, fun h'' sb => ?_⟩
  obtain ⟨f0, f1, f2, f3, f4, f5⟩ := f
  exact ⟨.ref D, H', I'.turned (t' := s'.toks) (fun b o hb e => (sb.2 b hb).trans e) f0 f1 f3 f4 f5, rfl, q⟩
theorem swD_true {kx vx : Expr} {gs : List Comprehension} {pos py : Pos} {y : Str} {l : Nat} {env : Env} (hk : env.scope.kind = .function) (hy : env.scope.names.lookup y = some .local) (hl : (py.line == pos.line) = true)
    (ha : (scope.names.any fun (n, k) => n == y && (k == .local || k == .cell)) = false) : swapsWith (.DictComp kx vx gs scope pos) (some (.Name y py)) l env = pure true := by
  have ky : env.kindOf y = some .local := hy
  have hb : env.blockKind = .function := by unfold Env.blockKind; rw [hk]; rfl
  unfold swapsWith
  simp only [hb, ky, ha, Expr.pos, hl]
  rfl
/-- y = {..} by such a comprehension, y a local -/
theorem ps_setDc2 {i : Nat} {y : Str} {py spos : Pos} {iter : Expr} {te : TE} {d0 : Str} (hcalm : X.calm = true) (hN : X.N.Nodup) (hy : X.N[i]? = some y) (hyl : X.env.scope.names.lookup y = some .local)
    (hsw : swapsWith (.DictComp (.Name x2 pe) (.Constant (.bool true) u pc) [⟨.Name x1 pa1, iter, [], 0⟩, ⟨.Name x2 pa2, .Name x1 pi2, [], 0⟩] scope pos) (some (.Name y py)) spos.line X.env = pure true)
    (he : PE X iter te) (hnames : scope.names = [(d0, .local), (x1, .local), (x2, .local)]) (hn1 : (x1 == d0) = false) (hn2 : (x2 == d0) = false) (hne : (x2 == x1) = false) (hkind : scope.kind = .function) (hdeb1 : (x1 == ("__debug__" : Str)) = false := by decide) (hdeb2 : (x2 == ("__debug__" : Str)) = false := by decide)
    (hs : ∀ y, foldedSetIterable iter X.env y = pure y := by intro _; rfl) :
    PS X (.Assign [.Name y py] (.DictComp (.Name x2 pe) (.Constant (.bool true) u pc) [⟨.Name x1 pa1, iter, [], 0⟩, ⟨.Name x2 pa2, .Name x1 pi2, [], 0⟩] scope pos) spos) (tAsg (tDc2 X.K te) (gName i)) := by
  refine ⟨fun pins s σ H D I h => ?_⟩
  rw [exec_Assign_Name_used _ _ _ _ hsw]
  refine wpAny_bind (wpAny_standAt (wpAny_bind ?_))
  show wpAny _ X.A (do let _ ← comprehension (.DictComp (.Name x2 pe) (.Constant (.bool true) u pc) [⟨.Name x1 pa1, iter, [], 0⟩, ⟨.Name x2 pa2, .Name x1 pi2, [], 0⟩] scope pos) scope X.env (firstIterPos [⟨.Name x1 pa1, iter, [], 0⟩, ⟨.Name x2 pa2, .Name x1 pi2, [], 0⟩] pos) newDict false (eval iter X.env) (some (assign (.Name y py) X.env))) _ _ s
  have h : tDc2 X.K te σ H (fun x H1 => gName i x σ H1 D.nx) := h
  refine wpAny_bind (thn (dc2_core (Qf := fun _ s' => SP X pins D .next s') hcalm he hnames hn1 hn2 hne hkind hdeb1 hdeb2 hs I h fun L C s' m H' I' q hn f => ?_) fun _ s' hq => wpAny_pure (wpAny_pure hq))
  show wpAny _ _ (assign (.Name y py) X.env (.ref L)) _ _ _
  refine wpAny_assign_Name (store_ok2 (v := V.ref L) I' hN hy (.inl hyl) rfl (fun s2 I2 ⟨a, sb, ha⟩ => ?_) (.inr hyl))
  obtain ⟨f0, f1, f2, f3, f4, f5⟩ := f
  have haC : C ≠ a := by
    rcases ha with z | z
    · rw [z]; exact f1
    · exact fun e => f4 y a z e.symm
  refine ⟨m, hn.sameBut sb haC, fun h3 sb3 => ?_⟩
  exact ⟨_, H', I2.turned (t' := s2.toks) (fun b o hb e => (sb3.2 b hb).trans e) f0 f1 f3 f4 f5, q⟩
/-- y = {k: v for ..}, y a local -/
theorem ps_setDc {i : Nat} {y : Str} {py spos : Pos} {kx vx tg iter : Expr} {ifs : List Expr} {own : List (Str × Nat)} {wi : TI} {g : TG} {tt : TT} {tk tv : TE} (hc : X.calm = true) (hN : X.N.Nodup) (hy : X.N[i]? = some y) (hyl : X.env.scope.names.lookup y = some .local)
    (hsw : swapsWith (.DictComp kx vx [⟨tg, iter, ifs, 0⟩] scope pos) (some (.Name y py)) spos.line X.env = pure true) (hi : PI X tg iter wi) (ok : BlkOk X.N X.env.scope scope own)
    (hg : ∀ (s : Shared) (H : Hp) (C : Addr) (cl : List (Str × Addr)) (fp : List Addr), PG (X.blk s H scope (compEnvC scope cl C X.env) fp) tg g) (ht : ∀ (s : Shared) (H : Hp) (C : Addr) (cl : List (Str × Addr)) (fp : List Addr), PTs (X.blk s H scope (compEnvC scope cl C X.env) fp) ifs tt)
    (hk : ∀ (s : Shared) (H : Hp) (C : Addr) (cl : List (Str × Addr)) (fp : List Addr), PE (X.blk s H scope (compEnvC scope cl C X.env) fp) kx tk)
    (he : ∀ (s : Shared) (H : Hp) (C : Addr) (cl : List (Str × Addr)) (fp : List Addr), PE (X.blk s H scope (compEnvC scope cl C X.env) fp) vx tv) (hs : ∀ x, foldedSetIterable iter X.env x = pure x := by intro _; rfl) :
    PS X (.Assign [.Name y py] (.DictComp kx vx [⟨tg, iter, ifs, 0⟩] scope pos) spos) (tAsg (tDc wi g tt tk tv (own.map (·.2))) (gName i)) := by
  refine ⟨fun pins s σ H D I h => ?_⟩
  rw [exec_Assign_Name_used _ _ _ _ hsw]
  refine wpAny_bind (wpAny_standAt (wpAny_bind ?_))
  show wpAny _ X.A (do let _ ← comprehension (.DictComp kx vx [⟨tg, iter, ifs, 0⟩] scope pos) scope X.env (firstIterPos [⟨tg, iter, ifs, 0⟩] pos) newDict false (eval iter X.env) (some (assign (.Name y py) X.env))) _ _ s
  have h : tDc wi g tt tk tv (own.map (·.2)) σ H (fun x H1 => gName i x σ H1 D.nx) := h
  refine wpAny_bind (thn (dc_core (Qf := fun _ s' => SP X pins D .next s') hc hN I hi ok hg ht hk he hs h fun L C s' m H' I' q hn f => ?_) fun _ s' hq => wpAny_pure (wpAny_pure hq))
  show wpAny _ _ (assign (.Name y py) X.env (.ref L)) _ _ _
  refine wpAny_assign_Name (store_ok2 (v := V.ref L) I' hN hy (.inl hyl) rfl (fun s2 I2 ⟨a, sb, ha⟩ => ?_) (.inr hyl))
  obtain ⟨f0, f1, f2, f3, f4, f5⟩ := f
  have haC : C ≠ a := by
    rcases ha with z | z
    · rw [z]; exact f1
    · exact fun e => f4 y a z e.symm
  refine ⟨m, hn.sameBut sb haC, fun h3 sb3 => ?_⟩
  exact ⟨_, H', I2.turned (t' := s2.toks) (fun b o hb e => (sb3.2 b hb).trans e) f0 f1 f3 f4 f5, q⟩
end
end K2
namespace K2
open PySem L2 PySem.W PyProof.Rows
section
variable {X : Cx}
/-- what an expression hands back is frozen from then on -/
def tFrzE (te : TE) : TE := fun σ H Q => te σ H fun x H1 => ∃ d u, x = .ref d ∧ H1 d = some u ∧ L2.Mut (some u) ∧ ∀ od, Q (.ref d) (upd H1 d (.frz od u))
theorem pe_frz {e : Expr} {te : TE} (he : PE X e te) : PE X e (tFrzE te) := by
  refine ⟨fun pins s σ H Q I h => ?_⟩
  refine thn (he.run pins s σ H _ I h) fun v s1 ⟨x, H1, I1, r1, d, u, ex, hd, mu, q⟩ => ?_
  subst ex
  obtain ⟨od, I2⟩ := I1.lock hd mu
  exact ⟨.ref d, _, I2, r1, q od⟩
/-- or it is frozen already -/
def tFrzO (te : TE) : TE := fun σ H Q => te σ H fun x H1 => ∃ d, x = .ref d ∧ (Q (.ref d) H1 ∨ ∃ u, H1 d = some u ∧ L2.Mut (some u) ∧ ∀ od, Q (.ref d) (upd H1 d (.frz od u)))
theorem pe_frzO {e : Expr} {te : TE} (he : PE X e te) : PE X e (tFrzO te) := by
  refine ⟨fun pins s σ H Q I h => ?_⟩
  refine thn (he.run pins s σ H _ I h) fun v s1 ⟨x, H1, I1, r1, d, ex, q⟩ => ?_
  subst ex
  rcases q with q | ⟨u, hd, mu, q⟩
  · exact ⟨.ref d, _, I1, r1, q⟩
  · obtain ⟨od, I2⟩ := I1.lock hd mu
    exact ⟨.ref d, _, I2, r1, q od⟩
/-- cells that are frozen, one after the other -/
inductive FrzL : List Addr → Hp → Hp → Prop
  | nil {H : Hp} : FrzL [] H H
  | cons {d : Addr} {ds : List Addr} {H H' : Hp} {u : HO} (od : Obj) : H d = some u → FrzL ds (upd H d (.frz od u)) H' → FrzL (d :: ds) H H'
/-- .. each of them may be -/
def CanFrz : List Addr → Hp → Prop
  | [], _ => True
  | d :: ds, H => ∃ u, H d = some u ∧ L2.Mut (some u) ∧ ∀ od, CanFrz ds (upd H d (.frz od u))
theorem frz_all {pins : List (Addr × Obj)} {σ : L2.St} {s : Shared} : ∀ {ds : List Addr} {H : Hp}, Inv X pins σ H s → CanFrz ds H → ∃ H', FrzL ds H H' ∧ Inv X pins σ H' s
  | [], H, I, _ => ⟨H, .nil, I⟩
  | d :: ds, H, I, ⟨u, hd, mu, k⟩ => by
    obtain ⟨od, I2⟩ := I.lock hd mu
    obtain ⟨H', f, I3⟩ := frz_all I2 (k od)
    exact ⟨H', .cons od hd f, I3⟩
theorem FrzL.other {ds : List Addr} {H H' : Hp} (f : FrzL ds H H') : ∀ b, b ∉ ds → H' b = H b := by
  induction f with
  | nil => exact fun _ _ => rfl
  | @cons d ds H H' u od hd f ih =>
    intro b hb
    rw [ih b fun z => hb (List.mem_cons_of_mem _ z), upd_ne fun z => hb (by rw [z]; exact List.mem_cons_self)]
theorem FrzL.at_ {ds : List Addr} {H H' : Hp} (f : FrzL ds H H') (nd : ds.Nodup) : ∀ d ∈ ds, ∃ od u, H d = some u ∧ H' d = some (.frz od u) := by
  induction f with
  | nil => intro d hd; simp at hd
  | @cons d ds H H' u od hd f ih =>
    intro b hb
    rw [List.nodup_cons] at nd
    rcases List.mem_cons.mp hb with e | e
    · rw [e, f.other d nd.1, upd_same]
      exact ⟨od, u, hd, rfl⟩
    · obtain ⟨od', u', h1, h2⟩ := ih nd.2 b e
      rw [upd_ne fun z => nd.1 (by rw [← z]; exact e)] at h1
      exact ⟨od', u', h1, h2⟩
theorem canFrz {ds : List Addr} : ∀ {H : Hp}, ds.Nodup → (∀ d ∈ ds, ∃ u, H d = some u ∧ L2.Mut (some u)) → CanFrz ds H := by
  induction ds with
  | nil => exact fun _ _ => trivial
  | cons d ds ih =>
    intro H nd h
    rw [List.nodup_cons] at nd
    obtain ⟨u, h1, h2⟩ := h d List.mem_cons_self
    refine ⟨u, h1, h2, fun od => ih nd.2 fun b hb => ?_⟩
    obtain ⟨u', h3, h4⟩ := h b (List.mem_cons_of_mem _ hb)
    exact ⟨u', by rw [upd_ne fun z => nd.1 (by rw [← z]; exact hb)]; exact h3, h4⟩
/-- behind a statement (one that ends plainly) cells are frozen -/
def tFrzS (t : TS) : TS := fun D σ H => t { D with nx := fun σ' H' => ∃ ds, CanFrz ds H' ∧ ∀ H'', FrzL ds H' H'' → D.nx σ' H'' } σ H
theorem ps_frz {st : Stmt} {t : TS} (h : PS X st t) : PS X st (tFrzS t) := by
  refine ⟨fun pins s σ H D I hw => ?_⟩
  refine thn (h.run pins s σ H _ I hw) fun f s1 q => ?_
  cases f with
  | next =>
    obtain ⟨σ', H', I2, ds, c, q⟩ := q
    obtain ⟨H'', f, I3⟩ := frz_all I2 c
    exact ⟨σ', H'', I3, q H'' f⟩
  | brk => exact q
  | cont => exact q
  | ret v => exact q
end
end K2
namespace K1
open PySem L2 PySem.W PyProof.Rows
theorem ltc_dec : ∀ a b : List Nat, PySem.Spec.ltCps a b = decide (a < b)
  | [], [] => by simp [PySem.Spec.ltCps]
  | [], b :: bs => by simp [PySem.Spec.ltCps]
  | a :: as, [] => by simp [PySem.Spec.ltCps]
  | a :: as, b :: bs => by
    simp only [PySem.Spec.ltCps, ltc_dec as bs, List.cons_lt_cons_iff]
    by_cases h : a < b
    · simp [h]
    · by_cases e : a = b
      · subst e; simp
      · simp [h, e]
/-! sorted(texts) -/
theorem ltS_eq (a b : Str) : dataLt (.str a) (.str b) = ltb a b := by
  rw [dataLt_str, ← ltc_dec]
  rfl
def leS (a b : Str) : Bool := dataLe false PyData.str a b
theorem leS_eq (a b : Str) : leS a b = !ltb b a := by
  show (!dataLt (.str b) (.str a)) = _
  rw [ltS_eq]
theorem ltbS_irrefl (a : Str) : ltb a a = false := ltc_irrefl _
theorem ltbS_trans {a b c : Str} (h1 : ltb a b = true) (h2 : ltb b c = true) : ltb a c = true := ltc_trans h1 h2
theorem ltbS_asym {a b : Str} (h1 : ltb a b = true) : ltb b a = false := by
  cases h : ltb b a with
  | false => rfl
  | true => have := ltbS_trans h1 h; rw [ltbS_irrefl] at this; cases this
theorem ltbS_total {a b : Str} (h1 : ltb a b = false) (h2 : ltb b a = false) : a = b := str_ext (ltc_total h1 h2)
theorem sortS_asc {l : List Str} (nd : l.Nodup) : Asc (l.mergeSort leS) := by
  have tot : ∀ a b : Str, (leS a b || leS b a) = true := fun a b => by
    rw [leS_eq, leS_eq]
    cases h : ltb b a with
    | false => rfl
    | true => rw [ltbS_asym h]; rfl
  have tr : ∀ a b c : Str, leS a b = true → leS b c = true → leS a c = true := fun a b c h1 h2 => by
    rw [leS_eq] at h1 h2 ⊢
    cases h : ltb c a with
    | false => rfl
    | true =>
      have h1' : ltb b a = false := by cases z : ltb b a with | false => rfl | true => rw [z] at h1; cases h1
      have h2' : ltb c b = false := by cases z : ltb c b with | false => rfl | true => rw [z] at h2; cases h2
      cases z : ltb a b with
      | true => rw [ltbS_trans h z] at h2'; cases h2'
      | false =>
        have := ltbS_total z h1'
        subst this
        rw [h] at h2'; cases h2'
  have pw := List.pairwise_mergeSort tr tot l
  have nd2 : (l.mergeSort leS).Nodup := (List.mergeSort_perm l leS).nodup_iff.mpr nd
  refine List.Pairwise.imp₂ (R := fun a b => leS a b = true) (S := fun a b => a ≠ b) (fun {a b} h1 h2 => ?_) pw nd2
  cases h : ltb a b with
  | true => rfl
  | false =>
    rw [leS_eq] at h1
    have h3 : ltb b a = false := by cases z : ltb b a with | false => rfl | true => rw [z] at h1; cases h1
    exact absurd (ltbS_total h h3) h2
theorem dp_to_strs {K : PySem.W.Frag} {H : Hp} : ∀ {ys : List V} {l : List Str}, DpAll K H ys (l.map PyData.str) → ys = l.map V.str
  | ys, [], h => by cases h; rfl
  | ys, s :: l, h => by
    rw [List.map_cons] at h
    cases h with
    | cons h1 h2 =>
      cases h1
      rw [dp_to_strs h2]; rfl
/-- sorted(xs), xs a list of texts -/
def rSortedS (K : PySem.W.Frag) : List V → Hp → VK → Prop := fun vs H Q => ∃ (a : Addr) (l : List Str), vs = [V.ref a] ∧ SqL K H a (l.map V.str) ∧ ∀ p, H p = none → Q (.ref p) (upd H p (.lst ((l.mergeSort leS).map V.str)))
theorem cr_sortedS {X : Cx} (hu : X.A.units + 64 < cLine) : CallR X (.builtin "sorted") (rSortedS X.K) := by
  intro pins s σ H vs us Q I r h
  obtain ⟨a, l, rfl, hs, q⟩ := h
  refine K2.cr_sortedD hu pins s σ H _ us Q I r ⟨a, _, Str, l, PyData.str, rfl, hs, dp_strs l, AllAlike.of (fun b b' => by simp [alike]), Sortable.others (fun b => ⟨by simp, by simp⟩), fun b _ => by simp [PyData.depth], fun ys p pm hd hp => ?_⟩
  have e : ys = (l.mergeSort leS).map V.str := dp_to_strs (K := X.K) (H := H) hd
  rw [e]
  exact q p hp
end K1
namespace K3
open PySem L2 PySem.Spec PyProof.Rows
/-! dicts whose keys are tuples: setdefault, and a comprehension that makes one -/
section
variable {X : Cx} {pins : List (Addr × Obj)} {σ : L2.St} {H : Hp} {s : Shared} {D k0 : Addr} {kt : List (List L2.Key × V)} {k : List L2.Key} {v : V} {r : Value}
theorem dt_stored {h' : Heap} {xs : List (List L2.Key × Addr × Value)} {tk : Nat} (J : Inv X pins σ H s) (hD : H D = some (.dT kt)) (lt : kt.length < sizeLine) (ht : H k0 = some (.tup (k.map kV))) (rv : RelV v r)
    (no : (D == sysModules) = false) (rel : L2.KT H kt xs) (nw : h'.DictOfH (tupleKind (mixKind X.prog X.w)) D (storedH xs k k0 r)) (sb : Heap.SameBut D s.heap h') : Inv X pins σ (upd H D (.dT (putK kt k v))) { s with heap := h', toks := tk } := by
  have le : (putK kt k v).length ≤ sizeLine := Nat.le_trans (length_putK kt k v) lt
  obtain ⟨ob, es, ep, g1, g2, g3, g4, _, g6⟩ := nw
  refine d_write J (by rw [hD]; trivial) sb ⟨ob, g1⟩ ⟨le, no, _, (rel.put k ht rv).keeps fun c ys hc => ?_, ob, es, ep, g1, g2, g3, g4, g6⟩
  rw [upd_ne (ne_of hc hD fun z => nomatch z)]
  exact hc
theorem dictSetT {E : Value → Shared → Prop} {Q : Unit → Shared → Prop} (hu : X.A.units < cLine) (J : Inv X pins σ H s) (hD : H D = some (.dT kt)) (lt : kt.length < sizeLine) (ht : H k0 = some (.tup (k.map kV))) (rv : RelV v r)
    (go : ∀ t, Inv X pins σ (upd H D (.dT (putK kt k v))) t → Q () t) : wpAny (model X.prog X.w) X.A (dictSet D (.ref k0) r) Q E s := by
  obtain ⟨_, no, xs, rel, dd⟩ := dt_of J.hok hD
  have lx : xs.length ≤ sizeLine := by rw [← Paired.length rel]; exact Nat.le_of_lt lt
  exact wpAny_dictSet_heap (hsz := lx) (show (tupleKind (mixKind X.prog X.w)).room X.A from hu) (key_of J.hok ht) dd fun h' nw sb => go _ (dt_stored J hD lt ht rv no rel nw sb)
theorem setdefT {E : Value → Shared → Prop} {A : Around} {Q : Value → Shared → Prop} (hu : A.units + 1 < cLine) (J : Inv X pins σ H s) (hD : H D = some (.dT kt)) (lt : kt.length < sizeLine) (ht : H k0 = some (.tup (k.map kV))) (rv : RelV v r)
    (old : ∀ u, valV kt k = some u → ∀ y t, Inv X pins σ H t → RelV u y → Q y t) (new : valV kt k = none → ∀ y t, Inv X pins σ (upd H D (.dT (putK kt k v))) t → RelV v y → Q y t) :
    wpAny (model X.prog X.w) A (call (.builtin "dict.setdefault") [.ref D, .ref k0, r]) Q E s := by
  obtain ⟨_, no, xs, rel, dd⟩ := dt_of J.hok hD
  have lx : xs.length ≤ sizeLine := by rw [← Paired.length rel]; exact Nat.le_of_lt lt
  have rk := rel.val k
  refine call_setdefault_heap (hsz := lx) (tupleKind_room_in1 hu) (key_of J.hok ht) no dd (fun p hp => ?_) (fun hn h' nw sb => ?_)
  · rw [hp] at rk
    cases e : valV kt k with
    | none => rw [e] at rk; exact rk.elim
    | some u => rw [e] at rk; exact old u e _ _ (J.tok _) rk
  · rw [hn] at rk
    cases e : valV kt k with
    | some u => rw [e] at rk; exact rk.elim
    | none => exact new e _ _ (dt_stored J hD lt ht rv no rel nw sb) rv
end
/-- o.setdefault(e, f), the keys of o tuples -/
def tSdT (td ty tx : TE) : TE := fun σ H Q => td σ H fun d H1 => ∃ D, d = .ref D ∧ IsD H1 D ∧ ty σ H1 fun y H2 => tx σ H2 fun z H3 => ∃ (kt : List (List L2.Key × V)) (k : List L2.Key) (k0 : Addr), H3 D = some (.dT kt) ∧ y = .ref k0 ∧ H3 k0 = some (.tup (k.map kV)) ∧ kt.length < sizeLine ∧
  (∀ u, valV kt k = some u → Q u H3) ∧ (valV kt k = none → Q z (upd H3 D (.dT (putK kt k z))))
section
variable {X : Cx}
theorem pe_sdT {o e f : Expr} {td ty tx : TE} {p1 p2 : Pos} (hu : X.A.units + 1 < cLine) (po : PE X o td) (pk : PE X e ty) (pf : PE X f tx) (m : M2 X o "setdefault" p1 e f p2) : PE X (.Call (.Attribute o "setdefault" p1) [e, f] [] p2) (tSdT td ty tx) := by
  constructor
  intro pins s σ H Q J h
  refine wpAny_Call_method m.base m.few m.line PySem.F.plainAttrs_dict PySem.F.slot_dict_setdefault PySem.F.type_dict_setdefault ?_
  refine thn (po.run pins s σ H _ J h) ?_
  rintro a s1 ⟨d, H1, J1, ra, D, rfl, isd, q1⟩
  obtain rfl : a = Value.ref D := ra
  have tt := isD_at J1 isd
  refine ⟨tt.1, tt.2.1, ?_⟩
  rw [m.trees]
  refine Calls.callWith_builtin rfl (Calls.evalArgs_plain (Calls.spliced_cons ?_))
  refine thn (pk.run pins s1 σ H1 _ J1 q1) ?_
  rintro b s2 ⟨y, H2, J2, rb, q2⟩
  refine Calls.spliced_cons (thn (pf.run pins s2 σ H2 _ J2 q2) ?_)
  rintro c s3 ⟨z, H3, J3, rc, kt, k, k0, hD, rfl, hk, lt, q3, q4⟩
  obtain rfl : b = Value.ref k0 := rb
  exact Calls.spliced_nil (setdefT hu J3 hD lt hk rc (fun u hv y t J4 ry => ⟨u, _, J4, ry, q3 u hv⟩) fun hn y t J4 ry => ⟨z, _, J4, ry, q4 hn⟩)
/-- the same, with one way on -/
def tSdW (td ty tx : TE) : TE := fun σ H Q => td σ H fun d H1 => ∃ D, d = .ref D ∧ IsD H1 D ∧ ty σ H1 fun y H2 => tx σ H2 fun z H3 => ∃ (kt : List (List L2.Key × V)) (k : List L2.Key) (k0 : Addr), H3 D = some (.dT kt) ∧ y = .ref k0 ∧ H3 k0 = some (.tup (k.map kV)) ∧ kt.length < sizeLine ∧
  ∃ W : V → Hp → Prop, (∀ u, valV kt k = some u → W u H3) ∧ (valV kt k = none → W z (upd H3 D (.dT (putK kt k z)))) ∧ ∀ u H4, W u H4 → Q u H4
theorem pe_sdW {o e f : Expr} {td ty tx : TE} {p1 p2 : Pos} (hu : X.A.units + 1 < cLine) (po : PE X o td) (pk : PE X e ty) (pf : PE X f tx) (m : M2 X o "setdefault" p1 e f p2) : PE X (.Call (.Attribute o "setdefault" p1) [e, f] [] p2) (tSdW td ty tx) := by
  constructor
  intro pins s σ H Q J h
  refine wpAny_Call_method m.base m.few m.line PySem.F.plainAttrs_dict PySem.F.slot_dict_setdefault PySem.F.type_dict_setdefault (thn (po.run pins s σ H _ J h) ?_)
  rintro a s1 ⟨d, H1, J1, ra, D, rfl, isd, q1⟩
  obtain rfl : a = Value.ref D := ra
  have tt := isD_at J1 isd
  refine ⟨tt.1, tt.2.1, ?_⟩
  rw [m.trees]
  refine Calls.callWith_builtin rfl (Calls.evalArgs_plain (Calls.spliced_cons (thn (pk.run pins s1 σ H1 _ J1 q1) ?_)))
  rintro b s2 ⟨y, H2, J2, rb, q2⟩
  refine Calls.spliced_cons (thn (pf.run pins s2 σ H2 _ J2 q2) ?_)
  rintro c s3 ⟨z, H3, J3, rc, kt, k, k0, hD, rfl, hk, lt, W, q3, q4, q5⟩
  obtain rfl : b = Value.ref k0 := rb
  exact Calls.spliced_nil (setdefT hu J3 hD lt hk rc (fun u hv y t J4 ry => ⟨u, _, J4, ry, q5 _ _ (q3 u hv)⟩) fun hn y t J4 ry => ⟨z, _, J4, ry, q5 _ _ (q4 hn)⟩)
/-- {kx: vx for tg in ..}, the keys tuples -/
def tDcTV (wi : TI) (g : TG) (tk tv : TE) (own : List Nat) : TE := fun σ H Q => wi σ H fun J H1 => ∀ D, H1 D = none → ∃ W : Nat → Nat → Hp → Prop, (∃ m, W 0 m (upd H1 D (.dT []))) ∧ ∀ i m H, W i m H →
  (J.stop i H ∧ Q (.ref D) H) ∨ (J.go i H ∧ ∃ N : Hp → Prop, (∀ H', N H' → ∃ m', m' < m ∧ W (i + 1) m' H') ∧ ∀ x H', J.yld i H x H' → g x (wipe σ own) H' fun σ2 H2 => wipe σ2 own = wipe σ own ∧
    tk σ2 H2 fun y H4 => tv σ2 H4 fun z H5 => ∃ (kt : List (List L2.Key × V)) (k : List L2.Key) (k0 : Addr), y = .ref k0 ∧ H5 k0 = some (.tup (k.map kV)) ∧ H5 D = some (.dT kt) ∧ kt.length < sizeLine ∧ N (upd H5 D (.dT (putK kt k z))))
theorem dcTV_core {pins : List (Addr × Obj)} {s : Shared} {σ : L2.St} {H : Hp} {Q : VK} {kx vx tg iter : Expr} {scope : Scope} {own : List (Str × Nat)} {pos ps : Pos} {wi : TI} {g : TG} {tk tv : TE} {use : Option (Value → Sem Unit)} {Qf : Value → Shared → Prop} (calm : X.calm = true) (hu : X.A.units < cLine) (nd : X.N.Nodup) (J : Inv X pins σ H s) (pi : PI X tg iter wi) (ok : BlkOk X.N X.env.scope scope own)
    (pg : ∀ (s : Shared) (H : Hp) (C : Addr) (cl : List (Str × Addr)) (fp : List Addr), PG (X.blk s H scope (compEnvC scope cl C X.env) fp) tg g)
    (pk : ∀ (s : Shared) (H : Hp) (C : Addr) (cl : List (Str × Addr)) (fp : List Addr), PE (X.blk s H scope (compEnvC scope cl C X.env) fp) kx tk)
    (pv : ∀ (s : Shared) (H : Hp) (C : Addr) (cl : List (Str × Addr)) (fp : List Addr), PE (X.blk s H scope (compEnvC scope cl C X.env) fp) vx tv) (fold : ∀ x, foldedSetIterable iter X.env x = pure x)
    (h : tDcTV wi g tk tv (own.map (·.2)) σ H Q) (fin : ∀ D C t m H', Inv X pins σ H' t → Q (.ref D) H' → t.heap.Ns C m → FpOk X pins H' C → compPost (model X.prog X.w) X.A X.xe use Qf (.ref D) C (.ok .next) t) :
    wpAny (model X.prog X.w) X.A (comprehension (.DictComp kx vx [⟨tg, iter, [], 0⟩] scope pos) scope X.env ps newDict false (eval iter X.env) use) Qf X.xe s := by
  refine wpAny_comprehension_free (use := use) rfl fold (closure_ok fun y hy e => (ok.free y hy e).elim (fun z => J.ok.has _ (.inl z)) fun z => J.ok.has _ (.inr z)) ok.kind (fun y hy e => by rw [ok.uniq y hy, e])
    (thn (pi.run pins s σ H _ J h) fun a s1 ha => thn ha ?_)
  rintro b s2 ⟨it, fp, tn, I, H2, rfl, J2, T, st2, f2, q⟩
  refine wpAny_newObj_type (newEnv_comp ?_)
  obtain ⟨D, hD⟩ : ∃ D, D = s2.heap.objs.size := ⟨_, rfl⟩
  rw [← hD]
  obtain ⟨W, ⟨m0, w0⟩, turn⟩ := q D (by rw [hD]; exact J2.hok.fresh (Nat.le_refl _))
  have below : ∀ c ∈ fp, c < s2.heap.objs.size := fun c hc => let ⟨_, e, _⟩ := T.obj _ _ st2 c hc; Heap.lt_size e
  obtain ⟨s3, hs3⟩ : ∃ t : Shared, t = { s2 with heap := s2.heap.push { cls := .type "dict", data := .dict #[] } } := ⟨_, rfl⟩
  rw [← hs3]
  have h3 : s3.heap = s2.heap.push { cls := .type "dict", data := .dict #[] } := by rw [hs3]
  have J3 : Inv X pins σ (upd H2 D (.dT [])) s3 := by
    rw [hs3, hD]
    exact J2.laid (t' := s2.toks) (fun _ _ e => Heap.get?_push_of_some _ e) (Nat.le_refl _) (dt_empty s2.heap J2.big)
  have f3 : ∀ c ∈ fp, FpOk X pins (upd H2 D (.dT [])) c ∧ c < s3.heap.objs.size := fun c hc => by
    have lt := below c hc
    refine ⟨⟨?_, (f2 c hc).2⟩, by rw [h3, Heap.size_push]; exact Nat.lt_succ_of_lt lt⟩
    rw [upd_ne (by rw [hD]; exact Nat.ne_of_lt lt)]
    exact (f2 c hc).1
  have st3 : tn 0 s3.heap := T.keep _ _ _ st2 fun c _ o e => by rw [h3]; exact Heap.get?_push_of_some _ e
  obtain ⟨H3, hH3⟩ : ∃ K : Hp, K = upd H2 D (.dT []) := ⟨_, rfl⟩
  rw [← hH3] at J3 w0 f3
  have J4 := block_start J3 ok nd f3
  obtain ⟨C, hC⟩ : ∃ c : Addr, c = s3.heap.objs.size := ⟨_, rfl⟩
  have qg := pg s3 H3 C (cellsFrom (C + 1) scope.names (cloFrom X.env.cells scope.names [])) fp
  have qk := pk s3 H3 C (cellsFrom (C + 1) scope.names (cloFrom X.env.cells scope.names [])) fp
  have qv := pv s3 H3 C (cellsFrom (C + 1) scope.names (cloFrom X.env.cells scope.names [])) fp
  rw [← hC] at J4
  show codeAny _ _ (.compStart (.DictComp kx vx [⟨tg, iter, [], 0⟩] scope pos) 0 (.ref it) (.ref D) (compEnvC scope (cellsFrom (s3.heap.objs.size + 1) scope.names (cloFrom X.env.cells scope.names [])) s3.heap.objs.size X.env)) _ { s3 with heap := pushCells (s3.heap.push { cls := .type "dict", data := .dict #[] }) scope.names }
  rw [← hC]
  obtain ⟨ce, hce⟩ : ∃ c : Env, c = compEnvC scope (cellsFrom (C + 1) scope.names (cloFrom X.env.cells scope.names [])) C X.env := ⟨_, rfl⟩
  have cl : ce.locals = C := by rw [hce]; rfl
  rw [← hce] at qg qk qv J4 ⊢
  obtain ⟨s4, hs4⟩ : ∃ t : Shared, t = { s3 with heap := pushCells (s3.heap.push { cls := .type "dict", data := .dict #[] }) scope.names } := ⟨_, rfl⟩
  rw [← hs4] at J4 ⊢
  have st4 : tn 0 s4.heap := T.keep _ _ _ st3 fun c _ o e => by rw [hs4]; exact pushCells_keeps _ _ _ _ (Heap.get?_push_of_some _ e)
  have fresh : ∀ {σ' : L2.St} {H' : Hp} {t : Shared}, Inv (X.blk s3 H3 scope ce fp) [] σ' H' t → (∀ c ∈ fp, H' c = none) → ∀ c ∈ fp, FpOk (X.blk s3 H3 scope ce fp) [] H' c := by
    intro σ' H' t K hn c hc
    have z := K.ok.exf c hc
    exact ⟨hn c hc, z.1, K.ok.exfs c hc, .inl hc, fun x o e => z.2 x o e, fun p hp => absurd (show p ∈ ([] : List (Addr × Obj)) ++ [] from hp) (by simp)⟩
  suffices loop : codeAny (model X.prog X.w) X.A (.compLoop (.DictComp kx vx [⟨tg, iter, [], 0⟩] scope pos) 0 (.ref it) (.ref D) ce) (compPost (model X.prog X.w) X.A X.xe use Qf (.ref D) C) s4 from codeAny_compStart_dict loop (T.self X.A 0 _ _ _ st4 loop)
  refine compLoop_anyD (fun n t => ∃ i H', Inv (X.blk s3 H3 scope ce fp) [] (wipe σ (own.map (·.2))) H' t ∧ tn i t.heap ∧ (∀ c ∈ fp, H' c = none) ∧ W i n H') ?_ m0 ⟨0, H3, J4, st4, fun c hc => (f3 c hc).1.1, w0⟩
  rintro n s5 ⟨i, H5, J5, st5, n5, w5⟩
  rcases turn i n H5 w5 with ⟨halt, qq⟩ | ⟨go, N, hN, step⟩
  · refine thnF (T.done (X.blk s3 H3 scope ce fp) rfl rfl rfl calm i [] s5 _ H5 (fun _ _ => False) J5 (fresh J5 n5) st5 halt) ?_
    rintro r s6 ⟨rfl, J6⟩
    have J7 : Inv X pins σ H5 s6 := J3.call' (ch := fp) J6.os J6.base J6.hok J6.bare fun c hc => let z := (f3 c hc).1.2; ⟨z.2.2.1, z.1, z.2.2.2.1, z.2.2.2.2⟩
    obtain ⟨m, ns, _⟩ := J6.loc
    have ns' : s6.heap.Ns ce.locals m := ns
    rw [cl] at ns'
    have nC : H5 C = none := by rw [← cl]; exact J6.free
    exact fin D C s6 m H5 J7 qq ns' (J3.fpOk (Nat.le_of_eq hC.symm) nC)
  · refine thnF (T.item (X.blk s3 H3 scope ce fp) rfl rfl rfl calm i [] s5 _ H5 (fun _ _ => False) J5 (fresh J5 n5) st5 go) ?_
    rintro r s6 ⟨u, rfl, h6⟩
    refine thnF h6 ?_
    rintro _ s7 ⟨x, H7, J7, r7, y7, st7, n7⟩
    have J7' := J7.pinned (fresh J7 n7) (T.obj _ _ st7)
    refine thnF (qg.run _ s7 _ H7 x u _ J7' r7 (step x H7 y7)) ?_
    rintro _ s8 ⟨σ8, H8, J8, hw8, q8⟩
    refine wpAny_tests_nil ?_
    simp only [if_true]
    refine thnF (qk.run _ s8 σ8 H8 _ J8 q8) ?_
    rintro kk s9 ⟨y, H9, J9, r9, q9⟩
    refine thnF (qv.run _ s9 σ8 H9 _ J9 q9) ?_
    rintro vv s10 ⟨z, H10, J10, r10, kt, k, k0, rfl, hk0, hDT, lt, nx⟩
    obtain rfl : kk = Value.ref k0 := r9
    refine dictSetT (X := X.blk s3 H3 scope ce fp) hu J10 hDT lt hk0 r10 fun s11 J11 => ?_
    obtain ⟨m', lm, w'⟩ := hN _ nx
    have pin : ∀ c ∈ fp, ∀ o, s7.heap.get? c = some o → s11.heap.get? c = some o ∧ (upd H10 D (.dT (putK kt k z))) c = none := fun c hc o e =>
      let p := J11.pin (c, o) (List.mem_append_right _ (List.mem_append_right _ (mem_pinsAt hc e)))
      ⟨p.1, p.2.1⟩
    have el : (wipe σ (own.map (·.2))).length = σ8.length := by rw [← hw8, wipe_length]
    refine ⟨m', lm, i + 1, _, (J11.unpinned (pins := [])).weak el (fun j v e => (wipe_some (by rw [hw8]; exact e)).1), T.keep _ _ _ st7 fun c hc o e => (pin c hc o e).1, fun c hc => ?_, w'⟩
    obtain ⟨o, e, _⟩ := T.obj _ _ st7 c hc
    exact (pin c hc o e).2
end
theorem pe_dcTV {kx vx tg iter : Expr} {scope : Scope} {own : List (Str × Nat)} {pos : Pos} {wi : TI} {g : TG} {tk tv : TE} (calm : X.calm = true) (hu : X.A.units < cLine) (nd : X.N.Nodup) (pi : PI X tg iter wi) (ok : BlkOk X.N X.env.scope scope own)
    (pg : ∀ (s : Shared) (H : Hp) (C : Addr) (cl : List (Str × Addr)) (fp : List Addr), PG (X.blk s H scope (compEnvC scope cl C X.env) fp) tg g)
    (pk : ∀ (s : Shared) (H : Hp) (C : Addr) (cl : List (Str × Addr)) (fp : List Addr), PE (X.blk s H scope (compEnvC scope cl C X.env) fp) kx tk)
    (pv : ∀ (s : Shared) (H : Hp) (C : Addr) (cl : List (Str × Addr)) (fp : List Addr), PE (X.blk s H scope (compEnvC scope cl C X.env) fp) vx tv) (fold : ∀ x, foldedSetIterable iter X.env x = pure x := by intro _; rfl) :
    PE X (.DictComp kx vx [⟨tg, iter, [], 0⟩] scope pos) (tDcTV wi g tk tv (own.map (·.2))) := by
  constructor
  intro pins s σ H Q J h
  rw [arm_eval_DictComp]
  refine dcTV_core calm hu nd J pi ok pg pk pv fold h fun D C t m H' J2 q ns f => ⟨m, ns, fun h2 sb => ?_⟩
  obtain ⟨g0, g1, g2, g3, g4, g5⟩ := f
  exact ⟨.ref D, H', J2.turned (t' := t.toks) (fun c o hc e => (sb.2 c hc).trans e) g0 g1 g3 g4 g5, rfl, q⟩
/-- y = {kx: vx for tg in ..}, the keys tuples -/
theorem ps_setDcTV {i : Nat} {y : Str} {py spos : Pos} {kx vx tg iter : Expr} {scope : Scope} {own : List (Str × Nat)} {pos : Pos} {wi : TI} {g : TG} {tk tv : TE} (calm : X.calm = true) (hu : X.A.units < cLine) (nd : X.N.Nodup) (hy : X.N[i]? = some y) (yl : X.env.scope.names.lookup y = some .local) (sw : swapsWith (.DictComp kx vx [⟨tg, iter, [], 0⟩] scope pos) (some (.Name y py)) spos.line X.env = pure true) (pi : PI X tg iter wi) (ok : BlkOk X.N X.env.scope scope own)
    (pg : ∀ (s : Shared) (H : Hp) (C : Addr) (cl : List (Str × Addr)) (fp : List Addr), PG (X.blk s H scope (compEnvC scope cl C X.env) fp) tg g)
    (pk : ∀ (s : Shared) (H : Hp) (C : Addr) (cl : List (Str × Addr)) (fp : List Addr), PE (X.blk s H scope (compEnvC scope cl C X.env) fp) kx tk)
    (pv : ∀ (s : Shared) (H : Hp) (C : Addr) (cl : List (Str × Addr)) (fp : List Addr), PE (X.blk s H scope (compEnvC scope cl C X.env) fp) vx tv) (fold : ∀ x, foldedSetIterable iter X.env x = pure x := by intro _; rfl) :
    PS X (.Assign [.Name y py] (.DictComp kx vx [⟨tg, iter, [], 0⟩] scope pos) spos) (tAsg (tDcTV wi g tk tv (own.map (·.2))) (gName i)) := by
  constructor
  intro pins s σ H D J h
  rw [exec_Assign_Name_used _ _ _ _ sw]
  refine wpAny_bind (wpAny_standAt (wpAny_bind ?_))
  show wpAny _ X.A (do let _ ← comprehension (.DictComp kx vx [⟨tg, iter, [], 0⟩] scope pos) scope X.env (firstIterPos [⟨tg, iter, [], 0⟩] pos) newDict false (eval iter X.env) (some (assign (.Name y py) X.env))) _ _ s
  have h : tDcTV wi g tk tv (own.map (·.2)) σ H (fun x H1 => gName i x σ H1 D.nx) := h
  refine wpAny_bind (thn (dcTV_core (Qf := fun _ t => SP X pins D .next t) calm hu nd J pi ok pg pk pv fold h fun L C t m H' J2 q ns f => ?_) fun _ t hq => wpAny_pure (wpAny_pure hq))
  show wpAny _ _ (assign (.Name y py) X.env (.ref L)) _ _ _
  refine wpAny_assign_Name (store_ok2 (v := V.ref L) J2 nd hy (.inl yl) rfl (fun t2 J3 ⟨a, sb, ha⟩ => ?_) (.inr yl))
  obtain ⟨g0, g1, g2, g3, g4, g5⟩ := f
  have ca : C ≠ a := ha.elim (fun z => by rw [z]; exact g1) fun z e => g4 y a z e.symm
  exact ⟨m, ns.sameBut sb ca, fun h3 sb3 => ⟨_, H', J3.turned (t' := t2.toks) (fun c o hc e => (sb3.2 c hc).trans e) g0 g1 g3 g4 g5, q⟩⟩
/-- over a walk: W by the turn and the heap (the new dict at D within) -/
theorem dcTV_it {J : It} {n : Nat} {G : Hp → Prop} {Y : Nat → Hp → V → Hp → Prop} (w : Walk J n G Y) {g : TG} {tk tv : TE} {vs : List Nat} {σ : L2.St} {H1 : Hp} {D : Addr} {Qd : Hp → Prop} (W : Nat → Hp → Prop) (h0 : W 0 (upd H1 D (.dT []))) (hG : ∀ i H, i ≤ n → W i H → G H)
    (hs : ∀ i x H H', i < n → W i H → Y i H x H' → g x (wipe σ vs) H' fun σ2 H2 => wipe σ2 vs = wipe σ vs ∧ tk σ2 H2 fun y H4 => tv σ2 H4 fun z H5 => ∃ (kt : List (List L2.Key × V)) (k : List L2.Key) (k0 : Addr), y = .ref k0 ∧ H5 k0 = some (.tup (k.map kV)) ∧ H5 D = some (.dT kt) ∧ kt.length < sizeLine ∧ W (i + 1) (upd H5 D (.dT (putK kt k z)))) (hd : ∀ H, W n H → Qd H) :
    ∃ V' : Nat → Nat → Hp → Prop, (∃ m, V' 0 m (upd H1 D (.dT []))) ∧ ∀ i m H, V' i m H →
      (J.stop i H ∧ Qd H) ∨ (J.go i H ∧ ∃ N : Hp → Prop, (∀ H', N H' → ∃ m', m' < m ∧ V' (i + 1) m' H') ∧ ∀ x H', J.yld i H x H' → g x (wipe σ vs) H' fun σ2 H2 => wipe σ2 vs = wipe σ vs ∧
        tk σ2 H2 fun y H4 => tv σ2 H4 fun z H5 => ∃ (kt : List (List L2.Key × V)) (k : List L2.Key) (k0 : Addr), y = .ref k0 ∧ H5 k0 = some (.tup (k.map kV)) ∧ H5 D = some (.dT kt) ∧ kt.length < sizeLine ∧ N (upd H5 D (.dT (putK kt k z)))) := by
  refine ⟨fun i m H => m + i = n ∧ W i H, ⟨n, rfl, h0⟩, ?_⟩
  rintro i m H ⟨e, p⟩
  have q := hG i H (by omega) p
  rcases Nat.lt_or_ge i n with lt | ge
  · exact .inr ⟨w.goes i H lt q, W (i + 1), fun H' p' => ⟨n - (i + 1), by omega, by omega, p'⟩, fun x H' y => hs i x H H' lt p (w.yields i H x H' lt q y)⟩
  · obtain rfl : i = n := by omega
    exact .inl ⟨w.stops H q, hd H p⟩
theorem call_len_seqK {X : Cx} {K : PySem.W.Frag} (h : X.K = K) : CallR X (.builtin "len") (fun xs H Q => ∃ p ys, xs = [.ref p] ∧ (SqL K H p ys ∨ SqT K H p ys) ∧ Q (.int ((ys.length : Nat) : Int)) H) := by subst h; exact call_len_seq
/-- one way on behind a statement, by a predicate of the prover's choice -/
def tWay (t : TS) : TS := fun D σ H => ∃ W : L2.St → Hp → Prop, t { D with nx := W } σ H ∧ ∀ σ' H', W σ' H' → D.nx σ' H'
theorem ps_way {X : Cx} {st : Stmt} {t : TS} (h : PS X st t) : PS X st (tWay t) := ⟨fun pins s σ H D I ⟨W, h1, h2⟩ => thn (h.run pins s σ H _ I h1) fun f s' q => by
  cases f <;> first
    | (obtain ⟨σ', H', J, w⟩ := q; exact ⟨σ', H', J, h2 σ' H' w⟩)
    | exact q⟩
/-- the same for a test -/
def tWayT (t : TT) : TT := fun σ H Q => ∃ W : Bool → Hp → Prop, t σ H W ∧ ∀ b H', W b H' → Q b H'
theorem pt_way {X : Cx} {e : Expr} {t : TT} (h : PT X e t) : PT X e (tWayT t) := ⟨fun pins s σ H Q I ⟨W, h1, h2⟩ => thn (h.run pins s σ H _ I h1) fun b s' ⟨H', J, w⟩ => ⟨H', J, h2 b H' w⟩⟩
/-- and for a value -/
def tWayE (t : TE) : TE := fun σ H Q => ∃ W : V → Hp → Prop, t σ H W ∧ ∀ v H', W v H' → Q v H'
theorem pe_way {X : Cx} {e : Expr} {t : TE} (h : PE X e t) : PE X e (tWayE t) := ⟨fun pins s σ H Q I ⟨W, h1, h2⟩ => thn (h.run pins s σ H _ I h1) fun b s' ⟨v, H', J, r, w⟩ => ⟨v, H', J, r, h2 v H' w⟩⟩
end K3
namespace K1
open PySem L2
/-! dicts whose keys are tuples, by a list of keys and a function -/
section
variable {κ : Type} [DecidableEq κ]
def addK (K : List κ) (k : κ) : List κ := if k ∈ K then K else K ++ [k]
theorem mem_addK {K : List κ} {k j : κ} : j ∈ addK K k ↔ j ∈ K ∨ j = k := by
  unfold addK
  split
  · rename_i h
    exact ⟨.inl, fun z => z.elim id fun e => by rw [e]; exact h⟩
  · rw [List.mem_append, List.mem_singleton]
theorem addK_of {K : List κ} {k : κ} (h : k ∈ K) : addK K k = K := if_pos h
theorem addK_new {K : List κ} {k : κ} (h : k ∉ K) : addK K k = K ++ [k] := if_neg h
theorem addK_nd {K : List κ} {k : κ} (h : K.Nodup) : (addK K k).Nodup := by
  unfold addK
  split
  · exact h
  · rename_i n
    exact List.nodup_append.mpr ⟨h, by simp, fun a ha b hb e => n (by rw [← List.mem_singleton.mp hb, ← e]; exact ha)⟩
theorem addK_len {K : List κ} {k : κ} : (addK K k).length ≤ K.length + 1 := by
  unfold addK
  split
  · omega
  · rw [List.length_append]; exact Nat.le_refl _
def setF {β : Type} (g : κ → β) (k : κ) (v : β) : κ → β := fun j => if j = k then v else g j
theorem setF_same {β : Type} {g : κ → β} {k : κ} {v : β} : setF g k v k = v := if_pos rfl
theorem setF_ne {β : Type} {g : κ → β} {k j : κ} {v : β} (h : j ≠ k) : setF g k v j = g j := if_neg h
/-- the pairs -/
def ktF (key : κ → List Key) (K : List κ) (g : κ → V) : List (List Key × V) := K.map fun j => (key j, g j)
theorem ktF_len {key : κ → List Key} {K : List κ} {g : κ → V} : (ktF key K g).length = K.length := List.length_map _
theorem ktF_val {key : κ → List Key} (inj : ∀ a b, key a = key b → a = b) {g : κ → V} (k : κ) : ∀ K : List κ, valV (ktF key K g) (key k) = if k ∈ K then some (g k) else none
  | [] => by simp [ktF, valV]
  | j :: K => by
    have ih := ktF_val inj (g := g) k K
    unfold ktF valV at ih ⊢
    rw [List.map_cons, List.find?_cons]
    by_cases e : key j = key k
    · have : j = k := inj _ _ e
      subst this
      simp
    · rw [decide_eq_false e]
      have ne : ¬ k = j := fun z => e (by rw [z])
      rw [ih]
      by_cases h : k ∈ K <;> simp [h, ne]
theorem ktF_val_some {key : κ → List Key} (inj : ∀ a b, key a = key b → a = b) {g : κ → V} {k : κ} {K : List κ} (h : k ∈ K) : valV (ktF key K g) (key k) = some (g k) := by rw [ktF_val inj, if_pos h]
theorem ktF_put {key : κ → List Key} (inj : ∀ a b, key a = key b → a = b) {g : κ → V} {K : List κ} (k : κ) (v : V) : putK (ktF key K g) (key k) v = ktF key (addK K k) (setF g k v) := by
  unfold putK
  rw [valV_any, ktF_val inj]
  by_cases h : k ∈ K
  · rw [if_pos h, addK_of h]
    show (if true = true then _ else _) = _
    rw [if_pos rfl]
    unfold ktF
    rw [List.map_map]
    refine List.map_congr_left fun j _ => ?_
    show (if key j = key k then (key j, v) else (key j, g j)) = (key j, setF g k v j)
    by_cases e : j = k
    · subst e; rw [if_pos rfl, setF_same]
    · rw [if_neg fun z => e (inj _ _ z), setF_ne e]
  · rw [if_neg h, addK_new h]
    show (if false = true then _ else _) = _
    rw [if_neg (by decide)]
    unfold ktF
    rw [List.map_append]
    congr 1
    · refine List.map_congr_left fun j hj => ?_
      rw [setF_ne fun z => h (by rw [← z]; exact hj)]
    · show [(key k, v)] = [(key k, setF g k v k)]
      rw [setF_same]
theorem ktF_congr {key : κ → List Key} {K : List κ} {g g' : κ → V} (h : ∀ k ∈ K, g k = g' k) : ktF key K g = ktF key K g' := List.map_congr_left fun j hj => by rw [h j hj]
theorem ktF_at {key : κ → List Key} {K : List κ} {g : κ → V} {i : Nat} {k : List Key} {v : V} (h : (ktF key K g)[i]? = some (k, v)) : ∃ j, K[i]? = some j ∧ k = key j ∧ v = g j := by
  unfold ktF at h
  rw [List.getElem?_map] at h
  obtain ⟨j, hj, e⟩ := Option.map_eq_some_iff.mp h
  cases e
  exact ⟨j, hj, rfl, rfl⟩
end
theorem But.sput {D : List Addr} {H H' : Hp} {p : Addr} {o : HO} (b : But D H H') (hp : H p = none) : But D H (upd H' p o) := fun c u n h => by
  rw [upd_ne (ne_of_none h hp)]; exact b c u n h
theorem none_but {D : List Addr} {H H' : Hp} {p : Addr} (b : But D H H') (n : p ∉ D) (h : H' p = none) : H p = none := by
  cases e : H p with
  | none => rfl
  | some o => rw [b p o n e] at h; cases h
/-- a role and a thing, as a key -/
def kyE (x : Str × Nat) : List Key := [Sum.inr x.1, Sum.inl (x.2 : Int)]
theorem kyE_inj (a b : Str × Nat) (h : kyE a = kyE b) : a = b := by
  obtain ⟨r, i⟩ := a
  obtain ⟨r', i'⟩ := b
  unfold kyE at h
  have h1 : r = r' := Sum.inr.inj (List.cons.inj h).1
  have h2 := Sum.inl.inj (List.cons.inj (List.cons.inj h).2).1
  have h2' : i = i' := Int.ofNat.inj h2
  rw [h1, h2']
/-- a list of tuples -/
def refsT {β : Type} (ps : List (Addr × β)) : List V := ps.map fun x => V.ref x.1
theorem refsT_at {β : Type} {ps : List (Addr × β)} {i : Nat} {v : V} (h : (refsT ps)[i]? = some v) : ∃ y, ps[i]? = some y ∧ v = .ref y.1 := by
  unfold refsT at h
  rw [List.getElem?_map] at h
  obtain ⟨y, hy, e⟩ := Option.map_eq_some_iff.mp h
  exact ⟨y, hy, e.symm⟩
theorem refsT_len {β : Type} {ps : List (Addr × β)} : (refsT ps).length = ps.length := List.length_map _
def TupL {β : Type} (enc : β → List V) (H : Hp) (a : Addr) (xs : List β) : Prop := ∃ ps : List (Addr × β), H a = some (.lst (refsT ps)) ∧ (∀ p ∈ ps, H p.1 = some (.tup (enc p.2))) ∧ ps.map (·.2) = xs
section
variable {β : Type} {enc : β → List V} {H H' : Hp} {a : Addr} {xs : List β}
theorem TupL.nil (h : H a = some (.lst [])) : TupL enc H a [] := ⟨[], h, (fun p hp => by cases hp), rfl⟩
theorem TupL.lst (h : TupL enc H a xs) : ∃ ys, H a = some (.lst ys) ∧ ys.length = xs.length := by
  obtain ⟨ps, h1, _, h3⟩ := h
  exact ⟨_, h1, by rw [refsT_len, ← h3, List.length_map]⟩
theorem TupL.keep (h : TupL enc H a xs) (e1 : ∀ o, H a = some o → H' a = some o) (e2 : TSame H H') : TupL enc H' a xs := by
  obtain ⟨ps, h1, h2, h3⟩ := h
  exact ⟨ps, e1 _ h1, fun p hp => e2 _ _ (h2 p hp), h3⟩
theorem TupL.same (h : TupL enc H a xs) (e : Same H H') : TupL enc H' a xs := h.keep (e _) (Same.t e)
/-- one more at its end -/
theorem TupL.app (h : TupL enc H a xs) {t : Addr} {x : β} (ht : H t = some (.tup (enc x))) : ∃ ys, H a = some (.lst ys) ∧ ys.length = xs.length ∧ TupL enc (upd H a (.lst (ys ++ [.ref t]))) a (xs ++ [x]) := by
  obtain ⟨ps, h1, h2, h3⟩ := h
  refine ⟨refsT ps, h1, by rw [refsT_len, ← h3, List.length_map], ps ++ [(t, x)], ?_, fun p hp => ?_, ?_⟩
  · rw [upd_same]; simp [refsT]
  · have ne : ∀ (b : Addr) (u : List V), H b = some (.tup u) → b ≠ a := fun b u e z => by rw [z, h1] at e; cases e
    rcases List.mem_append.mp hp with z | z
    · rw [upd_ne (ne _ _ (h2 p z))]; exact h2 p z
    · rw [List.mem_singleton.mp z]
      show upd H a _ t = _
      rw [upd_ne (ne _ _ ht)]; exact ht
  · rw [List.map_append, h3]; rfl
theorem upd_t {H : Hp} {a : Addr} {o u : HO} (h : H a = some u) (n : ∀ xs, u ≠ .tup xs) : TSame H (upd H a o) := fun b xs e => by
  rw [upd_ne fun z => by rw [z, h] at e; exact n xs (Option.some.inj e)]; exact e
end
end K1
namespace K1
open PySem L2
mutual
def noN : T → Bool
  | .atom s => !decide (s = "none")
  | .ex _ t => noN t
  | .and l => noNs l
def noNs : List T → Bool
  | [] => true
  | t :: l => noN t && noNs l
end
theorem and_ne_someT : ¬ V.str ("and" : Str) = V.str "some" := fun z => absurd (V.str.inj z) (by decide +kernel)
theorem noNs_snoc : ∀ {l : List T} {k : T}, noNs (l ++ [k]) = (noNs l && noN k)
  | [], k => by simp [noNs]
  | t :: l, k => by rw [List.cons_append, noNs, noNs, noNs_snoc, Bool.and_assoc]
section
variable {P : Program} {w : World} {K : PySem.W.Frag} {mg : Str → Option Value} {base : Heap}
/-! ### depth_of -/
/-! ### is_without_none -/
def isNo : T → Bool
  | .atom s => decide (s = "none")
  | _ => false
theorem isNo_iff {t : T} : isNo t = true ↔ t = .atom "none" := by
  cases t with
  | atom s => simp [isNo]
  | ex r t => simp [isNo]
  | and l => simp [isNo]
theorem eqv_none (t : T) : PyData.eqv (datT t) (.str "none") = isNo t := by
  cases t with
  | atom s => rw [datT]; simp [PyData.eqv, isNo]; rw [Bool.eq_iff_iff]; simp
  | ex r t => rw [datT]; simp [PyData.eqv, isNo]
  | and l => rw [datT]; simp [PyData.eqv, isNo]
def spNoN : Nat → Sp
  | 0 => fun _ _ _ _ => False
  | n + 1 => fun vs H Q _ => ∃ v t, vs = [v] ∧ TAt H t v ∧ CW t ∧ ns t ≤ n ∧ n ≤ 60 ∧ ∀ H', Same H H' → Q (.bl (noN t)) H'
theorem ok_noN (D : Defs K mg) : ∀ n, FnOk P w K mg base CX0 (n + 1) D.d_is_without_none.f D.d_is_without_none.fd ["concept"] (spNoN n)
  | 0 => none_left fun _ _ _ _ h => h
  | n + 1 => by
    have G := ok_noN D n
    have GI := ok_innerT (P := P) (w := w) (base := base) D
    refine D.d_is_without_none.F.ok sc_is_without_none (fun vs H Q E h => ?_) (fun cdv A outer s H vs Q E hr h => ?_)
    · obtain ⟨v, c, rfl, _⟩ := h
      rfl
    obtain ⟨v, c, rfl, hc, hw, hn, n60, q⟩ := h
    have hr1 : Room 1 _ := hr.mono (by omega)
    refine ⟨_, (pss_cons (ps_if (pt_cmpR (op_eqD hr.units) (pv 0) pe_str (nomark _)) (pss_one (ps_ret pe_bl)) pss_nil)
      (pss_cons (ps_for PassesOwn.never rfl (pi_tup (pe_call GI hr1 rfl D.d_inner.m D.d_inner.F.kp D.d_inner.b .nil pass0 (pa_cons (pv 0) pa_nil))) (pg_name (i := 1) sc_is_without_none.nd rfl (Or.inl rfl)) (pss_one (ps_if (pt_not (pt_val (pe_call G hr rfl D.d_is_without_none.m D.d_is_without_none.F.kp D.d_is_without_none.b .nil pass0 (pa_cons (pv 1) pa_nil)))) (pss_one (ps_ret pe_bl)) pss_nil)))
      (pss_one (ps_ret pe_bl)))), ?_⟩
    refine ⟨_, rfl, datT c, .str "none", dp_T hc, .str _, shaped_T hw (by omega), by decide +kernel, _, rfl, ?_⟩
    rw [eqv_none]
    by_cases e : c = .atom "none"
    · rw [isNo_iff.mpr e]
      subst e
      have z := q H (Same.refl H)
      rw [noN, decide_eq_true rfl] at z
      exact iteT z
    · rw [show isNo c = false from Bool.eq_false_iff.mpr fun z => e (isNo_iff.mp z)]
      refine iteF ⟨_, rfl, v, c, rfl, hc, hw, fun p ws H1 g1 hp hk => ⟨p, rfl, ⟨_, SqT.of hp⟩, for_tup (xs := ws) (fun i σ H2 => Same H1 H2 ∧ (∃ o, σ = [some v, o]) ∧ noNs ((kidsT c).take i) = true) ⟨Same.refl _, ⟨none, rfl⟩, by rw [List.take_zero, noNs]⟩ (fun i σ H2 _ hh => SqT.of (hh.1 _ _ hp)) ?_ ?_⟩⟩
      · rintro i x σ H2 hi ⟨g, ⟨o, rfl⟩, hno⟩
        obtain ⟨k, hk1, hk2⟩ := paired_get hk hi
        have kin := List.mem_of_getElem? hk1
        have kn := ns_kids kin
        cases n with
        | zero => omega
        | succ n =>
          refine ⟨_, rfl, x, k, rfl, hk2.same g, cw_kids hw kin, by omega, by omega, fun H3 g3 => ⟨_, rfl, ?_⟩⟩
          cases ek : noN k with
          | true =>
            refine iteF ⟨g.trans g3, ⟨_, rfl⟩, ?_⟩
            rw [take_more hk1, noNs_snoc, hno, ek]; rfl
          | false =>
            have z := q H3 ((g1.trans g).trans g3)
            have : noN c = false := by
              have all : ∀ {l : List T} {u : T}, u ∈ l → noN u = false → noNs l = false := by
                intro l u hu hf
                cases ez : noNs l with
                | false => rfl
                | true =>
                  have : ∀ {l : List T}, noNs l = true → ∀ u ∈ l, noN u = true := by
                    intro l
                    induction l with
                    | nil => intro _ u hu; cases hu
                    | cons t l ih =>
                      intro h u hu
                      rw [noNs, Bool.and_eq_true] at h
                      rcases List.mem_cons.mp hu with rfl | hu
                      · exact h.1
                      · exact ih h.2 u hu
                  rw [this ez u hu] at hf; cases hf
              cases c with
              | atom s => cases kin
              | ex r t => rw [noN]; rw [kidsT, List.mem_singleton] at kin; rw [← kin]; exact ek
              | and l => rw [noN]; exact all kin ek
            rw [this] at z
            exact iteT z
      · rintro σ H2 ⟨g, ⟨o, rfl⟩, hno⟩
        have el : (kidsT c).take ws.length = kidsT c := by rw [← paired_len hk, List.take_length]
        rw [el] at hno
        have z := q H2 (g1.trans g)
        have : noN c = true := by
          cases c with
          | atom s => rw [noN, decide_eq_false fun z => e (by rw [z])]; rfl
          | ex r t => rw [noN]; rw [kidsT, noNs, noNs, Bool.and_true] at hno; exact hno
          | and l => rw [noN]; exact hno
        rw [this] at z
        exact z
end
end K1
namespace K1
open PySem L2
/-- the and of some concepts, as conjoin makes it -/
def conjT : List T → T
  | [] => .atom "all"
  | [t] => t
  | l => .and l
section
variable {P : Program} {w : World} {K : PySem.W.Frag} {mg : Str → Option Value} {base : Heap}
def spConj : Sp := fun vs H Q _ => ∃ (p : Addr) (ts : List T) (ws : List V), vs = [.ref p] ∧ H p = some (.lst ws) ∧ Paired (TAt H) ts ws ∧ ts.length ≤ 1000 ∧ ∀ H' v, Same H H' → TAt H' (conjT ts) v → Q v H'
theorem ok_conj (D : Defs K mg) : FnOk P w K mg base CX0 1 D.d_conjoin.f D.d_conjoin.fd ["concepts"] spConj := by
  refine D.d_conjoin.F.ok sc_conjoin (fun vs H Q E h => ?_) (fun cdv A outer s H vs Q E hr h => ?_)
  · obtain ⟨p, ts, ws, rfl, _⟩ := h
    rfl
  obtain ⟨p, ts, ws, rfl, hp, hts, l, q⟩ := h
  refine ⟨_, (pss_cons (ps_if (pt_not (pt_truth (pv 0) (by intro _; rfl))) (pss_one (ps_ret pe_str)) pss_nil)
      (pss_one (ps_ret (pe_ifExp (pt_cmpR op_eq (pe_callB call_len_seq (by rfl) D.z_len (by decide +kernel) (pa_cons (pv 0) pa_nil)) pe_int (nomark _)) (pe_ix ix_list (pv 0) pe_int (fun _ _ => rfl)) (pe_tup (pa_cons pe_str (StX.pa_star (pv 0) pa_nil))))))), ?_⟩
  have lw : ws.length = ts.length := (paired_len hts).symm
  refine ⟨_, rfl, _, .inl ⟨ws, SqL.of hp, rfl⟩, ?_⟩
  match ts, ws, hts, lw with
  | [], _, .nil, _ =>
    refine iteT (q H _ (Same.refl _) ?_)
    rw [conjT, TAt]
    exact ⟨rfl, by decide +kernel⟩
  | [t], _, .cons h1 .nil, _ =>
    refine iteF ⟨_, rfl, p, _, rfl, .inl (SqL.of hp), rfl, _, rfl, iteT ⟨_, rfl, p, _, _, _, rfl, rfl, SqL.of hp, atI_nat (j := 0) rfl, ?_⟩⟩
    exact q H _ (Same.refl _) h1
  | t :: t2 :: ts, [], h1, lw => simp at lw
  | t :: t2 :: ts, [x], h1, lw => simp at lw
  | t :: t2 :: ts, x :: y :: ws, h1, lw =>
    refine iteF ⟨_, rfl, p, _, rfl, .inl (SqL.of hp), rfl, _, rfl, ?_⟩
    rw [decide_eq_false (show ¬ V.int (((x :: y :: ws).length : Nat) : Int) = V.int 1 from fun z => by have := V.int.inj z; simp only [List.length_cons] at this; omega)]
    refine iteF ⟨_, rfl, p, _, rfl, .inr (SqL.of hp), ?_, fun a ha => ?_⟩
    · rw [List.append_nil, List.length_cons, lw]
      exact Nat.le_of_lt (Nat.lt_of_le_of_lt (Nat.succ_le_succ l) (by decide))
    have s4 := same_new ha (.tup (.str "and" :: ((x :: y :: ws) ++ [])))
    refine q _ (.ref a) s4 ?_
    show TAt _ (.and (t :: t2 :: ts)) _
    rw [TAt]
    exact ⟨a, x :: y :: ws, rfl, by rw [upd_same, List.append_nil], TsAt.of (pairT_t (Same.t s4) h1)⟩
end
end K1
namespace K8
open PySem L2
/-! sets of texts: set(xs), sorted(set) -/
/-- a set of texts, and how its table lies -/
def SX (P : Program) (w : World) (h : Heap) (a : Addr) (l : List Str) : Prop :=
  ∃ D : Froz.SD, l.Nodup ∧ h.get? a = some (Froz.sObj "set" D) ∧ Froz.TxOk P w D l ∧ Ris D.2.2.place.toList ∧ (w.params.followText "set-order" = true ∨ D.2.2.led = true)
theorem quiet_loop (args : Args) : (Code.builtin "set.update.loop" args).quiet = true := by
  unfold Code.quiet Thread.loud Thread.atCollectorCode Thread.yieldsInsideHandler
  simp
theorem tail_ris {ep : Nat} {es : Array (Int × Value)} {t : SetTable} {b : Bool} (h : Ris t.place.toList) : Ris (Froz.tailTx ep es t b).2.2.place.toList := by
  unfold Froz.tailTx
  split
  · exact relayAll_ris _ _ _
  · exact h
theorem tail_led {ep : Nat} {es : Array (Int × Value)} {t : SetTable} {b : Bool} : (Froz.tailTx ep es t b).2.2.led = t.led := by
  unfold Froz.tailTx
  split
  · exact relayAll_led _ _ _
  · rfl
theorem addTx_ris {h : Int} {v : Value} {D : Froz.SD} (r : Ris D.2.2.place.toList) : Ris (Froz.addTx h v D).2.2.place.toList := by
  unfold Froz.addTx
  refine tail_ris ?_
  split
  · exact layNew_ris _ _ _ _ r
  · exact layNew_ris _ _ _ _ r
theorem addTx_led {h : Int} {v : Value} {D : Froz.SD} : (Froz.addTx h v D).2.2.led = D.2.2.led := by
  unfold Froz.addTx
  rw [tail_led]
  split
  · exact layNew_led _ _ _ _
  · exact layNew_led _ _ _ _
section
variable {P : Program} {w : World} {A : Around} {E : Value → Shared → Prop} {s : Shared} {a : Addr} {l : List Str} {k : Str} {u : Tok}
theorem add_old {D : Froz.SD} {Q : Bool → Shared → Prop} (hg : s.heap.get? a = some (Froz.sObj "set" D)) (ok : Froz.TxOk P w D l) (hk : k ∈ l) (lt : l.length < scanBound) (q : Q false s) :
    wpAny (model P w) A (setAddHashed a (.str k u) (hashStr w k)) Q E s := by
  unfold setAddHashed
  refine wpAny_holding ?_
  show wpAny _ _ (setAddHashedIn a (.str k u) (hashStr w k) (99999 + 1)) Q E s
  rw [setAddHashedIn.eq_def]
  obtain ⟨es, ep, t⟩ := D
  obtain ⟨el, mem, sz, fit⟩ := ok
  refine wpAny_bind (wpAny_setState_of hg rfl fit ?_)
  have bs : byScan (.str k u) es = true := by
    unfold byScan
    simp only [Bool.and_eq_true, decide_eq_true_eq, Array.all_eq_true_iff_forall_mem]
    refine ⟨⟨rfl, by rw [show es.size = l.length from sz]; exact lt⟩, fun e he => (el e (Array.mem_toList_iff.mpr he)).2⟩
  show wpAny _ _ (if byScan (.str k u) es = true then _ else _) _ _ _
  rw [if_pos bs]
  refine wpAny_bind ?_
  unfold setAddByScan
  refine wpAny_bind (wpAny_rule ?_)
  refine wpAny_bind (wpAny_setScan_of (knd := strKind P w) (k := k) (Froz.is_str k u) hg rfl fit el ?_)
  obtain ⟨e, he, hi⟩ := (mem k).mp hk
  cases f : List.findIdx? (fun e => (strKind P w).is k e.2) es.toList with
  | none =>
    have := List.findIdx?_eq_none_iff.mp f e he
    rw [hi] at this; cases this
  | some j => exact wpAny_pure (wpAny_pure q)
theorem add_sx {Q : Bool → Shared → Prop} (h : SX P w s.heap a l) (lt : l.length + 1 < scanBound)
    (q : ∀ b h' l', SX P w h' a l' → Heap.SameBut a s.heap h' → (∀ x, x ∈ l' ↔ x = k ∨ x ∈ l) → l'.length ≤ l.length + 1 → Q b { s with heap := h' }) :
    wpAny (model P w) A (setAddHashed a (.str k u) (hashStr w k)) Q E s := by
  obtain ⟨D, nd, hg, ok, r, le⟩ := h
  by_cases hk : k ∈ l
  · refine add_old hg ok hk (by omega) (q false s.heap l ⟨D, nd, hg, ok, r, le⟩ ?_ (fun x => ⟨.inr, fun z => z.elim (fun z => z ▸ hk) id⟩) (by omega))
    exact Heap.SameBut.refl _ _
  · refine Froz.add_x hg ok hk lt ?_
    refine q true _ (k :: l) ⟨_, List.nodup_cons.mpr ⟨hk, nd⟩, ?_, Froz.add_ok u ok, addTx_ris r, by rw [addTx_led]; exact le⟩ ?_ (fun x => by simp) (by simp)
    · exact Froz.get_upd _ hg rfl
    · exact Heap.SameBut.update _ _ _
theorem setAdd_sx {Q : Bool → Shared → Prop} (h : SX P w s.heap a l) (lt : l.length + 1 < scanBound)
    (q : ∀ b h' l' tk, SX P w h' a l' → Heap.SameBut a s.heap h' → (∀ x, x ∈ l' ↔ x = k ∨ x ∈ l) → l'.length ≤ l.length + 1 → s.toks ≤ tk → Q b { s with heap := h', toks := tk }) :
    wpAny (model P w) A (holding [.str k u] (setAdd a (.str k u))) Q E s := by
  refine wpAny_holding ?_
  unfold setAdd
  refine wpAny_holding (wpAny_bind ((strKind P w).pyHash (k := k) (Froz.is_str k u) ?_))
  exact add_sx (s := { s with toks := s.toks + 1 }) h lt fun b h' l' x y z n => q b h' l' _ x y z n (Nat.le_succ _)
end
section
variable {P : Program} {w : World} {A : Around}
theorem update_sx {I : Addr} {fp wr : List Addr} {n : Nat} {Pv : Nat → Value → Prop} {St : Nat → Heap → Prop} {R : Result → Shared → Prop} (W : Walks P w A.in1 I fp wr n Pv St) (S : Addr) (nS : S ∉ fp) (xs : List Str)
    (hn : n = xs.length) (lt : xs.length + 1 < scanBound) (hP : ∀ i v, Pv i v → ∃ k t, xs[i]? = some k ∧ v = Value.str k t) :
    ∀ (k i : Nat) (s : Shared) (l : List Str), n - i = k → i ≤ n → St i s.heap → SX P w s.heap S l → (∀ x, x ∈ l ↔ x ∈ xs.take i) → l.length ≤ i →
      (∀ s' l', (∀ b o, b ≠ S → b ∉ wr → s.heap.get? b = some o → s'.heap.get? b = some o) → s'.gens = s.gens → s'.drawn = s.drawn → s'.os = s.os → SX P w s'.heap S l' → (∀ x, x ∈ l' ↔ x ∈ xs) → l'.length ≤ n → R (.ok (.ret .none)) s') →
      codeAny (model P w) A (.builtin "set.update.loop" { pos := [.ref S, .ref I] }) R s := by
  intro k
  induction k with
  | zero =>
    intro i s l hk hi st sx ml ll r
    obtain rfl : i = n := by omega
    refine codeAny_builtin PyProof.Rows.F.entry_set_update_loop ?_
    rw [Around.under_plainId PyProof.Rows.F.plain_set_update_loop]
    unfold Builtin.«set.update.loop»
    refine wpAny_bind (W.done s _ _ st fun h' tk kp => ?_)
    refine wpAny_pure ?_
    have nSw : S ∉ wr := fun z => nS (W.sub _ z)
    obtain ⟨D, nd, hg, r'⟩ := sx
    refine r _ l (fun b o _ nw e => kp b o nw e) rfl rfl rfl ⟨D, nd, kp _ _ nSw hg, r'⟩ (fun x => ?_) ll
    rw [ml, hn, List.take_length]
  | succ k ih =>
    intro i s l hk hi st sx ml ll r
    have hi' : i < n := by omega
    refine codeAny_builtin PyProof.Rows.F.entry_set_update_loop ?_
    rw [Around.under_plainId PyProof.Rows.F.plain_set_update_loop]
    unfold Builtin.«set.update.loop»
    refine wpAny_bind (W.item i s _ _ hi' st fun v h' tk pv st' kp => ?_)
    obtain ⟨x, t, hx, rfl⟩ := hP i v pv
    have nSw : S ∉ wr := fun z => nS (W.sub _ z)
    obtain ⟨D, nd, hg, r'⟩ := sx
    refine wpAny_bind (setAdd_sx (s := { s with heap := h', toks := tk }) (l := l) ⟨D, nd, kp _ _ nSw hg, r'⟩ (by omega) fun b h2 l' tk' sx' sb ml' ll' _ => ?_)
    refine wpAny_pure ⟨quiet_loop _, ?_⟩
    refine ih (i + 1) _ l' (by omega) (by omega) ?_ sx' (fun y => ?_) (by omega) fun s' l2 k2 g2 d2 o2 sx2 ml2 ll2 => ?_
    · exact W.frame _ _ _ st' fun b hb o e => by
        have nb : b ≠ S := fun z => nS (z ▸ hb)
        show h2.get? b = some o
        rw [sb.2 b nb]; exact e
    · rw [ml', ml, List.take_add_one, hx]
      simp [or_comm]
    · refine r s' l2 (fun b o nb nw e => k2 b o nb nw ?_) g2 d2 o2 sx2 ml2 ll2
      show h2.get? b = some o
      rw [sb.2 b nb]; exact kp b o nw e
theorem strs_at {us : List Value} : ∀ {xs : List Str}, Vals (xs.map V.str) us → ∀ (i : Nat) (v : Value), us[i]? = some v → ∃ k t, xs[i]? = some k ∧ v = Value.str k t := by
  induction us with
  | nil => intro xs _ i v h; cases i <;> cases h
  | cons u us ih =>
    intro xs r i v h
    cases xs with
    | nil => cases r
    | cons x xs =>
      cases r with
      | cons r1 r2 =>
        cases i with
        | zero =>
          obtain rfl : u = v := Option.some.inj h
          obtain ⟨t, rfl⟩ := r1
          exact ⟨x, t, rfl, rfl⟩
        | succ i => exact ih r2 i v h
/-- set(xs), xs a list of texts -/
theorem call_set_sx {E : Value → Shared → Prop} {s : Shared} {l : Addr} {its : Array Value} {xs : List Str} {Q : Value → Shared → Prop} (hd : A.handled = none) (hl : s.heap.IsList l its) (hv : Vals (xs.map V.str) its.toList) (lt : xs.length + 1 < scanBound)
    (q : ∀ h' tk l', SX P w h' s.heap.objs.size l' → (∀ x, x ∈ l' ↔ x ∈ xs) → l'.length ≤ xs.length → (∀ b o, s.heap.get? b = some o → h'.get? b = some o) → Q (.ref s.heap.objs.size) { s with heap := h', toks := tk }) :
    wpAny (model P w) A (call (.type "set") [.ref l]) Q E s := by
  obtain ⟨c, tl, hmro⟩ := F.called_set.mro
  refine wpAny_call (codeAny_of_tree (wpAny_pure ⟨Code.quiet_builtin _ (by decide +kernel), codeAny_builtin F.entry_type_call ?_⟩))
  rw [Around.under_plain (weight_type_call_type "set" [Value.ref l] []) rfl]
  have hct := F.typeCall_set_1 (.ref l)
  unfold Builtin.«type.__call__»
  refine wpAny_ite_false rfl (wpAny_ite_false rfl (wpAny_bind (wpAny_of_eq hct (wpAny_bind (wpAny_of_eq hmro (wpAny_ite_false rfl (wpAny_bind (wpAny_of_eq F.called_set.made (wpAny_bind (wpAny_pure ?_))))))))))
  refine wpAny_bind (wpAny_holding (wpAny_call (codeAny_mono (code_set_led1 (.ref l) (Q₁ := fun v s₁ => v = .ref s.heap.objs.size ∧ s₁ = { s with heap := s.heap.push { cls := .type "set", data := .set #[] 0 (SetTable.fresh 0 0 !w.params.followText "set-order") } }) (E := E) ⟨rfl, rfl⟩) fun r s₁ hr => ?_)))
  rcases r with e | r
  · exact hr
  cases r with
  | ret v =>
    obtain ⟨rfl, rfl⟩ := hr
    have g0 : (s.heap.push { cls := .type "set", data := .set #[] 0 (SetTable.fresh 0 0 !w.params.followText "set-order") }).get? s.heap.objs.size = some { cls := .type "set", data := .set #[] 0 (SetTable.fresh 0 0 !w.params.followText "set-order") } := Heap.get?_push_size _ rfl
    obtain ⟨sh, sg, sd, st, so⟩ := s
    dsimp only at g0 hl q ⊢
    have old0 : ∀ b o, sh.get? b = some o → (sh.push { cls := .type "set", data := .set #[] 0 (SetTable.fresh 0 0 !w.params.followText "set-order") }).get? b = some o := fun b o e => Heap.get?_push_of_some _ e
    generalize sh.push { cls := .type "set", data := .set #[] 0 (SetTable.fresh 0 0 !w.params.followText "set-order") } = h1 at g0 old0 ⊢
    have sx0 : SX P w h1 sh.objs.size [] := ⟨(#[], 0, SetTable.fresh 0 0 !w.params.followText "set-order"), List.nodup_nil, g0, ⟨fun e he => by simp at he, fun k => by simp, rfl, rfl⟩, by show Ris []; exact .nil, by
      show _ ∨ (!w.params.followText "set-order") = true
      cases w.params.followText "set-order" <;> simp⟩
    obtain ⟨ol, hl1, hl2, nl, hl3⟩ := hl
    have hl' : h1.IsList l its := ⟨ol, old0 _ _ hl1, hl2, nl, hl3⟩
    have lne : l ≠ sh.objs.size := fun z => absurd (Heap.lt_size hl1) (by rw [z]; exact Nat.lt_irrefl _)
    have ts : Shared.TypeIs { heap := h1, gens := sg, drawn := sd, toks := st, os := so } (.ref sh.objs.size) "set" := ⟨_, g0, rfl⟩
    refine wpAny_bind (wpAny_isInstance ts F.called_set.sub (wpAny_ite_false rfl ?_))
    refine wpAny_bind (wpAny_holding ?_)
    unfold callSpecial?
    refine wpAny_bind (wpAny_specialOf ts F.called_set.init.lookup ?_)
    refine wpAny_holding (wpAny_bind (wpAny_of_eq (F.called_set.init.bind _) (wpAny_bind (wpAny_call (codeAny_mono (codeAny_call_builtin (R := wants (fun r s₂ => r = .none ∧ ∃ h' tk l', s₂ = { heap := h', gens := sg, drawn := sd, toks := tk, os := so } ∧ SX P w h' sh.objs.size l' ∧ (∀ x, x ∈ l' ↔ x ∈ xs) ∧ l'.length ≤ xs.length ∧ ∀ b o, sh.get? b = some o → h'.get? b = some o) E) F.called_set.init.plain F.entry_set_init (check_set_init_1 ts ?_)) fun r s₂ hr => ?_)))))
    · unfold Builtin.«set.__init__»
      refine wpAny_bind (wpAny_pure ?_)
      refine wpAny_bind ?_
      unfold typeNameOfCut shownTypeOf
      refine wpAny_bind (wpAny_bind (wpAny_typeOf_ref g0 ?_))
      refine wpAny_ite_false rfl (wpAny_pure ?_)
      refine wpAny_pure ?_
      refine wpAny_bind ?_
      unfold checkCount
      refine wpAny_ite_false rfl (wpAny_ite_false rfl (wpAny_ite_false rfl (wpAny_pure ?_)))
      refine wpAny_bind (wpAny_pure ?_)
      refine wpAny_bind ?_
      unfold setUsed
      refine wpAny_bind (wpAny_setState_of g0 rfl rfl ?_)
      refine wpAny_pure ?_
      refine wpAny_ite_false rfl ?_
      refine wpAny_bind ?_
      unfold Builtin.Frozenset.updateFrom
      refine wpAny_bind ?_
      have tl' : Shared.TypeIs { heap := h1, gens := sg, drawn := sd, toks := st, os := so } (.ref l) "list" := ⟨ol, old0 _ _ hl1, hl2⟩
      unfold Builtin.Frozenset.isAnySet
      refine wpAny_bind (wpAny_isInstance tl' F.sub_list_set ?_)
      show wpAny _ _ (isInstance (.ref l) (.type "frozenset")) _ _ _
      refine wpAny_isInstance tl' F.sub_list_frozenset ?_
      refine wpAny_ite_false rfl ?_
      refine wpAny_bind (wpAny_typeOf_ref (old0 _ _ hl1) ?_)
      rw [hl2]
      refine wpAny_ite_false rfl ?_
      refine wpAny_bind (wpAny_pyIter_list hl' ?_)
      refine wpAny_bind (wpAny_runValue ?_)
      have iI : h1.objs.size ≠ sh.objs.size := fun z => absurd (Heap.lt_size g0) (by rw [← z]; exact Nat.lt_irrefl _)
      have lI : l ≠ h1.objs.size := fun z => absurd (Heap.lt_size (old0 _ _ hl1)) (by rw [z]; exact Nat.lt_irrefl _)
      have Wk := Walks.list (prog := P) (w := w) (A := A.in1.in1.in1) hd h1.objs.size l lI its
      have ln : its.size = xs.length := by
        have := hv.length
        rw [List.length_map, Array.length_toList] at this
        exact this.symm
      have kp1 : ∀ b o, h1.get? b = some o → (h1.push { cls := .type "list_iterator", data := .fields #[.ref l, .int 0 0] }).get? b = some o := fun b o e => Heap.get?_push_of_some _ e
      have gI : (h1.push { cls := .type "list_iterator", data := .fields #[.ref l, .int 0 0] }).get? h1.objs.size = some { cls := .type "list_iterator", data := .fields #[.ref l, .int 0 0] } := Heap.get?_push_size _ rfl
      refine update_sx Wk sh.objs.size (fun z => ?_) xs ln lt (fun i v e => strs_at hv i v (by rw [← Array.getElem?_toList] at e; exact e)) (its.size - 0) 0 _ [] rfl (Nat.zero_le _) ⟨⟨_, gI, rfl, rfl⟩, ol, kp1 _ _ (old0 _ _ hl1), hl2, nl, hl3⟩ ?_ (fun x => by simp) (Nat.le_refl _) fun s' l' kp e1 e2 e3 sx ml ll => ?_
      · simp only [List.mem_cons, List.not_mem_nil, or_false] at z
        exact z.elim (fun z => iI z.symm) fun z => lne z.symm
      · obtain ⟨D, nd, hg, r'⟩ := sx0
        exact ⟨D, nd, kp1 _ _ hg, r'⟩
      · refine wpAny_pure (wpAny_pure ⟨rfl, s'.heap, s'.toks, l', ?_, sx, ml, by rw [← ln]; exact ll, fun b o e => ?_⟩)
        · obtain ⟨a1, a2, a3, a4, a5⟩ := s'
          subst e1; subst e2; subst e3; rfl
        · have lb := Heap.lt_size e
          have lb1 := Heap.lt_size (old0 _ _ e)
          exact kp b o (Nat.ne_of_lt lb) (by simp only [List.mem_singleton]; exact Nat.ne_of_lt lb1) (kp1 _ _ (old0 _ _ e))
    · rcases r with e | r
      · exact hr
      cases r with
      | ret v =>
        obtain ⟨rfl, h', tk, l', rfl, sx, ml, ll, kp⟩ := hr
        refine wpAny_pure ?_
        refine wpAny_ite_false rfl (wpAny_pure ?_)
        exact q h' tk l' sx ml ll kp
      | _ => exact hr.elim
  | _ => exact hr.elim
/-! sorted(set) -/
theorem perm_of_sub {α : Type} [DecidableEq α] : ∀ {l m : List α}, l.Nodup → (∀ x ∈ l, x ∈ m) → m.length = l.length → m.Perm l
  | [], m, _, _, h => by rw [List.length_nil] at h; rw [List.eq_nil_of_length_eq_zero h]
  | x :: r, m, nd, sub, h => by
    rw [List.nodup_cons] at nd
    have mx : x ∈ m := sub x List.mem_cons_self
    refine (List.perm_cons_erase mx).trans (List.Perm.cons x (perm_of_sub nd.2 (fun y hy => ?_) ?_))
    · exact (List.mem_erase_of_ne (fun z => nd.1 (by rw [← z]; exact hy))).mpr (sub y (List.mem_cons_of_mem _ hy))
    · rw [List.length_erase_of_mem mx, h, List.length_cons]; omega
def strOf : Value → Str
  | .str s _ => s
  | _ => Str.empty
theorem each_str : ∀ {vs : List Value}, (∀ v ∈ vs, ∃ k t, v = Value.str k t) → W.EachIs (fun v (b : Str) => ∃ t, v = Value.str b t) vs (vs.map strOf)
  | [], _ => .nil
  | v :: r, h => by
    obtain ⟨k, t, rfl⟩ := h v List.mem_cons_self
    exact .cons ⟨t, rfl⟩ (each_str fun v hv => h v (List.mem_cons_of_mem _ hv))
theorem each_reads {h : Heap} {a : Addr} : ∀ {vs : List Value} {bs : List Str}, W.EachIs (fun v (b : Str) => ∃ t, v = Value.str b t) vs bs → W.EachIs (fun v b => ∃ as, Reads h v (PyData.str b) as ∧ a ∉ as) vs bs
  | _, _, .nil => .nil
  | _, _, .cons ⟨t, e⟩ r => by
    subst e
    exact .cons ⟨[], .str _ _, by simp⟩ (each_reads r)
theorem sx_strs {h : Heap} {a : Addr} {l : List Str} {D : Froz.SD} (nd : l.Nodup) (ok : Froz.TxOk P w D l) {out : List Value} (pm : out.Perm (D.1.toList.map (·.2))) : (∀ v ∈ out, ∃ k t, v = Value.str k t) ∧ (out.map strOf).Perm l := by
  obtain ⟨es, ep, t⟩ := D
  obtain ⟨el, mem, sz, fit⟩ := ok
  have isS : ∀ {k : Str} {v : Value}, (strKind P w).is k v = true → ∃ t, v = Value.str k t := fun {k v} h => by
    have h : Value.isStrOf k v = true := h
    cases v with
    | str y t => exact ⟨t, by rw [show y = k from beq_iff_eq.mp h]⟩
    | _ => cases h
  have al : ∀ v ∈ out, ∃ k t, v = Value.str k t := fun v hv => by
    obtain ⟨e, he, rfl⟩ := List.mem_map.mp (pm.mem_iff.mp hv)
    obtain ⟨⟨k, hk, _⟩, _⟩ := el e he
    obtain ⟨t, ht⟩ := isS hk
    exact ⟨k, t, ht⟩
  refine ⟨al, perm_of_sub nd (fun k hk => ?_) ?_⟩
  · obtain ⟨e, he, hi⟩ := (mem k).mp hk
    obtain ⟨t, ht⟩ := isS hi
    refine List.mem_map.mpr ⟨e.2, pm.mem_iff.mpr (List.mem_map.mpr ⟨e, he, rfl⟩), ?_⟩
    rw [ht]; rfl
  · rw [List.length_map, pm.length_eq, List.length_map, Array.length_toList]; exact sz
theorem sorted_sx {E : Value → Shared → Prop} {s : Shared} {a : Addr} {l : List Str} {Q : Value → Shared → Prop} (hd : A.handled = none) (hu : A.units + 64 < cLine) (sx : SX P w s.heap a l) (lt : l.length < scanBound)
    (q : ∀ (s' : Shared) (p : Addr) (out : List Value) (n : Nat) (ls : List Str), (∀ b o, s.heap.get? b = some o → s'.heap.get? b = some o) → s'.gens = s.gens → s'.os = s.os → s.heap.objs.size ≤ p → s'.heap.get? p = some (PyProof.Rows.seqObj "list" out.toArray n) →
      W.EachIs (fun v (b : Str) => ∃ t, v = Value.str b t) out (ls.mergeSort (W.dataLe false PyData.str)) → ls.Perm l → Q (.ref p) s') :
    wpAny (model P w) A (call (.builtin "sorted") [.ref a]) Q E s := by
  refine Calls.call_function_entry PyProof.Rows.kind_sorted PyProof.Rows.plain_sorted PyProof.Rows.entry_sorted (PyProof.Rows.args_sorted1 _) ?_
  unfold Builtin.sorted
  obtain ⟨D, nd, hg, ok, ri, le⟩ := sx
  refine wpAny_bind (wpAny_pure ?_)
  refine wpAny_bind (collect_set hd ⟨_, hg, rfl, rfl⟩ ok.fit (by rw [ok.sz]; exact lt) ri le fun s1 out kp sz e1 e2 pm => ?_)
  obtain ⟨al, pl⟩ := sx_strs (h := s.heap) (a := a) nd ok pm
  have ev := each_str al
  have lo : out.length = l.length := by have := pl.length_eq; rwa [List.length_map] at this
  have sb : scanBound ≤ sizeLine := by decide
  refine wpAny_bind (wpAny_newList ?_ (by omega))
  refine wpAny_bind (wpAny_holding ?_)
  have gp := Heap.get?_push_size s1.heap (o := { cls := .type "list", data := .seq out.toArray }) rfl
  refine W.list_sort_data (R := fun v (b : Str) => ∃ t, v = Value.str b t) (enc := PyData.str) (bs := out.map strOf) (n := 0) gp ev (each_reads ev) (W.AllAlike.of fun b b' => by simp [W.alike]) (W.Sortable.others fun b => ⟨by simp, by simp⟩) (by rw [List.length_map]; omega) (fun b _ => by simp [PyData.depth]; omega) fun out' ll ho => ?_
  refine wpAny_pure ⟨_, rfl, ?_⟩
  obtain ⟨n, hn⟩ := PyProof.Rows.sortedHeap_at (out := out'.toArray) gp
  refine q _ _ out' n (out.map strOf) (fun b o e => ?_) e1 e2 sz hn ho pl
  have lb := Heap.lt_size (kp b o e)
  rw [PyProof.Rows.sortedHeap_old (Nat.ne_of_lt lb) (by rw [Heap.size_push]; exact Nat.lt_succ_of_lt lb)]
  exact Heap.get?_push_of_some _ (kp b o e)
end
/-! the rules -/
def SXo (P : Program) (w : World) (a : Addr) (l : List Str) : HO := .ext fun h => SX P w h a l
theorem SX.at {P : Program} {w : World} {h h' : Heap} {a : Addr} {l : List Str} (s : SX P w h a l) (k : ∀ o, h.get? a = some o → h'.get? a = some o) : SX P w h' a l := by
  obtain ⟨D, nd, hg, r⟩ := s
  exact ⟨D, nd, k _ hg, r⟩
theorem SX.ok {P : Program} {w : World} {H : Hp} {h : Heap} {a : Addr} {l : List Str} (s : SX P w h a l) : ObjOk P w H h a (SXo P w a l) := by
  obtain ⟨D, nd, hg, r⟩ := id s
  exact ⟨s, ⟨_, hg⟩, fun h1 h2 s1 k => s1.at k⟩
def rSetS (K : W.Frag) (P : Program) (w : World) : List V → Hp → VK → Prop := fun vs H Q => ∃ (l : Addr) (xs : List Str), vs = [.ref l] ∧ SqL K H l (xs.map V.str) ∧ xs.length < 4000 ∧ ∀ a l', H a = none → (∀ x, x ∈ l' ↔ x ∈ xs) → l'.Nodup → l'.length ≤ xs.length → Q (.ref a) (upd H a (SXo P w a l'))
theorem cr_setS {X : Cx} (hd : X.A.handled = none) : CallR X (.type "set") (rSetS X.K X.prog X.w) := by
  intro pins s σ H vs us Q I r h
  obtain ⟨l, xs, rfl, hs, lt, q⟩ := h
  obtain ⟨its, rv, hl, hz⟩ := I.list hs
  obtain ⟨u, rfl, ru⟩ := vals1 r
  obtain rfl : u = Value.ref l := ru
  refine call_set_sx hd hl.isList (xs := xs) (by simpa using rv) (by show xs.length + 1 < 4096; omega) fun h' tk l' sx ml ll kp => ?_
  have hn := I.hok.fresh (Nat.le_refl s.heap.objs.size)
  refine ⟨.ref s.heap.objs.size, upd H s.heap.objs.size (SXo X.prog X.w s.heap.objs.size l'), I.laid (t' := tk) kp (Nat.le_refl _) sx.ok, rfl, q _ l' hn ml ?_ ll⟩
  obtain ⟨D, nd, _⟩ := sx
  exact nd
theorem each_vals : ∀ {us : List Value} {bs : List Str}, W.EachIs (fun v (b : Str) => ∃ t, v = Value.str b t) us bs → Vals (bs.map V.str) us
  | _, _, .nil => .nil
  | _, _, .cons h r => .cons h (each_vals r)
def rSortSX (P : Program) (w : World) : List V → Hp → VK → Prop := fun vs H Q => ∃ (a : Addr) (l : List Str), vs = [.ref a] ∧ H a = some (SXo P w a l) ∧ l.length < 4000 ∧ ∀ (ls : List Str) p, ls.Perm l → H p = none → Q (.ref p) (upd H p (.lst ((ls.mergeSort (W.dataLe false PyData.str)).map V.str)))
theorem cr_sortSX {X : Cx} (hd : X.A.handled = none) (hu : X.A.units + 64 < cLine) : CallR X (.builtin "sorted") (rSortSX X.prog X.w) := by
  intro pins s σ H vs us Q I r h
  obtain ⟨a, l, rfl, ha, lt, q⟩ := h
  obtain ⟨u, rfl, ru⟩ := vals1 r
  obtain rfl : u = Value.ref a := ru
  have sx : SX X.prog X.w s.heap a l := (I.hok a _ ha).1
  refine sorted_sx hd hu sx (by show l.length < 4096; omega) fun s' p out n ls kp e1 e2 sz hp ho pl => ?_
  obtain ⟨sh, sg, sd, st, so⟩ := s'
  dsimp only at e1 e2
  subst e1
  subst e2
  have hn := I.hok.fresh sz
  have l2 : ((ls.mergeSort (W.dataLe false PyData.str)).map V.str).length ≤ sizeLine := by
    rw [List.length_map, List.length_mergeSort, pl.length_eq]
    exact Nat.le_trans (Nat.le_of_lt lt) (by decide)
  have J : L2.Inv X pins σ (upd H p (.lst ((ls.mergeSort (W.dataLe false PyData.str)).map V.str))) { s with heap := sh, toks := st } :=
    I.laid (t' := st) kp sz ⟨l2, out, n, each_vals ho, hp⟩
  exact ⟨.ref p, _, ⟨J.ok, J.os, J.bare, J.base, J.loc, J.cell, J.free, J.freeC, J.pin, J.hok, J.len⟩, rfl, q ls p pl hn⟩
end K8
namespace K8
open PySem L2
/-! dicts whose keys are nested tuples -/
mutual
/-- a value is a nested key -/
inductive NkH (H : Hp) : NestedKey → V → Prop
  | num (i : Int) : NkH H (.num i) (.int i)
  | text (x : Str) : NkH H (.text x) (.str x)
  | tup {a : Addr} {vs : List V} {ks : List NestedKey} : H a = some (.tup vs) → NksH H ks vs → NkH H (.tup ks) (.ref a)
inductive NksH (H : Hp) : List NestedKey → List V → Prop
  | nil : NksH H [] []
  | cons {k : NestedKey} {v : V} {ks : List NestedKey} {vs : List V} : NkH H k v → NksH H ks vs → NksH H (k :: ks) (v :: vs)
end
mutual
theorem NkH.keep {H H' : Hp} (t : ∀ a vs, H a = some (.tup vs) → H' a = some (.tup vs)) : ∀ {k : NestedKey} {v : V}, NkH H k v → NkH H' k v
  | _, _, .num i => .num i
  | _, _, .text x => .text x
  | _, _, .tup h r => .tup (t _ _ h) (NksH.keep t r)
theorem NksH.keep {H H' : Hp} (t : ∀ a vs, H a = some (.tup vs) → H' a = some (.tup vs)) : ∀ {ks : List NestedKey} {vs : List V}, NksH H ks vs → NksH H' ks vs
  | _, _, .nil => .nil
  | _, _, .cons h r => .cons (NkH.keep t h) (NksH.keep t r)
end
mutual
theorem NkH.is {P : Program} {w : World} {H : Hp} {h : Heap} (ok : HOk P w H h) : ∀ {k : NestedKey} {v : V} {u : Value}, NkH H k v → RelV v u → NestedIs h k u
  | _, _, u, .num i, r => by obtain ⟨t, rfl⟩ := r; exact .int i t
  | _, _, u, .text x, r => by obtain ⟨t, rfl⟩ := r; exact .text x t
  | _, _, u, .tup (a := a) hh hr, r => by
    obtain rfl : u = Value.ref a := r
    obtain ⟨lz, its, rv, o, h1, h2, n, h3⟩ := ok a _ hh
    exact .tup h1 h2 h3 (by simpa using NksH.is ok hr rv)
theorem NksH.is {P : Program} {w : World} {H : Hp} {h : Heap} (ok : HOk P w H h) : ∀ {ks : List NestedKey} {vs : List V} {us : List Value}, NksH H ks vs → Vals vs us → NestedAll h ks us
  | _, _, _, .nil, .nil => .nil
  | _, _, _, .cons h1 r1, .cons h2 r2 => .cons (NkH.is ok h1 h2) (NksH.is ok r1 r2)
end
/-- what stands at the dict -/
def CellN (P : Program) (w : World) (D : Addr) (xs : List (NestedKey × Addr × Value)) (h : Heap) : Prop :=
  (D == sysModules) = false ∧ xs.length ≤ sizeLine ∧ ∃ o es ep, h.get? D = some o ∧ o.ExactDict ∧ o.data = .dict es ep ∧ es.toList = xs.map (entryOfKey (nestedKind P w)) ∧ (xs.map (·.1)).Nodup
theorem CellN.at {P : Program} {w : World} {D : Addr} {xs : List (NestedKey × Addr × Value)} {h h' : Heap} (c : CellN P w D xs h) (k : ∀ o, h.get? D = some o → h'.get? D = some o) : CellN P w D xs h' := by
  obtain ⟨c1, c2, o, es, ep, g, r⟩ := c
  exact ⟨c1, c2, o, es, ep, k _ g, r⟩
theorem CellN.ok {P : Program} {w : World} {H : Hp} {h : Heap} {D : Addr} {xs : List (NestedKey × Addr × Value)} (c : CellN P w D xs h) : ObjOk P w H h D (.ext (CellN P w D xs)) := by
  obtain ⟨c1, c2, o, es, ep, g, r⟩ := id c
  exact ⟨c, ⟨_, g⟩, fun h1 h2 s1 k => s1.at k⟩
/-- a dict of nested keys, its pairs in order -/
def DN (P : Program) (w : World) (H : Hp) (D : Addr) (kvs : List (NestedKey × V)) : Prop :=
  (kvs = [] ∧ H D = some (.dK [])) ∨ ∃ xs, H D = some (.ext (CellN P w D xs)) ∧ Paired (fun (p : NestedKey × V) (q : NestedKey × Addr × Value) => p.1 = q.1 ∧ p.1.depth ≤ 8 ∧ NkH H p.1 (.ref q.2.1) ∧ RelV p.2 q.2.2) kvs xs
theorem DN.keep {P : Program} {w : World} {H H' : Hp} {D : Addr} {kvs : List (NestedKey × V)} (d : DN P w H D kvs) (e : H D = H' D) (t : ∀ a vs, H a = some (.tup vs) → H' a = some (.tup vs)) : DN P w H' D kvs := by
  rcases d with ⟨rfl, h⟩ | ⟨xs, h, pr⟩
  · exact .inl ⟨rfl, by rw [← e]; exact h⟩
  · refine .inr ⟨xs, by rw [← e]; exact h, ?_⟩
    clear h
    induction pr with
    | nil => exact .nil
    | cons a b ih => exact .cons ⟨a.1, a.2.1, a.2.2.1.keep t, a.2.2.2⟩ ih
theorem paired_append {α β : Type} {F : α → β → Prop} : ∀ {xs : List α} {us : List β} {ys : List α} {vs : List β}, Paired F xs us → Paired F ys vs → Paired F (xs ++ ys) (us ++ vs)
  | _, _, _, _, .nil, h => h
  | _, _, _, _, .cons a b, h => .cons a (paired_append b h)
def getN (kvs : List (NestedKey × V)) (k : NestedKey) : Option V := (kvs.find? fun p => decide (p.1 = k)).map (·.2)
theorem DN.dict {P : Program} {w : World} {H : Hp} {h : Heap} {D : Addr} {kvs : List (NestedKey × V)} (d : DN P w H D kvs) (ok : HOk P w H h) :
    (D == sysModules) = false ∧ ∃ xs, Heap.DictOfH (nestedKind P w) h D xs ∧ Paired (fun (p : NestedKey × V) (q : NestedKey × Addr × Value) => p.1 = q.1 ∧ p.1.depth ≤ 8 ∧ NkH H p.1 (.ref q.2.1) ∧ RelV p.2 q.2.2) kvs xs := by
  rcases d with ⟨rfl, hd⟩ | ⟨xs, hd, pr⟩
  · obtain ⟨_, c, vs, kv, o, es, ep, g, ex, da, _, prs, _⟩ := ok D _ hd
    cases kv
    refine ⟨c, [], ⟨o, es, ep, g, ex, da, ?_, (fun x hx => by cases hx), List.nodup_nil⟩, .nil⟩
    cases e : es.toList with
    | nil => rfl
    | cons x r => rw [e] at prs; cases prs
  · obtain ⟨⟨c1, c2, o, es, ep, g, ex, da, el, nd⟩, hx1⟩ := ok D _ hd
    clear hx1
    refine ⟨c1, xs, ⟨o, es, ep, g, ex, da, el, ?_, nd⟩, pr⟩
    clear hd el nd c2
    induction pr with
    | nil => intro x hx; cases hx
    | cons a b ih =>
      intro x hx
      rcases List.mem_cons.mp hx with z | z
      · rw [z, ← a.1]
        exact ⟨a.2.2.1.is ok rfl, a.2.1⟩
      · exact ih x z
theorem pr_at {H : Hp} {kvs : List (NestedKey × V)} {xs : List (NestedKey × Addr × Value)} (pr : Paired (fun (p : NestedKey × V) (q : NestedKey × Addr × Value) => p.1 = q.1 ∧ p.1.depth ≤ 8 ∧ NkH H p.1 (.ref q.2.1) ∧ RelV p.2 q.2.2) kvs xs) (k : NestedKey) :
    (atKey xs k).isSome = (getN kvs k).isSome ∧ ∀ v, getN kvs k = some v → ∃ p, atKey xs k = some p ∧ RelV v p.2 := by
  unfold atKey getN
  induction pr with
  | nil => exact ⟨rfl, fun v e => by cases e⟩
  | cons a b ih =>
    rename_i x y l m
    rw [List.find?_cons, List.find?_cons, ← a.1]
    by_cases c : x.1 = k
    · rw [decide_eq_true c]
      exact ⟨rfl, fun v e => ⟨y.2, rfl, by rw [← Option.some.inj e]; exact a.2.2.2⟩⟩
    · rw [decide_eq_false c]
      exact ih
/-! the rules -/
def rNotInN (P : Program) (w : World) : R2 := fun x y H Q => ∃ (a D : Addr) (k : NestedKey) (kvs : List (NestedKey × V)), x = .ref a ∧ y = .ref D ∧ NkH H k (.ref a) ∧ k.depth ≤ 8 ∧ DN P w H D kvs ∧ Q (.bl (!(getN kvs k).isSome)) H
theorem op_notInN {X : Cx} (hu : X.A.units + 65 < cLine) : OpR X (compareOp .NotIn) (rNotInN X.prog X.w) := by
  intro pins s σ H x y v u Q I rx ry d
  obtain ⟨a, D, k, kvs, rfl, rfl, hk, dp, hd, q⟩ := d
  obtain rfl : v = Value.ref a := rx
  obtain rfl : u = Value.ref D := ry
  obtain ⟨c, xs, hx, pr⟩ := hd.dict I.hok
  refine notIn_keyed (knd := nestedKind X.prog X.w) (k := k) (kvs := pairsH xs) (by show X.A.units + 1 + 8 < cLine; omega) ⟨hk.is I.hok rfl, dp⟩ c ⟨xs, hx, rfl⟩ ?_
  have e : (valueAt (pairsH xs) k).isSome = (getN kvs k).isSome := by
    rw [← (pr_at pr k).1]
    have := PyProof.Rows.valueAt_kvsOf xs k
    show (valueAt (PyProof.Rows.kvsOf xs) k).isSome = _
    rw [this]
    cases atKey xs k <;> rfl
  rw [e]
  exact ⟨.bl (!(getN kvs k).isSome), H, I.tok _, rfl, q⟩
def rIxN (P : Program) (w : World) : R2 := fun x y H Q => ∃ (a D : Addr) (k : NestedKey) (kvs : List (NestedKey × V)) (v : V), x = .ref D ∧ y = .ref a ∧ NkH H k (.ref a) ∧ k.depth ≤ 8 ∧ DN P w H D kvs ∧ getN kvs k = some v ∧ Q v H
theorem ix_N {X : Cx} (hu : X.A.units + 65 < cLine) : IxR X (rIxN X.prog X.w) := by
  intro value slice pins s σ H x y v u Q I rx ry d sc
  obtain ⟨a, D, k, kvs, z, rfl, rfl, hk, dp, hd, hz, q⟩ := d
  obtain rfl : v = Value.ref D := rx
  obtain rfl : u = Value.ref a := ry
  obtain ⟨c, xs, hx, pr⟩ := hd.dict I.hok
  obtain ⟨p, hp, rp⟩ := (pr_at pr k).2 z hz
  have ti : s.TypeIs (.ref D) "dict" := by
    obtain ⟨o, es, ep, g, ex, _⟩ := hx
    exact ⟨o, g, ex.1⟩
  refine PyProof.Rows.subscriptTail_builtinR (x := p.2) ti F.slot_dict_getitem.lookup ?_ sc
  exact wpAny_getItem_heap (knd := nestedKind X.prog X.w) (k := k) (by show X.A.units + 1 + 8 < cLine; omega) ⟨hk.is I.hok rfl, dp⟩ hx hp ⟨rfl, z, H, I.tok _, rp, q⟩
def rSetN (P : Program) (w : World) : TSet := fun o i v H Q => ∃ (a D : Addr) (k : NestedKey) (kvs : List (NestedKey × V)), o = .ref D ∧ i = .ref a ∧ NkH H k (.ref a) ∧ k.depth ≤ 8 ∧ DN P w H D kvs ∧ getN kvs k = none ∧ kvs.length < sizeLine ∧ ∀ O, DN P w (upd H D O) D (kvs ++ [(k, v)]) → (∀ xs, O ≠ .tup xs) → Q (upd H D O)
theorem set_N {X : Cx} (hu : X.A.units + 65 < cLine) : PSet X (rSetN X.prog X.w) := by
  intro pins s σ H o i v ov iv u Q I ro ri rv d
  obtain ⟨a, D, k, kvs, rfl, rfl, hk, dp, hd, hz, lt, q⟩ := d
  obtain rfl : ov = Value.ref D := ro
  obtain rfl : iv = Value.ref a := ri
  obtain ⟨c, xs, hx, pr⟩ := hd.dict I.hok
  have lx : xs.length = kvs.length := (Paired.length pr).symm
  refine wpAny_setItem_heap (hsz := by omega) (knd := nestedKind X.prog X.w) (k := k) (by show X.A.units + 1 + 8 < cLine; omega) ⟨hk.is I.hok rfl, dp⟩ hx fun h' hd' sb => ?_
  have nn : atKey xs k = none := by
    have := (pr_at pr k).1
    rw [hz] at this
    cases e : atKey xs k with
    | none => rfl
    | some p => rw [e] at this; cases this
  have e2 : storedH xs k a u = xs ++ [(k, a, u)] := by
    unfold storedH
    rw [nn]
    rfl
  rw [e2] at hd'
  obtain ⟨o, es, ep, g, ex, da, el, is, nd⟩ := hd'
  have cn : CellN X.prog X.w D (xs ++ [(k, a, u)]) h' := ⟨c, by rw [List.length_append]; simp; omega, o, es, ep, g, ex, da, el, nd⟩
  have nt : ∀ b vs, H b = some (.tup vs) → upd H D (.ext (CellN X.prog X.w D (xs ++ [(k, a, u)]))) b = some (.tup vs) := fun b vs e => by
    have : b ≠ D := fun z => by
      rw [z] at e
      rcases hd with ⟨_, h⟩ | ⟨_, h, _⟩ <;> rw [h] at e <;> cases e
    rw [upd_ne this]; exact e
  have mu : Mut (H D) := by
    rcases hd with ⟨_, h⟩ | ⟨_, h, _⟩ <;> rw [h] <;> trivial
  refine ⟨_, d_write I mu sb ⟨o, g⟩ cn.ok, q _ (.inr ⟨_, upd_same, ?_⟩) (fun xs z => by cases z)⟩
  have pr' : Paired (fun (p : NestedKey × V) (q : NestedKey × Addr × Value) => p.1 = q.1 ∧ p.1.depth ≤ 8 ∧ NkH (upd H D (.ext (CellN X.prog X.w D (xs ++ [(k, a, u)])))) p.1 (.ref q.2.1) ∧ RelV p.2 q.2.2) kvs xs := by
    clear nn e2 el is nd cn hx lx hz lt q hd
    generalize upd H D (.ext (CellN X.prog X.w D (xs ++ [(k, a, u)]))) = H' at nt ⊢
    induction pr with
    | nil => exact .nil
    | cons a b ih => exact .cons ⟨a.1, a.2.1, a.2.2.1.keep nt, a.2.2.2⟩ ih
  exact paired_append pr' (.cons ⟨rfl, dp, hk.keep nt, rv⟩ .nil)
end K8
namespace K8
open PySem L2
/-! sorted(xs, key=lambda x: x[0]) -/
section
variable {P : Program} {w : World} {A : Around} {s : Shared}
theorem lam_first {f c' t : Addr} {q x : Str} {params : Arguments} {scope : Scope} {cl : List (Str × Addr)} {pm ctv : Value} {p1 p2 p3 : Pos} {kd : Nat} {items : Array Value} {k : Str} {u : Tok}
    (hd : A.depth < recursionLimit) (hf : s.heap.get? f = some (W.kla_obj "<lambda>" q params (.Subscript (.Name x p1) (.Constant (.int 0) kd p2) p3) scope cl pm c' ctv))
    (hk : scope.kind = .function) (hco : scope.isCoroutine = false) (hge : scope.isGenerator = false) (hn : scope.names = [(x, .local)]) (hx : (x == ("__debug__" : Str)) = false) (hc : s.heap.CodeRec (.ref c') q) (nl : s.heap.NoLimit)
    (hb : ∀ v, bindArgs (W.kla_fn "<lambda>" q params (.Subscript (.Name x p1) (.Constant (.int 0) kd p2) p3) scope cl pm (.ref c') ctv) ⟨[v], []⟩ = pure [(x, v)])
    (ht : PyProof.Rows.IsTup s.heap t items) (h0 : items[0]? = some (.str k u)) :
    wpAny (model P w) A (call (.ref f) [.ref t]) (W.KeyPure (.str k) s) (fun _ _ => False) s := by
  refine wpAny_call (W.kla_callFunE hd hf rfl hco hge rfl hc ?_)
  refine wpAny_of_eq (hb _) ?_
  refine wpAny_newFunctionEnv (hk := hk) ?_ ?_ fun h' ns sb => ⟨nl.fresh _ sb, W.kla_codeExpr ?_⟩
  · intro y hy
    have hy : y ∈ scope.names := hy
    rw [hn] at hy
    rw [List.mem_singleton.mp hy]
    exact fun z => nomatch z
  · intro y hy
    rw [List.mem_singleton.mp hy]
    show List.lookup x scope.names = _
    rw [hn]
    simp [List.lookup]
  have kp : ∀ b o, s.heap.get? b = some o → h'.get? b = some o := fun b o e => by
    have lb := Heap.lt_size e
    rw [sb.2 b (Nat.ne_of_lt lb)]
    exact Heap.get?_push_of_some _ e
  refine subD_of PyProof.Rows.slot_tuple_getitem.lookup (fun _ _ => rfl) ?_
  rw [eval_Name _ _ _ hx]
  refine wpAny_bind (wpAny_standAt (wpAny_loadName_local hk (m := fun y => List.lookup y [(x, Value.ref t)]) (v := .ref t) ?_ ns (by simp [List.lookup]) ?_))
  · show List.lookup x scope.names = _
    rw [hn]
    simp [List.lookup]
  · refine wpAny_Constant_int ?_
    obtain ⟨o, h1, h2, n, h3⟩ := ht
    refine ⟨⟨o, kp _ _ h1, h2⟩, PyProof.Rows.getItem_tuple (j := 0) ⟨o, kp _ _ h1, h2, n, h3⟩ (by decide) (by decide) ?_ h0 ⟨h', _, rfl, kp, .str _ _⟩⟩
    have : 0 < items.size := by
      cases e : items.size with
      | zero => rw [Array.getElem?_eq_none (by omega)] at h0; cases h0
      | succ m => omega
    unfold seqIndex?
    simp [this]
end
open LamX in
/-- sorted(xs, key=lambda x: x[0]): the items are tuples that begin with a text -/
def tSortKey (T : List (Addr × Str)) (K : W.Frag) (te : TE) : TE := fun σ H Q => tCons te tNil σ H fun vs H1 => ∃ (a : Addr) (ps : List (Addr × Str)), vs = [.ref a] ∧ H1 a = some (.lst (ps.map fun p => V.ref p.1)) ∧ (∀ p ∈ ps, ∃ r, H1 p.1 = some (.tup (V.str p.2 :: r))) ∧ Tabs T H1 ∧
  ∀ H2 l, ExtN H1 H2 → Tabs T H2 → H2 l = none → Q (.ref l) (upd H2 l (.lst ((ps.mergeSort (W.dataLe false fun p => PyData.str p.2)).map fun p => V.ref p.1)))
theorem each_fst : ∀ {us : List Value} {ps : List (Addr × Str)}, Vals (ps.map fun p => V.ref p.1) us → W.EachIs (fun v (b : Addr × Str) => v = Value.ref b.1) us ps
  | us, [], r => by cases r; exact .nil
  | us, e :: l, r => by
    cases r with
    | cons h1 h2 => exact .cons h1 (each_fst h2)
theorem fst_each : ∀ {us : List Value} {ps : List (Addr × Str)}, W.EachIs (fun v (b : Addr × Str) => v = Value.ref b.1) us ps → Vals (ps.map fun p => V.ref p.1) us
  | _, _, .nil => .nil
  | _, _, .cons h1 h2 => .cons h1 (fst_each h2)
open LamX in
theorem pe_sortKey {X : Cx} {T : List (Addr × Str)} {c Pt : Addr} {e : Expr} {te : TE} {x : Str} {params : Arguments} {scope : Scope} {p lpos kpos pos p1 p2 p3 : Pos} {kd : Nat}
    (hg : Gl X "sorted") (hm : X.mg "sorted" = none) (hu : X.A.units + 65 < cLine) (hd : X.A.depth < recursionLimit) (he : PE X e te) (TB : TabB X.base X.mg c Pt) (hcode : X.env.code = .ref c)
    (hT : (Pt, X.env.qual ++ "<lambda>") ∈ T) (hU : ∀ q ∈ T, q.1 = Pt → q.2 = X.env.qual ++ "<lambda>") (hdef : defaultsOf params X.env = ([], []))
    (hk : scope.kind = .function) (hco : scope.isCoroutine = false) (hge : scope.isGenerator = false) (hn : scope.names = [(x, .local)]) (hx : (x == ("__debug__" : Str)) = false)
    (hb : ∀ (q : Str) (cl : List (Str × Addr)) (pm cv ctv v : Value), bindArgs (W.kla_fn "<lambda>" q params (.Subscript (.Name x p1) (.Constant (.int 0) kd p2) p3) scope cl pm cv ctv) ⟨[v], []⟩ = pure [(x, v)]) (hs : starEach [e] X.env = [(false, eval e X.env)] := by rfl) (hs2 : backTo pos (starEach [e] X.env) = (false, eval e X.env) :: backTo pos (starEach [] X.env) := by rfl) (hs3 : ((backTo pos (starEach [e] X.env)).any fun x => x.fst) = false := by rfl) :
    PE X (.Call (.Name "sorted" p) [e] [⟨some "key", .Lambda params (.Subscript (.Name x p1) (.Constant (.int 0) kd p2) p3) scope lpos, kpos⟩] pos) (tSortKey T X.K te) := by
  constructor
  intro pins s σ H Q J h
  refine wpAny_Call_Name_kw (ld_blt J hg hm (u := .builtin "sorted") rfl (PyProof.Rows.callWith_kw ?_ ?_ ?_ ?_ ?_))
  · refine thn ((pa_cons (hs := hs) he pa_nil : PA X [e] _).run pos pins s σ H _ J h) ?_
    rintro us s1 ⟨vs, H1, J1, rv, a, ps, rfl, hS, hps, hTab, q⟩
    show wpAny _ _ (evalAll [do let v ← eval (.Lambda params (.Subscript (.Name x p1) (.Constant (.int 0) kd p2) p3) scope lpos) X.env; standAt pos; pure v]) _ _ _
    unfold evalAll
    refine wpAny_bind (wpAny_bind (lam_make2 J1 TB hcode hT hU hTab hdef (fun y hy => ?_) fun f c' pm ctv H2 s2 J2 ex tb2 hf hfn hfr hc' => ?_))
    · rw [hn] at hy
      rw [List.mem_singleton.mp hy]
      exact fun z => nomatch z
    refine wpAny_bind (wpAny_standAt (wpAny_pure ?_))
    refine wpAny_bind (wpAny_holding (wpAny_pure (wpAny_pure ?_)))
    obtain ⟨u, rfl, ru⟩ := vals1 rv
    obtain rfl : u = Value.ref a := ru
    show wpAny _ _ (call (.builtin "sorted") [.ref a] [("key", .ref f)]) _ _ _
    have h2 : H2 a = some (.lst (ps.map fun p => V.ref p.1)) := ex _ _ hS fun _ z => by cases z
    obtain ⟨its, rv2, hl, hz⟩ := J2.list (SqL.of h2)
    rw [List.length_map] at hz
    refine W.sorted_key_data (R := fun v (b : Addr × Str) => v = Value.ref b.1) (bs := ps) (b := false) (fun b => PyData.str b.2) hl.isList (each_fst rv2) (W.AllAlike.of fun b b' => by simp [W.alike]) (W.Sortable.others fun b => ⟨by simp, by simp⟩) hz (fun b _ => by simp [PyData.depth]; omega) (PyProof.Rows.ksk_s1 _ _) (fun _ => PyProof.Rows.ksk_l1 _ _) (fun _ => PyProof.Rows.ksk_t1 _ _) ?_ ?_
    · rintro v b rfl hbm h tk kp
      obtain ⟨r, hr⟩ := hps b hbm
      obtain ⟨lz, its', rv', o, g1, g2, n, g3⟩ := J2.hok b.1 _ (ex _ _ hr fun _ z => by cases z)
      cases rv' with
      | cons r1 r2 =>
        obtain ⟨tt, rfl⟩ := r1
        obtain ⟨⟨oc, vs, t3, k1, k2, k3⟩, _⟩ := J2.hok c' _ hc'
        exact lam_first (s := { s2 with heap := h, toks := tk }) (c' := c') (items := (Value.str b.2 tt :: _).toArray) hd (kp _ _ hf) hk hco hge hn hx ⟨c', oc, vs, t3, rfl, kp _ _ k1, k2, k3⟩ (J2.nolimit.keeps kp) (fun v => hb _ _ _ _ _ v) ⟨o, kp _ _ g1, g2, n, g3⟩ rfl
    · intro out cc h' tk kp fresh hn2 ll ho
      have sz : s2.heap.objs.size ≤ s2.heap.objs.size + 1 := Nat.le_succ _
      have l2 : ((ps.mergeSort (W.dataLe false fun p => PyData.str p.2)).map fun p => V.ref p.1).length ≤ sizeLine := by rw [List.length_map, List.length_mergeSort]; exact hz
      exact ⟨.ref (s2.heap.objs.size + 1), upd H2 (s2.heap.objs.size + 1) (.lst ((ps.mergeSort (W.dataLe false fun p => PyData.str p.2)).map fun p => V.ref p.1)), J2.laid (t' := tk) kp sz ⟨l2, out, cc, fst_each ho, hn2⟩, rfl, q H2 _ ex tb2 (J2.hok.fresh sz)⟩
  · exact hs2
  · exact hs3
  · rfl
  · rfl
end K8
namespace K8
open PySem L2 K1
/-! concepts, read plainly: what lies within what; reduced forms -/
mutual
/-- the names that stand in no some -/
def gnm : T → List Str
  | .atom s => if s = "all" then [] else [s]
  | .ex _ _ => []
  | .and l => gnms l
def gnms : List T → List Str
  | [] => []
  | t :: l => gnm t ++ gnms l
end
mutual
/-- the somes that stand in no some -/
def gch : T → List (Str × T)
  | .atom _ => []
  | .ex r c => [(r, c)]
  | .and l => gchs l
def gchs : List T → List (Str × T)
  | [] => []
  | t :: l => gch t ++ gchs l
end
theorem gnms_eq : ∀ l : List T, gnms l = l.flatMap gnm
  | [] => rfl
  | t :: l => by rw [gnms, gnms_eq l]; rfl
theorem gchs_eq : ∀ l : List T, gchs l = l.flatMap gch
  | [] => rfl
  | t :: l => by rw [gchs, gchs_eq l]; rfl
mutual
def dT : T → Nat
  | .atom _ => 0
  | .ex _ c => dT c + 1
  | .and l => dTs l
def dTs : List T → Nat
  | [] => 0
  | t :: l => max (dT t) (dTs l)
end
mutual
theorem dT_gch : ∀ {t : T} {p : Str × T}, p ∈ gch t → dT p.2 < dT t
  | .atom _, p, h => by rw [gch] at h; cases h
  | .ex r c, p, h => by
    rw [gch] at h
    rw [List.mem_singleton.mp h, dT]; exact Nat.lt_succ_self _
  | .and l, p, h => by
    rw [gch] at h
    rw [dT]; exact dTs_gch h
theorem dTs_gch : ∀ {l : List T} {p : Str × T}, p ∈ gchs l → dT p.2 < dTs l
  | [], p, h => by rw [gchs] at h; cases h
  | t :: l, p, h => by
    rw [gchs] at h
    rw [dTs]
    rcases List.mem_append.mp h with h | h
    · have := dT_gch h; omega
    · have := dTs_gch h; omega
end
/-- the first lies within the second, looked at so many somes deep -/
def le : Nat → T → T → Prop
  | 0, _, _ => True
  | n + 1, t, u => (∀ s ∈ gnm u, s ∈ gnm t) ∧ ∀ p ∈ gch u, ∃ a, (p.1, a) ∈ gch t ∧ le n a p.2
def Le (t u : T) : Prop := ∀ n, le n t u
theorem le_refl : ∀ (n : Nat) (t : T), le n t t
  | 0, _ => trivial
  | n + 1, t => ⟨fun s h => h, fun p h => ⟨p.2, h, le_refl n p.2⟩⟩
theorem le_trans : ∀ (n : Nat) {t u v : T}, le n t u → le n u v → le n t v
  | 0, _, _, _, _, _ => trivial
  | n + 1, t, u, v, h1, h2 => ⟨fun s h => h1.1 s (h2.1 s h), fun p h => by
    obtain ⟨b, hb, l2⟩ := h2.2 p h
    obtain ⟨a, ha, l1⟩ := h1.2 _ hb
    exact ⟨a, ha, le_trans n l1 l2⟩⟩
theorem Le.refl (t : T) : Le t t := fun n => le_refl n t
theorem Le.trans {t u v : T} (h1 : Le t u) (h2 : Le u v) : Le t v := fun n => le_trans n (h1 n) (h2 n)
theorem le_stab : ∀ (n m : Nat) {t u : T}, dT u < n → le n t u → le m t u
  | 0, _, _, _, h, _ => absurd h (Nat.not_lt_zero _)
  | n + 1, 0, _, _, _, _ => trivial
  | n + 1, m + 1, t, u, h, ⟨h1, h2⟩ => ⟨h1, fun p hp => by
    obtain ⟨a, ha, l⟩ := h2 p hp
    exact ⟨a, ha, le_stab n m (by have := dT_gch hp; omega) l⟩⟩
theorem Le.iff {t u : T} : Le t u ↔ (∀ s ∈ gnm u, s ∈ gnm t) ∧ ∀ p ∈ gch u, ∃ a, (p.1, a) ∈ gch t ∧ Le a p.2 := by
  constructor
  · intro h
    have h0 := h (dT u + 1)
    refine ⟨h0.1, fun p hp => ?_⟩
    obtain ⟨a, ha, l⟩ := h0.2 p hp
    exact ⟨a, ha, fun m => le_stab (dT u) m (dT_gch hp) l⟩
  · rintro ⟨h1, h2⟩ n
    cases n with
    | zero => trivial
    | succ n => exact ⟨h1, fun p hp => by obtain ⟨a, ha, l⟩ := h2 p hp; exact ⟨a, ha, l n⟩⟩
/-- they say the same -/
def Eqv (t u : T) : Prop := Le t u ∧ Le u t
theorem Eqv.refl (t : T) : Eqv t t := ⟨Le.refl t, Le.refl t⟩
theorem Eqv.symm {t u : T} (h : Eqv t u) : Eqv u t := ⟨h.2, h.1⟩
theorem Eqv.trans {t u v : T} (h : Eqv t u) (g : Eqv u v) : Eqv t v := ⟨h.1.trans g.1, g.2.trans h.2⟩
/-! reduced forms -/
def isIt : T → Bool
  | .atom s => decide (s ≠ "all")
  | .ex _ _ => true
  | .and _ => false
def conj : List T → T
  | [] => .atom "all"
  | [t] => t
  | l => .and l
inductive Rd : T → Prop
  | mk (I : List T) (it : ∀ i ∈ I, isIt i = true) (rd : ∀ r c, T.ex r c ∈ I → Rd c) (so : I.Pairwise fun a b => ltb (sT a) (sT b) = true) (an : ∀ r a b, T.ex r a ∈ I → T.ex r b ∈ I → Le a b → a = b) : Rd (conj I)
theorem gnm_it {i : T} (h : isIt i = true) (s : Str) : s ∈ gnm i ↔ i = .atom s := by
  cases i with
  | atom s' =>
    rw [gnm]
    have h : s' ≠ "all" := of_decide_eq_true h
    rw [if_neg h]
    simp [eq_comm]
  | ex r c => rw [gnm]; simp
  | and l => cases h
theorem gch_it {i : T} (h : isIt i = true) (p : Str × T) : p ∈ gch i ↔ i = .ex p.1 p.2 := by
  cases i with
  | atom s' => rw [gch]; simp
  | ex r c =>
    rw [gch, List.mem_singleton]
    constructor
    · rintro rfl; rfl
    · intro h
      injection h with h1 h2
      rw [h1, h2]
  | and l => cases h
theorem gnm_conj {I : List T} (h : ∀ i ∈ I, isIt i = true) (s : Str) : s ∈ gnm (conj I) ↔ T.atom s ∈ I := by
  have key : s ∈ gnms I ↔ T.atom s ∈ I := by
    rw [gnms_eq, List.mem_flatMap]
    constructor
    · rintro ⟨i, hi, hs⟩
      rw [← (gnm_it (h i hi) s).mp hs]; exact hi
    · intro hi
      exact ⟨_, hi, (gnm_it (h _ hi) s).mpr rfl⟩
  match I, h, key with
  | [], _, _ => simp [conj, gnm]
  | [t], h, _ => rw [conj, gnm_it (h t (by simp)) s]; simp [eq_comm]
  | a :: b :: l, _, key => rw [conj, gnm]; exact key; all_goals simp
theorem gch_conj {I : List T} (h : ∀ i ∈ I, isIt i = true) (p : Str × T) : p ∈ gch (conj I) ↔ T.ex p.1 p.2 ∈ I := by
  have key : p ∈ gchs I ↔ T.ex p.1 p.2 ∈ I := by
    rw [gchs_eq, List.mem_flatMap]
    constructor
    · rintro ⟨i, hi, hs⟩
      rw [← (gch_it (h i hi) p).mp hs]; exact hi
    · intro hi
      exact ⟨_, hi, (gch_it (h _ hi) p).mpr rfl⟩
  match I, h, key with
  | [], _, _ => simp [conj, gch]
  | [t], h, _ => rw [conj, gch_it (h t (by simp)) p]; simp [eq_comm]
  | a :: b :: l, _, key => rw [conj, gch]; exact key; all_goals simp
theorem sorted_ext {α : Type} {lt : α → α → Prop} (ir : ∀ a, ¬ lt a a) (as : ∀ a b, lt a b → ¬ lt b a) : ∀ {l m : List α}, l.Pairwise lt → m.Pairwise lt → (∀ x, x ∈ l ↔ x ∈ m) → l = m
  | [], [], _, _, _ => rfl
  | [], y :: m, _, _, h => absurd ((h y).mpr List.mem_cons_self) (by simp)
  | x :: l, [], _, _, h => absurd ((h x).mp List.mem_cons_self) (by simp)
  | x :: l, y :: m, hl, hm, h => by
    rw [List.pairwise_cons] at hl hm
    have exy : x = y := by
      rcases List.mem_cons.mp ((h x).mp List.mem_cons_self) with e | e
      · exact e
      rcases List.mem_cons.mp ((h y).mpr List.mem_cons_self) with e' | e'
      · exact e'.symm
      · exact absurd (hm.1 x e) (as _ _ (hl.1 y e'))
    subst exy
    rw [sorted_ext ir as hl.2 hm.2 fun z => ?_]
    constructor
    · intro hz
      rcases List.mem_cons.mp ((h z).mp (List.mem_cons_of_mem _ hz)) with e | e
      · exact absurd (hl.1 z hz) (by rw [e]; exact ir _)
      · exact e
    · intro hz
      rcases List.mem_cons.mp ((h z).mpr (List.mem_cons_of_mem _ hz)) with e | e
      · exact absurd (hm.1 z hz) (by rw [e]; exact ir _)
      · exact e
theorem ltbT_irrefl (a : Str) : ¬ ltb a a = true := by
  rw [show ltb a a = false from ltc_irrefl _]; simp
theorem ltbT_asym (a b : Str) (h : ltb a b = true) : ¬ ltb b a = true := fun h2 => ltbT_irrefl a (ltc_trans h h2)
/-- two reduced forms that lie within each other are one -/
theorem Rd.uni : ∀ {t : T}, Rd t → ∀ {u : T}, Rd u → Eqv t u → t = u
  | _, .mk I it rd so an, _, .mk J it' rd' so' an', ⟨h1, h2⟩ => by
    obtain ⟨n1, c1⟩ := Le.iff.mp h1
    obtain ⟨n2, c2⟩ := Le.iff.mp h2
    have ex1 : ∀ r a, T.ex r a ∈ I → T.ex r a ∈ J := fun r a ha => by
      obtain ⟨b, hb, lb⟩ := c2 (r, a) ((gch_conj it _).mpr ha)
      obtain ⟨a', ha', la⟩ := c1 (r, b) hb
      have hb := (gch_conj it' _).mp hb
      have ha' := (gch_conj it _).mp ha'
      have e := an r a' a ha' ha (la.trans lb)
      rw [e] at la
      rw [Rd.uni (rd r a ha) (rd' r b hb) ⟨la, lb⟩]; exact hb
    have ex2 : ∀ r b, T.ex r b ∈ J → T.ex r b ∈ I := fun r b hb => by
      obtain ⟨a, ha, la⟩ := c1 (r, b) ((gch_conj it' _).mpr hb)
      obtain ⟨b', hb', lb⟩ := c2 (r, a) ha
      have ha := (gch_conj it _).mp ha
      have hb' := (gch_conj it' _).mp hb'
      have e := an' r b' b hb' hb (lb.trans la)
      rw [e] at lb
      rw [← Rd.uni (rd r a ha) (rd' r b hb) ⟨la, lb⟩]; exact ha
    have e : I = J := by
      refine sorted_ext (lt := fun a b => ltb (sT a) (sT b) = true) (fun a => ltbT_irrefl _) (fun a b => ltbT_asym _ _) so so' fun x => ?_
      constructor
      · intro hx
        cases x with
        | atom s => exact (gnm_conj it' s).mp (n2 s ((gnm_conj it s).mpr hx))
        | ex r a => exact ex1 r a hx
        | and l => have := it _ hx; cases this
      · intro hx
        cases x with
        | atom s => exact (gnm_conj it s).mp (n1 s ((gnm_conj it' s).mpr hx))
        | ex r a => exact ex2 r a hx
        | and l => have := it' _ hx; cases this
    rw [e]
end K8
namespace K8
open PySem L2 K1
/-! what make makes -/
def raw (N : List Str) (C : List (Str × T)) : T := .and (N.map .atom ++ C.map fun p => .ex p.1 p.2)
theorem gnm_raw {N : List Str} {C : List (Str × T)} (hN : ∀ s ∈ N, s ≠ "all") (s : Str) : s ∈ gnm (raw N C) ↔ s ∈ N := by
  unfold raw
  rw [gnm, gnms_eq, List.mem_flatMap]
  constructor
  · rintro ⟨i, hi, hs⟩
    rcases List.mem_append.mp hi with h | h
    · obtain ⟨x, hx, rfl⟩ := List.mem_map.mp h
      rw [gnm, if_neg (hN x hx)] at hs
      rw [List.mem_singleton.mp hs]; exact hx
    · obtain ⟨p, hp, rfl⟩ := List.mem_map.mp h
      rw [gnm] at hs; cases hs
  · intro h
    exact ⟨.atom s, List.mem_append_left _ (List.mem_map.mpr ⟨s, h, rfl⟩), by rw [gnm, if_neg (hN s h)]; simp⟩
theorem gch_raw {N : List Str} {C : List (Str × T)} (p : Str × T) : p ∈ gch (raw N C) ↔ p ∈ C := by
  unfold raw
  rw [gch, gchs_eq, List.mem_flatMap]
  constructor
  · rintro ⟨i, hi, hs⟩
    rcases List.mem_append.mp hi with h | h
    · obtain ⟨x, hx, rfl⟩ := List.mem_map.mp h
      rw [gch] at hs; cases hs
    · obtain ⟨q, hq, rfl⟩ := List.mem_map.mp h
      rw [gch] at hs
      rw [List.mem_singleton.mp hs]; exact hq
  · intro h
    exact ⟨.ex p.1 p.2, List.mem_append_right _ (List.mem_map.mpr ⟨p, h, rfl⟩), by rw [gch]; simp⟩
/-- those that none of the others lies within -/
def Least (C : List (Str × T)) (p : Str × T) : Prop := p ∈ C ∧ ∀ q ∈ C, q.1 = p.1 → Le q.2 p.2 → q = p
theorem least_below {C : List (Str × T)} (rd : ∀ p ∈ C, Rd p.2) : ∀ (n : Nat) (p : Str × T), p ∈ C → (∀ L : List (Str × T), L.Nodup → (∀ q ∈ L, q ∈ C ∧ q.1 = p.1 ∧ Le q.2 p.2) → L.length ≤ n) → ∃ q, Least C q ∧ q.1 = p.1 ∧ Le q.2 p.2
  | 0, p, hp, h => by
    have := h [p] (by simp) (fun q hq => by rw [List.mem_singleton.mp hq]; exact ⟨hp, rfl, Le.refl _⟩)
    simp at this
  | n + 1, p, hp, h => by
    by_cases m : ∀ q ∈ C, q.1 = p.1 → Le q.2 p.2 → q = p
    · exact ⟨p, ⟨hp, m⟩, rfl, Le.refl _⟩
    · have ⟨q, hq⟩ : ∃ q, ¬ (q ∈ C → q.1 = p.1 → Le q.2 p.2 → q = p) := Classical.not_forall.mp m
      rw [Classical.not_imp, Classical.not_imp, Classical.not_imp] at hq
      obtain ⟨q1, q2, q3, q4⟩ := hq
      have npq : ¬ Le p.2 q.2 := fun z => q4 (Prod.ext q2 (Rd.uni (rd q q1) (rd p hp) ⟨q3, z⟩))
      obtain ⟨r, r1, r2, r3⟩ := least_below rd n q q1 fun L nd hL => by
        have := h (p :: L) (List.nodup_cons.mpr ⟨fun z => npq (hL p z).2.2, nd⟩) (fun x hx => by
          rcases List.mem_cons.mp hx with e | e
          · rw [e]; exact ⟨hp, rfl, Le.refl _⟩
          · have := hL x e
            exact ⟨this.1, this.2.1.trans q2, this.2.2.trans q3⟩)
        rw [List.length_cons] at this
        omega
      exact ⟨r, r1, r2.trans q2, r3.trans q3⟩
theorem nodup_sub_len {α : Type} [DecidableEq α] : ∀ {L C : List α}, L.Nodup → (∀ x ∈ L, x ∈ C) → L.length ≤ C.length
  | [], C, _, _ => Nat.zero_le _
  | x :: L, C, nd, h => by
    rw [List.nodup_cons] at nd
    have mx := h x List.mem_cons_self
    have := nodup_sub_len (L := L) (C := C.erase x) nd.2 fun y hy => (List.mem_erase_of_ne (fun z => nd.1 (by rw [← z]; exact hy))).mpr (h y (List.mem_cons_of_mem _ hy))
    rw [List.length_erase_of_mem mx] at this
    have := List.length_pos_of_mem mx
    rw [List.length_cons]; omega
open Classical in
theorem least_of {C : List (Str × T)} (rd : ∀ p ∈ C, Rd p.2) {p : Str × T} (hp : p ∈ C) : ∃ q, Least C q ∧ q.1 = p.1 ∧ Le q.2 p.2 :=
  least_below rd C.length p hp fun L nd hL => nodup_sub_len nd fun x hx => (hL x hx).1
/-- the items of what is made -/
structure Items (N : List Str) (C : List (Str × T)) (I : List T) : Prop where
  so : I.Pairwise fun a b => ltb (sT a) (sT b) = true
  mem : ∀ i, i ∈ I ↔ (∃ s ∈ N, i = .atom s) ∨ ∃ p, Least C p ∧ i = .ex p.1 p.2
theorem Items.it {N : List Str} {C : List (Str × T)} {I : List T} (h : Items N C I) (hN : ∀ s ∈ N, s ≠ "all") : ∀ i ∈ I, isIt i = true := fun i hi => by
  rcases (h.mem i).mp hi with ⟨s, hs, rfl⟩ | ⟨p, hp, rfl⟩
  · exact decide_eq_true (hN s hs)
  · rfl
theorem Items.rd {N : List Str} {C : List (Str × T)} {I : List T} (h : Items N C I) (hN : ∀ s ∈ N, s ≠ "all") (rd : ∀ p ∈ C, Rd p.2) : Rd (conj I) := by
  have ex : ∀ {r c}, T.ex r c ∈ I → Least C (r, c) := fun {r c} hc => by
    rcases (h.mem _).mp hc with ⟨s, hs, e⟩ | ⟨p, hp, e⟩
    · cases e
    · injection e with e1 e2
      rw [e1, e2]; exact hp
  refine .mk I (h.it hN) (fun r c hc => rd _ (ex hc).1) h.so fun r a b ha hb l => ?_
  exact congrArg Prod.snd ((ex hb).2 _ (ex ha).1 rfl l)
theorem Items.eqv {N : List Str} {C : List (Str × T)} {I : List T} (h : Items N C I) (hN : ∀ s ∈ N, s ≠ "all") (rd : ∀ p ∈ C, Rd p.2) : Eqv (conj I) (raw N C) := by
  have it := h.it hN
  constructor
  · rw [Le.iff]
    refine ⟨fun s hs => (gnm_conj it s).mpr ((h.mem _).mpr (.inl ⟨s, (gnm_raw hN s).mp hs, rfl⟩)), fun p hp => ?_⟩
    obtain ⟨q, q1, q2, q3⟩ := least_of rd ((gch_raw p).mp hp)
    exact ⟨q.2, (gch_conj it _).mpr ((h.mem _).mpr (.inr ⟨q, q1, by rw [← q2]⟩)), q3⟩
  · rw [Le.iff]
    refine ⟨fun s hs => (gnm_raw hN s).mpr ?_, fun p hp => ⟨p.2, (gch_raw _).mpr ?_, Le.refl _⟩⟩
    · rcases (h.mem _).mp ((gnm_conj it s).mp hs) with ⟨s', hs', e⟩ | ⟨p, hp, e⟩
      · injection e with e; rw [e]; exact hs'
      · cases e
    · rcases (h.mem _).mp ((gch_conj it p).mp hp) with ⟨s', hs', e⟩ | ⟨q, hq, e⟩
      · cases e
      · injection e with e1 e2
        rw [show p = q from Prod.ext e1 e2]; exact hq.1
end K8
namespace K8
open PySem L2 K1
/-! the plain common concept of some concepts, and the lattice -/
def IsJ (Z : T) (Xs : List T) : Prop := (∀ x ∈ Xs, Le x Z) ∧ ∀ Y, (∀ x ∈ Xs, Le x Y) → Le Z Y
theorem IsJ.eqv {Z Z' : T} {Xs Xs' : List T} (h : IsJ Z Xs) (h' : IsJ Z' Xs') (a : ∀ x ∈ Xs, Le x Z') (b : ∀ x ∈ Xs', Le x Z) : Eqv Z Z' := ⟨h.2 _ a, h'.2 _ b⟩
/-- a child by the same role of each -/
inductive Way (r : Str) : List T → List T → Prop
  | nil : Way r [] []
  | cons {x a : T} {Xs as : List T} : (r, a) ∈ gch x → Way r Xs as → Way r (x :: Xs) (a :: as)
theorem Way.le {r : Str} {J : T} : ∀ {Xs as : List T}, Way r Xs as → (∀ a ∈ as, Le a J) → ∀ x ∈ Xs, ∃ a, (r, a) ∈ gch x ∧ Le a J
  | _, _, .nil, _, x, hx => by cases hx
  | _, _, .cons h w, l, x, hx => by
    rcases List.mem_cons.mp hx with e | e
    · rw [e]; exact ⟨_, h, l _ List.mem_cons_self⟩
    · exact w.le (fun a ha => l a (List.mem_cons_of_mem _ ha)) x e
theorem way_of {r : Str} {b : T} : ∀ {Xs : List T}, (∀ x ∈ Xs, ∃ a, (r, a) ∈ gch x ∧ Le a b) → ∃ as, Way r Xs as ∧ ∀ a ∈ as, Le a b
  | [], _ => ⟨[], .nil, fun a ha => by cases ha⟩
  | x :: Xs, h => by
    obtain ⟨a, h1, h2⟩ := h x List.mem_cons_self
    obtain ⟨as, h3, h4⟩ := way_of fun y hy => h y (List.mem_cons_of_mem _ hy)
    exact ⟨a :: as, .cons h1 h3, fun y hy => (List.mem_cons.mp hy).elim (fun e => e ▸ h2) (h4 y)⟩
/-- what common makes is the least above all -/
theorem join_raw {N : List Str} {C : List (Str × T)} {Xs : List T} (hN : ∀ s ∈ N, s ≠ "all") (ne : Xs ≠ []) (n : ∀ s, s ∈ N ↔ ∀ x ∈ Xs, s ∈ gnm x) (c1 : ∀ p ∈ C, ∃ as, Way p.1 Xs as ∧ IsJ p.2 as) (c2 : ∀ r as, Way r Xs as → ∃ J, (r, J) ∈ C ∧ IsJ J as) : IsJ (raw N C) Xs := by
  constructor
  · intro x hx
    rw [Le.iff]
    refine ⟨fun s hs => (n s).mp ((gnm_raw hN s).mp hs) x hx, fun p hp => ?_⟩
    obtain ⟨as, w, j⟩ := c1 p ((gch_raw p).mp hp)
    exact w.le j.1 x hx
  · intro Y hY
    rw [Le.iff]
    refine ⟨fun s hs => (gnm_raw hN s).mpr ((n s).mpr fun x hx => (Le.iff.mp (hY x hx)).1 s hs), fun p hp => ?_⟩
    obtain ⟨as, w, l⟩ := way_of (r := p.1) (b := p.2) fun x hx => (Le.iff.mp (hY x hx)).2 p hp
    obtain ⟨J, hJ, j⟩ := c2 _ _ w
    exact ⟨J, (gch_raw _).mpr hJ, j.2 _ l⟩
theorem IsJ.of_eqv {Z Z' : T} {Xs : List T} (h : IsJ Z Xs) (e : Eqv Z' Z) : IsJ Z' Xs := ⟨fun x hx => (h.1 x hx).trans e.2, fun Y hY => e.1.trans (h.2 Y hY)⟩
theorem IsJ.map_eqv {Z : T} : ∀ {Xs Xs' : List T}, Paired Eqv Xs Xs' → IsJ Z Xs → IsJ Z Xs' := fun {Xs Xs'} p h => by
  have up : ∀ {Xs Xs' : List T}, Paired Eqv Xs Xs' → (∀ Y, (∀ x ∈ Xs, Le x Y) → ∀ x ∈ Xs', Le x Y) ∧ ∀ Y, (∀ x ∈ Xs', Le x Y) → ∀ x ∈ Xs, Le x Y := fun p => by
    induction p with
    | nil => exact ⟨fun Y h x hx => (by cases hx), fun Y h x hx => (by cases hx)⟩
    | cons a b ih =>
      exact ⟨fun Y h x hx => (List.mem_cons.mp hx).elim (fun e => e ▸ a.2.trans (h _ List.mem_cons_self)) (ih.1 Y (fun z hz => h z (List.mem_cons_of_mem _ hz)) x),
        fun Y h x hx => (List.mem_cons.mp hx).elim (fun e => e ▸ a.1.trans (h _ List.mem_cons_self)) (ih.2 Y (fun z hz => h z (List.mem_cons_of_mem _ hz)) x)⟩
  exact ⟨(up p).1 Z h.1, fun Y hY => h.2 Y ((up p).2 Y hY)⟩
theorem isJ_one (x : T) : IsJ x [x] := ⟨fun y hy => by rw [List.mem_singleton.mp hy]; exact Le.refl _, fun Y h => h x (by simp)⟩
/-! and -/
theorem gnm_and2 {x y : T} (s : Str) : s ∈ gnm (.and [x, y]) ↔ s ∈ gnm x ∨ s ∈ gnm y := by rw [gnm, gnms, gnms, gnms]; simp
theorem gch_and2 {x y : T} (p : Str × T) : p ∈ gch (.and [x, y]) ↔ p ∈ gch x ∨ p ∈ gch y := by rw [gch, gchs, gchs, gchs]; simp
theorem and_le1 {x y : T} : Le (.and [x, y]) x := Le.iff.mpr ⟨fun s h => (gnm_and2 s).mpr (.inl h), fun p h => ⟨p.2, (gch_and2 _).mpr (.inl h), Le.refl _⟩⟩
theorem and_le2 {x y : T} : Le (.and [x, y]) y := Le.iff.mpr ⟨fun s h => (gnm_and2 s).mpr (.inr h), fun p h => ⟨p.2, (gch_and2 _).mpr (.inr h), Le.refl _⟩⟩
theorem le_and {x y z : T} (h1 : Le z x) (h2 : Le z y) : Le z (.and [x, y]) := by
  obtain ⟨a1, a2⟩ := Le.iff.mp h1
  obtain ⟨b1, b2⟩ := Le.iff.mp h2
  exact Le.iff.mpr ⟨fun s h => ((gnm_and2 s).mp h).elim (a1 s) (b1 s), fun p h => ((gch_and2 _).mp h).elim (a2 p) (b2 p)⟩
mutual
theorem gnm_all : ∀ {t : T} {s : Str}, s ∈ gnm t → s ≠ "all"
  | .atom x, s, h => by
    rw [gnm] at h
    split at h
    · cases h
    · rename_i n
      rw [List.mem_singleton.mp h]; exact n
  | .ex r c, s, h => by rw [gnm] at h; cases h
  | .and l, s, h => by rw [gnm] at h; exact gnms_all h
theorem gnms_all : ∀ {l : List T} {s : Str}, s ∈ gnms l → s ≠ "all"
  | [], s, h => by rw [gnms] at h; cases h
  | t :: l, s, h => by
    rw [gnms] at h
    exact (List.mem_append.mp h).elim gnm_all gnms_all
end
theorem le_atom {t : T} {s : Str} (n : s ≠ "all") : Le t (.atom s) ↔ s ∈ gnm t := by
  rw [Le.iff, gnm, if_neg n, gch]
  simp
theorem le_ex {t : T} {r : Str} {b : T} : Le t (.ex r b) ↔ ∃ a, (r, a) ∈ gch t ∧ Le a b := by
  rw [Le.iff, gnm, gch]
  simp
theorem IsJ.name {J : T} {Xs : List T} (h : IsJ J Xs) (ne : Xs ≠ []) {s : Str} : s ∈ gnm J ↔ ∀ x ∈ Xs, s ∈ gnm x := by
  constructor
  · intro hs x hx
    exact (Le.iff.mp (h.1 x hx)).1 s hs
  · intro hs
    obtain ⟨x, hx⟩ : ∃ x, x ∈ Xs := List.exists_mem_of_ne_nil _ ne
    have n := gnm_all (hs x hx)
    exact (le_atom n).mp (h.2 _ fun y hy => (le_atom n).mpr (hs y hy))
theorem IsJ.child {J : T} {Xs : List T} (h : IsJ J Xs) {r : Str} {b : T} (c : ∀ x ∈ Xs, ∃ a, (r, a) ∈ gch x ∧ Le a b) : ∃ a, (r, a) ∈ gch J ∧ Le a b :=
  le_ex.mp (h.2 _ fun x hx => le_ex.mpr (c x hx))
theorem mem2 {α : Type} {x y w : α} (h : w ∈ [x, y]) : w = x ∨ w = y := by simpa using h
/-- one and (two over three) is (one and two) over (one and three) -/
theorem dist1 {x y z J K : T} (hJ : IsJ J [y, z]) (hK : IsJ K [.and [x, y], .and [x, z]]) : Eqv (.and [x, J]) K := by
  constructor
  · obtain ⟨k1, k2⟩ := Le.iff.mp (hK.1 (.and [x, y]) (by simp))
    obtain ⟨k3, k4⟩ := Le.iff.mp (hK.1 (.and [x, z]) (by simp))
    rw [Le.iff]
    refine ⟨fun s hs => (gnm_and2 s).mpr ?_, fun p hp => ?_⟩
    · rcases (gnm_and2 s).mp (k1 s hs) with a | a
      · exact .inl a
      rcases (gnm_and2 s).mp (k3 s hs) with b | b
      · exact .inl b
      exact .inr ((hJ.name (by simp)).mpr fun w hw => (mem2 hw).elim (fun e => e ▸ a) fun e => e ▸ b)
    · obtain ⟨a1, h1, l1⟩ := k2 p hp
      obtain ⟨a2, h2, l2⟩ := k4 p hp
      rcases (gch_and2 _).mp h1 with a | a
      · exact ⟨a1, (gch_and2 _).mpr (.inl a), l1⟩
      rcases (gch_and2 _).mp h2 with b | b
      · exact ⟨a2, (gch_and2 _).mpr (.inl b), l2⟩
      obtain ⟨c, c1, c2⟩ := hJ.child (r := p.1) (b := p.2) fun w hw => (mem2 hw).elim (fun e => e ▸ ⟨a1, a, l1⟩) fun e => e ▸ ⟨a2, b, l2⟩
      exact ⟨c, (gch_and2 _).mpr (.inr c1), c2⟩
  · have hy := hJ.1 y (by simp)
    have hz := hJ.1 z (by simp)
    refine hK.2 _ fun w hw => ?_
    rcases mem2 hw with rfl | rfl
    · exact le_and and_le1 (and_le2.trans hy)
    · exact le_and and_le1 (and_le2.trans hz)
/-- one over (two and three) is (one over two) and (one over three) -/
theorem dist2 {x y z J A B : T} (hJ : IsJ J [x, .and [y, z]]) (hA : IsJ A [x, y]) (hB : IsJ B [x, z]) : Eqv J (.and [A, B]) := by
  constructor
  · refine le_and (hJ.2 _ fun w hw => ?_) (hJ.2 _ fun w hw => ?_)
    · rcases mem2 hw with rfl | rfl
      · exact hA.1 _ (by simp)
      · exact and_le1.trans (hA.1 _ (by simp))
    · rcases mem2 hw with rfl | rfl
      · exact hB.1 _ (by simp)
      · exact and_le2.trans (hB.1 _ (by simp))
  · obtain ⟨k1, k2⟩ := Le.iff.mp (hJ.1 x (by simp))
    obtain ⟨k3, k4⟩ := Le.iff.mp (hJ.1 (.and [y, z]) (by simp))
    rw [Le.iff]
    refine ⟨fun s hs => (gnm_and2 s).mpr ?_, fun p hp => ?_⟩
    · have a := k1 s hs
      rcases (gnm_and2 s).mp (k3 s hs) with b | b
      · exact .inl ((hA.name (by simp)).mpr fun w hw => (mem2 hw).elim (fun e => e ▸ a) fun e => e ▸ b)
      · exact .inr ((hB.name (by simp)).mpr fun w hw => (mem2 hw).elim (fun e => e ▸ a) fun e => e ▸ b)
    · obtain ⟨a1, h1, l1⟩ := k2 p hp
      obtain ⟨a2, h2, l2⟩ := k4 p hp
      rcases (gch_and2 _).mp h2 with b | b
      · obtain ⟨c, c1, c2⟩ := hA.child (r := p.1) (b := p.2) fun w hw => (mem2 hw).elim (fun e => e ▸ ⟨a1, h1, l1⟩) fun e => e ▸ ⟨a2, b, l2⟩
        exact ⟨c, (gch_and2 _).mpr (.inl c1), c2⟩
      · obtain ⟨c, c1, c2⟩ := hB.child (r := p.1) (b := p.2) fun w hw => (mem2 hw).elim (fun e => e ▸ ⟨a1, h1, l1⟩) fun e => e ▸ ⟨a2, b, l2⟩
        exact ⟨c, (gch_and2 _).mpr (.inr c1), c2⟩
theorem join_ex {r : Str} {x y J K : T} (hJ : IsJ J [x, y]) (hK : IsJ K [.ex r x, .ex r y]) : Eqv K (.ex r J) := by
  have hx := hJ.1 x (by simp)
  have hy := hJ.1 y (by simp)
  constructor
  · refine hK.2 _ fun w hw => ?_
    rcases mem2 hw with rfl | rfl
    · exact le_ex.mpr ⟨x, by rw [gch]; simp, hx⟩
    · exact le_ex.mpr ⟨y, by rw [gch]; simp, hy⟩
  · obtain ⟨k1, k2⟩ := Le.iff.mp (hK.1 (.ex r x) (by simp))
    obtain ⟨k3, k4⟩ := Le.iff.mp (hK.1 (.ex r y) (by simp))
    rw [Le.iff]
    refine ⟨fun s hs => (by have := k1 s hs; rw [gnm] at this; cases this), fun p hp => ?_⟩
    obtain ⟨a1, h1, l1⟩ := k2 p hp
    obtain ⟨a2, h2, l2⟩ := k4 p hp
    rw [gch, List.mem_singleton] at h1 h2
    have e1 := congrArg Prod.fst h1
    have e2 : a1 = x := congrArg Prod.snd h1
    have e3 : a2 = y := congrArg Prod.snd h2
    refine ⟨J, by rw [gch, List.mem_singleton]; exact Prod.ext e1 rfl, hJ.2 _ fun w hw => ?_⟩
    rcases mem2 hw with rfl | rfl
    · rw [← e2]; exact l1
    · rw [← e3]; exact l2
theorem join_sub {J K : T} {Xs Ys : List T} (hJ : IsJ J Xs) (hK : IsJ K Ys) (a : ∀ x ∈ Xs, x ∈ Ys) (b : ∀ y ∈ Ys, y ∈ Xs) : Eqv J K :=
  ⟨hJ.2 _ fun x hx => hK.1 x (a x hx), hK.2 _ fun y hy => hJ.1 y (b y hy)⟩
theorem join_nest {x y z J A K : T} (hA : IsJ A [x, y]) (hJ : IsJ J [A, z]) (hK : IsJ K [x, y, z]) : Eqv J K := by
  constructor
  · refine hJ.2 _ fun w hw => ?_
    rcases mem2 hw with rfl | rfl
    · exact hA.2 _ fun w hw => by rcases mem2 hw with rfl | rfl <;> exact hK.1 _ (by simp)
    · exact hK.1 _ (by simp)
  · refine hK.2 _ fun w hw => ?_
    have a1 := hJ.1 A (by simp)
    simp only [List.mem_cons, List.not_mem_nil, or_false] at hw
    rcases hw with rfl | rfl | rfl
    · exact (hA.1 _ (by simp)).trans a1
    · exact (hA.1 _ (by simp)).trans a1
    · exact hJ.1 _ (by simp)
theorem rd_all : Rd (.atom "all") := .mk [] (fun i hi => by cases hi) (fun r c h => by cases h) .nil (fun r a b h => by cases h)
theorem rd_ex {r : Str} {t : T} (h : Rd t) : Rd (.ex r t) := by
  refine .mk [.ex r t] (fun i hi => by rw [List.mem_singleton.mp hi]; rfl) (fun r' c hc => ?_) (by simp) fun r' a b ha hb _ => ?_
  · have := List.mem_singleton.mp hc
    injection this with _ e
    rw [e]; exact h
  · have e1 := List.mem_singleton.mp ha
    have e2 := List.mem_singleton.mp hb
    injection e1 with _ e1
    injection e2 with _ e2
    rw [e1, e2]
theorem le_all {t : T} : Le t (.atom "all") := by
  rw [Le.iff, gnm, gch]
  simp
end K8
namespace K8
open PySem L2 K1
/-! sizes -/
mutual
/-- how many somes -/
def cz : T → Nat
  | .atom _ => 0
  | .ex _ c => cz c + 1
  | .and l => czs l
def czs : List T → Nat
  | [] => 0
  | t :: l => cz t + czs l
end
def tz (t : T) : Nat := cz t + 1
def sumT (l : List (Str × T)) : Nat := (l.map fun p => tz p.2).sum
theorem sumT_app (a b : List (Str × T)) : sumT (a ++ b) = sumT a + sumT b := by simp [sumT]
mutual
theorem cz_gch : ∀ t : T, cz t = sumT (gch t)
  | .atom s => by rw [cz, gch]; rfl
  | .ex r c => by rw [cz, gch]; simp [sumT, tz]
  | .and l => by rw [cz, gch]; exact czs_gch l
theorem czs_gch : ∀ l : List T, czs l = sumT (gchs l)
  | [] => by rw [czs, gchs]; rfl
  | t :: l => by rw [czs, gchs, sumT_app, cz_gch t, czs_gch l]
end
theorem sumT_mem {l : List (Str × T)} {p : Str × T} (h : p ∈ l) : tz p.2 ≤ sumT l := by
  induction l with
  | nil => cases h
  | cons a r ih =>
    show _ ≤ tz a.2 + sumT r
    rcases List.mem_cons.mp h with e | e
    · rw [e]; omega
    · have := ih e; omega
open Classical in
theorem sumT_sub : ∀ {L C : List (Str × T)}, L.Nodup → (∀ p ∈ L, p ∈ C) → sumT L ≤ sumT C
  | [], C, _, _ => Nat.zero_le _
  | x :: L, C, nd, h => by
    rw [List.nodup_cons] at nd
    have mx := h x List.mem_cons_self
    have := sumT_sub (L := L) (C := C.erase x) nd.2 fun y hy => (List.mem_erase_of_ne (fun z => nd.1 (by rw [← z]; exact hy))).mpr (h y (List.mem_cons_of_mem _ hy))
    have e : sumT C = tz x.2 + sumT (C.erase x) := by
      have pm := (List.perm_cons_erase mx).map (fun p : Str × T => tz p.2)
      show (C.map fun p => tz p.2).sum = _
      rw [pm.sum_nat]
      rfl
    show tz x.2 + sumT L ≤ _
    omega
theorem join_len_le (xs : List (List Nat)) : (TL.joinL amp xs).length ≤ (xs.map fun x => x.length + 3).sum := by
  have := join_sum xs
  have e : (xs.map fun x => x.length + 3).sum = (xs.map List.length).sum + 3 * xs.length := by
    induction xs with
    | nil => rfl
    | cons a r ih =>
      have ih := ih (join_sum r)
      simp only [List.map_cons, List.sum_cons, List.length_cons]
      omega
  omega
theorem tx_conj (I : List T) : (tx (conj I)).length ≤ (I.map fun i => (pr i).length + 3).sum + 3 := by
  match I with
  | [] =>
    show (tx (.atom "all")).length ≤ _
    rw [tx]
    have : (cs ("all" : Str)).length = 3 := by decide +kernel
    omega
  | [t] =>
    show (tx t).length ≤ _
    have : (tx t).length ≤ (pr t).length := by
      unfold pr wrap
      split <;> simp
      omega
    simp only [List.map_cons, List.map_nil, List.sum_cons, List.sum_nil]
    omega
  | a :: b :: l =>
    show (tx (.and (a :: b :: l))).length ≤ _
    rw [tx_and]
    have := join_len_le ((a :: b :: l).map pr)
    rw [List.map_map] at this
    exact Nat.le_trans this (Nat.le_add_right _ _)
theorem pr_len (t : T) : (pr t).length ≤ (tx t).length + 2 := by
  unfold pr wrap
  split <;> simp
end K8
namespace K1
open PySem L2 K8
/-! the forms, in the heap -/
theorem same_of {H H' : Hp} {D : Addr} {o : HO} (b : But [D] (upd H D o) H') (hD : H D = none) : Same H H' := fun a u e => b _ _ (by simpa using ne_of_none e hD) (by rw [upd_ne (ne_of_none e hD)]; exact e)
theorem iteFe {a b : Prop} {c : Bool} (h : c = false) (x : b) : if c = true then a else b := by subst h; exact x
theorem iteTe {a b : Prop} {c : Bool} (h : c = true) (x : a) : if c = true then a else b := by subst h; exact x
theorem paired_imp {α β : Type} {F G : α → β → Prop} (h : ∀ a b, F a b → G a b) : ∀ {xs : List α} {us : List β}, Paired F xs us → Paired G xs us
  | _, _, .nil => .nil
  | _, _, .cons a b => .cons (h _ _ a) (paired_imp h b)
structure FA where
  lc : Addr
  lt : Addr
  lr : Addr
  lh : Addr
  dn : Addr
  dw : Addr
  lm : Addr
  db : Addr
  vn : List Str
def FA.l (A : FA) : List Addr := [A.lc, A.lt, A.lr, A.lh, A.dn, A.dw, A.lm, A.db]
/-- the children of a form, by number -/
abbrev Ch := List (Str × Nat)
def chV (p : Str × Nat) : List V := [.str p.1, .int (p.2 : Nat)]
def KidAt (H : Hp) (a : Addr) (c : Ch) : Prop := ∃ ps : List (Addr × (Str × Nat)), H a = some (.tup (ps.map fun u => V.ref u.1)) ∧ (∀ u ∈ ps, H u.1 = some (.tup (chV u.2))) ∧ ps.map (·.2) = c
def keyN (row : List Str) (c : Ch) : NestedKey := .tup [.tup (row.map .text), .tup (c.map fun p => .tup [.text p.1, .num (p.2 : Nat)])]
def nkv (Ts : List T) (ch : List Ch) : List (NestedKey × V) := ((Ts.zip ch).zipIdx).map fun q => (keyN (gnm q.1.1) q.1.2, V.int (q.2 : Nat))
def bkv (bn : List Str) : List (L2.Key × V) := bn.zipIdx.map fun q => (Sum.inr q.1, V.int (q.2 : Nat))
def MaskOf (bn : List Str) (t : T) (m : Nat) : Prop := ∀ j, m.testBit j = true ↔ ∃ s ∈ gnm t, bn[j]? = some s
/-- what is so of the forms -/
structure FI (Ts : List T) (ch : List Ch) (bn : List Str) : Prop where
  len : ch.length = Ts.length
  nd : Ts.Nodup
  rd : ∀ t ∈ Ts, Rd t
  cw : ∀ t ∈ Ts, CW t
  so : ∀ t ∈ Ts, Asc (gnm t)
  kid : ∀ (i : Nat) (c : Ch) (t : T), ch[i]? = some c → Ts[i]? = some t → (∀ p ∈ c, p.2 < i) ∧ c.map (fun p => (p.1, Ts[p.2]?)) = (gch t).map fun p => (p.1, some p.2)
  bnd : bn.Nodup
  bin : ∀ t ∈ Ts, ∀ s ∈ gnm t, s ∈ bn
  tlen : Ts.length ≤ 1000
  sz : ∀ t ∈ Ts, tz t ≤ 4000
  dp : ∀ t ∈ Ts, dT t ≤ 11
def fNames : List Str := ["concepts", "texts", "rows", "children", "_numbers", "_within", "_upper", "_masks", "_bits", "top"]
/-- the forms -/
structure FAt (P : Program) (w : World) (C : Addr) (H : Hp) (x : Addr) (A : FA) (Ts : List T) (ch : List Ch) (bn : List Str) : Prop where
  hx : ∃ dx fs, H x = some (.ins C dx fs) ∧ fs.lookup ("concepts" : Str) = some (.ref A.lc) ∧ fs.lookup ("texts" : Str) = some (.ref A.lt) ∧ fs.lookup ("rows" : Str) = some (.ref A.lr) ∧ fs.lookup ("children" : Str) = some (.ref A.lh) ∧ fs.lookup ("_numbers" : Str) = some (.ref A.dn) ∧ fs.lookup ("_within" : Str) = some (.ref A.dw) ∧ fs.lookup ("_masks" : Str) = some (.ref A.lm) ∧ fs.lookup ("_bits" : Str) = some (.ref A.db) ∧ ∀ m, m ∉ fNames → fs.lookup m = none
  conc : ∃ cvs, H A.lc = some (.lst cvs) ∧ Paired (TAt H) Ts cvs
  texts : H A.lt = some (.lst (Ts.map fun t => V.str (sT t)))
  rows : ∃ ras : List Addr, H A.lr = some (.lst (ras.map V.ref)) ∧ Paired (fun t a => H a = some (.tup ((gnm t).map V.str))) Ts ras
  kids : ∃ has : List Addr, H A.lh = some (.lst (has.map V.ref)) ∧ Paired (fun c a => KidAt H a c) ch has
  masks : ∃ ms : List Nat, H A.lm = some (.lst (ms.map fun m => V.int (m : Nat))) ∧ Paired (MaskOf bn) Ts ms
  bits : H A.db = some (.dK (bkv bn))
  nums : DN P w H A.dn (nkv Ts ch)
  memo : ∃ kt, H A.dw = some (.dT kt) ∧ (kt.map (·.1)).Nodup ∧ ∀ k v, (k, v) ∈ kt → ∃ i j ti tj b, k = [Sum.inl ((i : Nat) : Int), Sum.inl ((j : Nat) : Int)] ∧ Ts[i]? = some ti ∧ Ts[j]? = some tj ∧ v = V.bl b ∧ (b = true ↔ Le ti tj)
  ne : A.l.Nodup
  voc : A.vn.length ≤ 60 ∧ ∀ s ∈ bn, s ∈ A.vn
  inv : FI Ts ch bn
theorem KidAt.t {H H' : Hp} {a : Addr} {c : Ch} (h : KidAt H a c) (t : TSame H H') : KidAt H' a c := by
  obtain ⟨ps, h1, h2, h3⟩ := h
  exact ⟨ps, t _ _ h1, fun u hu => t _ _ (h2 u hu), h3⟩
section
variable {P : Program} {w : World} {C : Addr} {H H' : Hp} {x : Addr} {A : FA} {Ts : List T} {ch : List Ch} {bn : List Str}
theorem FAt.tsame (h : FAt P w C H x A Ts ch bn) {L : List Addr} (b : But L H H') (hL : ∀ a ∈ L, ∀ ys, H a ≠ some (.tup ys)) : TSame H H' := fun a ys e => b _ _ (fun z => hL a z ys e) e
theorem FAt.at_ (h : FAt P w C H x A Ts ch bn) {a : Addr} (ha : a ∈ A.l) : ∃ o, H a = some o := by
  obtain ⟨cvs, c1, c2⟩ := h.conc
  obtain ⟨ras, r1, r2⟩ := h.rows
  obtain ⟨has, g1, g2⟩ := h.kids
  obtain ⟨ms, m1, m2⟩ := h.masks
  obtain ⟨kt, w1, w2⟩ := h.memo
  simp only [FA.l, List.mem_cons, List.not_mem_nil, or_false] at ha
  rcases ha with rfl | rfl | rfl | rfl | rfl | rfl | rfl | rfl
  · exact ⟨_, c1⟩
  · exact ⟨_, h.texts⟩
  · exact ⟨_, r1⟩
  · exact ⟨_, g1⟩
  · rcases h.nums with ⟨_, z⟩ | ⟨_, z, _⟩ <;> exact ⟨_, z⟩
  · exact ⟨_, w1⟩
  · exact ⟨_, m1⟩
  · exact ⟨_, h.bits⟩
/-- all of it stays where its own addresses stay -/
theorem FAt.keep (h : FAt P w C H x A Ts ch bn) (t : TSame H H') (k : ∀ a, (a = x ∨ a ∈ A.l) → H' a = H a) : FAt P w C H' x A Ts ch bn := by
  have e : ∀ {a o}, (a = x ∨ a ∈ A.l) → H a = some o → H' a = some o := fun m q => by rw [k _ m]; exact q
  have m : ∀ {a}, a ∈ A.l → (a = x ∨ a ∈ A.l) := .inr
  obtain ⟨dx, fs, h1, h2⟩ := h.hx
  obtain ⟨cvs, c1, c2⟩ := h.conc
  obtain ⟨ras, r1, r2⟩ := h.rows
  obtain ⟨has, g1, g2⟩ := h.kids
  obtain ⟨ms, m1, m2⟩ := h.masks
  obtain ⟨kt, w1, w2⟩ := h.memo
  refine ⟨⟨dx, fs, e (.inl rfl) h1, h2⟩, ⟨cvs, e (m (by simp [FA.l])) c1, pairT_t t c2⟩, e (m (by simp [FA.l])) h.texts, ⟨ras, e (m (by simp [FA.l])) r1, paired_imp (fun _ _ q => t _ _ q) r2⟩, ⟨has, e (m (by simp [FA.l])) g1, paired_imp (fun _ _ q => q.t t) g2⟩, ⟨ms, e (m (by simp [FA.l])) m1, m2⟩, e (m (by simp [FA.l])) h.bits, h.nums.keep (k _ (m (by simp [FA.l]))).symm t, ⟨kt, e (m (by simp [FA.l])) w1, w2⟩, h.ne, h.voc, h.inv⟩
end
end K1
namespace K1
open PySem L2 K8
theorem mask_sub {a b : Nat} : a &&& b = a ↔ ∀ j, a.testBit j = true → b.testBit j = true := by
  constructor
  · intro h j hj
    have := congrArg (fun z => Nat.testBit z j) h
    rw [Nat.testBit_and, hj] at this
    simpa using this
  · intro h
    refine Nat.eq_of_testBit_eq fun j => ?_
    rw [Nat.testBit_and]
    cases e : a.testBit j with
    | false => rfl
    | true => rw [h j e]; rfl
theorem mask_le {bn : List Str} {t u : T} {m k : Nat} (nd : bn.Nodup) (iu : ∀ s ∈ gnm u, s ∈ bn) (hm : MaskOf bn t m) (hk : MaskOf bn u k) : (∀ j, k.testBit j = true → m.testBit j = true) ↔ ∀ s ∈ gnm u, s ∈ gnm t := by
  constructor
  · intro h s hs
    obtain ⟨j, hj⟩ := List.mem_iff_getElem?.mp (iu s hs)
    obtain ⟨s', hs', e⟩ := (hm j).mp (h j ((hk j).mpr ⟨s, hs, hj⟩))
    rw [hj] at e
    rw [Option.some.inj e]; exact hs'
  · intro h j hj
    obtain ⟨s, hs, e⟩ := (hk j).mp hj
    exact (hm j).mpr ⟨s, h s hs, e⟩
section
variable {P : Program} {w : World} {K : PySem.W.Frag} {mg : Str → Option Value} {base : Heap}
/-! ### lies_in -/
def spLies : Sp := fun vs H Q _ => ∃ p q : Nat, vs = [.int (p : Nat), .int (q : Nat)] ∧ ∀ b, (b = true ↔ ∀ j, p.testBit j = true → q.testBit j = true) → Q (.bl b) H
theorem ok_lies (D : Defs K mg) : FnOk P w K mg base CX0 1 D.d_lies_in.f D.d_lies_in.fd ["part", "whole"] spLies := by
  refine D.d_lies_in.F.ok sc_lies_in (fun vs H Q E h => ?_) (fun cdv A outer s H vs Q E hr h => ?_)
  · obtain ⟨p, q, rfl, _⟩ := h
    rfl
  obtain ⟨p, q, rfl, k⟩ := h
  refine ⟨_, (pss_one (ps_ret (pe_cmpR op_eq (pe_op op_and (pv 0) (pv 1)) (pv 0) (nomark _)))), ?_⟩
  refine ⟨_, rfl, _, rfl, _, _, rfl, rfl, _, rfl, ?_⟩
  refine ⟨rfl, ?_⟩
  show Q (.bl (decide (V.int (Builtin.bitAnd ((p : Nat) : Int) ((q : Nat) : Int)) = V.int (p : Nat)))) H
  refine k _ ?_
  rw [decide_eq_true_eq, PySem.W.os_band, ← mask_sub]
  constructor
  · intro z
    have := V.int.inj z
    omega
  · intro z
    rw [z]
/-! ### is_within, _maps -/
/-- where the code object of make keeps its own ones -/
abbrev qL : Str := Str.ofString "Forms.make" ++ Str.ofString ".<locals>." ++ Str.ofString "<lambda>"
def TB (Pt : Addr) (H : Hp) : Prop := LamX.Tabs [(Pt, qL)] H
end
end K1
namespace K1
open PySem L2 K8
section
variable {Ts : List T} {ch : List Ch} {bn : List Str}
theorem FI.kid1 (h : FI Ts ch bn) {i : Nat} {c : Ch} {t : T} (hc : ch[i]? = some c) (ht : Ts[i]? = some t) {p : Str × Nat} (hp : p ∈ c) : p.2 < i ∧ ∃ u, Ts[p.2]? = some u ∧ (p.1, u) ∈ gch t := by
  obtain ⟨k1, k2⟩ := h.kid i c t hc ht
  refine ⟨k1 p hp, ?_⟩
  have : (p.1, Ts[p.2]?) ∈ (gch t).map fun p => (p.1, some p.2) := by rw [← k2]; exact List.mem_map.mpr ⟨p, hp, rfl⟩
  obtain ⟨q, hq, e⟩ := List.mem_map.mp this
  have e1 := congrArg Prod.fst e
  have e2 := congrArg Prod.snd e
  exact ⟨q.2, e2.symm, by rw [show (p.1, q.2) = q from Prod.ext e1.symm rfl]; exact hq⟩
theorem FI.kid2 (h : FI Ts ch bn) {i : Nat} {c : Ch} {t : T} (hc : ch[i]? = some c) (ht : Ts[i]? = some t) {q : Str × T} (hq : q ∈ gch t) : ∃ p ∈ c, p.1 = q.1 ∧ Ts[p.2]? = some q.2 := by
  obtain ⟨k1, k2⟩ := h.kid i c t hc ht
  have : (q.1, some q.2) ∈ c.map fun p => (p.1, Ts[p.2]?) := by rw [k2]; exact List.mem_map.mpr ⟨q, hq, rfl⟩
  obtain ⟨p, hp, e⟩ := List.mem_map.mp this
  exact ⟨p, hp, congrArg Prod.fst e, congrArg Prod.snd e⟩
theorem FI.ch_at (h : FI Ts ch bn) {i : Nat} {t : T} (ht : Ts[i]? = some t) : ∃ c, ch[i]? = some c := by
  have := (List.getElem?_eq_some_iff.mp ht).1
  exact ⟨_, List.getElem?_eq_getElem (by rw [h.len]; exact this)⟩
theorem FI.inj (h : FI Ts ch bn) {i j : Nat} {t : T} (hi : Ts[i]? = some t) (hj : Ts[j]? = some t) : i = j := by
  obtain ⟨li, ei⟩ := List.getElem?_eq_some_iff.mp hi
  obtain ⟨lj, ej⟩ := List.getElem?_eq_some_iff.mp hj
  have pw := List.pairwise_iff_getElem.mp h.nd
  rcases Nat.lt_trichotomy i j with c | c | c
  · exact absurd (ei.trans ej.symm) (pw i j li lj c)
  · exact c
  · exact absurd (ej.trans ei.symm) (pw j i lj li c)
theorem memo_len {kt : List (List L2.Key × V)} (nd : (kt.map (·.1)).Nodup) (h : ∀ k v, (k, v) ∈ kt → ∃ i j ti tj b, k = [Sum.inl ((i : Nat) : Int), Sum.inl ((j : Nat) : Int)] ∧ Ts[i]? = some ti ∧ Ts[j]? = some tj ∧ v = V.bl b ∧ (b = true ↔ Le ti tj)) (l : Ts.length ≤ 1000) : kt.length < sizeLine := by
  have := nodup_sub_len (L := kt.map (·.1)) (C := (List.range Ts.length).flatMap fun i => (List.range Ts.length).map fun j => [Sum.inl ((i : Nat) : Int), Sum.inl ((j : Nat) : Int)]) nd fun k hk => by
    obtain ⟨q, hq, rfl⟩ := List.mem_map.mp hk
    obtain ⟨i, j, ti, tj, b, e, e1, e2, _⟩ := h q.1 q.2 hq
    rw [e, List.mem_flatMap]
    exact ⟨i, List.mem_range.mpr (List.getElem?_eq_some_iff.mp e1).1, List.mem_map.mpr ⟨j, List.mem_range.mpr (List.getElem?_eq_some_iff.mp e2).1, rfl⟩⟩
  rw [List.length_map, List.length_flatMap] at this
  have e : ((List.range Ts.length).map fun i => ((List.range Ts.length).map fun j => ([Sum.inl ((i : Nat) : Int), Sum.inl ((j : Nat) : Int)] : List L2.Key)).length).sum = Ts.length * Ts.length := by
    rw [show (fun i : Nat => ((List.range Ts.length).map fun j : Nat => ([Sum.inl ((i : Nat) : Int), Sum.inl ((j : Nat) : Int)] : List L2.Key)).length) = fun _ => Ts.length from funext fun i => by rw [List.length_map, List.length_range]]
    rw [List.map_const', List.sum_replicate_nat, List.length_range]
  rw [e] at this
  have : Ts.length * Ts.length ≤ 1000 * 1000 := Nat.mul_le_mul l l
  show kt.length < 16777216
  omega
end
theorem nd_put {κ : Type} [DecidableEq κ] {kvs : List (κ × V)} (k : κ) (v : V) (h : (kvs.map (·.1)).Nodup) : ((putK kvs k v).map (·.1)).Nodup := by
  cases e : valV kvs k with
  | none => exact nd_putK _ h e
  | some u =>
    have h2 : (kvs.any fun kv => decide (kv.1 = k)) = true := by rw [valV_any, e]; rfl
    unfold putK
    rw [if_pos h2, List.map_map]
    have : ((fun kv : κ × V => kv.1) ∘ fun kv => if kv.1 = k then (kv.1, v) else kv) = fun kv => kv.1 := by
      funext kv
      show (if kv.1 = k then (kv.1, v) else kv).1 = kv.1
      split <;> rfl
    rw [this]
    exact h
theorem mem_putK {κ : Type} [DecidableEq κ] {kt : List (κ × V)} {k0 k : κ} {v0 v : V} (h : (k, v) ∈ putK kt k0 v0) : (k, v) ∈ kt ∨ k = k0 ∧ v = v0 := by
  unfold putK at h
  split at h
  · obtain ⟨q, hq, e⟩ := List.mem_map.mp h
    split at e
    · rename_i e0
      exact .inr ⟨(congrArg Prod.fst e).symm.trans e0, (congrArg Prod.snd e).symm⟩
    · rw [← e]; exact .inl hq
  · rcases List.mem_append.mp h with z | z
    · exact .inl z
    · have := List.mem_singleton.mp z
      exact .inr ⟨congrArg Prod.fst this, congrArg Prod.snd this⟩
theorem mem_valV {kt : List (List L2.Key × V)} {k : List L2.Key} {v : V} (h : valV kt k = some v) : (k, v) ∈ kt := by
  unfold valV at h
  obtain ⟨q, hq, rfl⟩ := Option.map_eq_some_iff.mp h
  have e : q.1 = k := by simpa using List.find?_some hq
  rw [← e]
  exact List.mem_of_find?_eq_some hq
/-- something is noted of two forms -/
theorem FAt.putMemo {P : Program} {w : World} {C : Addr} {H : Hp} {x : Addr} {A : FA} {Ts : List T} {ch : List Ch} {bn : List Str} (h : FAt P w C H x A Ts ch bn) {kt : List (List L2.Key × V)} {i j : Nat} {ti tj : T} {b : Bool} (hw : H A.dw = some (.dT kt)) (hi : Ts[i]? = some ti) (hj : Ts[j]? = some tj) (hb : b = true ↔ Le ti tj) : FAt P w C (upd H A.dw (.dT (putK kt [Sum.inl ((i : Nat) : Int), Sum.inl ((j : Nat) : Int)] (.bl b)))) x A Ts ch bn := by
  have nt : ∀ ys, H A.dw ≠ some (.tup ys) := fun ys e => by rw [hw] at e; cases e
  have ts : TSame H (upd H A.dw (.dT (putK kt [Sum.inl ((i : Nat) : Int), Sum.inl ((j : Nat) : Int)] (.bl b)))) := fun a ys e => by rw [upd_ne fun z => nt ys (by rw [← z]; exact e)]; exact e
  obtain ⟨dx, fs, h1, h2⟩ := h.hx
  obtain ⟨cvs, c1, c2⟩ := h.conc
  obtain ⟨ras, r1, r2⟩ := h.rows
  obtain ⟨has, g1, g2⟩ := h.kids
  obtain ⟨ms, m1, m2⟩ := h.masks
  obtain ⟨kt', w1, w2, w3⟩ := h.memo
  rw [hw] at w1
  cases w1
  have ne : ∀ {a o}, H a = some o → (∀ k, o ≠ .dT k) → (upd H A.dw (.dT (putK kt [Sum.inl ((i : Nat) : Int), Sum.inl ((j : Nat) : Int)] (.bl b)))) a = some o := fun {a o} e n => by
    rw [upd_ne fun z => n kt (by rw [z, hw] at e; exact (Option.some.inj e).symm)]; exact e
  refine ⟨⟨dx, fs, ne h1 (fun _ z => nomatch z), h2⟩, ⟨cvs, ne c1 (fun _ z => nomatch z), pairT_t ts c2⟩, ne h.texts (fun _ z => nomatch z), ⟨ras, ne r1 (fun _ z => nomatch z), paired_imp (fun _ _ q => ts _ _ q) r2⟩, ⟨has, ne g1 (fun _ z => nomatch z), paired_imp (fun _ _ q => q.t ts) g2⟩, ⟨ms, ne m1 (fun _ z => nomatch z), m2⟩, ne h.bits (fun _ z => nomatch z), h.nums.keep ?_ ts, ⟨_, upd_same, nd_put _ _ w2, fun k v hk => ?_⟩, h.ne, h.voc, h.inv⟩
  · have : A.dn ≠ A.dw := fun z => by have := h.ne; simp [FA.l] at this; exact this.2.2.2.2.1.1 z
    rw [upd_ne this]
  · rcases mem_putK hk with z | ⟨z1, z2⟩
    · exact w3 k v z
    · exact ⟨i, j, ti, tj, b, z1, hi, hj, z2, hb⟩
section
variable {P : Program} {w : World} {K : PySem.W.Frag} {mg : Str → Option Value} {base : Heap}
/-! ### is_within, _maps -/
def spWith (P : Program) (w : World) (C : Addr) : Nat → Sp
  | 0 => fun _ _ _ _ => False
  | n + 1 => fun vs H Q _ => ∃ (x : Addr) (i j : Nat) (A : FA) (Ts : List T) (ch : List Ch) (bn : List Str) (ti tj : T), vs = [.ref x, .int (i : Nat), .int (j : Nat)] ∧ FAt P w C H x A Ts ch bn ∧ Ts[i]? = some ti ∧ Ts[j]? = some tj ∧ dT tj ≤ n ∧
    ∀ H' b, But [A.dw] H H' → FAt P w C H' x A Ts ch bn → (b = true ↔ Le ti tj) → Q (.bl b) H'
def spMaps (P : Program) (w : World) (C : Addr) (n : Nat) : Sp := fun vs H Q _ => ∃ (x : Addr) (i j : Nat) (A : FA) (Ts : List T) (ch : List Ch) (bn : List Str) (ti tj : T), vs = [.ref x, .int (i : Nat), .int (j : Nat)] ∧ FAt P w C H x A Ts ch bn ∧ Ts[i]? = some ti ∧ Ts[j]? = some tj ∧ dT tj ≤ n ∧
    ∀ H' b, But [A.dw] H H' → FAt P w C H' x A Ts ch bn → (b = true ↔ ∀ p ∈ gch tj, ∃ a, (p.1, a) ∈ gch ti ∧ Le a p.2) → Q (.bl b) H'
theorem ok_maps (D : Defs K mg) (n : Nat) (G : FnOk P w K mg base CX0 (2 * n + 1) D.d_f_is_within.f D.d_f_is_within.fd ["self", "form", "other"] (spWith P w D.fC n)) : FnOk P w K mg base CX0 (2 * n + 2) D.d_f_maps.f D.d_f_maps.fd ["self", "form", "other"] (spMaps P w D.fC n) := by
  refine D.d_f_maps.F.ok sc_f_maps (fun vs H Q E h => ?_) (fun cdv A outer s H vs Q E hr h => ?_)
  · obtain ⟨x, i, j, A, Ts, ch, bn, ti, tj, rfl, _⟩ := h
    rfl
  obtain ⟨x, i, j, A, Ts, ch, bn, ti, tj, rfl, hF, hi, hj, hd, q⟩ := h
  refine ⟨_, (pss_cons (ps_for PassesOwn.never rfl (pi_tup (pe_ix ix_list (pe_fld (pv 0) rfl) (pv 2) (fun _ _ => rfl))) (pg_tup rfl (pgs_cons (pg_name (i := 3) sc_f_maps.nd rfl (Or.inl rfl)) (pgs_cons (pg_name (i := 4) sc_f_maps.nd rfl (Or.inl rfl)) pgs_nil))) (pss_cons (ps_set (i := 5) sc_f_maps.nd rfl (Or.inl rfl) pe_bl)
      (pss_cons (K3.ps_way (ps_for PassesOwn.never rfl (pi_tup (pe_ix ix_list (pe_fld (pv 0) rfl) (pv 1) (fun _ _ => rfl))) (pg_tup rfl (pgs_cons (pg_name (i := 6) sc_f_maps.nd rfl (Or.inl rfl)) (pgs_cons (pg_name (i := 7) sc_f_maps.nd rfl (Or.inl rfl)) pgs_nil))) (pss_one (ps_if (PW.pt (pw_and (pt_cmpR op_eq (pv 6) (pv 3) (nomark _)) (pw_and1 (pt_val (pe_meth (pv 0) D.fC_cl D.d_f_is_within.me G hr D.d_f_is_within.b .nil pass0 (pa_cons (pv 7) (pa_cons (pv 4) pa_nil))))))) (pss_cons (ps_set (i := 5) sc_f_maps.nd rfl (Or.inl rfl) pe_bl)
      (pss_one ps_break)) pss_nil))))
      (pss_one (ps_if (pt_not (pt_truth (pv 5) (by intro _; rfl))) (pss_one (ps_ret pe_bl)) pss_nil)))))
      (pss_one (ps_ret pe_bl))), ?_⟩
  obtain ⟨ci, hci⟩ := hF.inv.ch_at hi
  obtain ⟨cj, hcj⟩ := hF.inv.ch_at hj
  obtain ⟨dx, fs, hx, f1, f2, f3, f4, f5, f6, f7, f8, f9⟩ := hF.hx
  obtain ⟨has, g1, g2⟩ := hF.kids
  obtain ⟨aj, haj, kj⟩ := paired_get2 g2 hcj
  obtain ⟨psj, pj1, pj2, pj3⟩ := id kj
  have gatj : (has.map V.ref)[j]? = some (.ref aj) := by rw [List.getElem?_map, haj]; rfl
  refine ⟨_, rfl, x, D.fC, dx, _, _, rfl, hx, D.fC_cl, D.fC_nchildren, f4, _, rfl, A.lh, _, _, V.ref aj, rfl, rfl, SqL.of g1, atI_nat gatj, aj, rfl, ⟨_, SqT.of pj1⟩, ?_⟩
  have tsm : ∀ {H' : Hp}, But [A.dw] H H' → TSame H H' := fun b => hF.tsame b fun a ha ys e => by
    obtain ⟨kt, w1, _⟩ := hF.memo
    rw [List.mem_singleton.mp ha, w1] at e; cases e
  refine for_tup (xs := psj.map fun u => V.ref u.1) (fun m σ H' => (∃ o3 o4 o5 o6 o7, σ = [some (.ref x), some (.int (i : Nat)), some (.int (j : Nat)), o3, o4, o5, o6, o7]) ∧ But [A.dw] H H' ∧ FAt P w D.fC H' x A Ts ch bn ∧ ∀ p ∈ cj.take m, ∀ u, Ts[p.2]? = some u → ∃ a, (p.1, a) ∈ gch ti ∧ Le a u)
    ⟨⟨none, none, none, none, none, rfl⟩, But.refl _, hF, fun p hp => by simp at hp⟩ (fun m σ H' _ hh => SqT.of (tsm hh.2.1 _ _ pj1)) ?_ ?_
  · rintro m z σ H1 hz ⟨⟨o3, o4, o5, o6, o7, rfl⟩, b1, F1, all1⟩
    rw [List.getElem?_map] at hz
    obtain ⟨u, hu, rfl⟩ := Option.map_eq_some_iff.mp hz
    have hcu : cj[m]? = some u.2 := by rw [← pj3, List.getElem?_map, hu]; rfl
    obtain ⟨lt2, tg, htg, mtg⟩ := hF.inv.kid1 hcj hj (List.mem_of_getElem? hcu)
    have hu1 := tsm b1 _ _ (pj2 u (List.mem_of_getElem? hu))
    refine ⟨u.1, _, rfl, SqT.of hu1, rfl, _, _, rfl, _, _, rfl, rfl, ?_⟩
    refine ⟨fun σ' H' => (∃ b o6 o7, σ' = [some (.ref x), some (.int (i : Nat)), some (.int (j : Nat)), some (.str u.2.1), some (.int (u.2.2 : Nat)), some (.bl b), o6, o7] ∧ (b = true ↔ ∃ a, (u.2.1, a) ∈ gch ti ∧ Le a tg)) ∧ But [A.dw] H H' ∧ FAt P w D.fC H' x A Ts ch bn, ?_, ?_⟩
    · obtain ⟨dx1, fs1, hx1, e1, e2, e3, e4, e5, e6, e7, e8, e9⟩ := F1.hx
      obtain ⟨has1, k1, k2⟩ := F1.kids
      obtain ⟨ai, hai, ki⟩ := paired_get2 k2 hci
      obtain ⟨psi, pi1, pi2, pi3⟩ := id ki
      have gati : (has1.map V.ref)[i]? = some (.ref ai) := by rw [List.getElem?_map, hai]; rfl
      refine ⟨_, rfl, x, D.fC, dx1, _, _, rfl, hx1, D.fC_cl, D.fC_nchildren, e4, _, rfl, A.lh, _, _, V.ref ai, rfl, rfl, SqL.of k1, atI_nat gati, ai, rfl, ⟨_, SqT.of pi1⟩, ?_⟩
      have ts1 : ∀ {H' : Hp}, But [A.dw] H1 H' → TSame H1 H' := fun b => F1.tsame b fun a ha ys e => by
        obtain ⟨kt, w1, _⟩ := F1.memo
        rw [List.mem_singleton.mp ha, w1] at e; cases e
      refine for_tup (xs := psi.map fun u => V.ref u.1) (fun l σ H' => (∃ o6 o7, σ = [some (.ref x), some (.int (i : Nat)), some (.int (j : Nat)), some (.str u.2.1), some (.int (u.2.2 : Nat)), some (.bl false), o6, o7]) ∧ But [A.dw] H1 H' ∧ FAt P w D.fC H' x A Ts ch bn ∧ ∀ p ∈ ci.take l, ∀ a, Ts[p.2]? = some a → p.1 = u.2.1 → ¬ Le a tg)
        ⟨⟨_, _, rfl⟩, But.refl _, F1, fun p hp => by simp at hp⟩ (fun l σ H' _ hh => SqT.of (ts1 hh.2.1 _ _ pi1)) ?_ ?_
      · rintro l z2 σ2 H2 hz2 ⟨⟨o6', o7', rfl⟩, b2, F2, none2⟩
        rw [List.getElem?_map] at hz2
        obtain ⟨v, hv, rfl⟩ := Option.map_eq_some_iff.mp hz2
        have hcv : ci[l]? = some v.2 := by rw [← pi3, List.getElem?_map, hv]; rfl
        obtain ⟨lt3, ta, hta, mta⟩ := hF.inv.kid1 hci hi (List.mem_of_getElem? hcv)
        have hv1 := ts1 b2 _ _ (pi2 v (List.mem_of_getElem? hv))
        have more : ¬ (v.2.1 = u.2.1 ∧ Le ta tg) → ∀ p ∈ ci.take (l + 1), ∀ a, Ts[p.2]? = some a → p.1 = u.2.1 → ¬ Le a tg := fun h p hp a ha e => by
          rw [take_more hcv] at hp
          rcases List.mem_append.mp hp with z | z
          · exact none2 p z a ha e
          · rw [List.mem_singleton.mp z] at ha e
            rw [hta] at ha
            rw [← Option.some.inj ha]
            exact fun l => h ⟨e, l⟩
        refine ⟨v.1, _, rfl, SqT.of hv1, rfl, _, _, rfl, _, _, rfl, rfl, ?_⟩
        refine ⟨_, rfl, _, rfl, rfl, decide (v.2.1 = u.2.1), (by show V.bl (decide (V.str v.2.1 = V.str u.2.1)) = V.bl (decide (v.2.1 = u.2.1)); congr 1; exact decide_eq_decide.mpr ⟨fun z => V.str.inj z, fun z => by rw [z]⟩), ?_⟩
        by_cases cr : v.2.1 = u.2.1
        · rw [decide_eq_true cr]
          have dlt := dT_gch mtg
          cases n with
          | zero => have : dT tg < dT tj := dlt; omega
          | succ n =>
            obtain ⟨dx2, fs2, hx2, y1, y2, y3, y4, y5, y6, y7, y8, y9⟩ := F2.hx
            refine iteT ⟨_, rfl, x, dx2, _, rfl, hx2, (y9 _ (by decide +kernel)), _, rfl, _, rfl, x, v.2.2, u.2.2, A, Ts, ch, bn, ta, tg, rfl, F2, hta, htg, (by have : dT tg < dT tj := dlt; omega), fun H3 b b3 F3 hb => ⟨_, rfl, ?_⟩⟩
            by_cases cb : b = true
            · subst cb
              exact iteT ⟨⟨true, _, _, rfl, ⟨fun _ => ⟨ta, by rw [← cr]; exact mta, hb.mp rfl⟩, fun _ => rfl⟩⟩, (b1.trans b2).trans b3, F3⟩
            · have cb : b = false := by simpa using cb
              subst cb
              exact iteF ⟨⟨_, _, rfl⟩, b2.trans b3, F3, more fun z => by have := hb.mpr z.2; cases this⟩
        · rw [decide_eq_false cr]
          exact iteF ⟨⟨_, _, rfl⟩, b2, F2, more fun z => cr z.1⟩
      · rintro σ2 H2 ⟨⟨o6', o7', rfl⟩, b2, F2, none2⟩
        refine ⟨⟨false, _, _, rfl, ⟨(fun z => by cases z), ?_⟩⟩, b1.trans b2, F2⟩
        rintro ⟨a, ma, la⟩
        exfalso
        obtain ⟨p, hp, e1, e2⟩ := hF.inv.kid2 hci hi ma
        have lp : psi.length = ci.length := by rw [← pi3, List.length_map]
        rw [List.length_map, lp, List.take_length] at none2
        exact none2 p hp a e2 e1 la
    rintro σ3 H3 ⟨⟨b, o6', o7', rfl, hb⟩, b3, F3⟩
    refine ⟨_, rfl, _, rfl, ?_⟩
    by_cases cb : b = true
    · subst cb
      refine iteF ⟨⟨_, _, _, _, _, rfl⟩, b3, F3, fun p hp v hv => ?_⟩
      rw [take_more hcu] at hp
      rcases List.mem_append.mp hp with z | z
      · exact all1 p z v hv
      · rw [List.mem_singleton.mp z] at hv ⊢
        rw [htg] at hv
        rw [← Option.some.inj hv]
        exact hb.mp rfl
    · have cb : b = false := by simpa using cb
      subst cb
      refine iteT (q _ false b3 F3 ⟨(fun z => by cases z), fun z => ?_⟩)
      obtain ⟨a, ma, la⟩ := z (u.2.1, tg) mtg
      exact hb.mpr ⟨a, ma, la⟩
  · rintro σ H1 ⟨⟨o3, o4, o5, o6, o7, rfl⟩, b1, F1, all1⟩
    refine q _ true b1 F1 ⟨fun _ p hp => ?_, fun _ => rfl⟩
    have lp : psj.length = cj.length := by rw [← pj3, List.length_map]
    rw [List.length_map, lp, List.take_length] at all1
    obtain ⟨p', hp', e1, e2⟩ := hF.inv.kid2 hcj hj hp
    rw [← e1]
    exact all1 p' hp' p.2 e2
theorem ok_within (D : Defs K mg) : ∀ n, FnOk P w K mg base CX0 (2 * n + 1) D.d_f_is_within.f D.d_f_is_within.fd ["self", "form", "other"] (spWith P w D.fC n)
  | 0 => none_left fun _ _ _ _ h => h
  | n + 1 => by
    have GM := ok_maps D n (ok_within D n)
    have GL := ok_lies (P := P) (w := w) (base := base) D
    refine D.d_f_is_within.F.ok sc_f_is_within (fun vs H Q E h => ?_) (fun cdv A outer s H vs Q E hr h => ?_)
    · obtain ⟨x, i, j, A, Ts, ch, bn, ti, tj, rfl, _⟩ := h
      rfl
    obtain ⟨x, i, j, A, Ts, ch, bn, ti, tj, rfl, hF, hi, hj, hd, q⟩ := h
    have hr1 : Room 1 _ := hr.mono (by omega)
    have hu := hu_of hr
    refine ⟨_, (pss_cons (ps_if (pt_not (pt_val (pe_call GL hr1 rfl D.d_lies_in.m D.d_lies_in.F.kp D.d_lies_in.b .nil pass0 (pa_cons (pe_ix ix_list (pe_fld (pv 0) rfl) (pv 2) (fun _ _ => rfl)) (pa_cons (pe_ix ix_list (pe_fld (pv 0) rfl) (pv 1) (fun _ _ => rfl)) pa_nil))))) (pss_one (ps_ret pe_bl)) pss_nil)
      (pss_cons (ps_if (PW.pt (pw_or (pt_cmpR op_eq (pv 1) (pv 2) (nomark _)) (pw_or1 (pt_not (pt_truth (pe_ix ix_list (pe_fld (pv 0) rfl) (pv 2) (fun _ _ => rfl)) (by intro _; rfl)))))) (pss_one (ps_ret pe_bl)) pss_nil)
      (pss_cons (ps_set (i := 3) sc_f_is_within.nd rfl (Or.inl rfl) (pe_tup (pa_cons (pv 1) (pa_cons (pv 2) pa_nil))))
      (pss_cons (ps_if (pt_cmp (pc_dnotin hu (pv 3) (pe_fld (pv 0) rfl)) rfl) (pss_one (ps_dput hu (pe_fld (pv 0) rfl) (pv 3) (pe_meth (pv 0) D.fC_cl D.d_f_maps.me GM hr D.d_f_maps.b .nil pass0 (pa_cons (pv 1) (pa_cons (pv 2) pa_nil))) rfl)) pss_nil)
      (pss_one (ps_ret (pe_dget hu (pe_fld (pv 0) rfl) (pv 3) (fun _ _ => rfl)))))))), ?_⟩
    obtain ⟨dx, fs, hx, f1, f2, f3, f4, f5, f6, f7, f8, f9⟩ := hF.hx
    obtain ⟨ms, m1, m2⟩ := hF.masks
    obtain ⟨mj, hmj, okj⟩ := paired_get2 m2 hj
    obtain ⟨mi, hmi, oki⟩ := paired_get2 m2 hi
    have gj : (ms.map fun m => V.int (m : Nat))[j]? = some (.int (mj : Nat)) := by rw [List.getElem?_map, hmj]; rfl
    have gi : (ms.map fun m => V.int (m : Nat))[i]? = some (.int (mi : Nat)) := by rw [List.getElem?_map, hmi]; rfl
    have sub := mask_le hF.inv.bnd (hF.inv.bin tj (List.mem_of_getElem? hj)) oki okj
    refine ⟨_, rfl, x, D.fC, dx, _, _, rfl, hx, D.fC_cl, D.fC_n_masks, f7, _, rfl, A.lm, _, _, V.int (mj : Nat), rfl, rfl, SqL.of m1, atI_nat gj, _, rfl, x, D.fC, dx, _, _, rfl, hx, D.fC_cl, D.fC_n_masks, f7, _, rfl, A.lm, _, _, V.int (mi : Nat), rfl, rfl, SqL.of m1, atI_nat gi, mj, mi, rfl, fun b hb => ⟨_, rfl, ?_⟩⟩
    rw [sub] at hb
    by_cases cb : b = false
    · subst cb
      exact iteT (q H false (But.refl _) hF ⟨(fun z => by cases z), fun z => hb.mpr (Le.iff.mp z).1⟩)
    have cb : b = true := by simpa using cb
    subst cb
    have nms := hb.mp rfl
    refine iteF ⟨_, rfl, _, rfl, rfl, decide (i = j), (by show V.bl (decide (V.int (i : Nat) = V.int (j : Nat))) = V.bl (decide (i = j)); congr 1; exact decide_eq_decide.mpr ⟨fun z => by have := V.int.inj z; omega, fun z => by rw [z]⟩), ?_⟩
    by_cases cij : i = j
    · rw [decide_eq_true cij]
      subst cij
      rw [hi] at hj
      rw [Option.some.inj hj] at q
      exact iteT (iteT (q H true (But.refl _) hF ⟨fun _ => Le.refl _, fun _ => rfl⟩))
    rw [decide_eq_false cij]
    obtain ⟨has, g1, g2⟩ := hF.kids
    obtain ⟨cj, hcj⟩ := hF.inv.ch_at hj
    obtain ⟨aj, haj, kj⟩ := paired_get2 g2 hcj
    obtain ⟨psj, pj1, pj2, pj3⟩ := id kj
    have gatj : (has.map V.ref)[j]? = some (.ref aj) := by rw [List.getElem?_map, haj]; rfl
    refine iteF ⟨_, rfl, x, D.fC, dx, _, _, rfl, hx, D.fC_cl, D.fC_nchildren, f4, _, rfl, A.lh, _, _, V.ref aj, rfl, rfl, SqL.of g1, atI_nat gatj, _, .inr (.inl ⟨_, SqT.of pj1, rfl⟩), ?_⟩
    cases ep : psj with
    | nil =>
      refine iteT (q H true (But.refl _) hF ⟨fun _ => Le.iff.mpr ⟨nms, fun p hp => ?_⟩, fun _ => rfl⟩)
      obtain ⟨p', hp', _⟩ := hF.inv.kid2 hcj hj hp
      rw [← pj3, ep] at hp'
      cases hp'
    | cons u0 us0 =>
      refine iteF ⟨_, rfl, _, rfl, (by show 2 ≤ sizeLine; decide), fun t ht => ?_⟩
      obtain ⟨kt, hw, wnd, wok⟩ := hF.memo
      have s1 : Same H (upd H t (.tup [V.int (i : Nat), V.int (j : Nat)])) := same_new ht _
      have ht1 : (upd H t (.tup [V.int (i : Nat), V.int (j : Nat)])) t = some (.tup ([Sum.inl ((i : Nat) : Int), Sum.inl ((j : Nat) : Int)].map kV)) := upd_same
      have F1 : FAt P w D.fC (upd H t (.tup [V.int (i : Nat), V.int (j : Nat)])) x A Ts ch bn := hF.keep (Same.t s1) fun a ha => by
        rw [upd_ne]
        rintro rfl
        rcases ha with rfl | ha
        · rw [hx] at ht; cases ht
        · obtain ⟨o, ho⟩ := hF.at_ ha
          rw [ho] at ht; cases ht
      have b1 : But [A.dw] H (upd H t (.tup [V.int (i : Nat), V.int (j : Nat)])) := But.of s1
      generalize upd H t (.tup [V.int (i : Nat), V.int (j : Nat)]) = H1 at s1 ht1 F1 b1 ⊢
      have hw1 := s1 _ _ hw
      refine ⟨_, rfl, _, rfl, x, D.fC, dx, _, _, rfl, s1 _ _ hx, D.fC_cl, D.fC_n_within, f6, A.dw, _, rfl, DGet.t (k := [Sum.inl ((i : Nat) : Int), Sum.inl ((j : Nat) : Int)]) hw1 ht1, _, rfl, ?_⟩
      cases ev : valV kt [Sum.inl ((i : Nat) : Int), Sum.inl ((j : Nat) : Int)] with
      | some v =>
        obtain ⟨i', j', ti', tj', b', e1, e2, e3, e4, e5⟩ := wok _ _ (mem_valV ev)
        subst e4
        have ei : i = i' := by
          have := congrArg List.head? e1
          have := Sum.inl.inj (Option.some.inj this)
          omega
        have ej : j = j' := by
          have := congrArg (fun l : List L2.Key => l[1]?) e1
          have := Sum.inl.inj (Option.some.inj this)
          omega
        subst ei
        subst ej
        rw [hi] at e2
        rw [hj] at e3
        rw [← Option.some.inj e2, ← Option.some.inj e3] at e5
        exact iteF ⟨_, rfl, x, D.fC, dx, _, _, rfl, s1 _ _ hx, D.fC_cl, D.fC_n_within, f6, _, rfl, A.dw, _, rfl, by rw [← ev]; exact DGet.t (k := [Sum.inl ((i : Nat) : Int), Sum.inl ((j : Nat) : Int)]) hw1 ht1, q H1 b' b1 F1 e5⟩
      | none =>
        refine iteT ⟨_, rfl, x, dx, _, rfl, s1 _ _ hx, f9 _ (by decide +kernel), _, rfl, _, rfl, x, i, j, A, Ts, ch, bn, ti, tj, rfl, F1, hi, hj, by omega, fun H2 b2 bb F2 hb2 => ?_⟩
        obtain ⟨dx2, fs2, hx2, y1, y2, y3, y4, y5, y6, y7, y8, y9⟩ := F2.hx
        obtain ⟨kt2, hw2, wnd2, wok2⟩ := F2.memo
        have ht2 : H2 t = some (.tup ([Sum.inl ((i : Nat) : Int), Sum.inl ((j : Nat) : Int)].map kV)) := bb _ _ (fun z => by rw [List.mem_singleton.mp z, hw1] at ht1; cases ht1) ht1
        have hb3 : b2 = true ↔ Le ti tj := by
          rw [hb2, Le.iff]
          exact ⟨fun z => ⟨nms, z⟩, fun z => z.2⟩
        have F3 := F2.putMemo hw2 hi hj hb3
        obtain ⟨dx3, fs3, hx3, z1, z2, z3, z4, z5, z6, z7, z8, z9⟩ := F3.hx
        refine ⟨_, rfl, x, D.fC, dx2, _, _, rfl, hx2, D.fC_cl, D.fC_n_within, y6, _, rfl, A.dw, _, rfl, DPut.t hw2 ht2 (memo_len wnd2 wok2 F2.inv.tlen), ?_⟩
        have td : t ≠ A.dw := fun z => by rw [z, hw1] at ht1; cases ht1
        refine ⟨_, rfl, x, D.fC, dx3, _, _, rfl, hx3, D.fC_cl, D.fC_n_within, z6, _, rfl, A.dw, .bl b2, rfl, ?_, q _ b2 ((b1.trans bb).trans (But.put (by simp))) F3 hb3⟩
        have := DGet.t (k := [Sum.inl ((i : Nat) : Int), Sum.inl ((j : Nat) : Int)]) (H := upd H2 A.dw (.dT (putK kt2 [Sum.inl ((i : Nat) : Int), Sum.inl ((j : Nat) : Int)] (.bl b2)))) (a := A.dw) (b := t) upd_same (by rw [upd_ne td]; exact ht2)
        rw [valV_put, if_pos rfl] at this
        exact this
end
end K1
namespace K1
open PySem L2 K8
theorem bor_nat (a b : Nat) : Builtin.bitOr (a : Int) (b : Int) = ((a ||| b : Nat) : Int) := by
  have h1 : ¬ (0 ≤ -(a : Int) - 1) := by omega
  have h2 : ¬ (0 ≤ -(b : Int) - 1) := by omega
  have e1 : (-(-(a : Int) - 1) - 1).toNat = a := by omega
  have e2 : (-(-(b : Int) - 1) - 1).toNat = b := by omega
  unfold Builtin.bitOr Builtin.bitAnd Builtin.bitNot
  have d1 : decide (0 ≤ -(a : Int) - 1) = false := decide_eq_false h1
  have d2 : decide (0 ≤ -(b : Int) - 1) = false := decide_eq_false h2
  rw [d1, d2]
  dsimp only
  rw [e1, e2]
  omega
theorem bkv_val {bn : List Str} (nd : bn.Nodup) (s : Str) : (∀ j, bn[j]? = some s → valV (bkv bn) (Sum.inr s : L2.Key) = some (.int (j : Nat))) ∧ (s ∉ bn → valV (bkv bn) (Sum.inr s : L2.Key) = none) := by
  have key : ∀ (k : Nat) (l : List Str), l.Nodup → (∀ j, l[j]? = some s → valV (l.zipIdx k |>.map fun q => ((Sum.inr q.1 : L2.Key), V.int (q.2 : Nat))) (Sum.inr s : L2.Key) = some (.int ((k + j : Nat) : Int))) ∧ (s ∉ l → valV (l.zipIdx k |>.map fun q => ((Sum.inr q.1 : L2.Key), V.int (q.2 : Nat))) (Sum.inr s : L2.Key) = none) := by
    intro k l
    induction l generalizing k with
    | nil => intro _; exact ⟨fun j h => (by cases h), fun _ => valV_nil⟩
    | cons a r ih =>
      intro nd
      rw [List.nodup_cons] at nd
      obtain ⟨i1, i2⟩ := ih (k + 1) nd.2
      rw [List.zipIdx_cons, List.map_cons]
      refine ⟨fun j h => ?_, fun h => ?_⟩
      · cases j with
        | zero =>
          obtain rfl : a = s := Option.some.inj h
          exact valV_pos rfl
        | succ j =>
          have hs : r[j]? = some s := h
          rw [valV_neg (fun z => nd.1 (by rw [Sum.inr.inj (show (Sum.inr a : L2.Key) = Sum.inr s from z)]; exact List.mem_of_getElem? hs)), i1 j hs]
          congr 2
          omega
      · rw [valV_neg (fun z => h (by rw [← Sum.inr.inj (show (Sum.inr a : L2.Key) = Sum.inr s from z)]; exact List.mem_cons_self))]
        exact i2 fun z => h (List.mem_cons_of_mem _ z)
  obtain ⟨a, b⟩ := key 0 bn nd
  exact ⟨fun j h => by rw [show j = 0 + j by omega]; exact a j h, b⟩
theorem bkv_snoc (bn : List Str) (s : Str) : bkv (bn ++ [s]) = bkv bn ++ [((Sum.inr s : L2.Key), V.int (bn.length : Nat))] := by
  unfold bkv
  rw [List.zipIdx_append, List.map_append]
  simp
theorem bkv_len (bn : List Str) : (bkv bn).length = bn.length := by simp [bkv]
theorem nodup_at {bn : List Str} (nd : bn.Nodup) {i j : Nat} {s : Str} (h1 : bn[i]? = some s) (h2 : bn[j]? = some s) : i = j := by
  obtain ⟨li, ei⟩ := List.getElem?_eq_some_iff.mp h1
  obtain ⟨lj, ej⟩ := List.getElem?_eq_some_iff.mp h2
  have pw := List.pairwise_iff_getElem.mp nd
  rcases Nat.lt_trichotomy i j with c | c | c
  · exact absurd (ei.trans ej.symm) (pw i j li lj c)
  · exact c
  · exact absurd (ej.trans ei.symm) (pw j i lj li c)
theorem MaskOf.snoc {bn : List Str} {s : Str} {t : T} {m : Nat} (nd : (bn ++ [s]).Nodup) (i : ∀ x ∈ gnm t, x ∈ bn) (h : MaskOf bn t m) : MaskOf (bn ++ [s]) t m := fun j => by
  rw [h j]
  constructor
  · rintro ⟨x, hx, e⟩
    exact ⟨x, hx, by rw [List.getElem?_append_left (List.getElem?_eq_some_iff.mp e).1]; exact e⟩
  · rintro ⟨x, hx, e⟩
    obtain ⟨k, hk⟩ := List.mem_iff_getElem?.mp (i x hx)
    have hk2 : (bn ++ [s])[k]? = some x := by rw [List.getElem?_append_left (List.getElem?_eq_some_iff.mp hk).1]; exact hk
    rw [nodup_at nd e hk2]
    exact ⟨x, hx, hk⟩
section
variable {P : Program} {w : World} {C : Addr} {H : Hp} {x : Addr} {A : FA} {Ts : List T} {ch : List Ch} {bn : List Str}
theorem FAt.blen (h : FAt P w C H x A Ts ch bn) : bn.length ≤ 60 := Nat.le_trans (nodup_sub_len h.inv.bnd h.voc.2) h.voc.1
/-- a name gets its bit -/
theorem FAt.putBit (h : FAt P w C H x A Ts ch bn) {s : Str} (no : s ∉ bn) (hs : s ∈ A.vn) : FAt P w C (upd H A.db (.dK (bkv (bn ++ [s])))) x A Ts ch (bn ++ [s]) := by
  have nd : (bn ++ [s]).Nodup := List.nodup_append.mpr ⟨h.inv.bnd, by simp, fun a ha b hb => by rw [List.mem_singleton.mp hb]; exact fun z => no (z ▸ ha)⟩
  have ts : TSame H (upd H A.db (.dK (bkv (bn ++ [s])))) := fun a ys e => by rw [upd_ne fun z => by rw [z, h.bits] at e; cases e]; exact e
  obtain ⟨dx, fs, h1, h2⟩ := h.hx
  obtain ⟨cvs, c1, c2⟩ := h.conc
  obtain ⟨ras, r1, r2⟩ := h.rows
  obtain ⟨has, g1, g2⟩ := h.kids
  obtain ⟨ms, m1, m2⟩ := h.masks
  obtain ⟨kt, w1, w2⟩ := h.memo
  have ne : ∀ {a o}, H a = some o → (∀ k, o ≠ .dK k) → (upd H A.db (.dK (bkv (bn ++ [s])))) a = some o := fun {a o} e n => by
    rw [upd_ne fun z => n _ (by rw [z, h.bits] at e; exact (Option.some.inj e).symm)]; exact e
  refine ⟨⟨dx, fs, ne h1 (fun _ z => nomatch z), h2⟩, ⟨cvs, ne c1 (fun _ z => nomatch z), pairT_t ts c2⟩, ne h.texts (fun _ z => nomatch z), ⟨ras, ne r1 (fun _ z => nomatch z), paired_imp (fun _ _ q => ts _ _ q) r2⟩, ⟨has, ne g1 (fun _ z => nomatch z), paired_imp (fun _ _ q => q.t ts) g2⟩, ⟨ms, ne m1 (fun _ z => nomatch z), ?_⟩, upd_same, h.nums.keep ?_ ts, ⟨kt, ne w1 (fun _ z => nomatch z), w2⟩, h.ne, ⟨h.voc.1, fun y hy => ?_⟩, { h.inv with bnd := nd, bin := fun t ht y hy => List.mem_append_left _ (h.inv.bin t ht y hy) }⟩
  · have key : ∀ {Ts : List T} {ms : List Nat}, Paired (MaskOf bn) Ts ms → (∀ t ∈ Ts, ∀ y ∈ gnm t, y ∈ bn) → Paired (MaskOf (bn ++ [s])) Ts ms := fun p => by
      induction p with
      | nil => exact fun _ => .nil
      | cons a b ih => exact fun hh => .cons (a.snoc nd (hh _ List.mem_cons_self)) (ih fun t ht => hh t (List.mem_cons_of_mem _ ht))
    exact key m2 h.inv.bin
  · have : A.dn ≠ A.db := fun z => by have := h.ne; simp [FA.l] at this; exact this.2.2.2.2.1.2.2 z
    rw [upd_ne this]
  · rcases List.mem_append.mp hy with z | z
    · exact h.voc.2 y z
    · rw [List.mem_singleton.mp z]; exact hs
end
section
variable {P : Program} {w : World} {K : PySem.W.Frag} {mg : Str → Option Value} {base : Heap}
/-! ### _mask -/
def spMask (P : Program) (w : World) (C : Addr) : Sp := fun vs H Q _ => ∃ (x p : Addr) (row : List Str) (A : FA) (Ts : List T) (ch : List Ch) (bn : List Str), vs = [.ref x, .ref p] ∧ FAt P w C H x A Ts ch bn ∧ H p = some (.tup (row.map V.str)) ∧ (∀ s ∈ row, s ∈ A.vn) ∧
  ∀ H' (m : Nat) bn', But [A.db] H H' → FAt P w C H' x A Ts ch bn' → (∀ s ∈ bn, s ∈ bn') → (∀ s ∈ row, s ∈ bn') → (∀ j, m.testBit j = true ↔ ∃ s ∈ row, bn'[j]? = some s) → Q (.int (m : Nat)) H'
theorem ok_mask (D : Defs K mg) : FnOk P w K mg base CX0 1 D.d_f_mask.f D.d_f_mask.fd ["self", "names"] (spMask P w D.fC) := by
  refine D.d_f_mask.F.ok sc_f_mask (fun vs H Q E h => ?_) (fun cdv A outer s H vs Q E hr h => ?_)
  · obtain ⟨x, p, row, A, Ts, ch, bn, rfl, _⟩ := h
    rfl
  obtain ⟨x, p, row, A, Ts, ch, bn, rfl, hF, hp, hv, q⟩ := h
  have hu := hu_of hr
  refine ⟨_, (pss_cons (ps_set (i := 2) sc_f_mask.nd rfl (Or.inl rfl) pe_int)
      (pss_cons (ps_for PassesOwn.never rfl (pi_tup (pv 1)) (pg_name (i := 3) sc_f_mask.nd rfl (Or.inl rfl)) (pss_one (ps_set (i := 2) sc_f_mask.nd rfl (Or.inl rfl) (pe_op op_or (pv 2) (pe_op op_shl pe_int (pe_dsetd (pe_fld (pv 0) rfl) (pv 3) (pe_callB call_lenD (by rfl) D.z_len (by decide +kernel) (pa_cons (pe_fld (pv 0) rfl) pa_nil)) ⟨rfl, rfl, rfl, rfl⟩))))))
      (pss_one (ps_ret (pv 2))))), ?_⟩
  have bl := hF.blen
  refine ⟨_, rfl, p, rfl, ⟨_, SqT.of hp⟩, ?_⟩
  have tsm : ∀ {H' : Hp}, But [A.db] H H' → TSame H H' := fun b => hF.tsame b fun a ha ys e => by
    rw [List.mem_singleton.mp ha, hF.bits] at e; cases e
  refine for_tup (xs := row.map V.str) (fun i σ H' => ∃ (m : Nat) (bn' : List Str), (∃ o3, σ = [some (.ref x), some (.ref p), some (.int (m : Nat)), o3]) ∧ But [A.db] H H' ∧ FAt P w D.fC H' x A Ts ch bn' ∧ (∀ s ∈ bn, s ∈ bn') ∧ (∀ s ∈ row.take i, s ∈ bn') ∧ ∀ j, m.testBit j = true ↔ ∃ s ∈ row.take i, bn'[j]? = some s)
    ⟨0, bn, ⟨none, rfl⟩, But.refl _, hF, fun s h => h, fun s h => by simp at h, fun j => by simp⟩ (fun i σ H' _ hh => by obtain ⟨_, _, _, b, _⟩ := hh; exact SqT.of (tsm b _ _ hp)) ?_ ?_
  · rintro i z σ H1 hz ⟨m, bn1, ⟨o3, rfl⟩, b1, F1, sub1, in1, bit1⟩
    rw [List.getElem?_map] at hz
    obtain ⟨s, hs, rfl⟩ := Option.map_eq_some_iff.mp hz
    have ms := List.mem_of_getElem? hs
    obtain ⟨dx1, fs1, hx1, e1, e2, e3, e4, e5, e6, e7, e8, e9⟩ := F1.hx
    have bl1 := F1.blen
    have step : ∀ (H2 : Hp) (bn2 : List Str) (k : Nat), But [A.db] H1 H2 → FAt P w D.fC H2 x A Ts ch bn2 → (∀ s ∈ bn1, s ∈ bn2) → bn2[k]? = some s → (∀ (j : Nat) (y : Str), y ∈ bn1 → (bn1[j]? = some y ↔ bn2[j]? = some y)) →
        ∃ (m' : Nat) (bn' : List Str), (∃ o3, [some (V.ref x), some (.ref p), some (.int (Builtin.bitOr ((m : Nat) : Int) (1 * 2 ^ ((k : Nat) : Int).toNat))), some (.str s)] = [some (.ref x), some (.ref p), some (.int (m' : Nat)), o3]) ∧ But [A.db] H H2 ∧ FAt P w D.fC H2 x A Ts ch bn' ∧ (∀ s ∈ bn, s ∈ bn') ∧ (∀ s ∈ row.take (i + 1), s ∈ bn') ∧ ∀ j, m'.testBit j = true ↔ ∃ s ∈ row.take (i + 1), bn'[j]? = some s := by
      intro H2 bn2 k b2 F2 s2 hk st
      have ek : Builtin.bitOr ((m : Nat) : Int) (1 * 2 ^ ((k : Nat) : Int).toNat) = ((m ||| 2 ^ k : Nat) : Int) := by
        rw [← bor_nat]
        congr 1
        simp
      refine ⟨m ||| 2 ^ k, bn2, ⟨_, by rw [ek]⟩, b1.trans b2, F2, fun y hy => s2 y (sub1 y hy), fun y hy => ?_, fun j => ?_⟩
      · rw [take_more hs] at hy
        rcases List.mem_append.mp hy with z | z
        · exact s2 y (in1 y z)
        · rw [List.mem_singleton.mp z]; exact List.mem_of_getElem? hk
      · rw [Nat.testBit_or, Bool.or_eq_true, bit1 j, Nat.testBit_two_pow, decide_eq_true_eq, take_more hs]
        constructor
        · rintro (⟨y, hy, e⟩ | e)
          · exact ⟨y, List.mem_append_left _ hy, (st j y (in1 y hy)).mp e⟩
          · exact ⟨s, by simp, by rw [← e]; exact hk⟩
        · rintro ⟨y, hy, e⟩
          rcases List.mem_append.mp hy with z | z
          · exact .inl ⟨y, z, (st j y (in1 y z)).mpr e⟩
          · rw [List.mem_singleton.mp z] at e
            exact .inr (nodup_at F2.inv.bnd hk e)
    refine ⟨_, rfl, _, rfl, x, D.fC, dx1, _, _, rfl, hx1, D.fC_cl, D.fC_n_bits, e8, A.db, rfl, .inl ⟨_, .inl F1.bits⟩, _, rfl, _, rfl, x, D.fC, dx1, _, _, rfl, hx1, D.fC_cl, D.fC_n_bits, e8, A.db, _, rfl, F1.bits, _, Sum.inr s, F1.bits, rfl, small1000 (by rw [bkv_len]; omega), fun v hv => ?_, fun hnv => ?_⟩
    · by_cases mb : s ∈ bn1
      · obtain ⟨k, hk⟩ := List.mem_iff_getElem?.mp mb
        rw [(bkv_val F1.inv.bnd s).1 k hk] at hv
        cases hv
        have kl := (List.getElem?_eq_some_iff.mp hk).1
        exact ⟨_, _, rfl, rfl, ⟨by omega, by omega, by decide⟩, _, _, rfl, rfl, step H1 bn1 k (But.refl _) F1 (fun y h => h) hk (fun _ _ _ => Iff.rfl)⟩
      · rw [(bkv_val F1.inv.bnd s).2 mb] at hv; cases hv
    · have mb : s ∉ bn1 := fun z => by
        obtain ⟨k, hk⟩ := List.mem_iff_getElem?.mp z
        rw [(bkv_val F1.inv.bnd s).1 k hk] at hnv; cases hnv
      have F2 := F1.putBit mb (hv s ms)
      have en : putK (bkv bn1) (Sum.inr s : L2.Key) (.int (((bkv bn1).length : Nat) : Int)) = bkv (bn1 ++ [s]) := by rw [putK_new _ hnv, bkv_snoc, bkv_len]
      rw [en]
      refine ⟨_, _, rfl, rfl, ⟨by omega, by rw [bkv_len]; omega, by decide⟩, _, _, rfl, rfl, ?_⟩
      rw [bkv_len]
      refine step _ (bn1 ++ [s]) bn1.length (But.put (by simp)) F2 (fun y h => List.mem_append_left _ h) (by simp) fun j y hy => ?_
      constructor
      · intro e
        rw [List.getElem?_append_left (List.getElem?_eq_some_iff.mp e).1]; exact e
      · intro e
        obtain ⟨k, hk⟩ := List.mem_iff_getElem?.mp hy
        have hk2 : (bn1 ++ [s])[k]? = some y := by rw [List.getElem?_append_left (List.getElem?_eq_some_iff.mp hk).1]; exact hk
        rw [nodup_at F2.inv.bnd e hk2]; exact hk
  · rintro σ H1 ⟨m, bn1, ⟨o3, rfl⟩, b1, F1, sub1, in1, bit1⟩
    rw [List.length_map, List.take_length] at in1 bit1
    exact ⟨_, rfl, q H1 m bn1 b1 F1 sub1 in1 bit1⟩
end
end K1
namespace K1
open PySem L2 K8
theorem gnm_conjL : ∀ I : List T, gnm (conj I) = gnms I
  | [] => by rw [conj, gnm, if_pos rfl]; rfl
  | [t] => by rw [conj, gnms, gnms, List.append_nil]
  | a :: b :: l => by rw [conj, gnm]; all_goals simp
theorem gch_conjL : ∀ I : List T, gch (conj I) = gchs I
  | [] => by rw [conj, gch]; rfl
  | [t] => by rw [conj, gchs, gchs, List.append_nil]
  | a :: b :: l => by rw [conj, gch]; all_goals simp
theorem its_len : ∀ {I : List T}, (∀ i ∈ I, isIt i = true) → (gnms I).length + (gchs I).length = I.length
  | [], _ => rfl
  | i :: I, h => by
    have ih := its_len (I := I) fun j hj => h j (List.mem_cons_of_mem _ hj)
    have hi := h i List.mem_cons_self
    rw [gnms, gchs, List.length_append, List.length_append, List.length_cons]
    have : (gnm i).length + (gch i).length = 1 := by
      cases i with
      | atom s =>
        rw [gnm, gch, if_neg (of_decide_eq_true hi)]; rfl
      | ex r c => rw [gnm, gch]; rfl
      | and l => cases hi
    omega
theorem rd_and {t : T} (h : Rd t) : isAndT t = true ↔ 1 < (gnm t).length + (gch t).length := by
  cases h with
  | mk I it rd so an =>
    rw [gnm_conjL, gch_conjL, its_len it]
    match I, it with
    | [], _ => simp [conj, isAndT]
    | [i], it =>
      have := it i (by simp)
      cases i with
      | atom s => simp [conj, isAndT]
      | ex r c => simp [conj, isAndT]
      | and l => cases this
    | a :: b :: l, _ => simp [conj, isAndT]
theorem word12 {s : Str} (h : s = "all" ∨ s = "none" ∨ wordOk s = true) : (cs s).length ≤ 12 := by
  rcases h with rfl | rfl | h
  · decide +kernel
  · decide +kernel
  · exact word_len h
theorem cw_items {I : List T} (h : CW (conj I)) : ∀ i ∈ I, CW i := by
  match I, h with
  | [], _ => intro i hi; cases hi
  | [t], h => intro i hi; rw [List.mem_singleton.mp hi]; exact h
  | a :: b :: l, h =>
    have h : CW (.and (a :: b :: l)) := h
    rw [CW] at h
    exact CWs_iff.mp h.2
theorem items_sum : ∀ {I : List T}, (∀ i ∈ I, isIt i = true) → (∀ i ∈ I, CW i) → (∀ r c, T.ex r c ∈ I → (tx c).length + 100 ≤ 2000 * tz c) → (I.map fun i => (pr i).length + 3).sum ≤ 15 * (gnms I).length + 2000 * sumT (gchs I)
  | [], _, _, _ => by simp [gnms, gchs, sumT]
  | i :: I, h1, h2, h3 => by
    have ih := items_sum (I := I) (fun j hj => h1 j (List.mem_cons_of_mem _ hj)) (fun j hj => h2 j (List.mem_cons_of_mem _ hj)) (fun r c hc => h3 r c (List.mem_cons_of_mem _ hc))
    have hi := h1 i List.mem_cons_self
    have ci := h2 i List.mem_cons_self
    rw [List.map_cons, List.sum_cons, gnms, gchs, List.length_append, sumT_app]
    have : (pr i).length + 3 ≤ 15 * (gnm i).length + 2000 * sumT (gch i) := by
      cases i with
      | atom s =>
        rw [CW] at ci
        have := word12 ci
        rw [pr_not (by rfl), tx, gnm, gch, if_neg (of_decide_eq_true hi)]
        simp [sumT]
        omega
      | ex r c =>
        rw [CW] at ci
        have := word_len ci.1
        have hc := h3 r c List.mem_cons_self
        have := pr_len c
        rw [pr_not (by rfl), tx_ex, gnm, gch]
        simp only [List.length_append, List.length_cons, sumT, List.map_cons, List.map_nil, List.sum_cons, List.sum_nil]
        have : someL.length = 4 := rfl
        omega
      | and l => cases hi
    omega
theorem asc_nodup {l : List Str} (h : Asc l) : l.Nodup := List.Pairwise.imp (fun {a b} h e => by rw [e] at h; exact ltbT_irrefl _ h) h
theorem FI.txt {Ts : List T} {ch : List Ch} {bn : List Str} (h : FI Ts ch bn) (bl : bn.length ≤ 60) : ∀ (n i : Nat) (t : T), i < n → Ts[i]? = some t → (tx t).length + 100 ≤ 2000 * tz t
  | 0, _, _, l, _ => absurd l (Nat.not_lt_zero _)
  | n + 1, i, t, l, ht => by
    obtain ⟨c, hc⟩ := h.ch_at ht
    have mt := List.mem_of_getElem? ht
    have n60 : (gnm t).length ≤ 60 := Nat.le_trans (nodup_sub_len (asc_nodup (h.so t mt)) (h.bin t mt)) bl
    have kids : ∀ p ∈ gch t, (tx p.2).length + 100 ≤ 2000 * tz p.2 := fun p hp => by
      obtain ⟨q, hq, e1, e2⟩ := h.kid2 hc ht hp
      exact h.txt bl n q.2 p.2 (by have := (h.kid1 hc ht hq).1; omega) e2
    have rd := h.rd t mt
    have cw := h.cw t mt
    cases rd with
    | mk I it rd so an =>
      have a := items_sum it (cw_items cw) fun r c hc => kids (r, c) ((gch_conj it _).mpr hc)
      have b := tx_conj I
      rw [gnm_conjL] at n60
      unfold tz
      rw [cz_gch, gch_conjL]
      omega
theorem FAt.txt {P : Program} {w : World} {C : Addr} {H : Hp} {x : Addr} {A : FA} {Ts : List T} {ch : List Ch} {bn : List Str} (h : FAt P w C H x A Ts ch bn) {i : Nat} {t : T} (ht : Ts[i]? = some t) : (sT t).length ≤ 8000000 := by
  have := h.inv.txt h.blen (i + 1) i t (Nat.lt_succ_self _) ht
  have := h.inv.sz t (List.mem_of_getElem? ht)
  rw [len_sT]
  omega
section
variable {P : Program} {w : World} {K : PySem.W.Frag} {mg : Str → Option Value} {base : Heap}
/-! ### _text_of_some -/
def spTos (P : Program) (w : World) (C : Addr) : Sp := fun vs H Q _ => ∃ (x : Addr) (r : Str) (i : Nat) (A : FA) (Ts : List T) (ch : List Ch) (bn : List Str) (t : T), vs = [.ref x, .str r, .int (i : Nat)] ∧ FAt P w C H x A Ts ch bn ∧ Ts[i]? = some t ∧ wordOk r = true ∧ Q (.str (sT (.ex r t))) H
theorem tos_par {r : Str} {t : T} (h : isAndT t = true) : Str.empty ++ "some " ++ r ++ " (" ++ sT t ++ ")" = sT (.ex r t) := str_ext (by
  rw [cs_app, cs_app, cs_app, cs_app, cs_app, cs_empty, cs_some, cs_rp, cs_sT, show cs (" (" : Str) = [32, 40] from by decide +kernel]
  unfold sT
  rw [cs_sOf, tx_ex]
  unfold pr wrap
  rw [h]
  simp [someL])
theorem tos_not {r : Str} {t : T} (h : isAndT t = false) : Str.empty ++ "some " ++ r ++ " " ++ sT t = sT (.ex r t) := by
  have : sT t = sP t := by unfold sT sP; rw [pr_not h]
  rw [this, exT_is]
theorem ok_tos (D : Defs K mg) : FnOk P w K mg base CX0 1 D.d_f_text_of_some.f D.d_f_text_of_some.fd ["self", "role", "form"] (spTos P w D.fC) := by
  refine D.d_f_text_of_some.F.ok sc_f_text_of_some (fun vs H Q E h => ?_) (fun cdv A outer s H vs Q E hr h => ?_)
  · obtain ⟨x, r, i, A, Ts, ch, bn, t, rfl, _⟩ := h
    rfl
  obtain ⟨x, r, i, A, Ts, ch, bn, t, rfl, hF, ht, wr, q⟩ := h
  refine ⟨_, (pss_cons (ps_if (pt_cmpR op_gt (pe_op op_add (pe_callB call_len_seq (by rfl) D.z_len (by decide +kernel) (pa_cons (pe_ix ix_list (pe_fld (pv 0) rfl) (pv 2) (fun _ _ => rfl)) pa_nil)) (pe_callB call_len_seq (by rfl) D.z_len (by decide +kernel) (pa_cons (pe_ix ix_list (pe_fld (pv 0) rfl) (pv 2) (fun _ _ => rfl)) pa_nil))) pe_int (nomark _)) (pss_one (ps_ret (pe_joined (.cons pe_str (.cons (pe_fmt (pv 1)) (.cons pe_str (.cons (pe_fmt (pe_ix ix_list (pe_fld (pv 0) rfl) (pv 2) (fun _ _ => rfl))) (.cons pe_str .nil)))))))) pss_nil)
      (pss_one (ps_ret (pe_joined (.cons pe_str (.cons (pe_fmt (pv 1)) (.cons pe_str (.cons (pe_fmt (pe_ix ix_list (pe_fld (pv 0) rfl) (pv 2) (fun _ _ => rfl))) .nil)))))))), ?_⟩
  obtain ⟨dx, fs, hx, f1, f2, f3, f4, f5, f6, f7, f8, f9⟩ := hF.hx
  obtain ⟨ras, r1, r2⟩ := hF.rows
  obtain ⟨ra, hra, oka⟩ := paired_get2 r2 ht
  obtain ⟨has, g1, g2⟩ := hF.kids
  obtain ⟨c, hc⟩ := hF.inv.ch_at ht
  obtain ⟨ha, hha, ps, p1, p2, p3⟩ := paired_get2 g2 hc
  have ga : (ras.map V.ref)[i]? = some (.ref ra) := by rw [List.getElem?_map, hra]; rfl
  have gh : (has.map V.ref)[i]? = some (.ref ha) := by rw [List.getElem?_map, hha]; rfl
  have gt : (Ts.map fun t => V.str (sT t))[i]? = some (.str (sT t)) := by rw [List.getElem?_map, ht]; rfl
  have lr : r.length ≤ sizeLine := Nat.le_trans (word_len wr) (by decide)
  have lt := hF.txt ht
  refine ⟨_, rfl, x, D.fC, dx, _, _, rfl, hx, D.fC_cl, D.fC_nrows, f3, _, rfl, A.lr, _, _, V.ref ra, rfl, rfl, SqL.of r1, atI_nat ga, ra, _, rfl, .inr (SqT.of oka), _, rfl, x, D.fC, dx, _, _, rfl, hx, D.fC_cl, D.fC_nchildren, f4, _, rfl, A.lh, _, _, V.ref ha, rfl, rfl, SqL.of g1, atI_nat gh, ha, _, rfl, .inr (SqT.of p1), _, _, rfl, rfl, ?_⟩
  have e0 : (Str.empty).length = 0 := rfl
  have e1 : ("some " : Str).length = 5 := by decide +kernel
  have e2 : (" (" : Str).length = 2 := by decide +kernel
  have e3 : (")" : Str).length = 1 := by decide +kernel
  have e4 : (" " : Str).length = 1 := by decide +kernel
  have lr12 : r.length ≤ 12 := word_len wr
  have big : sizeLine = 16777216 := rfl
  have ec : c.length = (gch t).length := by
    have := congrArg List.length (hF.inv.kid i c t hc ht).2
    rwa [List.length_map, List.length_map] at this
  have en : ((((gnm t).map V.str).length : Nat) : Int) + (((ps.map fun u => V.ref u.1).length : Nat) : Int) = (((gnm t).length + (gch t).length : Nat) : Int) := by
    rw [List.length_map, List.length_map, show ps.length = c.length by rw [← p3, List.length_map], ec]
    omega
  have iff := rd_and (hF.inv.rd t (List.mem_of_getElem? ht))
  refine ⟨_, _, rfl, rfl, _, rfl, ?_⟩
  by_cases c1 : isAndT t = true
  · have g1 := iff.mp c1
    refine iteTe (decide_eq_true (by omega)) ?_
    refine ⟨_, rfl, (by rw [len_app]; omega), _, rfl, .inl ⟨r, rfl, lr, _, rfl, (by rw [len_app, len_app]; omega), _, rfl, (by rw [len_app, len_app, len_app]; omega), _, rfl, x, D.fC, dx, _, _, rfl, hx, D.fC_cl, D.fC_ntexts, f2, _, rfl, A.lt, _, _, V.str (sT t), rfl, rfl, SqL.of hF.texts, atI_nat gt, .inl ⟨sT t, rfl, (by omega), _, rfl, (by rw [len_app, len_app, len_app, len_app]; omega), _, rfl, (by rw [len_app, len_app, len_app, len_app, len_app]; omega), ?_⟩⟩⟩
    rw [tos_par c1]
    exact q
  · have g1 : ¬ 1 < (gnm t).length + (gch t).length := fun z => c1 (iff.mpr z)
    refine iteFe (decide_eq_false (by omega)) ?_
    refine ⟨_, rfl, (by rw [len_app]; omega), _, rfl, .inl ⟨r, rfl, lr, _, rfl, (by rw [len_app, len_app]; omega), _, rfl, (by rw [len_app, len_app, len_app]; omega), _, rfl, x, D.fC, dx, _, _, rfl, hx, D.fC_cl, D.fC_ntexts, f2, _, rfl, A.lt, _, _, V.str (sT t), rfl, rfl, SqL.of hF.texts, atI_nat gt, .inl ⟨sT t, rfl, (by omega), _, rfl, (by rw [len_app, len_app, len_app, len_app]; omega), ?_⟩⟩⟩
    rw [tos_not (by simpa using c1)]
    exact q
end
end K1
namespace K1
open PySem L2 K8
theorem FAt.dwN {P : Program} {w : World} {C : Addr} {H H' : Hp} {x : Addr} {A : FA} {Ts : List T} {ch : List Ch} {bn : List Str} (h : FAt P w C H x A Ts ch bn) {a : Addr} {l : List V} (e : H a = some (.lst l)) : a ≠ A.dw := fun z => by
  obtain ⟨kt, w1, _⟩ := h.memo
  rw [z, w1] at e; cases e
theorem FAt.tsW {P : Program} {w : World} {C : Addr} {H H' : Hp} {x : Addr} {A : FA} {Ts : List T} {ch : List Ch} {bn : List Str} (h : FAt P w C H x A Ts ch bn) (b : But [A.dw] H H') : TSame H H' := h.tsame b fun a ha ys e => by
  obtain ⟨kt, w1, _⟩ := h.memo
  rw [List.mem_singleton.mp ha, w1] at e; cases e
/-- what is new is none of its own -/
theorem FAt.fresh {P : Program} {w : World} {C : Addr} {H H' : Hp} {x : Addr} {A : FA} {Ts : List T} {ch : List Ch} {bn : List Str} (h : FAt P w C H x A Ts ch bn) (s : Same H H') : FAt P w C H' x A Ts ch bn := h.keep (Same.t s) fun a ha => by
  have : ∃ o, H a = some o := by
    rcases ha with rfl | ha
    · obtain ⟨dx, fs, h1, _⟩ := h.hx
      exact ⟨_, h1⟩
    · exact h.at_ ha
  obtain ⟨o, ho⟩ := this
  rw [ho]; exact s _ _ ho
theorem FAt.freshB {P : Program} {w : World} {C : Addr} {H H' : Hp} {x : Addr} {A : FA} {Ts : List T} {ch : List Ch} {bn : List Str} (h : FAt P w C H x A Ts ch bn) {D0 : Addr} (hD : H D0 = none) (b : But [D0] H H') : FAt P w C H' x A Ts ch bn := h.fresh fun a o e => b _ _ (by simpa using ne_of_none e hD) e
section
variable {P : Program} {w : World} {K : PySem.W.Frag} {mg : Str → Option Value} {base : Heap}
/-! ### _has_lower -/
def spHasL (P : Program) (w : World) (C : Addr) : Sp := fun vs H Q _ => ∃ (x po : Addr) (i : Nat) (os : List Nat) (A : FA) (Ts : List T) (ch : List Ch) (bn : List Str) (ti : T), vs = [.ref x, .int (i : Nat), .ref po] ∧ FAt P w C H x A Ts ch bn ∧ Ts[i]? = some ti ∧ H po = some (.lst (os.map fun o => V.int (o : Nat))) ∧ (∀ o ∈ os, o < Ts.length) ∧ os.length ≤ 1000 ∧
  ∀ H' b, But [A.dw] H H' → FAt P w C H' x A Ts ch bn → (b = true ↔ ∃ o ∈ os, o ≠ i ∧ ∃ to, Ts[o]? = some to ∧ Le to ti) → Q (.bl b) H'
theorem ok_hasl (D : Defs K mg) : FnOk P w K mg base CX0 26 D.d_f_has_lower.f D.d_f_has_lower.fd ["self", "form", "others"] (spHasL P w D.fC) := by
  have GW := ok_within (P := P) (w := w) (base := base) D 12
  refine D.d_f_has_lower.F.ok sc_f_has_lower (fun vs H Q E h => ?_) (fun cdv A outer s H vs Q E hr h => ?_)
  · obtain ⟨x, po, i, os, A, Ts, ch, bn, ti, rfl, _⟩ := h
    rfl
  obtain ⟨x, po, i, os, A, Ts, ch, bn, ti, rfl, hF, hi, ho, rng, l1000, q⟩ := h
  refine ⟨_, (pss_cons (ps_asg (pe_tup (pa_cons (pe_fld (pv 0) rfl) (pa_cons (pe_ix ix_list (pe_fld (pv 0) rfl) (pv 1) (fun _ _ => rfl)) pa_nil))) (pg_tup (by rfl) (pgs_cons (pg_name (i := 3) sc_f_has_lower.nd rfl (Or.inr rfl)) (pgs_cons (pg_name (i := 4) sc_f_has_lower.nd rfl (Or.inr rfl)) pgs_nil))))
      (pss_cons (ps_for PassesOwn.never rfl (pi_list (pe_lc (own := [("one", 6)]) (g := gName 6) rfl sc_f_has_lower.nd (pi_list (pv 2)) (blkOk_by (N := ["self", "form", "others", "masks", "own", "other", "one"]) (sc := defScope s_f_has_lower) (by decide +kernel)) (fun _ _ _ _ _ => pg_name (i := 6) sc_f_has_lower.nd rfl (Or.inl rfl)) (fun _ _ _ _ _ => pts_one (PW.pt (pw_and (pt_cmpR op_eq (pe_op op_and (pv 4) (pe_ix (ix_listK (K := K) rfl) (pv 3) (pv 6) (fun _ _ => rfl))) (pv 4) (nomark _)) (pw_and1 (pt_cmpR op_ne (pv 6) (pv 1) (nomark _)))))) (fun _ _ _ _ _ => (pv 6)))) (pg_name (i := 5) sc_f_has_lower.nd rfl (Or.inl rfl)) (pss_one (ps_if (pt_val (pe_meth (pv 0) D.fC_cl D.d_f_is_within.me GW hr D.d_f_is_within.b .nil pass0 (pa_cons (pv 5) (pa_cons (pv 1) pa_nil)))) (pss_one (ps_ret pe_bl)) pss_nil)))
      (pss_one (ps_ret pe_bl)))), ?_⟩
  obtain ⟨dx, fs, hx, f1, f2, f3, f4, f5, f6, f7, f8, f9⟩ := hF.hx
  obtain ⟨ms, m1, m2⟩ := hF.masks
  obtain ⟨mi, hmi, oki⟩ := paired_get2 m2 hi
  have gi : (ms.map fun m => V.int (m : Nat))[i]? = some (.int (mi : Nat)) := by rw [List.getElem?_map, hmi]; rfl
  refine ⟨_, rfl, x, D.fC, dx, _, _, rfl, hx, D.fC_cl, D.fC_n_masks, f7, _, rfl, x, D.fC, dx, _, _, rfl, hx, D.fC_cl, D.fC_n_masks, f7, _, rfl, A.lm, _, _, V.int (mi : Nat), rfl, rfl, SqL.of m1, atI_nat gi, (by show 2 ≤ sizeLine; decide), fun tp htp => ?_⟩
  have s1 : Same H (upd H tp (.tup [V.ref A.lm, V.int (mi : Nat)])) := same_new htp _
  have e1 : (upd H tp (.tup [V.ref A.lm, V.int (mi : Nat)])) tp = some (.tup [V.ref A.lm, V.int (mi : Nat)]) := upd_same
  generalize upd H tp (.tup [V.ref A.lm, V.int (mi : Nat)]) = H1 at s1 e1 ⊢
  refine ⟨tp, _, rfl, SqT.of e1, rfl, _, _, rfl, _, _, rfl, rfl, ?_⟩
  have F1 := hF.fresh s1
  have ho1 := s1 _ _ ho
  have lms : ms.length = Ts.length := (paired_len m2).symm
  refine ⟨_, rfl, po, rfl, ⟨_, SqL.of ho1⟩, fun D0 hD0 => ?_⟩
  have pD : po ≠ D0 := ne_of_none ho1 hD0
  refine lc_list (K := K) (a := po) (xs := os.map fun o => V.int (o : Nat)) (fun j H2 => But [D0] (upd H1 D0 (.lst [])) H2 ∧ H2 D0 = some (.lst (((os.take j).filter fun o => decide (mi &&& ms.getD o 0 = mi) && decide (o ≠ i)).map fun o => V.int (o : Nat)))) ⟨But.refl _, upd_same⟩ (fun j H2 _ hh => SqL.of (hh.1 _ _ (by simpa using pD) (by rw [upd_ne pD]; exact ho1))) ?_ ?_
  · rintro j z H2 hj ⟨b2, h2⟩
    rw [List.getElem?_map] at hj
    obtain ⟨o, hoj, rfl⟩ := Option.map_eq_some_iff.mp hj
    have lo := rng o (List.mem_of_getElem? hoj)
    have s2 : Same H H2 := s1.trans (same_of b2 hD0)
    obtain ⟨mo, hmo⟩ : ∃ mo, ms[o]? = some mo := ⟨_, List.getElem?_eq_getElem (by omega)⟩
    have go : (ms.map fun m => V.int (m : Nat))[o]? = some (.int (mo : Nat)) := by rw [List.getElem?_map, hmo]; rfl
    have gd : ms.getD o 0 = mo := by rw [List.getD_eq_getElem?_getD, hmo]; rfl
    rw [take_more hoj, List.filter_append]
    have lj : j < os.length := (List.getElem?_eq_some_iff.mp hoj).1
    have lf : ((os.take j).filter fun o => decide (mi &&& ms.getD o 0 = mi) && decide (o ≠ i)).length ≤ 1000 := Nat.le_trans (List.length_filter_le _ _) (by rw [List.length_take]; omega)
    refine ⟨rfl, _, rfl, _, rfl, _, rfl, A.lm, _, _, V.int (mo : Nat), rfl, rfl, SqL.of (s2 _ _ m1), atI_nat go, _, _, rfl, rfl, _, rfl, rfl, decide (mi &&& mo = mi), (by
      show V.bl (decide (V.int (Builtin.bitAnd ((mi : Nat) : Int) ((mo : Nat) : Int)) = V.int (mi : Nat))) = V.bl (decide (mi &&& mo = mi))
      rw [PySem.W.os_band]
      congr 1
      exact decide_eq_decide.mpr ⟨fun z => by have := V.int.inj z; omega, fun z => by rw [z]⟩), ?_⟩
    by_cases c1 : mi &&& mo = mi
    · rw [decide_eq_true c1]
      refine iteT ⟨_, rfl, _, rfl, rfl, _, rfl, ?_⟩
      by_cases c2 : o = i
      · rw [show List.filter (fun o => decide (mi &&& ms.getD o 0 = mi) && decide (o ≠ i)) [o] = [] from by rw [List.filter_cons, if_neg (by simp [c2])]; rfl, List.append_nil]
        exact iteFe (by simp [c2]) ⟨b2, h2⟩
      · rw [show List.filter (fun o => decide (mi &&& ms.getD o 0 = mi) && decide (o ≠ i)) [o] = [o] from by rw [List.filter_cons, if_pos (by rw [gd]; simp [c1, c2])]; rfl]
        refine iteTe (by simp; exact fun z => c2 (by omega)) ⟨_, rfl, _, h2, ?_, b2.trans (But.put (by simp)), by rw [upd_same, List.map_append]; rfl⟩
        rw [List.length_map]
        exact small1000 (by omega)
    · rw [decide_eq_false c1]
      rw [show List.filter (fun o => decide (mi &&& ms.getD o 0 = mi) && decide (o ≠ i)) [o] = [] from by rw [List.filter_cons, if_neg (by rw [gd]; simp [c1])]; rfl, List.append_nil]
      exact iteF ⟨b2, h2⟩
  rintro H2 ⟨b2, h2⟩
  rw [List.length_map, List.take_length] at h2
  have s12 : Same H1 H2 := same_of b2 hD0
  have F2 := F1.fresh s12
  have good : ∀ o, o ∈ os.filter (fun o => decide (mi &&& ms.getD o 0 = mi) && decide (o ≠ i)) ↔ o ∈ os ∧ o ≠ i ∧ mi &&& ms.getD o 0 = mi := fun o => by
    rw [List.mem_filter, Bool.and_eq_true, decide_eq_true_eq, decide_eq_true_eq]
    exact ⟨fun z => ⟨z.1, z.2.2, z.2.1⟩, fun z => ⟨z.1, z.2.2, z.2.1⟩⟩
  have mle : ∀ {o to}, Ts[o]? = some to → Le to ti → mi &&& ms.getD o 0 = mi := fun {o to} hto l => by
    obtain ⟨mo, hmo, oko⟩ := paired_get2 m2 hto
    rw [List.getD_eq_getElem?_getD, hmo, show (some mo).getD 0 = mo from rfl, mask_sub]
    exact (mask_le hF.inv.bnd (hF.inv.bin ti (List.mem_of_getElem? hi)) oko oki).mpr (Le.iff.mp l).1
  generalize os.filter (fun o => decide (mi &&& ms.getD o 0 = mi) && decide (o ≠ i)) = gs at h2 good
  refine ⟨D0, rfl, ⟨_, SqL.of h2⟩, ?_⟩
  refine for_list (K := K) (a := D0) (xs := gs.map fun o => V.int (o : Nat)) (fun l σ H3 => (∃ o5, σ = [some (.ref x), some (.int (i : Nat)), some (.ref po), some (.ref A.lm), some (.int (mi : Nat)), o5, none]) ∧ But [A.dw] H2 H3 ∧ FAt P w D.fC H3 x A Ts ch bn ∧ ∀ o ∈ gs.take l, ∀ to, Ts[o]? = some to → ¬ Le to ti)
    ⟨⟨_, rfl⟩, But.refl _, F2, fun o ho => by simp at ho⟩ (fun l σ H3 _ hh => SqL.of (hh.2.1 _ _ (by simpa using F2.dwN (H' := H3) h2) h2)) ?_ ?_
  · rintro l z σ H3 hl ⟨⟨o5, rfl⟩, b3, F3, no3⟩
    rw [List.getElem?_map] at hl
    obtain ⟨o, hol, rfl⟩ := Option.map_eq_some_iff.mp hl
    have mo := (good o).mp (List.mem_of_getElem? hol)
    obtain ⟨to, hto⟩ : ∃ to, Ts[o]? = some to := ⟨_, List.getElem?_eq_getElem (rng o mo.1)⟩
    obtain ⟨dx3, fs3, hx3, y1, y2, y3, y4, y5, y6, y7, y8, y9⟩ := F3.hx
    refine ⟨_, rfl, x, dx3, _, rfl, hx3, y9 _ (by decide +kernel), _, rfl, _, rfl, x, o, i, A, Ts, ch, bn, to, ti, rfl, F3, hto, hi, hF.inv.dp ti (List.mem_of_getElem? hi), fun H4 b b4 F4 hb => ⟨_, rfl, ?_⟩⟩
    have B4 : But [A.dw] H H4 := ((But.of (s1.trans s12)).trans b3).trans b4
    by_cases cb : b = true
    · subst cb
      exact iteT (q H4 true B4 F4 ⟨fun _ => ⟨o, mo.1, mo.2.1, to, hto, hb.mp rfl⟩, fun _ => rfl⟩)
    · have cb : b = false := by simpa using cb
      subst cb
      refine iteF ⟨⟨_, rfl⟩, b3.trans b4, F4, fun o' ho' to' hto' => ?_⟩
      rw [take_more hol] at ho'
      rcases List.mem_append.mp ho' with z | z
      · exact no3 o' z to' hto'
      · rw [List.mem_singleton.mp z, hto] at hto'
        rw [← Option.some.inj hto']
        exact fun z => by have := hb.mpr z; cases this
  · rintro σ H3 ⟨⟨o5, rfl⟩, b3, F3, no3⟩
    rw [List.length_map, List.take_length] at no3
    refine q H3 false ((But.of (s1.trans s12)).trans b3) F3 ⟨(fun z => by cases z), ?_⟩
    rintro ⟨o, h1, h2, to, h3, h4⟩
    exact absurd h4 (no3 o ((good o).mpr ⟨h1, h2, mle h3 h4⟩) to h3)
end
end K1
namespace K1
open PySem L2 K8
/-! the somes by role -/
theorem rsv {RS : List Str} {AE : Str → Addr} (r : Str) : valV (RS.map fun r => ((Sum.inr r : L2.Key), V.ref (AE r))) (Sum.inr r : L2.Key) = if r ∈ RS then some (.ref (AE r)) else none := by
  induction RS with
  | nil => rfl
  | cons a RS ih =>
    rw [List.map_cons]
    by_cases c : a = r
    · subst c
      rw [valV_pos rfl, if_pos List.mem_cons_self]
    · rw [valV_neg (fun z => c (Sum.inr.inj (show (Sum.inr a : L2.Key) = Sum.inr r from z))), ih]
      by_cases m : r ∈ RS
      · rw [if_pos m, if_pos (List.mem_cons_of_mem _ m)]
      · rw [if_neg m, if_neg fun z => (List.mem_cons.mp z).elim (fun e => c e.symm) m]
def ofR (pre : List (Str × Nat)) (r : Str) : List V := (pre.filter fun p => decide (p.1 = r)).map fun p => V.int (p.2 : Nat)
structure BR (H0 H : Hp) (bd : Addr) (RS : List Str) (AE : Str → Addr) (pre : List (Str × Nat)) : Prop where
  hb : H bd = some (.dK (RS.map fun r => ((Sum.inr r : L2.Key), V.ref (AE r))))
  hl : ∀ r ∈ RS, H0 (AE r) = none ∧ H (AE r) = some (.lst (ofR pre r))
  inj : ∀ r ∈ RS, ∀ r' ∈ RS, AE r = AE r' → r = r'
  mem : ∀ r, r ∈ RS ↔ ∃ p ∈ pre, p.1 = r
theorem ofR_snoc {pre : List (Str × Nat)} {p : Str × Nat} {r : Str} : ofR (pre ++ [p]) r = if p.1 = r then ofR pre r ++ [V.int (p.2 : Nat)] else ofR pre r := by
  unfold ofR
  rw [List.filter_append, List.map_append]
  by_cases c : p.1 = r
  · rw [if_pos c, List.filter_cons, decide_eq_true c]; rfl
  · rw [if_neg c, List.filter_cons, decide_eq_false c]; simp
theorem ofR_len {pre : List (Str × Nat)} {r : Str} : (ofR pre r).length ≤ pre.length := by
  unfold ofR
  rw [List.length_map]
  exact List.length_filter_le _ _
theorem BR.old {H0 H : Hp} {bd : Addr} {RS : List Str} {AE : Str → Addr} {pre : List (Str × Nat)} (h : BR H0 H bd RS AE pre) {p : Str × Nat} (m : p.1 ∈ RS) : BR H0 (upd H (AE p.1) (.lst (ofR pre p.1 ++ [V.int (p.2 : Nat)]))) bd RS AE (pre ++ [p]) := by
  have nb : bd ≠ AE p.1 := fun z => by have := (h.hl _ m).2; rw [← z, h.hb] at this; cases this
  refine ⟨by rw [upd_ne nb]; exact h.hb, fun r hr => ⟨(h.hl r hr).1, ?_⟩, h.inj, fun r => ?_⟩
  · rw [ofR_snoc]
    by_cases c : p.1 = r
    · subst c
      rw [if_pos rfl, upd_same]
    · rw [if_neg c, upd_ne fun z => c (h.inj _ m _ hr z.symm)]
      exact (h.hl r hr).2
  · rw [h.mem r]
    constructor
    · rintro ⟨q, hq, e⟩
      exact ⟨q, List.mem_append_left _ hq, e⟩
    · rintro ⟨q, hq, e⟩
      rcases List.mem_append.mp hq with z | z
      · exact ⟨q, z, e⟩
      · rw [List.mem_singleton.mp z] at e
        rw [← e]
        exact (h.mem _).mp m
theorem BR.new {H0 H : Hp} {bd : Addr} {RS : List Str} {AE : Str → Addr} {pre : List (Str × Nat)} (h : BR H0 H bd RS AE pre) {p : Str × Nat} (m : p.1 ∉ RS) {l : Addr} (hl : H l = none) (hl0 : H0 l = none) :
    BR H0 (upd (upd (upd H l (.lst [])) bd (.dK (putK (RS.map fun r => ((Sum.inr r : L2.Key), V.ref (AE r))) (Sum.inr p.1) (.ref l)))) l (.lst ([] ++ [V.int (p.2 : Nat)]))) bd (RS ++ [p.1]) (setF AE p.1 l) (pre ++ [p]) := by
  have bl : bd ≠ l := ne_of_none h.hb hl
  have e0 : ofR pre p.1 = [] := by
    unfold ofR
    rw [List.map_eq_nil_iff, List.filter_eq_nil_iff]
    intro q hq
    rw [decide_eq_true_eq]
    exact fun z => m ((h.mem _).mpr ⟨q, hq, z⟩)
  have al : ∀ r ∈ RS, AE r ≠ l := fun r hr z => by have := (h.hl r hr).2; rw [z, hl] at this; cases this
  have ab : ∀ r ∈ RS, AE r ≠ bd := fun r hr z => by have := (h.hl r hr).2; rw [z, h.hb] at this; cases this
  have nr : ∀ r ∈ RS, r ≠ p.1 := fun r hr z => m (z ▸ hr)
  refine ⟨?_, fun r hr => ?_, fun r hr r' hr' e => ?_, fun r => ?_⟩
  · rw [upd_ne bl, upd_same, putK_new _ (by rw [rsv, if_neg m]), List.map_append]
    have : (RS.map fun r => ((Sum.inr r : L2.Key), V.ref (setF AE p.1 l r))) = RS.map fun r => ((Sum.inr r : L2.Key), V.ref (AE r)) := List.map_congr_left fun r hr => by rw [setF_ne (nr r hr)]
    rw [this]
    show _ = some (HO.dK (_ ++ [((Sum.inr p.1 : L2.Key), V.ref (setF AE p.1 l p.1))]))
    rw [setF_same]
  · rw [ofR_snoc]
    rcases List.mem_append.mp hr with z | z
    · rw [setF_ne (nr r z), if_neg fun e => nr r z e.symm, upd_ne (al r z), upd_ne (ab r z), upd_ne (al r z)]
      exact h.hl r z
    · rw [List.mem_singleton.mp z, setF_same, if_pos rfl, e0]
      exact ⟨hl0, upd_same⟩
  · rcases List.mem_append.mp hr with z | z
    · rcases List.mem_append.mp hr' with z' | z'
      · rw [setF_ne (nr r z), setF_ne (nr r' z')] at e
        exact h.inj r z r' z' e
      · rw [List.mem_singleton.mp z', setF_ne (nr r z), setF_same] at e
        exact absurd e (al r z)
    · rcases List.mem_append.mp hr' with z' | z'
      · rw [List.mem_singleton.mp z, setF_ne (nr r' z'), setF_same] at e
        exact absurd e.symm (al r' z')
      · rw [List.mem_singleton.mp z, List.mem_singleton.mp z']
  · rw [List.mem_append, List.mem_singleton, h.mem r]
    constructor
    · rintro (⟨q, hq, e⟩ | e)
      · exact ⟨q, List.mem_append_left _ hq, e⟩
      · exact ⟨p, by simp, e.symm⟩
    · rintro ⟨q, hq, e⟩
      rcases List.mem_append.mp hq with z | z
      · exact .inl ⟨q, z, e⟩
      · rw [List.mem_singleton.mp z] at e
        exact .inr e.symm
/-! a dict of children -/
def ddC (C : List (Str × Nat)) : List (Str × Nat) := C.foldl addK []
theorem ddC_snoc (C : List (Str × Nat)) (p : Str × Nat) : ddC (C ++ [p]) = addK (ddC C) p := by unfold ddC; rw [List.foldl_append]; rfl
theorem ddC_all (C : List (Str × Nat)) : (ddC C).Nodup ∧ (∀ p, p ∈ ddC C ↔ p ∈ C) ∧ (ddC C).length ≤ C.length ∧ K2.keysT (C.map kyE) = ktF kyE (ddC C) fun _ => .bl true := by
  refine K2.snoc_ind (P := fun C => (ddC C).Nodup ∧ (∀ p, p ∈ ddC C ↔ p ∈ C) ∧ (ddC C).length ≤ C.length ∧ K2.keysT (C.map kyE) = ktF kyE (ddC C) fun _ => .bl true) ⟨List.nodup_nil, fun p => Iff.rfl, Nat.le_refl _, rfl⟩ (fun l x ⟨h1, h2, h3, h4⟩ => ?_) C
  rw [ddC_snoc]
  refine ⟨addK_nd h1, fun p => by rw [mem_addK, h2, List.mem_append, List.mem_singleton], Nat.le_trans addK_len (by rw [List.length_append]; simp; omega), ?_⟩
  rw [List.map_append, List.map_cons, List.map_nil, K2.keysT_snoc, h4, ktF_put kyE_inj]
  exact ktF_congr fun k _ => by
    show setF (fun _ => V.bl true) x (V.bl true) k = V.bl true
    unfold setF
    split <;> rfl
end K1
namespace K1
open PySem L2 K8
section
variable {P : Program} {w : World} {K : PySem.W.Frag} {mg : Str → Option Value} {base : Heap}
/-! ### _needed_parts -/
/-- what is needed of some children: those that none of the others by the same role lies within -/
def NeedL (Ts : List T) (C Kl : List (Str × Nat)) : Prop := Kl.Nodup ∧ ∀ p, p ∈ Kl ↔ p ∈ C ∧ ∀ q ∈ C, q.1 = p.1 → q.2 ≠ p.2 → ∀ tq tp, Ts[q.2]? = some tq → Ts[p.2]? = some tp → ¬ Le tq tp
def spNeeded (P : Program) (w : World) (C : Addr) : Sp := fun vs H Q _ => ∃ (x pc : Addr) (Cs : List (Str × Nat)) (A : FA) (Ts : List T) (ch : List Ch) (bn : List Str), vs = [.ref x, .ref pc] ∧ FAt P w C H x A Ts ch bn ∧ TupL chV H pc Cs ∧ (∀ p ∈ Cs, p.2 < Ts.length) ∧ Cs.length ≤ 1000 ∧
  ∀ H' pf Kl, But [A.dw] H H' → FAt P w C H' x A Ts ch bn → H pf = none → TupL chV H' pf Kl → NeedL Ts Cs Kl → Q (.ref pf) H'
theorem unlockB {H H4 : Hp} {d b : Addr} {u : HO} {od : Obj} (hd : H d = some u) (nb : d ≠ b) (B : But [b] (upd H d (.frz od u)) H4) : But [b] H (upd H4 d u) := fun c v n e => by
  by_cases m : c = d
  · subst m
    rw [upd_same, ← hd]; exact e
  · rw [upd_ne m]
    exact B c v n (by rw [upd_ne m]; exact e)
theorem BR.unlock {H H4 : Hp} {d b : Addr} {u : HO} {od : Obj} {RS : List Str} {AE : Str → Addr} {pre : List (Str × Nat)} (nb : d ≠ b) (h : BR (upd H d (.frz od u)) H4 b RS AE pre) : BR H (upd H4 d u) b RS AE pre := by
  have nd : ∀ r ∈ RS, AE r ≠ d := fun r hr z => by have := (h.hl r hr).1; rw [z, upd_same] at this; cases this
  exact ⟨by rw [upd_ne nb.symm]; exact h.hb, fun r hr => ⟨by have := (h.hl r hr).1; rw [upd_ne (nd r hr)] at this; exact this, by rw [upd_ne (nd r hr)]; exact (h.hl r hr).2⟩, h.inj, h.mem⟩
theorem BR.fresh {H0 H H' : Hp} {b : Addr} {RS : List Str} {AE : Str → Addr} {pre : List (Str × Nat)} (h : BR H0 H b RS AE pre) (s : Same H H') : BR H0 H' b RS AE pre := ⟨s _ _ h.hb, fun r hr => ⟨(h.hl r hr).1, s _ _ (h.hl r hr).2⟩, h.inj, h.mem⟩
theorem FAt.old {P : Program} {w : World} {C : Addr} {H : Hp} {x : Addr} {A : FA} {Ts : List T} {ch : List Ch} {bn : List Str} (h : FAt P w C H x A Ts ch bn) {a : Addr} (ha : a = x ∨ a ∈ A.l) : ∃ o, H a = some o := by
  rcases ha with rfl | ha
  · obtain ⟨dx, fs, h1, _⟩ := h.hx
    exact ⟨_, h1⟩
  · exact h.at_ ha
theorem FAt.ne_new {P : Program} {w : World} {C : Addr} {H : Hp} {x : Addr} {A : FA} {Ts : List T} {ch : List Ch} {bn : List Str} (h : FAt P w C H x A Ts ch bn) {a b : Addr} (ha : a = x ∨ a ∈ A.l) (hb : H b = none) : a ≠ b := by
  obtain ⟨o, ho⟩ := h.old ha
  exact ne_of_none ho hb
theorem ok_needed (D : Defs K mg) : FnOk P w K mg base CX0 27 D.d_f_needed_parts.f D.d_f_needed_parts.fd ["self", "children"] (spNeeded P w D.fC) := by
  have GH := ok_hasl (P := P) (w := w) (base := base) D
  refine D.d_f_needed_parts.F.ok sc_f_needed_parts (fun vs H Q E h => ?_) (fun cdv A outer s H vs Q E hr h => ?_)
  · obtain ⟨x, pc, Cs, A, Ts, ch, bn, rfl, _⟩ := h
    rfl
  obtain ⟨x, pc, Cs, A, Ts, ch, bn, rfl, hF, hC, rng, l1000, q⟩ := h
  have hu := hu_of hr
  refine ⟨_, (pss_cons (K3.ps_setDcTV (i := 2) (own := [("child", 8)]) (g := gName 8) rfl hr.units0 sc_f_needed_parts.nd rfl rfl (K2.swD_true rfl rfl rfl (by decide +kernel)) (pi_list (pv 1)) (blkOk_by (N := ["self", "children", "known", "by_role", "role", "form", "found", "others", "child"]) (sc := defScope s_f_needed_parts) (by decide +kernel)) (fun _ _ _ _ _ => pg_name (i := 8) sc_f_needed_parts.nd rfl (Or.inl rfl)) (fun _ _ _ _ _ => pv 8) (fun _ _ _ _ _ => pe_bl))
      (pss_cons (ps_set (i := 3) sc_f_needed_parts.nd rfl (Or.inl rfl) pe_dnewK)
      (pss_cons (ps_lock (ps_for PassesOwn.never rfl (pi_keys (pv 2)) (pg_tup rfl (pgs_cons (pg_name (i := 4) sc_f_needed_parts.nd rfl (Or.inl rfl)) (pgs_cons (pg_name (i := 5) sc_f_needed_parts.nd rfl (Or.inl rfl)) pgs_nil))) (pss_one (ps_expr (pe_bm PySem.F.plainAttrs_list PySem.F.slot_list_append PySem.F.type_list_append mt_append (pe_dsetd (pv 3) (pv 4) (pe_lst pa_nil) ⟨rfl, rfl, rfl, rfl⟩) (pa_cons (pv 5) pa_nil))))))
      (pss_cons (ps_set (i := 6) sc_f_needed_parts.nd rfl (Or.inl rfl) (pe_lst pa_nil))
      (pss_cons (ps_lock (ps_for PassesOwn.never rfl (pi_keys (pv 2)) (pg_tup rfl (pgs_cons (pg_name (i := 4) sc_f_needed_parts.nd rfl (Or.inl rfl)) (pgs_cons (pg_name (i := 5) sc_f_needed_parts.nd rfl (Or.inl rfl)) pgs_nil))) (pss_cons (ps_set (i := 7) sc_f_needed_parts.nd rfl (Or.inl rfl) (pe_dget hu (pv 3) (pv 4) (fun _ _ => rfl)))
      (pss_one (ps_if (pt_not (pt_val (pe_meth (pv 0) D.fC_cl D.d_f_has_lower.me GH hr D.d_f_has_lower.b .nil pass0 (pa_cons (pv 5) (pa_cons (pv 7) pa_nil))))) (pss_one (ps_expr (pe_bm PySem.F.plainAttrs_list PySem.F.slot_list_append PySem.F.type_list_append mt_append (pv 6) (pa_cons (pe_tup (pa_cons (pv 4) (pa_cons (pv 5) pa_nil))) pa_nil)))) pss_nil)))))
      (pss_one (ps_ret (pv 6)))))))), ?_⟩
  obtain ⟨ps, p1, p2, p3⟩ := id hC
  obtain ⟨dn1, dn2, dn3, dn4⟩ := ddC_all Cs
  have lps : ps.length = Cs.length := by rw [← p3, List.length_map]
  refine ⟨_, rfl, pc, rfl, ⟨_, SqL.of p1⟩, fun kn hkn => ?_⟩
  have pk : pc ≠ kn := ne_of_none p1 hkn
  refine K3.dcTV_it (walk_list (K := K) (a := pc) (xs := refsT ps)) (fun i H4 => But [kn] (upd H kn (.dT [])) H4 ∧ H4 kn = some (.dT (ktF kyE (ddC (Cs.take i)) fun _ => .bl true))) ⟨But.refl _, upd_same⟩ (fun i H4 _ hh => SqL.of (hh.1 _ _ (by simpa using pk) (by rw [upd_ne pk]; exact p1))) ?_ ?_
  · rintro i z H4 H4' hi ⟨b4, h4⟩ ⟨rfl, hz⟩
    unfold refsT at hz
    rw [List.getElem?_map] at hz
    obtain ⟨u, hu', rfl⟩ := Option.map_eq_some_iff.mp hz
    have hci : Cs[i]? = some u.2 := by rw [← p3, List.getElem?_map, hu']; rfl
    have su : Same H H4' := same_of b4 hkn
    refine ⟨rfl, _, rfl, _, kyE u.2, u.1, rfl, su _ _ (p2 u (List.mem_of_getElem? hu')), h4, ?_, b4.trans (But.put (by simp)), ?_⟩
    · rw [ktF_len]
      have := (ddC_all (Cs.take i)).2.2.1
      rw [List.length_take] at this
      exact small1000 (by omega)
    · show (upd H4' kn (.dT (putK (ktF kyE (ddC (Cs.take i)) fun _ => .bl true) (kyE u.2) (.bl true)))) kn = some (.dT (ktF kyE (ddC (Cs.take (i + 1))) fun _ => .bl true))
      rw [upd_same, take_more hci, ddC_snoc, ktF_put kyE_inj]
      exact congrArg (fun z => some (HO.dT z)) (ktF_congr fun k _ => by
        show setF (fun _ => V.bl true) u.2 (V.bl true) k = V.bl true
        unfold setF
        split <;> rfl)
  rintro H1 ⟨b1, e1⟩
  rw [show (refsT ps).length = Cs.length by rw [refsT_len, lps], List.take_length] at e1
  have s1 : Same H H1 := same_of b1 hkn
  intro bd hbd
  have s2 : Same H1 (upd H1 bd (.dK [])) := same_new hbd _
  have e2 : (upd H1 bd (.dK [])) bd = some (.dK []) := upd_same
  have e2k := s2 _ _ e1
  have bdH : H bd = none := none_sameT s1 hbd
  have kb : kn ≠ bd := ne_of_none e1 hbd
  generalize upd H1 bd (.dK []) = H2 at s2 e2 e2k ⊢
  refine ⟨kn, _, e2k, trivial, fun od => ?_⟩
  refine ⟨_, rfl, kn, od, rfl, .inr ⟨_, upd_same, ?_⟩⟩
  refine for_it walk_keysT (fun i σ H4 => ∃ (RS : List Str) (AE : Str → Addr), (∃ o4 o5, σ = [some (.ref x), some (.ref pc), some (.ref kn), some (.ref bd), o4, o5, none, none, none]) ∧ RS.length ≤ i ∧ But [bd] (upd H2 kn (.frz od (.dT (ktF kyE (ddC Cs) fun _ => .bl true)))) H4 ∧ BR (upd H2 kn (.frz od (.dT (ktF kyE (ddC Cs) fun _ => .bl true)))) H4 bd RS AE ((ddC Cs).take i))
    ⟨[], fun _ => 0, ⟨none, none, rfl⟩, Nat.zero_le _, But.refl _, ⟨by rw [upd_ne kb.symm]; exact e2, (fun r hr => by cases hr), (fun r hr => by cases hr), fun r => ⟨(fun z => by cases z), fun ⟨p, hp, _⟩ => by simp at hp⟩⟩⟩ (fun i σ H4 _ hh => by obtain ⟨_, _, _, _, b, _⟩ := hh; exact b kn _ (by simpa using kb) upd_same) ?_ ?_
  · rintro i z σ H4 H4' hi ⟨RS, AE, ⟨o4, o5, rfl⟩, lR, b4, B4⟩ ⟨rfl, k, v, qa, hk, rfl, hqa⟩
    obtain ⟨p, hp, rfl, rfl⟩ := ktF_at hk
    have hqa : H4' qa = some (.tup (chV p)) := hqa
    refine ⟨qa, _, rfl, SqT.of hqa, rfl, _, _, rfl, _, _, rfl, rfl, ?_⟩
    refine ⟨_, rfl, bd, rfl, .inl ⟨_, .inl B4.hb⟩, _, rfl, ⟨(by show 0 ≤ sizeLine; decide), fun l hl => ?_⟩⟩
    have hlL : (upd H2 kn (.frz od (.dT (ktF kyE (ddC Cs) fun _ => .bl true)))) l = none := by
      have z : l ≠ bd := (ne_of_none B4.hb hl).symm
      cases e : (upd H2 kn (.frz od (.dT (ktF kyE (ddC Cs) fun _ => .bl true)))) l with
      | none => rfl
      | some o => rw [b4 l o (by simpa using z) e] at hl; cases hl
    have bl : bd ≠ l := ne_of_none B4.hb hl
    have lD : (ddC Cs).length ≤ 1000 := Nat.le_trans dn3 l1000
    have li : i < (ddC Cs).length := (List.getElem?_eq_some_iff.mp hp).1
    have lof : (ofR ((ddC Cs).take i) p.1).length < sizeLine := small1000 (Nat.le_trans ofR_len (by rw [List.length_take]; omega))
    refine ⟨_, Sum.inr p.1, (by rw [upd_ne bl]; exact B4.hb), rfl, (by rw [List.length_map]; exact small1000 (by omega)), fun v hv => ?_, fun hnv => ?_⟩
    · rw [rsv] at hv
      by_cases m : p.1 ∈ RS
      · rw [if_pos m] at hv
        cases hv
        have hA := (B4.hl _ m).2
        have hA5 : (upd H4' l (.lst [])) (AE p.1) = some (.lst (ofR ((ddC Cs).take i) p.1)) := by rw [upd_ne (ne_of_none hA hl)]; exact hA
        refine ⟨.inl ⟨rfl, _, SqL.of hA5⟩, _, rfl, AE p.1, _, _, rfl, rfl, hA5, lof, RS, AE, ⟨_, _, rfl⟩, by omega, ?_, ?_⟩
        · exact fun c v n e => by
            have n1 : c ≠ AE p.1 := fun z => by rw [z, (B4.hl _ m).1] at e; cases e
            have e4 := b4 c v n e
            rw [upd_ne n1, upd_ne (ne_of_none e4 hl)]; exact e4
        · rw [take_more hp]
          exact (B4.fresh (same_new hl _)).old m
      · rw [if_neg m] at hv; cases hv
    · have m : p.1 ∉ RS := fun z => by rw [rsv, if_pos z] at hnv; cases hnv
      have hb5 : (upd (upd H4' l (.lst [])) bd (.dK (putK (RS.map fun r => ((Sum.inr r : L2.Key), V.ref (AE r))) (Sum.inr p.1) (.ref l)))) l = some (.lst []) := by rw [upd_ne bl.symm, upd_same]
      refine ⟨.inl ⟨rfl, _, SqL.of hb5⟩, _, rfl, l, _, _, rfl, rfl, hb5, (by decide), RS ++ [p.1], setF AE p.1 l, ⟨_, _, rfl⟩, (by rw [List.length_append]; simp; omega), ?_, ?_⟩
      · exact fun c v n e => by
          have e4 := b4 c v n e
          have n1 : c ≠ l := ne_of_none e4 hl
          have n2 : c ≠ bd := by simpa using n
          rw [upd_ne n1, upd_ne n2, upd_ne n1]; exact e4
      · rw [take_more hp]
        exact B4.new m hl hlL
  rintro σ H4 ⟨RS, AE, ⟨o4, o5, rfl⟩, lR, b4, B4⟩
  rw [ktF_len, List.take_length] at B4
  refine ⟨b4 kn _ (by simpa using kb) upd_same, ?_⟩
  have B5 := B4.unlock kb
  have b5 := unlockB e2k kb b4
  have e5k : (upd H4 kn (.dT (ktF kyE (ddC Cs) fun _ => .bl true))) kn = some (.dT (ktF kyE (ddC Cs) fun _ => .bl true)) := upd_same
  generalize upd H4 kn (.dT (ktF kyE (ddC Cs) fun _ => .bl true)) = H5 at B5 b5 e5k ⊢
  have s5 : Same H H5 := fun a u e => b5 _ _ (by simpa using ne_of_none e bdH) (s2 _ _ (s1 _ _ e))
  refine ⟨(by show 0 ≤ sizeLine; decide), fun fd hfd => ?_⟩
  have s6 : Same H5 (upd H5 fd (.lst [])) := same_new hfd _
  have e6 : (upd H5 fd (.lst [])) fd = some (.lst []) := upd_same
  have fdH : H fd = none := none_sameT s5 hfd
  have kf : kn ≠ fd := ne_of_none e5k hfd
  have bf : bd ≠ fd := ne_of_none B5.hb hfd
  have af : ∀ r ∈ RS, AE r ≠ fd := fun r hr => ne_of_none (B5.hl r hr).2 hfd
  have B6 := B5.fresh s6
  have e6k := s6 _ _ e5k
  generalize upd H5 fd (.lst []) = H6 at s6 e6 e6k B6 ⊢
  refine ⟨kn, _, e6k, trivial, fun od2 => ?_⟩
  refine ⟨_, rfl, kn, od2, rfl, .inr ⟨_, upd_same, ?_⟩⟩
  have S6 : Same H H6 := s5.trans s6
  have F6 : FAt P w D.fC (upd H6 kn (.frz od2 (.dT (ktF kyE (ddC Cs) fun _ => .bl true)))) x A Ts ch bn := (hF.fresh S6).keep (upd_t e6k fun _ z => by cases z) fun a ha => by rw [upd_ne (hF.ne_new ha hkn)]
  have lD : (ddC Cs).length ≤ 1000 := Nat.le_trans dn3 l1000
  have good0 : ∀ p : Str × Nat, ∃ g : Bool, g = true ↔ ∀ q ∈ Cs, q.1 = p.1 → q.2 ≠ p.2 → ∀ tq tp, Ts[q.2]? = some tq → Ts[p.2]? = some tp → ¬ Le tq tp := fun p => by
    by_cases c : ∀ q ∈ Cs, q.1 = p.1 → q.2 ≠ p.2 → ∀ tq tp, Ts[q.2]? = some tq → Ts[p.2]? = some tp → ¬ Le tq tp
    · exact ⟨true, fun _ => c, fun _ => rfl⟩
    · exact ⟨false, (fun z => by cases z), fun z => absurd z c⟩
  refine for_it walk_keysT (fun i σ H7 => ∃ Kl : List (Str × Nat), (∃ o4 o5 o7, σ = [some (.ref x), some (.ref pc), some (.ref kn), some (.ref bd), o4, o5, some (.ref fd), o7, none]) ∧ But [fd, A.dw] (upd H6 kn (.frz od2 (.dT (ktF kyE (ddC Cs) fun _ => .bl true)))) H7 ∧ FAt P w D.fC H7 x A Ts ch bn ∧ TupL chV H7 fd Kl ∧ Kl.Nodup ∧ (∀ p, p ∈ Kl ↔ p ∈ (ddC Cs).take i ∧ ∀ q ∈ Cs, q.1 = p.1 → q.2 ≠ p.2 → ∀ tq tp, Ts[q.2]? = some tq → Ts[p.2]? = some tp → ¬ Le tq tp) ∧ Kl.length ≤ i)
    ⟨[], ⟨_, _, none, rfl⟩, But.refl _, F6, TupL.nil (by rw [upd_ne kf.symm]; exact e6), List.nodup_nil, fun p => ⟨(fun z => by cases z), fun z => by simp at z⟩, Nat.le_refl _⟩ (fun i σ H7 _ hh => by
      obtain ⟨_, _, b, F, _⟩ := hh
      exact b kn _ (by simp; exact ⟨kf, fun z => hF.ne_new (.inr (by simp [FA.l])) hkn z.symm⟩) upd_same) ?_ ?_
  · rintro i z σ H7 H7' hi ⟨Kl, ⟨o4, o5, o7, rfl⟩, b7, F7, T7, n7, m7, l7⟩ ⟨rfl, k, v, qa, hk, rfl, hqa⟩
    obtain ⟨p, hp, rfl, rfl⟩ := ktF_at hk
    have hqa : H7' qa = some (.tup (chV p)) := hqa
    have mp : p ∈ Cs := (dn2 p).mp (List.mem_of_getElem? hp)
    have li : i < (ddC Cs).length := (List.getElem?_eq_some_iff.mp hp).1
    refine ⟨qa, _, rfl, SqT.of hqa, rfl, _, _, rfl, _, _, rfl, rfl, ?_⟩
    have dwN : ∀ {a : Addr}, H a = none → a ≠ A.dw := fun h z => hF.ne_new (.inr (by simp [FA.l])) h z.symm
    have old7 : ∀ {a : Addr} {o : HO}, a ≠ fd → a ≠ A.dw → a ≠ kn → H6 a = some o → H7' a = some o := fun {a o} n1 n2 n3 e => b7 a o (by simp; exact ⟨n1, n2⟩) (by rw [upd_ne n3]; exact e)
    have hb7 := old7 bf (dwN bdH) kb.symm B6.hb
    have mR : p.1 ∈ RS := (B6.mem _).mpr ⟨p, List.mem_of_getElem? hp, rfl⟩
    have hl7 : H7' (AE p.1) = some (.lst (ofR (ddC Cs) p.1)) := old7 (af _ mR) (F6.dwN (H' := H7') (by rw [upd_ne fun z => by have := (B6.hl _ mR).2; rw [z, e6k] at this; cases this]; exact (B6.hl _ mR).2)) (fun z => by have := (B6.hl _ mR).2; rw [z, e6k] at this; cases this) (B6.hl _ mR).2
    have dg : DGet H7' bd (.str p.1) (some (.ref (AE p.1))) := .inl ⟨_, Sum.inr p.1, .inl hb7, rfl, by rw [rsv, if_pos mR]⟩
    obtain ⟨dx7, fs7, hx7, y1, y2, y3, y4, y5, y6, y7, y8, y9⟩ := F7.hx
    obtain ⟨tp, htp⟩ : ∃ tp, Ts[p.2]? = some tp := ⟨_, List.getElem?_eq_getElem (rng p mp)⟩
    have hol : H7' (AE p.1) = some (.lst ((((ddC Cs).filter fun q => decide (q.1 = p.1)).map (·.2)).map fun o => V.int (o : Nat))) := by rw [hl7]; unfold ofR; rw [List.map_map]; rfl
    refine ⟨_, rfl, _, rfl, bd, _, rfl, dg, ?_⟩
    refine ⟨_, rfl, x, dx7, _, rfl, hx7, y9 _ (by decide +kernel), _, rfl, _, rfl, x, AE p.1, p.2, _, A, Ts, ch, bn, tp, rfl, F7, htp, hol, ?_, ?_, fun H8 b b8 F8 hb => ⟨_, rfl, ?_⟩⟩
    · intro o ho
      obtain ⟨q, hq, rfl⟩ := List.mem_map.mp ho
      exact rng q ((dn2 q).mp (List.mem_filter.mp hq).1)
    · rw [List.length_map]
      exact Nat.le_trans (List.length_filter_le _ _) lD
    have hb' : b = true ↔ ∃ q ∈ Cs, q.1 = p.1 ∧ q.2 ≠ p.2 ∧ ∃ tq, Ts[q.2]? = some tq ∧ Le tq tp := by
      rw [hb]
      constructor
      · rintro ⟨o, ho, h1, to, h2, h3⟩
        obtain ⟨q, hq, rfl⟩ := List.mem_map.mp ho
        obtain ⟨h4, h5⟩ := List.mem_filter.mp hq
        exact ⟨q, (dn2 q).mp h4, of_decide_eq_true h5, h1, to, h2, h3⟩
      · rintro ⟨q, hq, h1, h2, tq, h3, h4⟩
        exact ⟨q.2, List.mem_map.mpr ⟨q, List.mem_filter.mpr ⟨(dn2 q).mpr hq, decide_eq_true h1⟩, rfl⟩, h2, tq, h3, h4⟩
    have fdw : fd ≠ A.dw := dwN fdH
    have T8 : TupL chV H8 fd Kl := T7.keep (fun o e => b8 _ _ (by simpa using fdw) e) (F7.tsW b8)
    have B8 : But [fd, A.dw] (upd H6 kn (.frz od2 (.dT (ktF kyE (ddC Cs) fun _ => .bl true)))) H8 := b7.trans fun c v n e => b8 c v (by simp at n ⊢; exact n.2) e
    have npm : p ∉ (ddC Cs).take i := fun z => by
      obtain ⟨j, hj, e⟩ := List.mem_iff_getElem.mp z
      rw [List.length_take] at hj
      rw [List.getElem_take] at e
      have h1 : (ddC Cs)[j]? = some p := by rw [← e]; exact List.getElem?_eq_getElem (by omega)
      have := (List.getElem?_inj (by omega) dn1).mp (h1.trans hp.symm)
      omega
    by_cases cb : b = true
    · subst cb
      obtain ⟨q0, h1, h2, h3, tq, h4, h5⟩ := hb'.mp rfl
      refine iteFe rfl ⟨Kl, ⟨_, _, _, rfl⟩, B8, F8, T8, n7, fun r => ?_, by omega⟩
      rw [m7 r, take_more hp]
      constructor
      · rintro ⟨g1, g2⟩
        exact ⟨List.mem_append_left _ g1, g2⟩
      · rintro ⟨g1, g2⟩
        rcases List.mem_append.mp g1 with g | g
        · exact ⟨g, g2⟩
        · rw [List.mem_singleton.mp g] at g2
          exact absurd h5 (g2 q0 h1 h2 h3 tq tp h4 htp)
    · have cb : b = false := by simpa using cb
      subst cb
      obtain ⟨ys0, g1, _⟩ := T8.lst
      refine iteTe rfl ⟨_, rfl, .inl ⟨rfl, _, SqL.of g1⟩, _, rfl, _, rfl, (by show 2 ≤ sizeLine; decide), fun t ht => ?_⟩
      have st : Same H8 (upd H8 t (.tup (chV p))) := same_new ht _
      obtain ⟨ys, w1, w2, w3⟩ := (T8.same st).app (x := p) (upd_same (o := HO.tup (chV p)))
      have F9 : FAt P w D.fC (upd (upd H8 t (.tup (chV p))) fd (.lst (ys ++ [.ref t]))) x A Ts ch bn := (F8.fresh st).keep (upd_t w1 fun _ z => by cases z) fun a ha => by rw [upd_ne (hF.ne_new ha fdH)]
      refine ⟨fd, _, _, rfl, rfl, w1, by rw [w2]; exact small1000 (by omega), Kl ++ [p], ⟨_, _, _, rfl⟩, (B8.trans (But.of st)).trans (But.put (by simp)), F9, w3, ?_, fun r => ?_, by rw [List.length_append]; simp; omega⟩
      · exact List.nodup_append.mpr ⟨n7, by simp, fun a ha b hb e => by
          rw [List.mem_singleton.mp hb] at e
          rw [e] at ha
          exact npm ((m7 p).mp ha).1⟩
      · rw [List.mem_append, m7 r, List.mem_singleton, take_more hp, List.mem_append, List.mem_singleton]
        constructor
        · rintro (⟨z1, z2⟩ | rfl)
          · exact ⟨.inl z1, z2⟩
          · refine ⟨.inr rfl, fun q hq h1 h2 tq tp' h3 h4 le => ?_⟩
            rw [htp] at h4
            cases h4
            have := hb'.mpr ⟨q, hq, h1, h2, tq, h3, le⟩
            cases this
        · rintro ⟨z1 | z1, z2⟩
          · exact .inl ⟨z1, z2⟩
          · exact .inr z1
  · rintro σ H7 ⟨Kl, ⟨o4, o5, o7, rfl⟩, b7, F7, T7, n7, m7, l7⟩
    rw [ktF_len, List.take_length] at m7
    have kdw : kn ≠ A.dw := fun z => hF.ne_new (.inr (by simp [FA.l])) hkn z.symm
    have hk7 := b7 kn _ (by simp; exact ⟨kf, kdw⟩) upd_same
    refine ⟨hk7, _, rfl, q _ fd Kl ?_ ?_ fdH (T7.keep (fun o e => by rw [upd_ne kf.symm]; exact e) (upd_t hk7 fun _ z => by cases z)) ⟨n7, fun r => by rw [m7 r, dn2]⟩⟩
    · intro c v n e
      have n1 : c ≠ kn := ne_of_none e hkn
      rw [upd_ne n1]
      exact b7 c v (by simp at n ⊢; exact ⟨ne_of_none e fdH, n⟩) (by rw [upd_ne n1]; exact S6 _ _ e)
    · exact F7.keep (upd_t hk7 fun _ z => by cases z) fun a ha => by rw [upd_ne (hF.ne_new ha hkn)]
end
end K1
namespace K1
open PySem L2 K8 PySem.W PyProof.Rows
/-! sorted(somes): tuples of a text, a role and a number -/
abbrev Som := Str × Str × Nat
def somD (s : Som) : PyData := .tuple [.str s.1, .str s.2.1, .int (s.2.2 : Nat)]
def somV (s : Som) : List V := [.str s.1, .str s.2.1, .int (s.2.2 : Nat)]
def ltM (a b : Som) : Bool := dataLt (somD a) (somD b)
def leM (a b : Som) : Bool := dataLe false somD a b
theorem leM_eq (a b : Som) : leM a b = !ltM b a := rfl
theorem ltM_irrefl (e : Som) : ltM e e = false := PyProof.Rows.lex_irrefl _
theorem ltM_trans {a b c : Som} (h1 : ltM a b = true) (h2 : ltM b c = true) : ltM a c = true := PyProof.Rows.lex_trans _ _ _ h1 h2
theorem ltM_asym {a b : Som} (h1 : ltM a b = true) : ltM b a = false := by
  cases h : ltM b a with
  | false => rfl
  | true => have := ltM_trans h1 h; rw [ltM_irrefl] at this; cases this
theorem ltM_text {a b : Som} (h : ltb a.1 b.1 = true) : ltM a b = true := by
  have ne : (Sum.inr a.1.cps.toList : Int ⊕ List Nat) ≠ Sum.inr b.1.cps.toList := fun z => by
    have := str_of_cps (Sum.inr.inj z)
    rw [this, ltbS_irrefl] at h; cases h
  have e0 : dataLt (.str a.1) (.str b.1) = true := by rw [ltS_eq]; exact h
  have e1 : PyProof.Rows.lexLt itemOrd [Sum.inr a.1.cps.toList] [Sum.inr b.1.cps.toList] = true := e0
  show PyProof.Rows.lexLt itemOrd ([Sum.inl 1] ++ (Sum.inr a.1.cps.toList :: keyToksAll [.str a.2.1, .int (a.2.2 : Nat)])) ([Sum.inl 1] ++ (Sum.inr b.1.cps.toList :: keyToksAll [.str b.2.1, .int (b.2.2 : Nat)])) = true
  rw [lex_pre, lex_atom ne]
  exact e1
theorem sortM_asc {l : List Som} (nd : (l.map (·.1)).Nodup) : (l.mergeSort leM).Pairwise fun a b => ltb a.1 b.1 = true := by
  have tot : ∀ a b : Som, (leM a b || leM b a) = true := fun a b => by
    rw [leM_eq, leM_eq]
    cases h : ltM b a with
    | false => rfl
    | true => rw [ltM_asym h]; rfl
  have tr : ∀ a b c : Som, leM a b = true → leM b c = true → leM a c = true := fun a b c h1 h2 => by
    rw [leM_eq] at h1 h2 ⊢
    cases h : ltM c a with
    | false => rfl
    | true =>
      rcases PyProof.Rows.lex_negTrans _ (keyToks (somD b)) _ h with z | z
      · have z' : ltM c b = true := z
        rw [z'] at h2; cases h2
      · have z' : ltM b a = true := z
        rw [z'] at h1; cases h1
  have pw := List.pairwise_mergeSort tr tot l
  have nd2 : ((l.mergeSort leM).map (·.1)).Nodup := ((List.mergeSort_perm l leM).map _).nodup_iff.mpr nd
  have nd3 : (l.mergeSort leM).Pairwise fun a b => a.1 ≠ b.1 := List.pairwise_map.mp nd2
  refine List.Pairwise.imp₂ (R := fun a b => leM a b = true) (S := fun a b => a.1 ≠ b.1) (fun {a b} h1 h2 => ?_) pw nd3
  cases h : ltb a.1 b.1 with
  | true => rfl
  | false =>
    cases h3 : ltb b.1 a.1 with
    | true => rw [leM_eq, ltM_text h3] at h1; cases h1
    | false => exact absurd (ltbS_total h h3) h2
abbrev leMA (x y : Addr × Som) : Bool := dataLe false (fun b : Addr × Som => somD b.2) x y
theorem sortMA_snd (l : List (Addr × Som)) : (l.mergeSort leMA).map (·.2) = (l.map (·.2)).mergeSort leM :=
  List.map_mergeSort (r := leMA) (s := leM) (f := fun e : Addr × Som => e.2) (l := l) (fun _ _ _ _ => rfl)
theorem dp_som {K : PySem.W.Frag} {H : Hp} {t : Addr} {e : Som} (h : H t = some (.tup (somV e))) : Dp K H (.ref t) (somD e) := .tup (SqT.of h) (.cons (.str _) (.cons (.str _) (.cons (.int _) .nil)))
def SomsAt (H : Hp) (l : List (Addr × Som)) : Prop := ∀ u ∈ l, H u.1 = some (.tup (somV u.2))
def rSortedM : List V → Hp → VK → Prop := fun vs H Q => ∃ (a : Addr) (l : List (Addr × Som)), vs = [V.ref a] ∧ H a = some (.lst (refsT l)) ∧ SomsAt H l ∧ ∀ p, H p = none → Q (.ref p) (upd H p (.lst (refsT (l.mergeSort leMA))))
theorem eachM_ref : ∀ {us : List Value} {l : List (Addr × Som)}, Vals (refsT l) us → EachIs (fun v (b : Addr × Som) => v = Value.ref b.1) us l
  | us, [], r => by cases r; exact .nil
  | us, e :: l, r => by
    cases r with
    | cons h1 h2 => exact .cons h1 (eachM_ref h2)
theorem refM_each : ∀ {us : List Value} {l : List (Addr × Som)}, EachIs (fun v (b : Addr × Som) => v = Value.ref b.1) us l → Vals (refsT l) us
  | _, _, .nil => .nil
  | _, _, .cons h1 h2 => .cons h1 (refM_each h2)
theorem eachM_rd {X : Cx} {pins : List (Addr × Obj)} {σ : L2.St} {H : Hp} {s : Shared} (I : Inv X pins σ H s) : ∀ {us : List Value} {l : List (Addr × Som)}, EachIs (fun v (b : Addr × Som) => v = Value.ref b.1) us l → SomsAt H l → EachIs (fun v (b : Addr × Som) => ∃ as, Reads s.heap v (somD b.2) as) us l
  | _, _, .nil, _ => .nil
  | _, _, .cons h1 h2, h => .cons (by subst h1; exact Dp.reads I _ (V.ref _) _ (dp_som (h _ List.mem_cons_self)) rfl) (eachM_rd I h2 fun b hb => h b (List.mem_cons_of_mem _ hb))
theorem cr_sortedM {X : Cx} (hu : X.A.units + 64 < cLine) : CallR X (.builtin "sorted") rSortedM := by
  intro pins s σ H vs us Q I r h
  obtain ⟨a, l, rfl, hs, he, q⟩ := h
  obtain ⟨its, rv, hl, hz⟩ := I.list (SqL.of hs)
  obtain ⟨u, rfl, ru⟩ := vals1 r
  obtain rfl : u = Value.ref a := ru
  have hlen : (refsT l).length = l.length := refsT_len
  refine sorted_data (R := fun v (b : Addr × Som) => v = Value.ref b.1) (enc := fun b : Addr × Som => somD b.2) (bs := l) hl.isList (eachM_ref rv) (eachM_rd I (eachM_ref rv) he) (AllAlike.of fun b b' => by simp [somD, alike, alikeAll]) (Sortable.tuples fun b => ⟨_, _, rfl⟩) (by omega) ?_ ?_
  · intro b hb
    have : (somD b.2).depth = 1 := by simp [somD, PyData.depth, PyData.depthAll]
    show X.A.units + 2 + (somD b.2).depth < cLine
    omega
  · intro out _ ho
    obtain ⟨n, hn⟩ := sortedAll_at s.heap its out.toArray
    have hd : s.heap.objs.size ≤ s.heap.objs.size + 1 := Nat.le_succ _
    have l2 : (refsT (l.mergeSort leMA)).length ≤ sizeLine := by
      have : (l.mergeSort leMA).length = l.length := (List.mergeSort_perm l leMA).length_eq
      rw [refsT_len, this]
      omega
    exact ⟨.ref (s.heap.objs.size + 1), upd H (s.heap.objs.size + 1) (.lst (refsT (l.mergeSort leMA))), I.laid (t' := s.toks) (fun b o e => sortedAll_old e) hd ⟨l2, out, n, refM_each ho, hn⟩, rfl, q _ (I.hok.fresh hd)⟩
theorem paired_perm {α β : Type} {G : α → β → Prop} {ps qs : List α} (pm : qs.Perm ps) : ∀ {J : List β}, Paired G ps J → ∃ I : List β, I.Perm J ∧ Paired G qs I := by
  induction pm with
  | nil => exact fun h => ⟨_, .refl _, h⟩
  | cons x p ih =>
    intro J h
    cases h with
    | cons h1 h2 =>
      obtain ⟨I, i1, i2⟩ := ih h2
      exact ⟨_ :: I, i1.cons _, .cons h1 i2⟩
  | swap x y l =>
    intro J h
    cases h with
    | cons h1 h2 =>
      cases h2 with
      | cons h3 h4 => exact ⟨_, .swap _ _ _, .cons h3 (.cons h1 h4)⟩
  | trans p1 p2 ih1 ih2 =>
    intro J h
    obtain ⟨I, i1, i2⟩ := ih2 h
    obtain ⟨I', i3, i4⟩ := ih1 i2
    exact ⟨I', i3.trans i1, i4⟩
end K1
namespace K1
open PySem L2 K8
structure FB (C : Addr) (H : Hp) (x : Addr) (A : FA) (bn : List Str) : Prop where
  hx : ∃ dx fs, H x = some (.ins C dx fs) ∧ fs.lookup ("concepts" : Str) = some (.ref A.lc) ∧ fs.lookup ("texts" : Str) = some (.ref A.lt) ∧ fs.lookup ("rows" : Str) = some (.ref A.lr) ∧ fs.lookup ("children" : Str) = some (.ref A.lh) ∧ fs.lookup ("_numbers" : Str) = some (.ref A.dn) ∧ fs.lookup ("_within" : Str) = some (.ref A.dw) ∧ fs.lookup ("_masks" : Str) = some (.ref A.lm) ∧ fs.lookup ("_bits" : Str) = some (.ref A.db) ∧ ∀ m, m ∉ fNames → fs.lookup m = none
  bits : H A.db = some (.dK (bkv bn))
  bnd : bn.Nodup
  voc : A.vn.length ≤ 60 ∧ ∀ s ∈ bn, s ∈ A.vn
theorem FB.blen {C : Addr} {H : Hp} {x : Addr} {A : FA} {bn : List Str} (h : FB C H x A bn) : bn.length ≤ 60 := Nat.le_trans (nodup_sub_len h.bnd h.voc.2) h.voc.1
theorem FB.putBit {C : Addr} {H : Hp} {x : Addr} {A : FA} {bn : List Str} (h : FB C H x A bn) {s : Str} (no : s ∉ bn) (hs : s ∈ A.vn) : FB C (upd H A.db (.dK (bkv (bn ++ [s])))) x A (bn ++ [s]) := by
  have nd : (bn ++ [s]).Nodup := List.nodup_append.mpr ⟨h.bnd, by simp, fun a ha b hb => by rw [List.mem_singleton.mp hb]; exact fun z => no (z ▸ ha)⟩
  obtain ⟨dx, fs, h1, h2⟩ := h.hx
  refine ⟨⟨dx, fs, by rw [upd_ne fun z => by rw [z, h.bits] at h1; cases h1]; exact h1, h2⟩, upd_same, nd, h.voc.1, fun y hy => ?_⟩
  rcases List.mem_append.mp hy with z | z
  · exact h.voc.2 y z
  · rw [List.mem_singleton.mp z]; exact hs
theorem MaskOf.more {bn more : List Str} {t : T} {m : Nat} (nd : (bn ++ more).Nodup) (i : ∀ x ∈ gnm t, x ∈ bn) (h : MaskOf bn t m) : MaskOf (bn ++ more) t m := fun j => by
  rw [h j]
  constructor
  · rintro ⟨x, hx, e⟩
    exact ⟨x, hx, by rw [List.getElem?_append_left (List.getElem?_eq_some_iff.mp e).1]; exact e⟩
  · rintro ⟨x, hx, e⟩
    obtain ⟨k, hk⟩ := List.mem_iff_getElem?.mp (i x hx)
    have hk2 : (bn ++ more)[k]? = some x := by rw [List.getElem?_append_left (List.getElem?_eq_some_iff.mp hk).1]; exact hk
    rw [nodup_at nd e hk2]
    exact ⟨x, hx, hk⟩
theorem masks_more {bn more : List Str} (nd : (bn ++ more).Nodup) : ∀ {Ts : List T} {ms : List Nat}, Paired (MaskOf bn) Ts ms → (∀ t ∈ Ts, ∀ y ∈ gnm t, y ∈ bn) → Paired (MaskOf (bn ++ more)) Ts ms := fun p => by
  induction p with
  | nil => exact fun _ => .nil
  | cons a b ih => exact fun hh => .cons (a.more nd (hh _ List.mem_cons_self)) (ih fun t ht => hh t (List.mem_cons_of_mem _ ht))
section
variable {P : Program} {w : World} {K : PySem.W.Frag} {mg : Str → Option Value} {base : Heap}
/-! ### _mask, of what has only the bits -/
def spMaskB (C : Addr) : Sp := fun vs H Q _ => ∃ (x p : Addr) (row : List Str) (A : FA) (bn : List Str), vs = [.ref x, .ref p] ∧ FB C H x A bn ∧ H p = some (.tup (row.map V.str)) ∧ (∀ s ∈ row, s ∈ A.vn) ∧
  ∀ H' (m : Nat) bn', But [A.db] H H' → FB C H' x A bn' → (∃ more, bn' = bn ++ more) → (∀ s ∈ row, s ∈ bn') → (∀ j, m.testBit j = true ↔ ∃ s ∈ row, bn'[j]? = some s) → Q (.int (m : Nat)) H'
theorem ok_maskB (D : Defs K mg) : FnOk P w K mg base CX0 1 D.d_f_mask.f D.d_f_mask.fd ["self", "names"] (spMaskB D.fC) := by
  refine D.d_f_mask.F.ok sc_f_mask (fun vs H Q E h => ?_) (fun cdv A outer s H vs Q E hr h => ?_)
  · obtain ⟨x, p, row, A, bn, rfl, _⟩ := h
    rfl
  obtain ⟨x, p, row, A, bn, rfl, hF, hp, hv, q⟩ := h
  have hu := hu_of hr
  refine ⟨_, (pss_cons (ps_set (i := 2) sc_f_mask.nd rfl (Or.inl rfl) pe_int)
      (pss_cons (ps_for PassesOwn.never rfl (pi_tup (pv 1)) (pg_name (i := 3) sc_f_mask.nd rfl (Or.inl rfl)) (pss_one (ps_set (i := 2) sc_f_mask.nd rfl (Or.inl rfl) (pe_op op_or (pv 2) (pe_op op_shl pe_int (pe_dsetd (pe_fld (pv 0) rfl) (pv 3) (pe_callB call_lenD (by rfl) D.z_len (by decide +kernel) (pa_cons (pe_fld (pv 0) rfl) pa_nil)) ⟨rfl, rfl, rfl, rfl⟩))))))
      (pss_one (ps_ret (pv 2))))), ?_⟩
  have bl := hF.blen
  refine ⟨_, rfl, p, rfl, ⟨_, SqT.of hp⟩, ?_⟩
  have tsm : ∀ {H' : Hp}, But [A.db] H H' → TSame H H' := fun b => fun a ys e => b _ _ (fun z => by rw [List.mem_singleton.mp z, hF.bits] at e; cases e) e
  refine for_tup (xs := row.map V.str) (fun i σ H' => ∃ (m : Nat) (bn' : List Str), (∃ o3, σ = [some (.ref x), some (.ref p), some (.int (m : Nat)), o3]) ∧ But [A.db] H H' ∧ FB D.fC H' x A bn' ∧ (∃ more, bn' = bn ++ more) ∧ (∀ s ∈ row.take i, s ∈ bn') ∧ ∀ j, m.testBit j = true ↔ ∃ s ∈ row.take i, bn'[j]? = some s)
    ⟨0, bn, ⟨none, rfl⟩, But.refl _, hF, ⟨[], by simp⟩, fun s h => by simp at h, fun j => by simp⟩ (fun i σ H' _ hh => by obtain ⟨_, _, _, b, _⟩ := hh; exact SqT.of (tsm b _ _ hp)) ?_ ?_
  · rintro i z σ H1 hz ⟨m, bn1, ⟨o3, rfl⟩, b1, F1, sub1, in1, bit1⟩
    rw [List.getElem?_map] at hz
    obtain ⟨s, hs, rfl⟩ := Option.map_eq_some_iff.mp hz
    have ms := List.mem_of_getElem? hs
    obtain ⟨dx1, fs1, hx1, e1, e2, e3, e4, e5, e6, e7, e8, e9⟩ := F1.hx
    have bl1 := F1.blen
    have step : ∀ (H2 : Hp) (bn2 : List Str) (k : Nat), But [A.db] H1 H2 → FB D.fC H2 x A bn2 → (∃ more, bn2 = bn1 ++ more) → bn2[k]? = some s → (∀ (j : Nat) (y : Str), y ∈ bn1 → (bn1[j]? = some y ↔ bn2[j]? = some y)) →
        ∃ (m' : Nat) (bn' : List Str), (∃ o3, [some (V.ref x), some (.ref p), some (.int (Builtin.bitOr ((m : Nat) : Int) (1 * 2 ^ ((k : Nat) : Int).toNat))), some (.str s)] = [some (.ref x), some (.ref p), some (.int (m' : Nat)), o3]) ∧ But [A.db] H H2 ∧ FB D.fC H2 x A bn' ∧ (∃ more, bn' = bn ++ more) ∧ (∀ s ∈ row.take (i + 1), s ∈ bn') ∧ ∀ j, m'.testBit j = true ↔ ∃ s ∈ row.take (i + 1), bn'[j]? = some s := by
      intro H2 bn2 k b2 F2 sm hk st
      have s2 : ∀ y ∈ bn1, y ∈ bn2 := fun y hy => by obtain ⟨m2, e2⟩ := sm; rw [e2]; exact List.mem_append_left _ hy
      have sub2 : ∃ more, bn2 = bn ++ more := by obtain ⟨m1, e1⟩ := sub1; obtain ⟨m2, e2⟩ := sm; exact ⟨m1 ++ m2, by rw [e2, e1, List.append_assoc]⟩
      have ek : Builtin.bitOr ((m : Nat) : Int) (1 * 2 ^ ((k : Nat) : Int).toNat) = ((m ||| 2 ^ k : Nat) : Int) := by
        rw [← bor_nat]
        congr 1
        simp
      refine ⟨m ||| 2 ^ k, bn2, ⟨_, by rw [ek]⟩, b1.trans b2, F2, sub2, fun y hy => ?_, fun j => ?_⟩
      · rw [take_more hs] at hy
        rcases List.mem_append.mp hy with z | z
        · exact s2 y (in1 y z)
        · rw [List.mem_singleton.mp z]; exact List.mem_of_getElem? hk
      · rw [Nat.testBit_or, Bool.or_eq_true, bit1 j, Nat.testBit_two_pow, decide_eq_true_eq, take_more hs]
        constructor
        · rintro (⟨y, hy, e⟩ | e)
          · exact ⟨y, List.mem_append_left _ hy, (st j y (in1 y hy)).mp e⟩
          · exact ⟨s, by simp, by rw [← e]; exact hk⟩
        · rintro ⟨y, hy, e⟩
          rcases List.mem_append.mp hy with z | z
          · exact .inl ⟨y, z, (st j y (in1 y z)).mpr e⟩
          · rw [List.mem_singleton.mp z] at e
            exact .inr (nodup_at F2.bnd hk e)
    refine ⟨_, rfl, _, rfl, x, D.fC, dx1, _, _, rfl, hx1, D.fC_cl, D.fC_n_bits, e8, A.db, rfl, .inl ⟨_, .inl F1.bits⟩, _, rfl, _, rfl, x, D.fC, dx1, _, _, rfl, hx1, D.fC_cl, D.fC_n_bits, e8, A.db, _, rfl, F1.bits, _, Sum.inr s, F1.bits, rfl, small1000 (by rw [bkv_len]; omega), fun v hv => ?_, fun hnv => ?_⟩
    · by_cases mb : s ∈ bn1
      · obtain ⟨k, hk⟩ := List.mem_iff_getElem?.mp mb
        rw [(bkv_val F1.bnd s).1 k hk] at hv
        cases hv
        have kl := (List.getElem?_eq_some_iff.mp hk).1
        exact ⟨_, _, rfl, rfl, ⟨by omega, by omega, by decide⟩, _, _, rfl, rfl, step H1 bn1 k (But.refl _) F1 ⟨[], by simp⟩ hk (fun _ _ _ => Iff.rfl)⟩
      · rw [(bkv_val F1.bnd s).2 mb] at hv; cases hv
    · have mb : s ∉ bn1 := fun z => by
        obtain ⟨k, hk⟩ := List.mem_iff_getElem?.mp z
        rw [(bkv_val F1.bnd s).1 k hk] at hnv; cases hnv
      have F2 := F1.putBit mb (hv s ms)
      have en : putK (bkv bn1) (Sum.inr s : L2.Key) (.int (((bkv bn1).length : Nat) : Int)) = bkv (bn1 ++ [s]) := by rw [putK_new _ hnv, bkv_snoc, bkv_len]
      rw [en]
      refine ⟨_, _, rfl, rfl, ⟨by omega, by rw [bkv_len]; omega, by decide⟩, _, _, rfl, rfl, ?_⟩
      rw [bkv_len]
      refine step _ (bn1 ++ [s]) bn1.length (But.put (by simp)) F2 ⟨_, rfl⟩ (by simp) fun j y hy => ?_
      constructor
      · intro e
        rw [List.getElem?_append_left (List.getElem?_eq_some_iff.mp e).1]; exact e
      · intro e
        obtain ⟨k, hk⟩ := List.mem_iff_getElem?.mp hy
        have hk2 : (bn1 ++ [s])[k]? = some y := by rw [List.getElem?_append_left (List.getElem?_eq_some_iff.mp hk).1]; exact hk
        rw [nodup_at F2.bnd e hk2]; exact hk
  · rintro σ H1 ⟨m, bn1, ⟨o3, rfl⟩, b1, F1, sub1, in1, bit1⟩
    rw [List.length_map, List.take_length] at in1 bit1
    exact ⟨_, rfl, q H1 m bn1 b1 F1 sub1 in1 bit1⟩
end
end K1
namespace K1
open PySem L2 K8
/-! the mathematics of what is made -/
theorem uniq_by {α : Type} (f : α → Str) : ∀ {l m : List α}, (l.Pairwise fun a b => ltb (f a) (f b) = true) → (m.Pairwise fun a b => ltb (f a) (f b) = true) → (∀ x, x ∈ l ↔ x ∈ m) → l = m
  | [], [], _, _, _ => rfl
  | [], y :: m, _, _, h => by have := (h y).mpr List.mem_cons_self; simp at this
  | x :: l, [], _, _, h => by have := (h x).mp List.mem_cons_self; simp at this
  | x :: l, y :: m, hl, hm, h => by
    have hl' := List.pairwise_cons.mp hl
    have hm' := List.pairwise_cons.mp hm
    have e : x = y := by
      rcases List.mem_cons.mp ((h x).mp List.mem_cons_self) with e | hx
      · exact e
      rcases List.mem_cons.mp ((h y).mpr List.mem_cons_self) with e | hy
      · exact e.symm
      have h1 := hm'.1 x hx
      have h2 := hl'.1 y hy
      rw [ltbS_asym h1] at h2
      cases h2
    subst e
    have nx : ∀ z ∈ l, z ≠ x := fun z hz e => by have := hl'.1 z hz; rw [e, ltbS_irrefl] at this; cases this
    have ny : ∀ z ∈ m, z ≠ x := fun z hz e => by have := hm'.1 z hz; rw [e, ltbS_irrefl] at this; cases this
    rw [uniq_by f hl'.2 hm'.2 fun z => ⟨fun hz => ?_, fun hz => ?_⟩]
    · rcases List.mem_cons.mp ((h z).mp (List.mem_cons_of_mem _ hz)) with e | q
      · exact (nx z hz e).elim
      · exact q
    · rcases List.mem_cons.mp ((h z).mpr (List.mem_cons_of_mem _ hz)) with e | q
      · exact (ny z hz e).elim
      · exact q
def tn (Ts : List T) (i : Nat) : T := Ts.getD i (.atom "all")
theorem tn_at {Ts : List T} {i : Nat} {t : T} (h : Ts[i]? = some t) : tn Ts i = t := by
  unfold tn
  rw [List.getD_eq_getElem?_getD, h]; rfl
theorem at_tn {Ts : List T} {i : Nat} (h : i < Ts.length) : Ts[i]? = some (tn Ts i) := by
  obtain ⟨t, ht⟩ : ∃ t, Ts[i]? = some t := ⟨_, List.getElem?_eq_getElem h⟩
  rw [tn_at ht]; exact ht
/-- the children, with their forms -/
def chT (Ts : List T) (c : Ch) : List (Str × T) := c.map fun p => (p.1, tn Ts p.2)
theorem gnms_so : ∀ {I : List T}, (∀ i ∈ I, isIt i = true) → (I.Pairwise fun a b => ltb (sT a) (sT b) = true) → Asc (gnms I) ∧ ∀ s ∈ gnms I, T.atom s ∈ I
  | [], _, _ => ⟨.nil, fun s h => by rw [gnms] at h; cases h⟩
  | i :: I, it, so => by
    obtain ⟨h1, h2⟩ := List.pairwise_cons.mp so
    obtain ⟨a1, a2⟩ := gnms_so (fun j hj => it j (List.mem_cons_of_mem _ hj)) h2
    have ii := it i List.mem_cons_self
    rw [gnms]
    cases i with
    | atom s =>
      have ns : s ≠ "all" := of_decide_eq_true ii
      rw [gnm, if_neg ns]
      exact ⟨List.pairwise_cons.mpr ⟨fun y hy => h1 _ (a2 y hy), a1⟩, fun y hy => (List.mem_cons.mp hy).elim (fun e => by rw [e]; exact List.mem_cons_self) fun z => List.mem_cons_of_mem _ (a2 y z)⟩
    | ex r c =>
      rw [gnm]
      exact ⟨a1, fun y hy => List.mem_cons_of_mem _ (a2 y hy)⟩
    | and l => cases ii
theorem gchs_so : ∀ {I : List T}, (∀ i ∈ I, isIt i = true) → (I.Pairwise fun a b => ltb (sT a) (sT b) = true) → ((gchs I).Pairwise fun a b => ltb (sT (.ex a.1 a.2)) (sT (.ex b.1 b.2)) = true) ∧ ∀ p ∈ gchs I, T.ex p.1 p.2 ∈ I
  | [], _, _ => ⟨.nil, fun s h => by rw [gchs] at h; cases h⟩
  | i :: I, it, so => by
    obtain ⟨h1, h2⟩ := List.pairwise_cons.mp so
    obtain ⟨a1, a2⟩ := gchs_so (fun j hj => it j (List.mem_cons_of_mem _ hj)) h2
    have ii := it i List.mem_cons_self
    rw [gchs]
    cases i with
    | atom s =>
      rw [gch]
      exact ⟨a1, fun y hy => List.mem_cons_of_mem _ (a2 y hy)⟩
    | ex r c =>
      rw [gch]
      exact ⟨List.pairwise_cons.mpr ⟨fun y hy => h1 _ (a2 y hy), a1⟩, fun y hy => (List.mem_cons.mp hy).elim (fun e => by rw [e]; exact List.mem_cons_self) fun z => List.mem_cons_of_mem _ (a2 y z)⟩
    | and l => cases ii
/-! the keys -/
theorem texts_inj : ∀ {a b : List Str}, a.map NestedKey.text = b.map NestedKey.text → a = b
  | [], [], _ => rfl
  | [], y :: b, h => by cases h
  | x :: a, [], h => by cases h
  | x :: a, y :: b, h => by
    rw [List.map_cons, List.map_cons] at h
    injection h with h1 h2
    injection h1 with h1
    rw [h1, texts_inj h2]
theorem kids_inj : ∀ {a b : Ch}, a.map (fun p => NestedKey.tup [.text p.1, .num (p.2 : Nat)]) = b.map (fun p => NestedKey.tup [.text p.1, .num (p.2 : Nat)]) → a = b
  | [], [], _ => rfl
  | [], y :: b, h => by cases h
  | x :: a, [], h => by cases h
  | x :: a, y :: b, h => by
    rw [List.map_cons, List.map_cons] at h
    injection h with h1 h2
    injection h1 with h1
    injection h1 with h3 h4
    injection h3 with h3
    injection h4 with h4 _
    injection h4 with h4
    rw [kids_inj h2, show x = y from Prod.ext h3 (by omega)]
theorem keyN_inj {r r' : List Str} {c c' : Ch} (h : keyN r c = keyN r' c') : r = r' ∧ c = c' := by
  unfold keyN at h
  injection h with h
  injection h with h1 h2
  injection h2 with h2 _
  injection h1 with h1
  injection h2 with h2
  exact ⟨texts_inj h1, kids_inj h2⟩
theorem find_zip {k : NestedKey} : ∀ (n : Nat) (l : List (T × Ch)), (∀ v, getN ((l.zipIdx n).map fun q => (keyN (gnm q.1.1) q.1.2, V.int (q.2 : Nat))) k = some v → ∃ i q, l[i]? = some q ∧ k = keyN (gnm q.1) q.2 ∧ v = V.int ((n + i : Nat) : Nat)) ∧
    (getN ((l.zipIdx n).map fun q => (keyN (gnm q.1.1) q.1.2, V.int (q.2 : Nat))) k = none → ∀ q ∈ l, k ≠ keyN (gnm q.1) q.2)
  | n, [] => ⟨(fun v h => by cases h), (fun _ q hq => by cases hq)⟩
  | n, a :: l => by
    obtain ⟨i1, i2⟩ := find_zip (n + 1) l
    have e : getN (((a :: l).zipIdx n).map fun q => (keyN (gnm q.1.1) q.1.2, V.int (q.2 : Nat))) k = if keyN (gnm a.1) a.2 = k then some (V.int (n : Nat)) else getN ((l.zipIdx (n + 1)).map fun q => (keyN (gnm q.1.1) q.1.2, V.int (q.2 : Nat))) k := by
      unfold getN
      rw [List.zipIdx_cons, List.map_cons, List.find?_cons]
      by_cases c : keyN (gnm a.1) a.2 = k
      · rw [if_pos c]
        simp only [decide_eq_true c]
        rfl
      · rw [if_neg c]
        simp only [decide_eq_false c]
    rw [e]
    by_cases c : keyN (gnm a.1) a.2 = k
    · rw [if_pos c]
      exact ⟨fun v h => ⟨0, a, rfl, c.symm, (Option.some.inj h).symm⟩, (fun h => by cases h)⟩
    · rw [if_neg c]
      refine ⟨fun v h => ?_, fun h q hq => ?_⟩
      · obtain ⟨i, q, h1, h2, h3⟩ := i1 v h
        exact ⟨i + 1, q, h1, h2, by rw [h3]; congr 2; omega⟩
      · rcases List.mem_cons.mp hq with z | z
        · rw [z]; exact fun e => c e.symm
        · exact i2 h q z
theorem nkv_snoc {Ts : List T} {ch : List Ch} (l : ch.length = Ts.length) (t : T) (c : Ch) : nkv (Ts ++ [t]) (ch ++ [c]) = nkv Ts ch ++ [(keyN (gnm t) c, .int (Ts.length : Nat))] := by
  unfold nkv
  rw [List.zip_append l.symm, List.zipIdx_append, List.map_append]
  simp [l]
/-- what is asked for and is there -/
structure Mk (Ts : List T) (row : List Str) (c : Ch) (I : List T) : Prop where
  it : ∀ i ∈ I, isIt i = true
  rd : Rd (conj I)
  nm : gnm (conj I) = row
  kd : gch (conj I) = chT Ts c
  lt : ∀ p ∈ c, p.2 < Ts.length
theorem same_rd {t u : T} (ht : Rd t) (hu : Rd u) (h1 : gnm t = gnm u) (h2 : gch t = gch u) : t = u := by
  refine Rd.uni ht hu ⟨Le.iff.mpr ⟨fun s hs => by rw [h1]; exact hs, fun p hp => ⟨p.2, by rw [h2]; exact hp, Le.refl _⟩⟩, Le.iff.mpr ⟨fun s hs => by rw [← h1]; exact hs, fun p hp => ⟨p.2, by rw [← h2]; exact hp, Le.refl _⟩⟩⟩
theorem FI.kidT {Ts : List T} {ch : List Ch} {bn : List Str} (h : FI Ts ch bn) {i : Nat} {c : Ch} {t : T} (hc : ch[i]? = some c) (ht : Ts[i]? = some t) : gch t = chT Ts c ∧ ∀ p ∈ c, p.2 < Ts.length := by
  obtain ⟨k1, k2⟩ := h.kid i c t hc ht
  have li := (List.getElem?_eq_some_iff.mp ht).1
  have lt : ∀ p ∈ c, p.2 < Ts.length := fun p hp => Nat.lt_trans (k1 p hp) li
  refine ⟨?_, lt⟩
  have e : (chT Ts c).map (fun p => (p.1, some p.2)) = (gch t).map fun p => (p.1, some p.2) := by
    rw [← k2]
    unfold chT
    rw [List.map_map]
    exact List.map_congr_left fun p hp => by
      show (p.1, some (tn Ts p.2)) = (p.1, Ts[p.2]?)
      rw [at_tn (lt p hp)]
  exact (List.map_inj_right (f := fun p : Str × T => (p.1, some p.2)) (fun a b e => by
    have e : ((a.1, some a.2) : Str × Option T) = (b.1, some b.2) := e
    exact Prod.ext (Prod.mk.inj e).1 (Option.some.inj (Prod.mk.inj e).2))).mp e.symm
theorem chT_inj {Ts : List T} (nd : Ts.Nodup) : ∀ {c c' : Ch}, (∀ p ∈ c, p.2 < Ts.length) → (∀ p ∈ c', p.2 < Ts.length) → chT Ts c = chT Ts c' → c = c'
  | [], [], _, _, _ => rfl
  | [], y :: b, _, _, h => by cases h
  | x :: a, [], _, _, h => by cases h
  | x :: a, y :: b, h1, h2, h => by
    unfold chT at h
    rw [List.map_cons, List.map_cons] at h
    injection h with h3 h4
    have e1 : x.1 = y.1 := (Prod.mk.inj h3).1
    have e2 : tn Ts x.2 = tn Ts y.2 := (Prod.mk.inj h3).2
    have e3 : Ts[x.2]? = Ts[y.2]? := by rw [at_tn (h1 x List.mem_cons_self), at_tn (h2 y List.mem_cons_self), e2]
    have e4 : x.2 = y.2 := (List.getElem?_inj (h1 x List.mem_cons_self) nd).mp e3
    rw [chT_inj nd (fun p hp => h1 p (List.mem_cons_of_mem _ hp)) (fun p hp => h2 p (List.mem_cons_of_mem _ hp)) h4, show x = y from Prod.ext e1 e4]
theorem Mk.found {Ts : List T} {ch : List Ch} {bn : List Str} {row : List Str} {c : Ch} {I : List T} (m : Mk Ts row c I) (h : FI Ts ch bn) {v : V} (g : getN (nkv Ts ch) (keyN row c) = some v) : ∃ i, v = .int (i : Nat) ∧ Ts[i]? = some (conj I) := by
  obtain ⟨i, q, h1, h2, h3⟩ := (find_zip 0 _).1 v g
  obtain ⟨e1, e2⟩ := keyN_inj h2
  have hz : (Ts.zip ch)[i]? = some q := h1
  rw [List.getElem?_zip_eq_some] at hz
  refine ⟨i, by rw [h3, Nat.zero_add], ?_⟩
  rw [hz.1]
  obtain ⟨k1, _⟩ := h.kidT hz.2 hz.1
  exact congrArg some (same_rd (h.rd _ (List.mem_of_getElem? hz.1)) m.rd (by rw [m.nm, e1]) (by rw [m.kd, k1, e2]))
theorem Mk.absent {Ts : List T} {ch : List Ch} {bn : List Str} {row : List Str} {c : Ch} {I : List T} (m : Mk Ts row c I) (h : FI Ts ch bn) (g : getN (nkv Ts ch) (keyN row c) = none) : conj I ∉ Ts := fun hm => by
  obtain ⟨i, hi⟩ := List.mem_iff_getElem?.mp hm
  obtain ⟨c', hc'⟩ : ∃ c', ch[i]? = some c' := ⟨_, List.getElem?_eq_getElem (by rw [h.len]; exact (List.getElem?_eq_some_iff.mp hi).1)⟩
  obtain ⟨k1, k2⟩ := h.kidT hc' hi
  have e : c' = c := chT_inj h.nd k2 m.lt (by rw [← k1, m.kd])
  have := (find_zip 0 _).2 g (conj I, c') (by rw [List.mem_iff_getElem?]; exact ⟨i, by rw [List.getElem?_zip_eq_some]; exact ⟨hi, hc'⟩⟩)
  exact this (by rw [m.nm, e])
end K1
namespace K1
open PySem L2 K8
theorem sT_inj {a b : T} (ha : CW a) (hb : CW b) (h : sT a = sT b) : a = b := tx_inj ha hb (by
  have := congrArg cs h
  rwa [cs_sT, cs_sT] at this)
theorem cw_conj {I : List T} (h : ∀ i ∈ I, CW i) : CW (conj I) := by
  match I, h with
  | [], _ => exact .inl rfl
  | [t], h => exact h t (by simp)
  | a :: b :: l, h =>
    show CW (.and (a :: b :: l))
    rw [CW]
    exact ⟨by simp, CWs_iff.mpr h⟩
theorem dTs_le {l : List T} {n : Nat} (h : ∀ t ∈ l, dT t ≤ n) : dTs l ≤ n := by
  induction l with
  | nil => rw [dTs]; exact Nat.zero_le _
  | cons t l ih =>
    rw [dTs]
    exact Nat.max_le.mpr ⟨h t List.mem_cons_self, ih fun u hu => h u (List.mem_cons_of_mem _ hu)⟩
theorem dT_conj {I : List T} {n : Nat} (h : ∀ t ∈ I, dT t ≤ n) : dT (conj I) ≤ n := by
  match I, h with
  | [], _ => exact Nat.zero_le _
  | [t], h => exact h t (by simp)
  | a :: b :: l, h =>
    show dT (.and (a :: b :: l)) ≤ n
    rw [dT]
    exact dTs_le h
/-- the words of a new form -/
structure Wds (Ts : List T) (N : List Str) (Cs : Ch) : Prop where
  w : ∀ s ∈ N, wordOk s = true
  na : ∀ s ∈ N, s ≠ "all"
  r : ∀ p ∈ Cs, wordOk p.1 = true
  lt : ∀ p ∈ Cs, p.2 < Ts.length
def somOf (Ts : List T) (p : Str × Nat) : Som := (sT (.ex p.1 (tn Ts p.2)), p.1, p.2)
theorem FI.cwt {Ts : List T} {ch : List Ch} {bn : List Str} (h : FI Ts ch bn) {i : Nat} (l : i < Ts.length) : CW (tn Ts i) := h.cw _ (List.mem_of_getElem? (at_tn l))
theorem FI.tn_inj {Ts : List T} {ch : List Ch} {bn : List Str} (h : FI Ts ch bn) {i j : Nat} (li : i < Ts.length) (lj : j < Ts.length) (e : tn Ts i = tn Ts j) : i = j :=
  (List.getElem?_inj li h.nd).mp (by rw [at_tn li, at_tn lj, e])
theorem som_inj {Ts : List T} {ch : List Ch} {bn : List Str} (h : FI Ts ch bn) {N : List Str} {Cs : Ch} (wd : Wds Ts N Cs) {p q : Str × Nat} (hp : p ∈ Cs) (hq : q ∈ Cs) (e : sT (.ex p.1 (tn Ts p.2)) = sT (.ex q.1 (tn Ts q.2))) : p = q := by
  have cp : CW (.ex p.1 (tn Ts p.2)) := by rw [CW]; exact ⟨wd.r p hp, h.cwt (wd.lt p hp)⟩
  have cq : CW (.ex q.1 (tn Ts q.2)) := by rw [CW]; exact ⟨wd.r q hq, h.cwt (wd.lt q hq)⟩
  have := sT_inj cp cq e
  injection this with e1 e2
  exact Prod.ext e1 (h.tn_inj (wd.lt p hp) (wd.lt q hq) e2)
theorem nodup_map {α β : Type} {f : α → β} : ∀ {l : List α}, l.Nodup → (∀ a ∈ l, ∀ b ∈ l, f a = f b → a = b) → (l.map f).Nodup
  | [], _, _ => List.nodup_nil
  | a :: l, h, i => by
    rw [List.nodup_cons] at h
    rw [List.map_cons, List.nodup_cons]
    refine ⟨fun z => ?_, nodup_map h.2 fun x hx y hy => i x (List.mem_cons_of_mem _ hx) y (List.mem_cons_of_mem _ hy)⟩
    obtain ⟨b, hb, e⟩ := List.mem_map.mp z
    rw [i b (List.mem_cons_of_mem _ hb) a List.mem_cons_self e] at hb
    exact h.1 hb
theorem soms_nd {Ts : List T} {ch : List Ch} {bn : List Str} (h : FI Ts ch bn) {N : List Str} {Cs Kl : Ch} (wd : Wds Ts N Cs) (need : NeedL Ts Cs Kl) : ((Kl.map (somOf Ts)).map (·.1)).Nodup := by
  rw [List.map_map]
  exact nodup_map need.1 fun a ha b hb e => som_inj h wd ((need.2 a).mp ha).1 ((need.2 b).mp hb).1 e
theorem least_need {Ts : List T} {ch : List Ch} {bn : List Str} (h : FI Ts ch bn) {N : List Str} {Cs Kl : Ch} (wd : Wds Ts N Cs) (need : NeedL Ts Cs Kl) (p : Str × T) : Least (chT Ts Cs) p ↔ ∃ k ∈ Kl, p = (k.1, tn Ts k.2) := by
  constructor
  · rintro ⟨h1, h2⟩
    obtain ⟨k, hk, rfl⟩ := List.mem_map.mp h1
    refine ⟨k, (need.2 k).mpr ⟨hk, fun q hq e1 e2 tq tp htq htp le => e2 ?_⟩, rfl⟩
    have := h2 (q.1, tn Ts q.2) (List.mem_map.mpr ⟨q, hq, rfl⟩) e1 (by rw [tn_at htq, tn_at htp]; exact le)
    exact h.tn_inj (wd.lt q hq) (wd.lt k hk) (congrArg Prod.snd this)
  · rintro ⟨k, hk, rfl⟩
    obtain ⟨h1, h2⟩ := (need.2 k).mp hk
    refine ⟨List.mem_map.mpr ⟨k, h1, rfl⟩, fun q hq e1 le => ?_⟩
    obtain ⟨c, hc, rfl⟩ := List.mem_map.mp hq
    by_cases e : c.2 = k.2
    · have e1 : c.1 = k.1 := e1
      rw [e1, e]
    · exact absurd le (h2 c hc e1 e _ _ (at_tn (wd.lt c hc)) (at_tn (wd.lt k h1)))
structure Made (Ts : List T) (N : List Str) (Cs : Ch) (row : List Str) (c : Ch) (I : List T) : Prop where
  m : Mk Ts row c I
  eqv : Eqv (conj I) (raw N (chT Ts Cs))
  cw : CW (conj I)
  sz : cz (conj I) ≤ sumT (chT Ts Cs)
theorem made_of {Ts : List T} {ch : List Ch} {bn : List Str} (h : FI Ts ch bn) {N : List Str} {Cs Kl : Ch} (wd : Wds Ts N Cs) (need : NeedL Ts Cs Kl) {row : List Str} (ra : Asc row) (rm : ∀ s, s ∈ row ↔ s ∈ N) {S : List Som} (sp : S.Perm (Kl.map (somOf Ts))) (ss : S.Pairwise fun a b => ltb a.1 b.1 = true)
    {I : List T} (ip : I.Perm (row.map T.atom ++ Kl.map fun p => T.ex p.1 (tn Ts p.2))) (is : I.Pairwise fun a b => ltb (sT a) (sT b) = true) : Made Ts N Cs row (S.map (·.2)) I := by
  have kc : ∀ p ∈ Kl, p ∈ Cs := fun p hp => ((need.2 p).mp hp).1
  have im : ∀ i, i ∈ I ↔ (∃ s ∈ row, i = .atom s) ∨ ∃ p ∈ Kl, i = .ex p.1 (tn Ts p.2) := fun i => by
    rw [ip.mem_iff, List.mem_append, List.mem_map, List.mem_map]
    constructor
    · rintro (⟨s, hs, rfl⟩ | ⟨p, hp, rfl⟩)
      · exact .inl ⟨s, hs, rfl⟩
      · exact .inr ⟨p, hp, rfl⟩
    · rintro (⟨s, hs, rfl⟩ | ⟨p, hp, rfl⟩)
      · exact .inl ⟨s, hs, rfl⟩
      · exact .inr ⟨p, hp, rfl⟩
  have its : Items N (chT Ts Cs) I := ⟨is, fun i => by
    rw [im]
    constructor
    · rintro (⟨s, hs, rfl⟩ | ⟨p, hp, rfl⟩)
      · exact .inl ⟨s, (rm s).mp hs, rfl⟩
      · exact .inr ⟨(p.1, tn Ts p.2), (least_need h wd need _).mpr ⟨p, hp, rfl⟩, rfl⟩
    · rintro (⟨s, hs, rfl⟩ | ⟨p, hp, rfl⟩)
      · exact .inl ⟨s, (rm s).mpr hs, rfl⟩
      · obtain ⟨k, hk, rfl⟩ := (least_need h wd need _).mp hp
        exact .inr ⟨k, hk, rfl⟩⟩
  have it := its.it wd.na
  have rdC : ∀ p ∈ chT Ts Cs, Rd p.2 := fun p hp => by
    obtain ⟨c, hc, rfl⟩ := List.mem_map.mp hp
    exact h.rd _ (List.mem_of_getElem? (at_tn (wd.lt c hc)))
  have sm : ∀ s, s ∈ S ↔ ∃ p ∈ Kl, somOf Ts p = s := fun s => by rw [sp.mem_iff, List.mem_map]
  obtain ⟨g1, g2⟩ := gnms_so it is
  obtain ⟨q1, q2⟩ := gchs_so it is
  have ltS : ∀ p ∈ S.map (·.2), p.2 < Ts.length := fun p hp => by
    obtain ⟨s, hs, rfl⟩ := List.mem_map.mp hp
    obtain ⟨k, hk, rfl⟩ := (sm s).mp hs
    exact wd.lt k (kc k hk)
  have kd : gch (conj I) = chT Ts (S.map (·.2)) := by
    have e1 : gch (conj I) = gchs I := gch_conjL I
    rw [e1]
    refine uniq_by (fun p : Str × T => sT (.ex p.1 p.2)) q1 ?_ fun p => ?_
    · unfold chT
      rw [List.map_map, List.pairwise_map]
      refine ss.imp_of_mem fun {a b} ha hb l => ?_
      obtain ⟨k, hk, rfl⟩ := (sm a).mp ha
      obtain ⟨k', hk', rfl⟩ := (sm b).mp hb
      exact l
    · rw [← e1, gch_conj it, im]
      unfold chT
      rw [List.map_map, List.mem_map]
      constructor
      · rintro (⟨s, _, e⟩ | ⟨k, hk, e⟩)
        · cases e
        · injection e with e1 e2
          exact ⟨somOf Ts k, (sm _).mpr ⟨k, hk, rfl⟩, Prod.ext e1.symm e2.symm⟩
      · rintro ⟨s, hs, rfl⟩
        obtain ⟨k, hk, rfl⟩ := (sm s).mp hs
        exact .inr ⟨k, hk, rfl⟩
  have nm : gnm (conj I) = row := by
    have e1 : gnm (conj I) = gnms I := gnm_conjL I
    rw [e1]
    refine asc_uniq g1 ra fun s => ?_
    rw [← e1, gnm_conj it, im]
    constructor
    · rintro (⟨s', hs, e⟩ | ⟨k, hk, e⟩)
      · injection e with e; rw [e]; exact hs
      · cases e
    · exact fun hs => .inl ⟨s, hs, rfl⟩
  refine ⟨⟨it, its.rd wd.na rdC, nm, kd, ltS⟩, its.eqv wd.na rdC, cw_conj fun i hi => ?_, ?_⟩
  · rcases (im i).mp hi with ⟨s, hs, rfl⟩ | ⟨k, hk, rfl⟩
    · exact .inr (.inr (wd.w s ((rm s).mp hs)))
    · rw [CW]; exact ⟨wd.r k (kc k hk), h.cwt (wd.lt k (kc k hk))⟩
  · rw [cz_gch]
    refine sumT_sub (List.Pairwise.imp (fun {a b} l e => by rw [e, ltbS_irrefl] at l; cases l) (by rw [gch_conjL I]; exact q1)) fun p hp => ?_
    rw [gch_conj it] at hp
    rcases (im _).mp hp with ⟨s, _, e⟩ | ⟨k, hk, e⟩
    · cases e
    · injection e with e1 e2
      exact List.mem_map.mpr ⟨k, kc k hk, Prod.ext e1.symm e2.symm⟩
theorem FI.snoc {Ts : List T} {ch : List Ch} {bn more : List Str} (h : FI Ts ch bn) {row : List Str} {c : Ch} {I : List T} (m : Mk Ts row c I) (nt : conj I ∉ Ts) (cw : CW (conj I)) (so : Asc row) (nd : (bn ++ more).Nodup) (rin : ∀ s ∈ row, s ∈ bn ++ more) (tl : Ts.length + 1 ≤ 1000) (sz : tz (conj I) ≤ 4000) (dp : dT (conj I) ≤ 11) : FI (Ts ++ [conj I]) (ch ++ [c]) (bn ++ more) := by
  have two : ∀ {Q : T → Prop}, (∀ t ∈ Ts, Q t) → Q (conj I) → ∀ t ∈ Ts ++ [conj I], Q t := fun a b t ht => by
    rcases List.mem_append.mp ht with z | z
    · exact a t z
    · rw [List.mem_singleton.mp z]; exact b
  refine ⟨by rw [List.length_append, List.length_append, h.len]; rfl, List.nodup_append.mpr ⟨h.nd, by simp, fun a ha b hb e => nt (by rw [← List.mem_singleton.mp hb, ← e]; exact ha)⟩, two h.rd m.rd, two h.cw cw, two h.so (by rw [m.nm]; exact so), fun i c' t hc ht => ?_, nd, two (fun t ht s hs => List.mem_append_left _ (h.bin t ht s hs)) (by rw [m.nm]; exact rin), by rw [List.length_append]; exact tl, two h.sz sz, two h.dp dp⟩
  by_cases l : i < Ts.length
  · rw [List.getElem?_append_left (by rw [h.len]; exact l)] at hc
    rw [List.getElem?_append_left l] at ht
    obtain ⟨k1, k2⟩ := h.kid i c' t hc ht
    refine ⟨k1, ?_⟩
    rw [← k2]
    refine List.map_congr_left fun p hp => ?_
    rw [List.getElem?_append_left (Nat.lt_trans (k1 p hp) l)]
  · have li := (List.getElem?_eq_some_iff.mp ht).1
    rw [List.length_append] at li
    have li : i < Ts.length + 1 := li
    have ei : i = Ts.length := by omega
    subst ei
    rw [List.getElem?_append_right (Nat.le_refl _), Nat.sub_self] at ht
    rw [← h.len, List.getElem?_append_right (Nat.le_refl _), Nat.sub_self] at hc
    obtain rfl : c = c' := Option.some.inj hc
    obtain rfl : conj I = t := Option.some.inj ht
    refine ⟨m.lt, ?_⟩
    rw [m.kd]
    unfold chT
    rw [List.map_map]
    refine List.map_congr_left fun p hp => ?_
    show (p.1, (Ts ++ [conj I])[p.2]?) = (p.1, some (tn Ts p.2))
    rw [List.getElem?_append_left (m.lt p hp), at_tn (m.lt p hp)]
end K1
namespace K1
open PySem L2 K8
theorem ext_ne {P : Program} {w : World} {D : Addr} {xs : List (NestedKey × Addr × Value)} {c : Addr} {q : Str} : HO.ext (CellN P w D xs) ≠ LamX.CodeO c q := fun z => by
  unfold LamX.CodeO at z
  injection z with z
  have e := congrFun z (⟨Array.replicate (c + 1) ⟨.none, none, .fields #[.none, .str q 0], #[]⟩, {}⟩ : Heap)
  have g : ∀ b : Addr, (⟨Array.replicate (c + 1) ⟨.none, none, .fields #[.none, .str q 0], #[]⟩, {}⟩ : Heap).get? b = if b < c + 1 then some ⟨.none, none, .fields #[.none, .str q 0], #[]⟩ else none := fun b => by
    unfold Heap.get?
    simp only [Array.getElem?_replicate]
    by_cases l : b < c + 1
    · rw [if_pos l]
    · rw [if_neg l]
  have h2 : CellN P w D xs (⟨Array.replicate (c + 1) ⟨.none, none, .fields #[.none, .str q 0], #[]⟩, {}⟩ : Heap) := by
    rw [e]
    exact ⟨⟨.none, none, .fields #[.none, .str q 0], #[]⟩, #[.none, .str q 0], 0, by rw [g, if_pos (Nat.lt_succ_self c)], rfl, rfl⟩
  obtain ⟨_, _, o, es, ep, h3, _, h4, _⟩ := h2
  rw [g] at h3
  split at h3
  · cases h3; cases h4
  · cases h3
section
variable {P : Program} {w : World} {C : Addr} {H H' : Hp} {x : Addr} {A : FA} {Ts : List T} {ch : List Ch} {bn : List Str}
theorem FAt.kind (h : FAt P w C H x A Ts ch bn) {a : Addr} (ha : a ∈ A.l) : ∃ o, H a = some o ∧ ((∃ xs, o = .lst xs) ∨ (∃ k, o = .dK k) ∨ (∃ k, o = .dT k) ∨ ∃ D xs, o = .ext (CellN P w D xs)) := by
  obtain ⟨cvs, c1, c2⟩ := h.conc
  obtain ⟨ras, r1, r2⟩ := h.rows
  obtain ⟨has, g1, g2⟩ := h.kids
  obtain ⟨ms, m1, m2⟩ := h.masks
  obtain ⟨kt, w1, w2⟩ := h.memo
  simp only [FA.l, List.mem_cons, List.not_mem_nil, or_false] at ha
  rcases ha with rfl | rfl | rfl | rfl | rfl | rfl | rfl | rfl
  · exact ⟨_, c1, .inl ⟨_, rfl⟩⟩
  · exact ⟨_, h.texts, .inl ⟨_, rfl⟩⟩
  · exact ⟨_, r1, .inl ⟨_, rfl⟩⟩
  · exact ⟨_, g1, .inl ⟨_, rfl⟩⟩
  · rcases h.nums with ⟨_, z⟩ | ⟨xs, z, _⟩
    · exact ⟨_, z, .inr (.inl ⟨_, rfl⟩)⟩
    · exact ⟨_, z, .inr (.inr (.inr ⟨_, _, rfl⟩))⟩
  · exact ⟨_, w1, .inr (.inr (.inl ⟨_, rfl⟩))⟩
  · exact ⟨_, m1, .inl ⟨_, rfl⟩⟩
  · exact ⟨_, h.bits, .inr (.inl ⟨_, rfl⟩)⟩
theorem FAt.notTbl (h : FAt P w C H x A Ts ch bn) {a : Addr} {ps : Array Value} (e : H a = some (.tbl ps)) : a ∉ A.l := fun ha => by
  obtain ⟨o, h1, h2⟩ := h.kind ha
  rw [e] at h1
  cases h1
  rcases h2 with ⟨_, z⟩ | ⟨_, z⟩ | ⟨_, z⟩ | ⟨_, _, z⟩ <;> cases z
theorem FAt.notCode (h : FAt P w C H x A Ts ch bn) {a c : Addr} {q : Str} (e : H a = some (LamX.CodeO c q)) : a ∉ A.l := fun ha => by
  obtain ⟨o, h1, h2⟩ := h.kind ha
  rw [e] at h1
  have h1 := Option.some.inj h1
  rcases h2 with ⟨_, z⟩ | ⟨_, z⟩ | ⟨_, z⟩ | ⟨_, _, z⟩
  · rw [z] at h1; cases h1
  · rw [z] at h1; cases h1
  · rw [z] at h1; cases h1
  · rw [z] at h1; exact ext_ne h1.symm
theorem FAt.notTup (h : FAt P w C H x A Ts ch bn) {a : Addr} {xs : List V} (e : H a = some (.tup xs)) : a ∉ A.l := fun ha => by
  obtain ⟨o, h1, h2⟩ := h.kind ha
  rw [e] at h1
  cases h1
  rcases h2 with ⟨_, z⟩ | ⟨_, z⟩ | ⟨_, z⟩ | ⟨_, _, z⟩ <;> cases z
theorem FAt.pt (h : FAt P w C H x A Ts ch bn) {Pt : Addr} (t : TB Pt H) : Pt ∉ A.l ∧ Pt ≠ x := by
  obtain ⟨ps, h1, h2, h3⟩ := t (Pt, qL) (by simp)
  refine ⟨h.notTbl h1, fun z => ?_⟩
  obtain ⟨dx, fs, hx, _⟩ := h.hx
  rw [z, hx] at h1; cases h1
/-- where only its own are written the tables stay -/
theorem FAt.tb (h : FAt P w C H x A Ts ch bn) {Pt : Addr} (t : TB Pt H) (b : But A.l H H') : TB Pt H' := fun p hp => by
  obtain ⟨ps, h1, h2, h3⟩ := t p hp
  refine ⟨ps, b _ _ (h.notTbl h1) h1, h2, fun pos cv hc => ?_⟩
  obtain ⟨c, e1, e2⟩ := h3 pos cv hc
  exact ⟨c, e1, b _ _ (h.notCode e2) e2⟩
theorem FAt.tupL (h : FAt P w C H x A Ts ch bn) (b : But A.l H H') : TSame H H' := fun a ys e => b _ _ (h.notTup e) e
end
theorem keyN_depth (r : List Str) (c : Ch) : (keyN r c).depth ≤ 8 := by
  have h1 : ∀ r : List Str, NestedKey.depthAll (r.map NestedKey.text) ≤ 0 := fun r => by
    induction r with
    | nil => exact Nat.le_refl _
    | cons a l ih => rw [List.map_cons, NestedKey.depthAll, NestedKey.depth]; omega
  have h2 : ∀ c : Ch, NestedKey.depthAll (c.map fun p => NestedKey.tup [.text p.1, .num (p.2 : Nat)]) ≤ 1 := fun c => by
    induction c with
    | nil => exact Nat.zero_le _
    | cons a l ih =>
      rw [List.map_cons, NestedKey.depthAll, NestedKey.depth, NestedKey.depthAll, NestedKey.depthAll, NestedKey.depthAll, NestedKey.depth, NestedKey.depth]
      omega
  have := h1 r
  have := h2 c
  unfold keyN
  rw [NestedKey.depth, NestedKey.depthAll, NestedKey.depthAll, NestedKey.depthAll, NestedKey.depth, NestedKey.depth]
  omega
theorem nks_text {H : Hp} : ∀ r : List Str, NksH H (r.map NestedKey.text) (r.map V.str)
  | [] => .nil
  | s :: r => .cons (.text s) (nks_text r)
theorem nks_kid {H : Hp} : ∀ ps : List (Addr × (Str × Nat)), (∀ u ∈ ps, H u.1 = some (.tup (chV u.2))) → NksH H ((ps.map (·.2)).map fun p => NestedKey.tup [.text p.1, .num (p.2 : Nat)]) (ps.map fun u => V.ref u.1)
  | [], _ => .nil
  | u :: ps, h => .cons (.tup (h u List.mem_cons_self) (.cons (.text _) (.cons (.num _) .nil))) (nks_kid ps fun v hv => h v (List.mem_cons_of_mem _ hv))
theorem nk_key {H : Hp} {tr kt ky : Addr} {row : List Str} {c : Ch} (h1 : H tr = some (.tup (row.map V.str))) (h2 : KidAt H kt c) (h3 : H ky = some (.tup [.ref tr, .ref kt])) : NkH H (keyN row c) (.ref ky) := by
  obtain ⟨ps, g1, g2, g3⟩ := h2
  subst g3
  exact .tup h3 (.cons (.tup h1 (nks_text row)) (.cons (.tup g1 (nks_kid ps g2)) .nil))
theorem items_sorted {J : List T} (nd : (J.map sT).Nodup) : ∃ I : List T, I.Perm J ∧ I.Pairwise fun a b => ltb (sT a) (sT b) = true := by
  refine ⟨J.mergeSort fun a b => leS (sT a) (sT b), List.mergeSort_perm _ _, ?_⟩
  have e := List.map_mergeSort (r := fun a b => leS (sT a) (sT b)) (s := leS) (f := sT) (l := J) (fun _ _ _ _ => rfl)
  have a := sortS_asc nd
  rw [← e] at a
  exact List.pairwise_map.mp a
theorem items_nd {Ts : List T} {ch : List Ch} {bn : List Str} (h : FI Ts ch bn) {N : List Str} {Cs Kl : Ch} (wd : Wds Ts N Cs) (need : NeedL Ts Cs Kl) {row : List Str} (ra : Asc row) (rm : ∀ s, s ∈ row ↔ s ∈ N) : ((row.map T.atom ++ Kl.map fun p => T.ex p.1 (tn Ts p.2)).map sT).Nodup := by
  have cwi : ∀ t ∈ row.map T.atom ++ Kl.map fun p => T.ex p.1 (tn Ts p.2), CW t := fun t ht => by
    rcases List.mem_append.mp ht with z | z
    · obtain ⟨s, hs, rfl⟩ := List.mem_map.mp z
      exact .inr (.inr (wd.w s ((rm s).mp hs)))
    · obtain ⟨k, hk, rfl⟩ := List.mem_map.mp z
      have := ((need.2 k).mp hk).1
      rw [CW]; exact ⟨wd.r k this, h.cwt (wd.lt k this)⟩
  refine nodup_map (List.nodup_append.mpr ⟨?_, ?_, ?_⟩) fun a ha b hb e => sT_inj (cwi a ha) (cwi b hb) e
  · exact nodup_map (asc_nodup ra) fun a _ b _ e => by injection e
  · exact nodup_map need.1 fun a ha b hb e => som_inj h wd ((need.2 a).mp ha).1 ((need.2 b).mp hb).1 (congrArg sT e)
  · intro a ha b hb e
    obtain ⟨s, _, rfl⟩ := List.mem_map.mp ha
    obtain ⟨k, _, rfl⟩ := List.mem_map.mp hb
    cases e
end K1
namespace K1
open PySem L2 K8
/-- an item: its text and its concept -/
def ItAt (H : Hp) (p : Addr × Str) (t : T) : Prop := ∃ v, H p.1 = some (.tup [.str p.2, v]) ∧ TAt H t v ∧ sT t = p.2
theorem ItAt.t {H H' : Hp} (e : TSame H H') {p : Addr × Str} {t : T} (h : ItAt H p t) : ItAt H' p t := by
  obtain ⟨v, h1, h2, h3⟩ := h
  exact ⟨v, e _ _ h1, h2.t e, h3⟩
def ItL (H : Hp) (a : Addr) (J : List T) : Prop := ∃ ps : List (Addr × Str), H a = some (.lst (ps.map fun p => V.ref p.1)) ∧ Paired (ItAt H) ps J
theorem paired_it {H H' : Hp} (e : TSame H H') {ps : List (Addr × Str)} {J : List T} (h : Paired (ItAt H) ps J) : Paired (ItAt H') ps J := paired_imp (fun _ _ z => z.t e) h
theorem ItL.nil {H : Hp} {a : Addr} (h : H a = some (.lst [])) : ItL H a [] := ⟨[], h, .nil⟩
theorem ItL.keep {H H' : Hp} {a : Addr} {J : List T} (h : ItL H a J) (e1 : ∀ o, H a = some o → H' a = some o) (e : TSame H H') : ItL H' a J := by
  obtain ⟨ps, h1, h2⟩ := h
  exact ⟨ps, e1 _ h1, paired_it e h2⟩
theorem ItL.app {H : Hp} {a : Addr} {J : List T} (h : ItL H a J) {t : Addr} {s : Str} {v : V} {i : T} (ht : H t = some (.tup [.str s, v])) (hv : TAt H i v) (hs : sT i = s) : ∃ ys, H a = some (.lst ys) ∧ ys.length = J.length ∧ ItL (upd H a (.lst (ys ++ [.ref t]))) a (J ++ [i]) := by
  obtain ⟨ps, h1, h2⟩ := h
  refine ⟨_, h1, by rw [List.length_map, paired_len h2], ps ++ [(t, s)], by rw [upd_same, List.map_append]; rfl, ?_⟩
  have e : TSame H (upd H a (.lst ((ps.map fun p => V.ref p.1) ++ [.ref t]))) := upd_t h1 fun _ z => by cases z
  exact paired_append (paired_it e h2) (.cons ⟨v, e _ _ ht, hv.t e, hs⟩ .nil)
theorem ItL.join {H : Hp} {a b : Addr} {J J' : List T} (h : ItL H a J) (g : ItL H b J') : ∃ xs zs, H a = some (.lst xs) ∧ H b = some (.lst zs) ∧ xs.length = J.length ∧ zs.length = J'.length ∧ ItL (upd H a (.lst (xs ++ zs))) a (J ++ J') := by
  obtain ⟨ps, h1, h2⟩ := h
  obtain ⟨qs, g1, g2⟩ := g
  have e : TSame H (upd H a (.lst ((ps.map fun p => V.ref p.1) ++ qs.map fun p => V.ref p.1))) := upd_t h1 fun _ z => by cases z
  exact ⟨_, _, h1, g1, by rw [List.length_map, paired_len h2], by rw [List.length_map, paired_len g2], ps ++ qs, by rw [upd_same, List.map_append], paired_append (paired_it e h2) (paired_it e g2)⟩
theorem it_texts {H : Hp} : ∀ {ps : List (Addr × Str)} {J : List T}, Paired (ItAt H) ps J → J.map sT = ps.map (·.2)
  | _, _, .nil => rfl
  | _, _, .cons ⟨v, _, _, e⟩ h => by rw [List.map_cons, List.map_cons, e, it_texts h]
theorem conjT_eq (I : List T) : conjT I = conj I := by
  match I with
  | [] => rfl
  | [t] => rfl
  | a :: b :: l => rfl
theorem it_sP {i : T} (h : isIt i = true) : sP i = sT i := by
  cases i with
  | atom s => rfl
  | ex r c => rfl
  | and l => cases h
theorem join_conj {I : List T} (it : ∀ i ∈ I, isIt i = true) (ne : I ≠ []) : PySem.Txt.join " & " (I.map sT) = sT (conj I) := by
  have e : I.map sT = I.map sP := List.map_congr_left fun i hi => (it_sP (it i hi)).symm
  match I, it, ne, e with
  | [t], _, _, _ => exact str_ext (by
    rw [TL.join_eq]
    show TL.tl (Str.join " & " _) = _
    rw [TL.tl_join]
    rfl)
  | a :: b :: l, _, _, e => rw [e, joinT_is]; rfl
theorem FAt.grow {P : Program} {w : World} {C : Addr} {H H' : Hp} {x : Addr} {A : FA} {Ts : List T} {ch : List Ch} {bn more : List Str} (h : FAt P w C H x A Ts ch bn) {X : T} {c : Ch} {v : V} {tr kt : Addr} {m : Nat} (t : TSame H H') (hx : H' x = H x) (lc : ∀ cvs, H A.lc = some (.lst cvs) → H' A.lc = some (.lst (cvs ++ [v]))) (lt : H' A.lt = some (.lst ((Ts.map fun t => V.str (sT t)) ++ [.str (sT X)])))
    (lr : ∀ ys, H A.lr = some (.lst ys) → H' A.lr = some (.lst (ys ++ [.ref tr]))) (lh : ∀ ys, H A.lh = some (.lst ys) → H' A.lh = some (.lst (ys ++ [.ref kt]))) (lm : ∀ ys, H A.lm = some (.lst ys) → H' A.lm = some (.lst (ys ++ [.int (m : Nat)]))) (dn : DN P w H' A.dn (nkv Ts ch ++ [(keyN (gnm X) c, .int (Ts.length : Nat))])) (dw : H' A.dw = H A.dw) (db : H' A.db = some (.dK (bkv (bn ++ more))))
    (inv : FI (Ts ++ [X]) (ch ++ [c]) (bn ++ more)) (voc : ∀ s ∈ bn ++ more, s ∈ A.vn) (tX : TAt H' X v) (rX : H' tr = some (.tup ((gnm X).map V.str))) (kX : KidAt H' kt c) (mX : MaskOf (bn ++ more) X m) : FAt P w C H' x A (Ts ++ [X]) (ch ++ [c]) (bn ++ more) := by
  obtain ⟨dx, fs, h1, h2⟩ := h.hx
  obtain ⟨cvs, c1, c2⟩ := h.conc
  obtain ⟨ras, r1, r2⟩ := h.rows
  obtain ⟨has, g1, g2⟩ := h.kids
  obtain ⟨ms, m1, m2⟩ := h.masks
  obtain ⟨kt', w1, w2, w3⟩ := h.memo
  refine ⟨⟨dx, fs, by rw [hx]; exact h1, h2⟩, ⟨_, lc _ c1, paired_append (pairT_t t c2) (.cons tX .nil)⟩, by rw [lt, List.map_append]; rfl, ⟨ras ++ [tr], by rw [lr _ r1, List.map_append]; rfl, paired_append (paired_imp (fun _ _ q => t _ _ q) r2) (.cons rX .nil)⟩, ⟨has ++ [kt], by rw [lh _ g1, List.map_append]; rfl, paired_append (paired_imp (fun _ _ q => q.t t) g2) (.cons kX .nil)⟩,
    ⟨ms ++ [m], by rw [lm _ m1, List.map_append]; rfl, paired_append (masks_more inv.bnd m2 h.inv.bin) (.cons mX .nil)⟩, db, by rw [nkv_snoc h.inv.len]; exact dn, ⟨kt', by rw [dw]; exact w1, w2, fun k v hk => ?_⟩, h.ne, ⟨h.voc.1, voc⟩, inv⟩
  obtain ⟨i, j, ti, tj, b, e1, e2, e3, e4, e5⟩ := w3 k v hk
  exact ⟨i, j, ti, tj, b, e1, by rw [List.getElem?_append_left (List.getElem?_eq_some_iff.mp e2).1]; exact e2, by rw [List.getElem?_append_left (List.getElem?_eq_some_iff.mp e3).1]; exact e3, e4, e5⟩
theorem FA.nes {A : FA} (h : A.l.Nodup) : (A.lc ≠ A.lt ∧ A.lc ≠ A.lr ∧ A.lc ≠ A.lh ∧ A.lc ≠ A.dn ∧ A.lc ≠ A.dw ∧ A.lc ≠ A.lm ∧ A.lc ≠ A.db) ∧ (A.lt ≠ A.lr ∧ A.lt ≠ A.lh ∧ A.lt ≠ A.dn ∧ A.lt ≠ A.dw ∧ A.lt ≠ A.lm ∧ A.lt ≠ A.db) ∧ (A.lr ≠ A.lh ∧ A.lr ≠ A.dn ∧ A.lr ≠ A.dw ∧ A.lr ≠ A.lm ∧ A.lr ≠ A.db) ∧ (A.lh ≠ A.dn ∧ A.lh ≠ A.dw ∧ A.lh ≠ A.lm ∧ A.lh ≠ A.db) ∧ (A.dn ≠ A.dw ∧ A.dn ≠ A.lm ∧ A.dn ≠ A.db) ∧ (A.dw ≠ A.lm ∧ A.dw ≠ A.db) ∧ A.lm ≠ A.db := by
  simpa [FA.l] using h
/-- all but D and the tables stay -/
def ButT (D : List Addr) (H H' : Hp) : Prop := ∀ a o, a ∉ D → H a = some o → (∀ ps, o ≠ .tbl ps) → H' a = some o
theorem ButT.of {D : List Addr} {H H' : Hp} (b : But D H H') : ButT D H H' := fun a o n e _ => b a o n e
theorem ButT.trans {D : List Addr} {H H1 H2 : Hp} (a : ButT D H H1) (b : ButT D H1 H2) : ButT D H H2 := fun c o n e t => b c o n (a c o n e t) t
theorem getN_snoc {k : NestedKey} {v : V} {kvs : List (NestedKey × V)} (h : getN kvs k = none) : getN (kvs ++ [(k, v)]) k = some v := by
  unfold getN at h ⊢
  rw [Option.map_eq_none_iff] at h
  rw [List.find?_append, h]
  simp
theorem FAt.xN {P : Program} {w : World} {C : Addr} {H : Hp} {x : Addr} {A : FA} {Ts : List T} {ch : List Ch} {bn : List Str} (h : FAt P w C H x A Ts ch bn) : x ∉ A.l := fun ha => by
  obtain ⟨dx, fs, h0, _⟩ := h.hx
  obtain ⟨o, h1, h2⟩ := h.kind ha
  rw [h0] at h1
  cases h1
  rcases h2 with ⟨_, z⟩ | ⟨_, z⟩ | ⟨_, z⟩ | ⟨_, _, z⟩ <;> cases z
theorem join_small {Ts : List T} {ch : List Ch} {bn : List Str} (h : FI Ts ch bn) (bl : bn.length ≤ 60) {N : List Str} {Cs : Ch} {row : List Str} {c : Ch} {I : List T} (wd : Wds Ts N Cs) (md : Made Ts N Cs row c I) (sz : sumT (chT Ts Cs) + 1 ≤ 4000) (lr : row.length ≤ 1000) : ((I.map sT).map (·.length)).sum + (I.map sT).length * 3 ≤ 16777216 := by
  have it := md.m.it
  have cwI := cw_items md.cw
  have h1 := items_sum it cwI fun r t ht => by
    have hg : (r, t) ∈ gch (conj I) := (gch_conj it (r, t)).mpr ht
    rw [md.m.kd] at hg
    obtain ⟨k, hk, e⟩ := List.mem_map.mp hg
    have e2 : tn Ts k.2 = t := congrArg Prod.snd e
    rw [← e2]
    exact h.txt bl (k.2 + 1) k.2 _ (Nat.lt_succ_self _) (at_tn (md.m.lt k hk))
  have h2 : (gnms I).length = row.length := by rw [← gnm_conjL I, md.m.nm]
  have h3 : sumT (gchs I) ≤ sumT (chT Ts Cs) := by rw [← gch_conjL I, ← cz_gch]; exact md.sz
  have h4 : ∀ L : List T, (∀ i ∈ L, isIt i = true) → ((L.map sT).map (·.length)).sum + (L.map sT).length * 3 = (L.map fun i => (pr i).length + 3).sum := fun L => by
    induction L with
    | nil => exact fun _ => rfl
    | cons i l ih =>
      intro hi
      have e := ih fun j hj => hi j (List.mem_cons_of_mem _ hj)
      have e1 : (sT i).length = (pr i).length := by rw [← it_sP (hi i List.mem_cons_self), len_sP]
      simp only [List.map_cons, List.sum_cons, List.length_cons] at e ⊢
      omega
  rw [h4 I it]
  omega
theorem made_dp {Ts : List T} {N : List Str} {Cs : Ch} {row : List Str} {c : Ch} {I : List T} (md : Made Ts N Cs row c I) {Kl : Ch} (kc : ∀ p ∈ Kl, p ∈ Cs) (ip : I.Perm (row.map T.atom ++ Kl.map fun p => T.ex p.1 (tn Ts p.2))) (hdp : ∀ p ∈ chT Ts Cs, dT p.2 + 1 ≤ 11) : dT (conj I) ≤ 11 := dT_conj fun i hi => by
  rcases List.mem_append.mp (ip.mem_iff.mp hi) with z | z
  · obtain ⟨s, _, rfl⟩ := List.mem_map.mp z
    exact Nat.zero_le _
  · obtain ⟨k, hk, rfl⟩ := List.mem_map.mp z
    rw [dT]
    exact hdp _ (List.mem_map.mpr ⟨k, kc k hk, rfl⟩)
end K1
namespace K1
open PySem L2 K8
section
variable {P : Program} {w : World} {K : PySem.W.Frag} {mg : Str → Option Value} {base : Heap}
theorem pe_fldK {X : Cx} {K : PySem.W.Frag} {e : Expr} {f : Str} {pos : Pos} {ta : TE} (h : X.K = K) (he : PE X e ta) (hb : attributeBase e f X.env (eval e X.env) = eval e X.env) : PE X (.Attribute e f pos) (tFld K ta f) := by subst h; exact pe_fld he hb
/-! ### make -/
theorem word1000 {s : Str} (h : wordOk s = true) : s.length ≤ 1000 := by
  have h1 := word_len h
  have h2 : s.length = (cs s).length := by show s.cps.size = s.cps.toList.length; simp
  omega
/-- make, with its code object -/
def MkC (D : Defs K mg) (cM : Addr) : Prop := ∃ (oc : Value) (od : Option Addr) (kV doc pm : Value) (an : Option Addr) (ct : Value) (osl : Array (Option Value)), D.d_f_make.fd = PySem.W.fnOf "make" "Forms.make" (defArgs s_f_make) (defBody s_f_make) (defScope s_f_make) .none kV doc pm an (.ref cM) ct ∧ K.lookup D.d_f_make.f = some ⟨oc, od, .func D.d_f_make.fd, osl⟩ ∧ PySem.W.codeIn K (.ref cM) "Forms.make" = true
theorem make_okC {D : Defs K mg} {cM : Addr} (M : MkC D cM) {N ps : List Str} {k : Nat} {sp : Sp} (S : FnScope N ps (defScope s_f_make)) (len : ∀ vs H Q E, sp vs H Q E → vs.length = ps.length)
    (hbody : ∀ (A : Around) (outer : List Env) (s : Shared) (H : Hp) (vs : List V) (Q : VK) (E : XK), Room k (A.deeper (PyProof.Rows.envOfC "Forms.make" (defScope s_f_make) s.heap.objs.size D.d_f_make.f (.ref cM))) → sp vs H Q E →
      ∃ t, PSs (cxOf CX0 P w K mg base N "Forms.make" (defScope s_f_make) D.d_f_make.f (.ref cM) A outer s H E).nox (defBody s_f_make) t ∧ t { nx := fun _ H' => Q .non H', rt := Q } (start N vs) H) : FnOk P w K mg base CX0 (k + 1) D.d_f_make.f D.d_f_make.fd ps sp := by
  obtain ⟨oc, od, kV, doc, pm, an, ct, osl, e, lk, hcd⟩ := M
  rw [e] at lk ⊢
  refine fn_of lk hcd S len fun A outer s H vs Q E hr hsp => ?_
  obtain ⟨t, h, q⟩ := hbody A outer s H vs Q E hr hsp
  exact ⟨t, h.nox, q⟩
def spMake (P : Program) (w : World) (C Pt : Addr) : Sp := fun vs H Q _ => ∃ (x pn pc : Addr) (N : List Str) (Cs : Ch) (A : FA) (Ts : List T) (ch : List Ch) (bn : List Str), vs = [.ref x, .ref pn, .ref pc] ∧ FAt P w C H x A Ts ch bn ∧ TB Pt H ∧ H pn = some (.lst (N.map V.str)) ∧ TupL chV H pc Cs ∧ Wds Ts N Cs ∧ (∀ s ∈ N, s ∈ A.vn) ∧ N.length + Cs.length ≤ 1000 ∧ Ts.length + 1 ≤ 1000 ∧ sumT (chT Ts Cs) + 1 ≤ 4000 ∧ (∀ p ∈ chT Ts Cs, dT p.2 + 1 ≤ 11) ∧
  ∀ H' i X Ts' ch' bn', ButT A.l H H' → TB Pt H' → FAt P w C H' x A Ts' ch' bn' → (∃ more, Ts' = Ts ++ more ∧ more.length ≤ 1) → Ts'[i]? = some X → Rd X → Eqv X (raw N (chT Ts Cs)) → CW X → cz X ≤ sumT (chT Ts Cs) → Q (.int (i : Nat)) H'
theorem ok_make (D : Defs K mg) {cM Pt : Addr} (M : MkC D cM) (hTB : LamX.TabB base mg cM Pt) : FnOk P w K mg base CX0 28 D.d_f_make.f D.d_f_make.fd ["self", "names", "children"] (spMake P w D.fC Pt) := by
  have GN := ok_needed (P := P) (w := w) (base := base) D
  have GT := ok_tos (P := P) (w := w) (base := base) D
  have GM := ok_maskB (P := P) (w := w) (base := base) D
  have GC := ok_conj (P := P) (w := w) (base := base) D
  refine make_okC M sc_f_make (fun vs H Q E h => ?_) (fun A outer s H vs Q E hr h => ?_)
  · obtain ⟨x, pn, pc, N, Cs, A, Ts, ch, bn, rfl, _⟩ := h
    rfl
  obtain ⟨x, pn, pc, N, Cs, A, Ts, ch, bn, rfl, hF, hT, hn, hC, wd, hvn, lNC, lT, hsz, hdp, q⟩ := h
  have lN : N.length ≤ 1000 := by omega
  have lC : Cs.length ≤ 1000 := by omega
  have hr1 : Room 1 _ := hr.mono (by decide)
  have hu := hu_of hr
  have hu65 := Nat.lt_of_le_of_lt (Nat.add_le_add_left (by decide : 65 ≤ 16 * 27 + 200) _) hr.un
  have hrd := Nat.lt_of_le_of_lt (Nat.le_trans (Nat.le_add_right _ (3 * 27)) (Nat.le_add_right _ 5)) hr.dp
  refine ⟨_, (pss_cons (ps_set (i := 3) sc_f_make.nd rfl (Or.inl rfl) (pe_callTy call_tuple_of (by rfl) D.z_tuple (by decide +kernel) (pa_cons (pe_callB ((cr_sortSX hr.hd hr.units : CallR _ _ (rSortSX P w))) (by rfl) D.z_sorted (by decide +kernel) (pa_cons (pe_callTy ((cr_setS hr.hd : CallR _ _ (rSetS K P w))) (by rfl) D.z_set (by decide +kernel) (pa_cons (pv 1) pa_nil)) pa_nil)) pa_nil)))
      (pss_cons (ps_set (i := 4) sc_f_make.nd rfl (Or.inl rfl) (pe_meth (pv 0) D.fC_cl D.d_f_needed_parts.me GN hr D.d_f_needed_parts.b .nil pass0 (pa_cons (pv 2) pa_nil)))
      (pss_cons (ps_setLc (i := 5) (own := [("role", 10), ("form", 11)]) (g := gTup K 2 (gCons (gName 10) (gCons (gName 11) gNil))) rfl sc_f_make.nd rfl rfl (sw_true rfl rfl rfl (by decide +kernel)) (pi_list (pv 4)) (blkOk_by (N := ["self", "names", "children", "row", "least", "somes", "key", "items", "name", "told", "role", "form", "concept", "_"]) (sc := defScope s_f_make) (by decide +kernel))
        (fun _ _ _ _ _ => pg_tup rfl (pgs_cons (pg_name (i := 10) sc_f_make.nd rfl (Or.inl rfl)) (pgs_cons (pg_name (i := 11) sc_f_make.nd rfl (Or.inl rfl)) pgs_nil))) (fun _ _ _ _ _ => pts_nil)
        (fun _ _ _ _ _ => (pe_tup (pa_cons (pe_meth (pv 0) D.fC_cl D.d_f_text_of_some.me GT hr1 D.d_f_text_of_some.b .nil pass0 (pa_cons (pv 10) (pa_cons (pv 11) pa_nil))) (pa_cons (pv 10) (pa_cons (pv 11) pa_nil))))))
      (pss_cons (ps_set (i := 6) sc_f_make.nd rfl (Or.inl rfl) (pe_tup (pa_cons (pv 3) (pa_cons (pe_callTy call_tuple_of (by rfl) D.z_tuple (by decide +kernel) (pa_cons (pe_lc (own := [("_", 13), ("role", 10), ("form", 11)]) (g := gTup K 3 (gCons (gName 13) (gCons (gName 10) (gCons (gName 11) gNil)))) rfl sc_f_make.nd (pi_list (pe_callB (cr_sortedM hr.units) (by rfl) D.z_sorted (by decide +kernel) (pa_cons (pv 5) pa_nil))) (blkOk_by (N := ["self", "names", "children", "row", "least", "somes", "key", "items", "name", "told", "role", "form", "concept", "_"]) (sc := defScope s_f_make) (by decide +kernel))
        (fun _ _ _ _ _ => pg_tup rfl (pgs_cons (pg_name (i := 13) sc_f_make.nd rfl (Or.inl rfl)) (pgs_cons (pg_name (i := 10) sc_f_make.nd rfl (Or.inl rfl)) (pgs_cons (pg_name (i := 11) sc_f_make.nd rfl (Or.inl rfl)) pgs_nil)))) (fun _ _ _ _ _ => pts_nil) (fun _ _ _ _ _ => (pe_tup (pa_cons (pv 10) (pa_cons (pv 11) pa_nil))))) pa_nil)) pa_nil))))
      (pss_cons (K3.ps_way (ps_if (pt_cmpR (op_notInN hu65 : OpR _ _ (rNotInN P w)) (pv 6) (pe_fld (pv 0) rfl) (by rfl))
        (pss_cons (ps_setLc (i := 7) (own := [("name", 8)]) (g := gName 8) rfl sc_f_make.nd rfl rfl (sw_true rfl rfl rfl (by decide +kernel)) (pi_tup (pv 3)) (blkOk_by (N := ["self", "names", "children", "row", "least", "somes", "key", "items", "name", "told", "role", "form", "concept", "_"]) (sc := defScope s_f_make) (by decide +kernel)) (fun _ _ _ _ _ => pg_name (i := 8) sc_f_make.nd rfl (Or.inl rfl)) (fun _ _ _ _ _ => pts_nil) (fun _ _ _ _ _ => (pe_tup (pa_cons (pv 8) (pa_cons (pv 8) pa_nil)))))
      (pss_cons (ps_expr (pe_bm PySem.F.plainAttrs_list PySem.F.slot_list_extend PySem.F.type_list_extend mt_extend (pv 7) (pa_cons (pe_lc (own := [("told", 9), ("role", 10), ("form", 11)]) (g := gTup K 3 (gCons (gName 9) (gCons (gName 10) (gCons (gName 11) gNil)))) rfl sc_f_make.nd (pi_list (pv 5)) (blkOk_by (N := ["self", "names", "children", "row", "least", "somes", "key", "items", "name", "told", "role", "form", "concept", "_"]) (sc := defScope s_f_make) (by decide +kernel))
            (fun _ _ _ _ _ => pg_tup rfl (pgs_cons (pg_name (i := 9) sc_f_make.nd rfl (Or.inl rfl)) (pgs_cons (pg_name (i := 10) sc_f_make.nd rfl (Or.inl rfl)) (pgs_cons (pg_name (i := 11) sc_f_make.nd rfl (Or.inl rfl)) pgs_nil)))) (fun _ _ _ _ _ => pts_nil)
            (fun _ _ _ _ _ => (pe_tup (pa_cons (pv 9) (pa_cons (pe_tup (pa_cons pe_str (pa_cons (pv 10) (pa_cons (pe_ix (ix_listK (K := K) rfl) (pe_fldK (K := K) rfl (pv 0) rfl) (pv 11) (fun _ _ => rfl)) pa_nil)))) pa_nil))))) pa_nil)))
      (pss_cons (ps_set (i := 7) sc_f_make.nd rfl (Or.inl rfl) (pe_sortKey (T := [(Pt, qL)]) (by rfl) D.z_sorted hu65 hrd (pv 7) hTB rfl (by simp; rfl) (by intro q hq _; simp at hq; rw [hq]; rfl) rfl rfl rfl rfl rfl rfl (fun _ _ _ _ _ _ => rfl)))
      (pss_cons (ps_asg (pe_callB call_len_seq (by rfl) D.z_len (by decide +kernel) (pa_cons (pe_fld (pv 0) rfl) pa_nil)) (pg_sub (pe_fld (pv 0) rfl) (pv 6) (set_N hu65 : PSet _ (rSetN P w))))
      (pss_cons (ps_expr (pe_bm PySem.F.plainAttrs_list PySem.F.slot_list_append PySem.F.type_list_append mt_append (pe_fld (pv 0) rfl) (pa_cons (pe_call GC hr1 rfl D.d_conjoin.m D.d_conjoin.F.kp D.d_conjoin.b .nil pass0 (pa_cons (pe_lc (own := [("_", 13), ("concept", 12)]) (g := gTup K 2 (gCons (gName 13) (gCons (gName 12) gNil))) rfl sc_f_make.nd (pi_list (pv 7)) (blkOk_by (N := ["self", "names", "children", "row", "least", "somes", "key", "items", "name", "told", "role", "form", "concept", "_"]) (sc := defScope s_f_make) (by decide +kernel))
            (fun _ _ _ _ _ => pg_tup rfl (pgs_cons (pg_name (i := 13) sc_f_make.nd rfl (Or.inl rfl)) (pgs_cons (pg_name (i := 12) sc_f_make.nd rfl (Or.inl rfl)) pgs_nil))) (fun _ _ _ _ _ => pts_nil) (fun _ _ _ _ _ => (pv 12))) pa_nil)) pa_nil)))
      (pss_cons (ps_expr (pe_bm PySem.F.plainAttrs_list PySem.F.slot_list_append PySem.F.type_list_append mt_append (pe_fld (pv 0) rfl) (pa_cons (K3.pe_way (pe_ifExp (pt_truth (pv 7) (by intro _; rfl)) (pe_join pe_str (pe_lc (own := [("told", 9), ("_", 13)]) (g := gTup K 2 (gCons (gName 9) (gCons (gName 13) gNil))) rfl sc_f_make.nd (pi_list (pv 7)) (blkOk_by (N := ["self", "names", "children", "row", "least", "somes", "key", "items", "name", "told", "role", "form", "concept", "_"]) (sc := defScope s_f_make) (by decide +kernel))
            (fun _ _ _ _ _ => pg_tup rfl (pgs_cons (pg_name (i := 9) sc_f_make.nd rfl (Or.inl rfl)) (pgs_cons (pg_name (i := 13) sc_f_make.nd rfl (Or.inl rfl)) pgs_nil))) (fun _ _ _ _ _ => pts_nil) (fun _ _ _ _ _ => (pv 9)))) pe_str)) pa_nil)))
      (pss_cons (ps_expr (pe_bm PySem.F.plainAttrs_list PySem.F.slot_list_append PySem.F.type_list_append mt_append (pe_fld (pv 0) rfl) (pa_cons (pv 3) pa_nil)))
      (pss_cons (ps_expr (pe_bm PySem.F.plainAttrs_list PySem.F.slot_list_append PySem.F.type_list_append mt_append (pe_fld (pv 0) rfl) (pa_cons (pe_ix ix_tup (pv 6) pe_int (fun _ _ => rfl)) pa_nil)))
      (pss_one (ps_expr (pe_bm PySem.F.plainAttrs_list PySem.F.slot_list_append PySem.F.type_list_append mt_append (pe_fld (pv 0) rfl) (pa_cons (pe_meth (pv 0) D.fC_cl D.d_f_mask.me GM hr1 D.d_f_mask.b .nil pass0 (pa_cons (pv 3) pa_nil)) pa_nil)))))))))))) pss_nil))
      (pss_one (ps_ret (pe_ix (ix_N hu65 : IxR _ (rIxN P w)) (pe_fld (pv 0) rfl) (pv 6) (fun _ _ => rfl))))))))), ?_⟩
  refine ⟨_, rfl, pn, N, rfl, SqL.of hn, by omega, fun sa l' hsa hm' hnd hl' => ⟨sa, l', rfl, upd_same, by omega, fun ls sp pm hsp => ⟨sp, _, rfl, .inl ⟨SqL.of upd_same, fun tr htr => ?_⟩⟩⟩⟩
  have lsn : ls.Nodup := pm.nodup_iff.mpr hnd
  have ra : Asc (ls.mergeSort (PySem.W.dataLe false PyData.str)) := sortS_asc lsn
  have rm : ∀ s, s ∈ ls.mergeSort (PySem.W.dataLe false PyData.str) ↔ s ∈ N := fun s => by rw [(List.mergeSort_perm ls _).mem_iff, pm.mem_iff, hm']
  have lrowN : (ls.mergeSort (PySem.W.dataLe false PyData.str)).length ≤ N.length := by rw [(List.mergeSort_perm ls _).length_eq, pm.length_eq]; omega
  generalize ls.mergeSort (PySem.W.dataLe false PyData.str) = row at ra rm lrowN htr ⊢
  have lrow : row.length ≤ 1000 := by omega
  have hrow : (upd (upd (upd H sa (SXo P w sa l')) sp (.lst (row.map V.str))) tr (.tup (row.map V.str))) tr = some (.tup (row.map V.str)) := upd_same
  have s1 : Same H (upd (upd (upd H sa (SXo P w sa l')) sp (.lst (row.map V.str))) tr (.tup (row.map V.str))) := ((same_new hsa _).trans (same_new hsp _)).trans (same_new htr _)
  have trH : H tr = none := none_sameT ((same_new hsa _).trans (same_new hsp _)) htr
  generalize upd (upd (upd H sa (SXo P w sa l')) sp (.lst (row.map V.str))) tr (.tup (row.map V.str)) = H1 at hrow s1 ⊢
  obtain ⟨dx1, fs1, hx1, y1, y2, y3, y4, y5, y6, y7, y8, y9⟩ := (hF.fresh s1).hx
  refine ⟨_, rfl, x, dx1, _, rfl, hx1, y9 _ (by decide +kernel), _, rfl, x, pc, Cs, A, Ts, ch, bn, rfl, hF.fresh s1, hC.same s1, wd.lt, lC, fun H2 pf Kl b2 F2 pfN T2 need => ?_⟩
  have hrow2 := (hF.fresh s1).tsW b2 _ _ hrow
  have kc : ∀ p ∈ Kl, p ∈ Cs := fun p hp => ((need.2 p).mp hp).1
  have lKC : Kl.length ≤ Cs.length := nodup_sub_len need.1 kc
  have lK : Kl.length ≤ 1000 := by omega
  obtain ⟨ps2, p1, p2, p3⟩ := id T2
  have lps : (refsT ps2).length = Kl.length := by rw [refsT_len, ← p3, List.length_map]
  -- somes
  refine ⟨_, rfl, pf, rfl, ⟨_, SqL.of p1⟩, fun D5 hD5 => ?_⟩
  have pD5 : pf ≠ D5 := ne_of_none p1 hD5
  refine lc_it (walk_list (K := K) (a := pf) (xs := refsT ps2)) (fun i H' => But [D5] (upd H2 D5 (.lst [])) H' ∧ TupL somV H' D5 ((Kl.take i).map (somOf Ts))) ⟨But.refl _, TupL.nil upd_same⟩ (fun i H' _ hh => SqL.of (hh.1 _ _ (by simpa using pD5) (by rw [upd_ne pD5]; exact p1))) ?_ ?_
  · rintro i z H3 H3' hi ⟨b3, T3⟩ ⟨rfl, hz⟩
    unfold refsT at hz
    rw [List.getElem?_map] at hz
    obtain ⟨u, hu', rfl⟩ := Option.map_eq_some_iff.mp hz
    have hci : Kl[i]? = some u.2 := by rw [← p3, List.getElem?_map, hu']; rfl
    have mu := List.mem_of_getElem? hci
    have s3 : Same H2 H3' := same_of b3 hD5
    have F3 := F2.fresh s3
    have ut := s3 _ _ (p2 u (List.mem_of_getElem? hu'))
    obtain ⟨dx3, fs3, hx3, w1, w2, w3, w4, w5, w6, w7, w8, w9⟩ := F3.hx
    refine ⟨u.1, _, rfl, SqT.of ut, rfl, _, _, rfl, _, _, rfl, rfl, rfl, _, rfl, x, dx3, _, rfl, hx3, w9 _ (by decide +kernel), _, rfl, _, rfl, x, u.2.1, u.2.2, A, Ts, ch, bn, tn Ts u.2.2, rfl, F3, at_tn (wd.lt _ (kc _ mu)), wd.r _ (kc _ mu), _, rfl, _, rfl, (by show 3 ≤ sizeLine; decide), fun tt htt => ?_⟩
    have st : Same H3' (upd H3' tt (.tup (somV (somOf Ts u.2)))) := same_new htt _
    obtain ⟨ys, g1, g2, g3⟩ := (T3.same st).app (x := somOf Ts u.2) (upd_same (o := HO.tup (somV (somOf Ts u.2))))
    refine ⟨ys, g1, by rw [g2, List.length_map, List.length_take]; exact small1000 (by omega), (b3.trans (But.of st)).trans (But.put (by simp)), ?_⟩
    rw [take_more hci, List.map_append]
    exact g3
  rintro H3 ⟨b3, T3⟩
  rw [lps, List.take_length] at T3
  have s3 : Same H2 H3 := same_of b3 hD5
  have F3 := F2.fresh s3
  have hrow3 := s3 _ _ hrow2
  obtain ⟨qs, q1, q2, q3⟩ := id T3
  -- key
  refine ⟨_, rfl, _, rfl, D5, qs, rfl, q1, q2, fun sq hsq => ⟨sq, rfl, ⟨_, SqL.of upd_same⟩, fun D6 hD6 => ?_⟩⟩
  have s4 : Same H3 (upd H3 sq (.lst (refsT (qs.mergeSort leMA)))) := same_new hsq _
  have e4 : (upd H3 sq (.lst (refsT (qs.mergeSort leMA)))) sq = some (.lst (refsT (qs.mergeSort leMA))) := upd_same
  have q2s : SomsAt H3 (qs.mergeSort leMA) := fun u hu => q2 u ((List.mergeSort_perm qs leMA).mem_iff.mp hu)
  have q3s : (qs.mergeSort leMA).map (·.2) = (Kl.map (somOf Ts)).mergeSort leM := by rw [sortMA_snd, q3]
  have sp : ((qs.mergeSort leMA).map (·.2)).Perm (Kl.map (somOf Ts)) := by rw [q3s]; exact List.mergeSort_perm _ _
  have ss : ((qs.mergeSort leMA).map (·.2)).Pairwise fun a b => ltb a.1 b.1 = true := by rw [q3s]; exact sortM_asc (soms_nd hF.inv wd need)
  have lS : (qs.mergeSort leMA).length ≤ 1000 := by have := sp.length_eq; rw [List.length_map, List.length_map] at this; omega
  generalize qs.mergeSort leMA = qz at e4 s4 q2s sp ss lS hD6 ⊢
  generalize upd H3 sq (.lst (refsT qz)) = H4 at s4 e4 hD6 ⊢
  have sD6 : sq ≠ D6 := ne_of_none e4 hD6
  refine lc_it (walk_list (K := K) (a := sq) (xs := refsT qz)) (fun i H' => But [D6] (upd H4 D6 (.lst [])) H' ∧ TupL chV H' D6 ((qz.take i).map fun u => u.2.2)) ⟨But.refl _, TupL.nil upd_same⟩ (fun i H' _ hh => SqL.of (hh.1 _ _ (by simpa using sD6) (by rw [upd_ne sD6]; exact e4))) ?_ ?_
  · rintro i z H5 H5' hi ⟨b5, T5⟩ ⟨rfl, hz⟩
    unfold refsT at hz
    rw [List.getElem?_map] at hz
    obtain ⟨u, hu', rfl⟩ := Option.map_eq_some_iff.mp hz
    have s5 : Same H4 H5' := same_of b5 hD6
    have ut := s5 _ _ (s4 _ _ (q2s u (List.mem_of_getElem? hu')))
    refine ⟨u.1, _, rfl, SqT.of ut, rfl, _, _, rfl, _, _, rfl, _, _, rfl, rfl, rfl, _, rfl, _, rfl, (by show 2 ≤ sizeLine; decide), fun tt htt => ?_⟩
    have st : Same H5' (upd H5' tt (.tup (chV u.2.2))) := same_new htt _
    obtain ⟨ys, g1, g2, g3⟩ := (T5.same st).app (x := u.2.2) (upd_same (o := HO.tup (chV u.2.2)))
    refine ⟨ys, g1, by rw [g2, List.length_map, List.length_take]; exact small1000 (by omega), (b5.trans (But.of st)).trans (But.put (by simp)), ?_⟩
    rw [take_more hu', List.map_append]
    exact g3
  rintro H5 ⟨b5, T5⟩
  rw [refsT_len, List.take_length] at T5
  have s5 : Same H4 H5 := same_of b5 hD6
  obtain ⟨cs, c1, c2, c3⟩ := id T5
  refine ⟨D6, _, rfl, .inl ⟨SqL.of c1, fun kt hkt => ⟨(by show 2 ≤ sizeLine; decide), fun ky hky => ?_⟩⟩⟩
  have s6 : Same H5 (upd (upd H5 kt (.tup (refsT cs))) ky (.tup [V.ref tr, V.ref kt])) := (same_new hkt _).trans (same_new hky _)
  have ekt : (upd (upd H5 kt (.tup (refsT cs))) ky (.tup [V.ref tr, V.ref kt])) kt = some (.tup (refsT cs)) := same_new hky _ _ _ upd_same
  have eky : (upd (upd H5 kt (.tup (refsT cs))) ky (.tup [V.ref tr, V.ref kt])) ky = some (.tup [V.ref tr, V.ref kt]) := upd_same
  generalize upd (upd H5 kt (.tup (refsT cs))) ky (.tup [V.ref tr, V.ref kt]) = H6 at s6 ekt eky ⊢
  have s46 : Same H2 H6 := ((s3.trans s4).trans s5).trans s6
  have F6 := F2.fresh s46
  have B16 : But A.l H H6 := ((But.of s1).trans (fun a v n e => b2 a v (fun z => n (by rw [List.mem_singleton.mp z]; simp [FA.l])) e)).trans (But.of s46)
  have T6 : TB Pt H6 := hF.tb hT B16
  have hrow6 := s46 _ _ hrow2
  have kid6 : KidAt H6 kt (qz.map fun u => u.2.2) := ⟨cs, ekt, fun u hu => s6 _ _ (c2 u hu), c3⟩
  have nk6 := nk_key hrow6 kid6 eky
  have esm : (qz.map (·.2)).map (·.2) = qz.map fun u => u.2.2 := by rw [List.map_map]; rfl
  have mo := fun {I : List T} ip is => made_of (I := I) hF.inv wd need ra rm sp ss ip is
  rw [esm] at mo
  have lkc : (qz.map fun u => u.2.2).length ≤ 1000 := by rw [List.length_map]; exact lS
  generalize (qz.map fun u => u.2.2) = kc1 at kid6 nk6 mo lkc
  obtain ⟨dx6, fs6, hx6, u1, u2, u3, u4, u5, u6, u7, u8, u9⟩ := F6.hx
  refine ⟨fun σ' H' => (∃ o7, σ' = [some (.ref x), some (.ref pn), some (.ref pc), some (.ref tr), some (.ref pf), some (.ref D5), some (.ref ky), o7, none, none, none, none, none, none]) ∧ ∃ (i : Nat) (Ts' : List T) (ch' : List Ch) (bn' : List Str) (I : List T), ButT A.l H H' ∧ TB Pt H' ∧ FAt P w D.fC H' x A Ts' ch' bn' ∧ (∃ more, Ts' = Ts ++ more ∧ more.length ≤ 1) ∧ Ts'[i]? = some (conj I) ∧ Made Ts N Cs row kc1 I ∧ NkH H' (keyN row kc1) (.ref ky) ∧ getN (nkv Ts' ch') (keyN row kc1) = some (.int (i : Nat)), ?_, ?_⟩
  · refine ⟨_, rfl, _, rfl, x, D.fC, dx6, _, _, rfl, hx6, D.fC_cl, D.fC_n_numbers, u5, ky, A.dn, keyN row kc1, nkv Ts ch, rfl, rfl, nk6, keyN_depth _ _, F6.nums, _, rfl, ?_⟩
    cases hg : getN (nkv Ts ch) (keyN row kc1) with
    | some v =>
      refine iteFe rfl ⟨⟨_, rfl⟩, ?_⟩
      obtain ⟨I, ip, is⟩ := items_sorted (items_nd hF.inv wd need ra rm)
      have md := mo ip is
      obtain ⟨i, rfl, hi⟩ := md.m.found hF.inv hg
      exact ⟨i, Ts, ch, bn, I, ButT.of B16, T6, F6, ⟨[], by simp, by simp⟩, hi, md, nk6, hg⟩
    | none =>
      refine iteTe rfl ?_
      -- items
      refine ⟨_, rfl, tr, rfl, ⟨_, SqT.of hrow6⟩, fun D7 hD7 => ?_⟩
      have tD7 : tr ≠ D7 := ne_of_none hrow6 hD7
      refine lc_it (walk_tup (K := K) (a := tr) (xs := row.map V.str)) (fun i H' => But [D7] (upd H6 D7 (.lst [])) H' ∧ ItL H' D7 ((row.take i).map T.atom)) ⟨But.refl _, ItL.nil upd_same⟩ (fun i H' _ hh => SqT.of (hh.1 _ _ (by simpa using tD7) (by rw [upd_ne tD7]; exact hrow6))) ?_ ?_
      · rintro i z H7 H7' hi ⟨b7, T7⟩ ⟨rfl, hz⟩
        rw [List.getElem?_map] at hz
        obtain ⟨s, hs, rfl⟩ := Option.map_eq_some_iff.mp hz
        refine ⟨rfl, _, rfl, _, rfl, (by show 2 ≤ sizeLine; decide), fun tt htt => ?_⟩
        have st : Same H7' (upd H7' tt (.tup [V.str s, V.str s])) := same_new htt _
        obtain ⟨ys, g1, g2, g3⟩ := (T7.keep (st _) (Same.t st)).app (i := .atom s) (upd_same (o := HO.tup [V.str s, V.str s])) (by rw [TAt]; exact ⟨rfl, word1000 (wd.w s ((rm s).mp (List.mem_of_getElem? hs)))⟩) sT_atom
        refine ⟨ys, g1, by rw [g2, List.length_map, List.length_take]; exact small1000 (by omega), (b7.trans (But.of st)).trans (But.put (by simp)), ?_⟩
        rw [take_more hs, List.map_append]
        exact g3
      rintro H7 ⟨b7, T7⟩
      rw [List.length_map, List.take_length] at T7
      have s7 : Same H6 H7 := same_of b7 hD7
      have F7 := F6.fresh s7
      have s37 : Same H3 H7 := ((s4.trans s5).trans s6).trans s7
      have q17 := s37 _ _ q1
      obtain ⟨ps7, e71, e72⟩ := id T7
      refine ⟨_, rfl, .inl ⟨rfl, _, SqL.of e71⟩, _, rfl, D5, rfl, ⟨_, SqL.of q17⟩, fun D8 hD8 => ?_⟩
      have dD8 : D5 ≠ D8 := ne_of_none q17 hD8
      have lqs : (refsT qs).length = Kl.length := by rw [refsT_len]; have := congrArg List.length q3; rw [List.length_map, List.length_map] at this; exact this
      refine lc_it (walk_list (K := K) (a := D5) (xs := refsT qs)) (fun i H' => But [D8] (upd H7 D8 (.lst [])) H' ∧ ItL H' D8 ((Kl.take i).map fun p => T.ex p.1 (tn Ts p.2))) ⟨But.refl _, ItL.nil upd_same⟩ (fun i H' _ hh => SqL.of (hh.1 _ _ (by simpa using dD8) (by rw [upd_ne dD8]; exact q17))) ?_ ?_
      · rintro i z H8 H8' hi ⟨b8, T8⟩ ⟨rfl, hz⟩
        unfold refsT at hz
        rw [List.getElem?_map] at hz
        obtain ⟨u, hu', rfl⟩ := Option.map_eq_some_iff.mp hz
        have h0 : (Kl.map (somOf Ts))[i]? = some u.2 := by rw [← q3, List.getElem?_map, hu']; rfl
        rw [List.getElem?_map] at h0
        obtain ⟨k, hk, ek⟩ := Option.map_eq_some_iff.mp h0
        have mk := kc _ (List.mem_of_getElem? hk)
        have s8 : Same H7 H8' := same_of b8 hD8
        have ut := s8 _ _ (s37 _ _ (q2 u (List.mem_of_getElem? hu')))
        rw [← ek] at ut
        have F8 := F7.fresh s8
        obtain ⟨dx8, fs8, hx8, z1, z2, z3, z4, z5, z6, z7, z8, z9⟩ := F8.hx
        obtain ⟨cvs8, k1, k2⟩ := F8.conc
        obtain ⟨v8, hv8, tv8⟩ := paired_get2 k2 (at_tn (wd.lt k mk))
        refine ⟨u.1, _, rfl, SqT.of ut, rfl, _, _, rfl, _, _, rfl, _, _, rfl, rfl, rfl, _, rfl, _, rfl, _, rfl, x, D.fC, dx8, _, _, rfl, hx8, D.fC_cl, D.fC_nconcepts, z1, _, rfl, A.lc, _, _, v8, rfl, rfl, SqL.of k1, atI_nat hv8, (by show 3 ≤ sizeLine; decide), fun t3 ht3 => ⟨(by show 2 ≤ sizeLine; decide), fun t2 ht2 => ?_⟩⟩
        have st : Same H8' (upd (upd H8' t3 (.tup [.str "some", .str k.1, v8])) t2 (.tup [V.str (sT (.ex k.1 (tn Ts k.2))), .ref t3])) := (same_new ht3 _).trans (same_new ht2 _)
        have e3 : (upd (upd H8' t3 (.tup [.str "some", .str k.1, v8])) t2 (.tup [V.str (sT (.ex k.1 (tn Ts k.2))), .ref t3])) t3 = some (.tup [.str "some", .str k.1, v8]) := same_new ht2 _ _ _ upd_same
        obtain ⟨ys, g1, g2, g3⟩ := (T8.keep (st _) (Same.t st)).app (i := .ex k.1 (tn Ts k.2)) (upd_same (o := HO.tup [V.str (sT (.ex k.1 (tn Ts k.2))), .ref t3])) (by rw [TAt]; exact ⟨t3, v8, rfl, e3, tv8.t (Same.t st), word1000 (wd.r k mk)⟩) rfl
        refine ⟨ys, g1, by rw [g2, List.length_map, List.length_take]; exact small1000 (by omega), (b8.trans (But.of st)).trans (But.put (by simp)), ?_⟩
        rw [take_more hk, List.map_append]
        exact g3
      rintro H8 ⟨b8, T8⟩
      rw [lqs, List.take_length] at T8
      have s8 : Same H7 H8 := same_of b8 hD8
      obtain ⟨xs, zs, x1, x2, x3, x4, T9⟩ := (T7.keep (s8 _) (Same.t s8)).join T8
      refine ⟨D7, D8, xs, zs, rfl, rfl, x1, x2, (by rw [x3, x4, List.length_map, List.length_map]; have : 2000 ≤ sizeLine := by decide
                                                    omega), ?_⟩
      have s68 : Same H6 H8 := s7.trans s8
      have F9 : FAt P w D.fC (upd H8 D7 (.lst (xs ++ zs))) x A Ts ch bn := (F6.fresh s68).keep (upd_t x1 fun _ z => by cases z) fun a ha => by rw [upd_ne (F6.ne_new ha hD7)]
      have t69 : TSame H6 (upd H8 D7 (.lst (xs ++ zs))) := fun a ys e => by rw [upd_ne (ne_of_none e hD7)]; exact s68 _ _ e
      have B19 : But A.l H (upd H8 D7 (.lst (xs ++ zs))) := fun a v n e => by rw [upd_ne (ne_of_none (B16 a v n e) hD7)]; exact s68 _ _ (B16 a v n e)
      have T9B : TB Pt (upd H8 D7 (.lst (xs ++ zs))) := hF.tb hT B19
      generalize upd H8 D7 (.lst (xs ++ zs)) = H9 at T9 F9 t69 B19 T9B ⊢
      obtain ⟨ps9, e91, e92⟩ := id T9
      refine ⟨_, rfl, D7, ps9, rfl, e91, fun p hp => ?_, T9B, fun H10 li ext tb10 hli => ?_⟩
      · obtain ⟨i, hi⟩ := List.mem_iff_getElem?.mp hp
        obtain ⟨t, _, v, h1, _⟩ := paired_get2 e92 hi
        exact ⟨[v], h1⟩
      have pmq : (ps9.mergeSort (PySem.W.dataLe false fun p : Addr × Str => PyData.str p.2)).Perm ps9 := List.mergeSort_perm _ _
      have em : (ps9.mergeSort (PySem.W.dataLe false fun p : Addr × Str => PyData.str p.2)).map (·.2) = (ps9.map (·.2)).mergeSort leS := List.map_mergeSort (r := PySem.W.dataLe false fun p : Addr × Str => PyData.str p.2) (s := leS) (f := fun p : Addr × Str => p.2) (l := ps9) (fun _ _ _ _ => rfl)
      generalize ps9.mergeSort (PySem.W.dataLe false fun p : Addr × Str => PyData.str p.2) = pz at pmq em hli ⊢
      have t910 : TSame H9 H10 := fun a ys e => ext _ _ e fun _ z => by cases z
      obtain ⟨I, ip, pI⟩ := paired_perm pmq e92
      have is : I.Pairwise fun a b => ltb (sT a) (sT b) = true := by
        have nd := items_nd hF.inv wd need ra rm
        rw [it_texts e92] at nd
        have a := sortS_asc nd
        rw [← em, ← it_texts pI] at a
        exact List.pairwise_map.mp a
      have md := mo ip is
      have lI : I.length ≤ 1000 := by rw [ip.length_eq, List.length_append, List.length_map, List.length_map]; omega
      have F10 : FAt P w D.fC H10 x A Ts ch bn := F9.keep t910 fun a ha => by
        have : ∃ o, H9 a = some o ∧ ∀ ps, o ≠ .tbl ps := by
          rcases ha with rfl | ha
          · obtain ⟨dx, fs, h1, _⟩ := F9.hx
            exact ⟨_, h1, fun _ z => by cases z⟩
          · obtain ⟨o, h1, h2⟩ := F9.kind ha
            exact ⟨o, h1, fun _ z => by rw [z] at h2; rcases h2 with ⟨_, z⟩ | ⟨_, z⟩ | ⟨_, z⟩ | ⟨_, _, z⟩ <;> cases z⟩
        obtain ⟨o, h1, h2⟩ := this
        rw [h1]; exact ext _ _ h1 h2
      have B110 : ButT A.l H H10 := fun a v n e nt => ext _ _ (B19 a v n e) nt
      have s11 : Same H10 (upd H10 li (.lst (pz.map fun p => V.ref p.1))) := same_new hli _
      have eli : (upd H10 li (.lst (pz.map fun p => V.ref p.1))) li = some (.lst (pz.map fun p => V.ref p.1)) := upd_same
      have T11 : TB Pt (upd H10 li (.lst (pz.map fun p => V.ref p.1))) := LamX.Tabs.ext tb10 s11
      have F11 := F10.fresh s11
      have pI11 := paired_it (Same.t s11) (paired_it t910 pI)
      have B111 : ButT A.l H (upd H10 li (.lst (pz.map fun p => V.ref p.1))) := B110.trans (ButT.of (But.of s11))
      have t611 := fun a ys (e : H6 a = some (.tup ys)) => s11 _ _ (t910 _ _ (t69 _ _ e))
      have liN : ∀ a, (a = x ∨ a ∈ A.l) → a ≠ li := fun a ha => F10.ne_new ha hli
      generalize upd H10 li (.lst (pz.map fun p => V.ref p.1)) = H11 at eli T11 F11 pI11 B111 t611 ⊢
      have nk11 := nk6.keep t611
      obtain ⟨dx, fs, hx, z1, z2, z3, z4, z5, z6, z7, z8, z9⟩ := F11.hx
      obtain ⟨cvs, k1, k2⟩ := F11.conc
      have lcv : cvs.length = Ts.length := (paired_len k2).symm
      have lnk : (nkv Ts ch).length < sizeLine := by
        unfold nkv
        rw [List.length_map, List.length_zipIdx, List.length_zip]
        exact small1000 (by omega)
      -- the number
      refine ⟨_, rfl, x, D.fC, dx, _, _, rfl, hx, D.fC_cl, D.fC_nconcepts, z1, A.lc, _, rfl, .inl (SqL.of k1), _, rfl, x, D.fC, dx, _, _, rfl, hx, D.fC_cl, D.fC_n_numbers, z5, _, rfl, ky, A.dn, keyN row kc1, nkv Ts ch, rfl, rfl, nk11, keyN_depth _ _, F11.nums, hg, lnk, fun O dn12 nO => ?_⟩
      obtain ⟨⟨a1, a2, a3, a4, a5, a6, a7⟩, ⟨b1, b2, b3, b4, b5, b6⟩, ⟨c1, c2, c3, c4, c5⟩, ⟨d1, d2, d3, d4⟩, ⟨e1, e2, e3⟩, ⟨f1, f2⟩, g0⟩ := FA.nes F11.ne
      obtain ⟨ras, r1, r2⟩ := F11.rows
      obtain ⟨has, g1, g2⟩ := F11.kids
      obtain ⟨ms, m1, m2⟩ := F11.masks
      have lras : ras.length = Ts.length := (paired_len r2).symm
      have lhas : has.length = Ts.length := (paired_len g2).symm.trans F11.inv.len
      have lms : ms.length = Ts.length := (paired_len m2).symm
      have xN := F11.xN
      have memA : ∀ {a : Addr}, a ∈ [A.lc, A.lt, A.lr, A.lh, A.dn, A.dw, A.lm, A.db] → a ∈ A.l := fun h => h
      have xn : ∀ {a : Addr}, a ∈ A.l → x ≠ a := fun h z => xN (z ▸ h)
      have lin : ∀ {a : Addr}, a ∈ A.l → li ≠ a := fun h z => liN _ (.inr h) z.symm
      -- behind the number
      have B12 : But A.l H11 (upd H11 A.dn O) := But.put (memA (by simp))
      have x12 : (upd H11 A.dn O) x = some (.ins D.fC dx fs) := by rw [upd_ne (xn (memA (by simp)))]; exact hx
      have i12 : (upd H11 A.dn O) li = some (.lst (pz.map fun p => V.ref p.1)) := by rw [upd_ne (lin (memA (by simp)))]; exact eli
      have c12 : (upd H11 A.dn O) A.lc = some (.lst cvs) := by rw [upd_ne a4]; exact k1
      have t12 : (upd H11 A.dn O) A.lt = some (.lst (Ts.map fun t => V.str (sT t))) := by rw [upd_ne b3]; exact F11.texts
      have r12 : (upd H11 A.dn O) A.lr = some (.lst (ras.map V.ref)) := by rw [upd_ne c2]; exact r1
      have h12 : (upd H11 A.dn O) A.lh = some (.lst (has.map V.ref)) := by rw [upd_ne d1]; exact g1
      have m12 : (upd H11 A.dn O) A.lm = some (.lst (ms.map fun m => V.int (m : Nat))) := by rw [upd_ne e2.symm]; exact m1
      have w12 : (upd H11 A.dn O) A.dw = H11 A.dw := upd_ne e1.symm
      have g12 : (upd H11 A.dn O) A.db = some (.dK (bkv bn)) := by rw [upd_ne e3.symm]; exact F11.bits
      generalize upd H11 A.dn O = H12 at dn12 B12 x12 i12 c12 t12 r12 h12 m12 w12 g12 ⊢
      refine ⟨_, rfl, x, D.fC, dx, _, _, rfl, x12, D.fC_cl, D.fC_nconcepts, z1, .inl ⟨rfl, _, SqL.of c12⟩, _, rfl, li, rfl, ⟨_, SqL.of i12⟩, fun D13 hD13 => ?_⟩
      have lpz : pz.length = I.length := paired_len pI11
      have iD13 : li ≠ D13 := ne_of_none i12 hD13
      refine lc_it (walk_list (K := K) (a := li) (xs := pz.map fun p => V.ref p.1)) (fun i H' => But [D13] (upd H12 D13 (.lst [])) H' ∧ ∃ ws, H' D13 = some (.lst ws) ∧ Paired (TAt H') (I.take i) ws) ⟨But.refl _, [], upd_same, .nil⟩ (fun i H' _ hh => SqL.of (hh.1 _ _ (by simpa using iD13) (by rw [upd_ne iD13]; exact i12))) ?_ ?_
      · rintro i z H13 H13' hi ⟨b13, ws, w1, w2⟩ ⟨rfl, hz⟩
        rw [List.getElem?_map] at hz
        obtain ⟨p, hp, rfl⟩ := Option.map_eq_some_iff.mp hz
        obtain ⟨t, ht, v, j1, j2, j3⟩ := paired_get2 pI11 hp
        have s13 : Same H12 H13' := same_of b13 hD13
        have tt13 : TSame H11 H13' := fun a ys e => s13 _ _ (F11.tupL B12 _ _ e)
        have lw : ws.length = (I.take i).length := (paired_len w2).symm
        refine ⟨p.1, _, rfl, SqT.of (tt13 _ _ j1), rfl, _, _, rfl, _, _, rfl, rfl, rfl, _, rfl, ws, w1, by rw [lw, List.length_take]; exact small1000 (by omega), b13.trans (But.put (by simp)), _, upd_same, ?_⟩
        have tu := upd_t (o := .lst (ws ++ [v])) w1 fun _ z => by cases z
        rw [take_more ht]
        exact paired_append (pairT_t tu w2) (.cons ((j2.t tt13).t tu) .nil)
      rintro H13 ⟨b13, ws, w1, w2⟩
      rw [List.length_map, lpz, List.take_length] at w2
      have s13 : Same H12 H13 := same_of b13 hD13
      refine ⟨D13, I, ws, rfl, w1, w2, lI, fun H14 v s14 tv => ⟨A.lc, cvs, v, rfl, rfl, s14 _ _ (s13 _ _ c12), by rw [lcv]; exact small1000 (by omega), ?_⟩⟩
      have S14 : Same H12 H14 := s13.trans s14
      have tv : TAt H14 (conj I) v := by rw [← conjT_eq]; exact tv
      -- behind the concept
      have B15 : But A.l H11 (upd H14 A.lc (.lst (cvs ++ [v]))) := (B12.trans (But.of S14)).trans (But.put (memA (by simp)))
      have tc : TSame H14 (upd H14 A.lc (.lst (cvs ++ [v]))) := upd_t (S14 _ _ c12) fun _ z => by cases z
      have v15 := tv.t tc
      have dn15 := DN.keep (H' := upd H14 A.lc (.lst (cvs ++ [v]))) (dn12.keep (H' := H14) (by
        rcases dn12 with ⟨_, e⟩ | ⟨_, e, _⟩ <;> rw [e, S14 _ _ e]) (Same.t S14)) (by rw [upd_ne a4.symm]) tc
      have x15 : (upd H14 A.lc (.lst (cvs ++ [v]))) x = some (.ins D.fC dx fs) := by rw [upd_ne (xn (memA (by simp)))]; exact S14 _ _ x12
      have i15 : (upd H14 A.lc (.lst (cvs ++ [v]))) li = some (.lst (pz.map fun p => V.ref p.1)) := by rw [upd_ne (lin (memA (by simp)))]; exact S14 _ _ i12
      have c15 : (upd H14 A.lc (.lst (cvs ++ [v]))) A.lc = some (.lst (cvs ++ [v])) := upd_same
      have t15 : (upd H14 A.lc (.lst (cvs ++ [v]))) A.lt = some (.lst (Ts.map fun t => V.str (sT t))) := by rw [upd_ne a1.symm]; exact S14 _ _ t12
      have r15 : (upd H14 A.lc (.lst (cvs ++ [v]))) A.lr = some (.lst (ras.map V.ref)) := by rw [upd_ne a2.symm]; exact S14 _ _ r12
      have h15 : (upd H14 A.lc (.lst (cvs ++ [v]))) A.lh = some (.lst (has.map V.ref)) := by rw [upd_ne a3.symm]; exact S14 _ _ h12
      have m15 : (upd H14 A.lc (.lst (cvs ++ [v]))) A.lm = some (.lst (ms.map fun m => V.int (m : Nat))) := by rw [upd_ne a6.symm]; exact S14 _ _ m12
      have g15 : (upd H14 A.lc (.lst (cvs ++ [v]))) A.db = some (.dK (bkv bn)) := by rw [upd_ne a7.symm]; exact S14 _ _ g12
      have w15 : (upd H14 A.lc (.lst (cvs ++ [v]))) A.dw = H11 A.dw := by
        obtain ⟨kt', w1, _⟩ := F11.memo
        rw [upd_ne a5.symm, w1]; exact S14 _ _ (w12.trans w1)
      generalize upd H14 A.lc (.lst (cvs ++ [v])) = H15 at B15 v15 dn15 x15 i15 c15 t15 r15 h15 m15 g15 w15 ⊢
      -- its text
      refine ⟨_, rfl, x, D.fC, dx, _, _, rfl, x15, D.fC_cl, D.fC_ntexts, z2, .inl ⟨rfl, _, SqL.of t15⟩, fun u H' => u = .str (sT (conj I)) ∧ Same H15 H', ?_, ?_⟩
      · refine ⟨_, rfl, _, .inl ⟨_, SqL.of i15, rfl⟩, ?_⟩
        by_cases hI : I = []
        · refine iteFe (by
            cases hp : pz with
            | nil => rfl
            | cons p l => rw [hp, hI] at lpz; simp at lpz) ⟨by rw [hI]; exact congrArg V.str sT_atom.symm, Same.refl _⟩
        · refine iteTe (by
            cases hp : pz with
            | nil => exact absurd (List.eq_nil_of_length_eq_zero (by rw [← lpz, hp]; rfl)) hI
            | cons p l => rfl) ?_
          refine ⟨⟨_, rfl⟩, _, rfl, li, rfl, ⟨_, SqL.of i15⟩, fun D16 hD16 => ?_⟩
          have iD16 : li ≠ D16 := ne_of_none i15 hD16
          refine lc_it (walk_list (K := K) (a := li) (xs := pz.map fun p => V.ref p.1)) (fun i H' => But [D16] (upd H15 D16 (.lst [])) H' ∧ H' D16 = some (.lst (((I.take i).map sT).map V.str))) ⟨But.refl _, upd_same⟩ (fun i H' _ hh => SqL.of (hh.1 _ _ (by simpa using iD16) (by rw [upd_ne iD16]; exact i15))) ?_ ?_
          · rintro i z H16 H16' hi ⟨b16, h16⟩ ⟨rfl, hz⟩
            rw [List.getElem?_map] at hz
            obtain ⟨p, hp, rfl⟩ := Option.map_eq_some_iff.mp hz
            obtain ⟨t, ht, v', j1, j2, j3⟩ := paired_get2 pI11 hp
            have s16 : Same H15 H16' := same_of b16 hD16
            have tt16 : TSame H11 H16' := fun a ys e => s16 _ _ (F11.tupL B15 _ _ e)
            refine ⟨p.1, _, rfl, SqT.of (tt16 _ _ j1), rfl, _, _, rfl, _, _, rfl, rfl, rfl, _, rfl, _, h16, by rw [List.length_map, List.length_map, List.length_take]; exact small1000 (by omega), b16.trans (But.put (by simp)), ?_⟩
            rw [upd_same, take_more ht, List.map_append, List.map_append]
            show some (HO.lst (_ ++ [V.str p.2])) = some (HO.lst (_ ++ [V.str (sT t)]))
            rw [j3]
          rintro H16 ⟨b16, h16⟩
          rw [List.length_map, lpz, List.take_length] at h16
          exact ⟨_, D16, I.map sT, rfl, rfl, .inl (SqL.of h16), join_small hF.inv hF.blen wd md hsz lrow, by rw [join_conj md.m.it hI], same_of b16 hD16⟩
      rintro u H16 ⟨rfl, s16⟩
      refine ⟨A.lt, _, _, rfl, rfl, s16 _ _ t15, by rw [List.length_map]; exact small1000 (by omega), ?_⟩
      have B17 : But A.l H11 (upd H16 A.lt (.lst ((Ts.map fun t => V.str (sT t)) ++ [.str (sT (conj I))]))) := (B15.trans (But.of s16)).trans (But.put (memA (by simp)))
      have tl : TSame H16 (upd H16 A.lt (.lst ((Ts.map fun t => V.str (sT t)) ++ [.str (sT (conj I))]))) := upd_t (s16 _ _ t15) fun _ z => by cases z
      have v17 := (v15.t (Same.t s16)).t tl
      have dn17 := DN.keep (H' := upd H16 A.lt (.lst ((Ts.map fun t => V.str (sT t)) ++ [V.str (sT (conj I))]))) (dn15.keep (H' := H16) (by
        rcases dn15 with ⟨_, e⟩ | ⟨_, e, _⟩ <;> rw [e, s16 _ _ e]) (Same.t s16)) (by rw [upd_ne b3.symm]) tl
      have x17 : (upd H16 A.lt (.lst ((Ts.map fun t => V.str (sT t)) ++ [.str (sT (conj I))]))) x = some (.ins D.fC dx fs) := by rw [upd_ne (xn (memA (by simp)))]; exact s16 _ _ x15
      have c17 : (upd H16 A.lt (.lst ((Ts.map fun t => V.str (sT t)) ++ [.str (sT (conj I))]))) A.lc = some (.lst (cvs ++ [v])) := by rw [upd_ne a1]; exact s16 _ _ c15
      have t17 : (upd H16 A.lt (.lst ((Ts.map fun t => V.str (sT t)) ++ [.str (sT (conj I))]))) A.lt = some (.lst ((Ts.map fun t => V.str (sT t)) ++ [.str (sT (conj I))])) := upd_same
      have r17 : (upd H16 A.lt (.lst ((Ts.map fun t => V.str (sT t)) ++ [.str (sT (conj I))]))) A.lr = some (.lst (ras.map V.ref)) := by rw [upd_ne b1.symm]; exact s16 _ _ r15
      have h17 : (upd H16 A.lt (.lst ((Ts.map fun t => V.str (sT t)) ++ [.str (sT (conj I))]))) A.lh = some (.lst (has.map V.ref)) := by rw [upd_ne b2.symm]; exact s16 _ _ h15
      have m17 : (upd H16 A.lt (.lst ((Ts.map fun t => V.str (sT t)) ++ [.str (sT (conj I))]))) A.lm = some (.lst (ms.map fun m => V.int (m : Nat))) := by rw [upd_ne b5.symm]; exact s16 _ _ m15
      have g17 : (upd H16 A.lt (.lst ((Ts.map fun t => V.str (sT t)) ++ [.str (sT (conj I))]))) A.db = some (.dK (bkv bn)) := by rw [upd_ne b6.symm]; exact s16 _ _ g15
      have w17 : (upd H16 A.lt (.lst ((Ts.map fun t => V.str (sT t)) ++ [.str (sT (conj I))]))) A.dw = H11 A.dw := by
        obtain ⟨kt', w1, _⟩ := F11.memo
        rw [upd_ne b4.symm, w1]; exact s16 _ _ (w15.trans w1)
      generalize upd H16 A.lt (.lst ((Ts.map fun t => V.str (sT t)) ++ [.str (sT (conj I))])) = H17 at B17 v17 dn17 x17 c17 t17 r17 h17 m17 g17 w17 ⊢
      -- its row
      have row17 := F11.tupL B17 _ _ (t611 _ _ hrow6)
      refine ⟨_, rfl, x, D.fC, dx, _, _, rfl, x17, D.fC_cl, D.fC_nrows, z3, .inl ⟨rfl, _, SqL.of r17⟩, _, rfl, A.lr, _, _, rfl, rfl, r17, by rw [List.length_map, lras]; exact small1000 (by omega), ?_⟩
      have B18 : But A.l H11 (upd H17 A.lr (.lst (ras.map V.ref ++ [.ref tr]))) := B17.trans (But.put (memA (by simp)))
      have tr18 : TSame H17 (upd H17 A.lr (.lst (ras.map V.ref ++ [.ref tr]))) := upd_t r17 fun _ z => by cases z
      have v18 := v17.t tr18
      have dn18 := dn17.keep (H' := upd H17 A.lr (.lst (ras.map V.ref ++ [V.ref tr]))) (by rw [upd_ne c2.symm]) tr18
      have x18 : (upd H17 A.lr (.lst (ras.map V.ref ++ [.ref tr]))) x = some (.ins D.fC dx fs) := by rw [upd_ne (xn (memA (by simp)))]; exact x17
      have c18 : (upd H17 A.lr (.lst (ras.map V.ref ++ [.ref tr]))) A.lc = some (.lst (cvs ++ [v])) := by rw [upd_ne a2]; exact c17
      have t18 : (upd H17 A.lr (.lst (ras.map V.ref ++ [.ref tr]))) A.lt = some (.lst ((Ts.map fun t => V.str (sT t)) ++ [.str (sT (conj I))])) := by rw [upd_ne b1]; exact t17
      have r18 : (upd H17 A.lr (.lst (ras.map V.ref ++ [.ref tr]))) A.lr = some (.lst (ras.map V.ref ++ [.ref tr])) := upd_same
      have h18 : (upd H17 A.lr (.lst (ras.map V.ref ++ [.ref tr]))) A.lh = some (.lst (has.map V.ref)) := by rw [upd_ne c1.symm]; exact h17
      have m18 : (upd H17 A.lr (.lst (ras.map V.ref ++ [.ref tr]))) A.lm = some (.lst (ms.map fun m => V.int (m : Nat))) := by rw [upd_ne c4.symm]; exact m17
      have g18 : (upd H17 A.lr (.lst (ras.map V.ref ++ [.ref tr]))) A.db = some (.dK (bkv bn)) := by rw [upd_ne c5.symm]; exact g17
      have w18 : (upd H17 A.lr (.lst (ras.map V.ref ++ [.ref tr]))) A.dw = H11 A.dw := by rw [upd_ne c3.symm]; exact w17
      generalize upd H17 A.lr (.lst (ras.map V.ref ++ [.ref tr])) = H18 at B18 v18 dn18 x18 c18 t18 r18 h18 m18 g18 w18 ⊢
      -- its children
      have eky18 := F11.tupL B18 _ _ (t611 _ _ eky)
      refine ⟨_, rfl, x, D.fC, dx, _, _, rfl, x18, D.fC_cl, D.fC_nchildren, z4, .inl ⟨rfl, _, SqL.of h18⟩, _, rfl, ky, _, _, V.ref kt, rfl, rfl, SqT.of eky18, atI_nat (j := 1) rfl, A.lh, _, _, rfl, rfl, h18, by rw [List.length_map, lhas]; exact small1000 (by omega), ?_⟩
      have B1b : But A.l H11 (upd H18 A.lh (.lst (has.map V.ref ++ [.ref kt]))) := B18.trans (But.put (memA (by simp)))
      have th19 : TSame H18 (upd H18 A.lh (.lst (has.map V.ref ++ [.ref kt]))) := upd_t h18 fun _ z => by cases z
      have v19 := v18.t th19
      have dn19 := dn18.keep (H' := upd H18 A.lh (.lst (has.map V.ref ++ [V.ref kt]))) (by rw [upd_ne d1.symm]) th19
      have x19 : (upd H18 A.lh (.lst (has.map V.ref ++ [.ref kt]))) x = some (.ins D.fC dx fs) := by rw [upd_ne (xn (memA (by simp)))]; exact x18
      have c19 : (upd H18 A.lh (.lst (has.map V.ref ++ [.ref kt]))) A.lc = some (.lst (cvs ++ [v])) := by rw [upd_ne a3]; exact c18
      have t19 : (upd H18 A.lh (.lst (has.map V.ref ++ [.ref kt]))) A.lt = some (.lst ((Ts.map fun t => V.str (sT t)) ++ [.str (sT (conj I))])) := by rw [upd_ne b2]; exact t18
      have r19 : (upd H18 A.lh (.lst (has.map V.ref ++ [.ref kt]))) A.lr = some (.lst (ras.map V.ref ++ [.ref tr])) := by rw [upd_ne c1]; exact r18
      have h19 : (upd H18 A.lh (.lst (has.map V.ref ++ [.ref kt]))) A.lh = some (.lst (has.map V.ref ++ [.ref kt])) := upd_same
      have m19 : (upd H18 A.lh (.lst (has.map V.ref ++ [.ref kt]))) A.lm = some (.lst (ms.map fun m => V.int (m : Nat))) := by rw [upd_ne d3.symm]; exact m18
      have g19 : (upd H18 A.lh (.lst (has.map V.ref ++ [.ref kt]))) A.db = some (.dK (bkv bn)) := by rw [upd_ne d4.symm]; exact g18
      have w19 : (upd H18 A.lh (.lst (has.map V.ref ++ [.ref kt]))) A.dw = H11 A.dw := by rw [upd_ne d2.symm]; exact w18
      generalize upd H18 A.lh (.lst (has.map V.ref ++ [.ref kt])) = H19 at B1b v19 dn19 x19 c19 t19 r19 h19 m19 g19 w19 ⊢
      -- its mask
      have row19 := F11.tupL B1b _ _ (t611 _ _ hrow6)
      have FB19 : FB D.fC H19 x A bn := ⟨⟨dx, fs, x19, z1, z2, z3, z4, z5, z6, z7, z8, z9⟩, g19, hF.inv.bnd, hF.voc⟩
      refine ⟨_, rfl, x, D.fC, dx, _, _, rfl, x19, D.fC_cl, D.fC_n_masks, z7, .inl ⟨rfl, _, SqL.of m19⟩, _, rfl, x, dx, _, rfl, x19, z9 _ (by decide +kernel), _, rfl, x, tr, row, A, bn, rfl, FB19, row19, fun s hs => hvn s ((rm s).mp hs), fun H20 m bn' b20 FB20 hmore rin bits => ?_⟩
      obtain ⟨more, rfl⟩ := hmore
      have B20 : But A.l H19 H20 := fun a v n e => b20 a v (fun z => n (by rw [List.mem_singleton.mp z]; exact memA (by simp))) e
      have m20 : H20 A.lm = some (.lst (ms.map fun m => V.int (m : Nat))) := b20 _ _ (by simpa using g0) m19
      have tt20 : TSame H19 H20 := fun a ys e => b20 a _ (fun z => by rw [List.mem_singleton.mp z, g19] at e; cases e) e
      have tm21 : TSame H20 (upd H20 A.lm (.lst ((ms.map fun m => V.int (m : Nat)) ++ [.int (m : Nat)]))) := upd_t m20 fun _ z => by cases z
      have B21 : But A.l H11 (upd H20 A.lm (.lst ((ms.map fun m => V.int (m : Nat)) ++ [.int (m : Nat)]))) := (B1b.trans B20).trans (But.put (memA (by simp)))
      have tt21 := F11.tupL B21
      have dn20 := dn19.keep (H' := H20) (by rcases dn19 with ⟨_, e⟩ | ⟨_, e, _⟩ <;> rw [e, b20 _ _ (by simpa using e3) e]) tt20
      have dn21 := dn20.keep (H' := upd H20 A.lm (.lst ((ms.map fun m => V.int (m : Nat)) ++ [V.int (m : Nat)]))) (by rw [upd_ne e2]) tm21
      have F21 : FAt P w D.fC (upd H20 A.lm (.lst ((ms.map fun m => V.int (m : Nat)) ++ [.int (m : Nat)]))) x A (Ts ++ [conj I]) (ch ++ [kc1]) (bn ++ more) := by
        refine F11.grow (v := v) (tr := tr) (kt := kt) (m := m) tt21 ?_ (fun cvs' e => ?_) ?_ (fun ys e => ?_) (fun ys e => ?_) (fun ys e => ?_) ?_ ?_ ?_ (hF.inv.snoc md.m (md.m.absent hF.inv hg) md.cw ra FB20.bnd rin lT (by show cz _ + 1 ≤ 4000; have := md.sz; omega) (made_dp md kc ip hdp)) FB20.voc.2 ?_ ?_ ?_ ?_
        · rw [upd_ne (xn (memA (by simp))), hx]; exact b20 _ _ (by simpa using xn (memA (by simp))) x19
        · rw [k1] at e; cases e
          rw [upd_ne a6]; exact b20 _ _ (by simpa using a7) c19
        · rw [upd_ne b5]; exact b20 _ _ (by simpa using b6) t19
        · rw [r1] at e; cases e
          rw [upd_ne c4]; exact b20 _ _ (by simpa using c5) r19
        · rw [g1] at e; cases e
          rw [upd_ne d3]; exact b20 _ _ (by simpa using d4) h19
        · rw [m1] at e; cases e
          exact upd_same
        · rw [md.m.nm, ← lcv]; exact dn21
        · obtain ⟨kt', w1, _⟩ := F11.memo
          rw [upd_ne f1, w1]; exact b20 _ _ (by simpa using f2) (w19.trans w1)
        · rw [upd_ne g0.symm]; exact FB20.bits
        · exact (v19.t tt20).t tm21
        · rw [md.m.nm]; exact tt21 _ _ (t611 _ _ hrow6)
        · exact kid6.t fun a ys e => tt21 _ _ (t611 _ _ e)
        · exact fun j => by rw [md.m.nm]; exact bits j
      exact ⟨A.lm, _, _, rfl, rfl, m20, by rw [List.length_map, lms]; exact small1000 (by omega), ⟨_, rfl⟩, Ts.length, Ts ++ [conj I], ch ++ [kc1], bn ++ more, I, B111.trans (ButT.of B21), F11.tb T11 B21, F21, ⟨[conj I], rfl, Nat.le_refl _⟩, by simp, md, nk11.keep tt21, by rw [nkv_snoc F11.inv.len, md.m.nm]; exact getN_snoc hg⟩
  · rintro σ' H' ⟨⟨o7, rfl⟩, i, Ts', ch', bn', I, b', T', F', mr, hi, md, nk', hg'⟩
    obtain ⟨dx', fs', hx', v1, v2, v3, v4, v5, v6, v7, v8, v9⟩ := F'.hx
    exact ⟨_, rfl, x, D.fC, dx', _, _, rfl, hx', D.fC_cl, D.fC_n_numbers, v5, _, rfl, ky, A.dn, keyN row kc1, nkv Ts' ch', .int (i : Nat), rfl, rfl, nk', keyN_depth _ _, F'.nums, hg', q H' i (conj I) Ts' ch' bn' b' T' F' mr hi md.m.rd md.eqv md.cw md.sz⟩
end
end K1
namespace K1
open PySem L2 K8
/-! what stands for a concept among the forms -/
mutual
theorem dT_kids {n : Nat} : ∀ {t : T}, (∀ p ∈ gch t, dT p.2 + 1 ≤ n) → dT t ≤ n
  | .atom _, _ => by rw [dT]; exact Nat.zero_le _
  | .ex r c, h => by rw [dT]; exact h (r, c) (by rw [gch]; simp)
  | .and l, h => by rw [dT]; exact dTs_kids (by rw [gch] at h; exact h)
theorem dTs_kids {n : Nat} : ∀ {l : List T}, (∀ p ∈ gchs l, dT p.2 + 1 ≤ n) → dTs l ≤ n
  | [], _ => by rw [dTs]; exact Nat.zero_le _
  | t :: l, h => by
    rw [gchs] at h
    rw [dTs]
    exact Nat.max_le.mpr ⟨dT_kids fun p hp => h p (List.mem_append_left _ hp), dTs_kids fun p hp => h p (List.mem_append_right _ hp)⟩
end
theorem dT_le : ∀ (n : Nat) {t u : T}, dT t ≤ n → Le t u → dT u ≤ n
  | 0, t, u, h, l => dT_kids fun p hp => by
    obtain ⟨a, ha, _⟩ := (Le.iff.mp l).2 p hp
    have := dT_gch ha
    omega
  | n + 1, t, u, h, l => dT_kids fun p hp => by
    obtain ⟨a, ha, la⟩ := (Le.iff.mp l).2 p hp
    have h1 := dT_gch ha
    have := dT_le n (t := a) (u := p.2) (by have h2 : dT a < dT t := h1; omega) la
    omega
mutual
/-- nodes -/
def ndT : T → Nat
  | .atom _ => 1
  | .ex _ c => ndT c + 1
  | .and l => ndTs l
def ndTs : List T → Nat
  | [] => 0
  | t :: l => ndT t + ndTs l
end
mutual
/-- how deep _gather and of go -/
def htT : T → Nat
  | .atom _ => 0
  | .ex _ c => htT c + 2
  | .and l => htTs l + 1
def htTs : List T → Nat
  | [] => 0
  | t :: l => max (htT t) (htTs l)
end
theorem htTs_mem : ∀ {l : List T} {t : T}, t ∈ l → htT t ≤ htTs l
  | a :: l, t, h => by
    rw [htTs]
    rcases List.mem_cons.mp h with rfl | h
    · exact Nat.le_max_left _ _
    · exact Nat.le_trans (htTs_mem h) (Nat.le_max_right _ _)
mutual
/-- the words of a concept are words of V -/
def okN (V : List Str) : T → Prop
  | .atom s => s = "all" ∨ (wordOk s = true ∧ s ≠ "all" ∧ s ∈ V)
  | .ex r c => wordOk r = true ∧ okN V c
  | .and l => okNs V l
def okNs (V : List Str) : List T → Prop
  | [] => True
  | t :: l => okN V t ∧ okNs V l
end
theorem okNs_mem {V : List Str} : ∀ {l : List T} {t : T}, okNs V l → t ∈ l → okN V t
  | a :: l, t, h, m => by
    rw [okNs] at h
    rcases List.mem_cons.mp m with rfl | m
    · exact h.1
    · exact okNs_mem h.2 m
mutual
theorem okN_gnm {V : List Str} : ∀ {t : T}, okN V t → ∀ s ∈ gnm t, wordOk s = true ∧ s ≠ "all" ∧ s ∈ V
  | .atom a, h, s, hs => by
    rw [gnm] at hs
    split at hs
    · cases hs
    · rw [List.mem_singleton.mp hs]
      rw [okN] at h
      exact h.resolve_left (by assumption)
  | .ex r c, _, s, hs => by rw [gnm] at hs; cases hs
  | .and l, h, s, hs => by rw [gnm] at hs; rw [okN] at h; exact okNs_gnm h s hs
theorem okNs_gnm {V : List Str} : ∀ {l : List T}, okNs V l → ∀ s ∈ gnms l, wordOk s = true ∧ s ≠ "all" ∧ s ∈ V
  | [], _, s, hs => by rw [gnms] at hs; cases hs
  | t :: l, h, s, hs => by
    rw [gnms] at hs
    rw [okNs] at h
    rcases List.mem_append.mp hs with z | z
    · exact okN_gnm h.1 s z
    · exact okNs_gnm h.2 s z
end
mutual
theorem okN_gch {V : List Str} : ∀ {t : T}, okN V t → ∀ p ∈ gch t, wordOk p.1 = true ∧ okN V p.2
  | .atom a, h, s, hs => by rw [gch] at hs; cases hs
  | .ex r c, h, s, hs => by rw [gch] at hs; rw [okN] at h; rw [List.mem_singleton.mp hs]; exact h
  | .and l, h, s, hs => by rw [gch] at hs; rw [okN] at h; exact okNs_gch h s hs
theorem okNs_gch {V : List Str} : ∀ {l : List T}, okNs V l → ∀ p ∈ gchs l, wordOk p.1 = true ∧ okN V p.2
  | [], _, s, hs => by rw [gchs] at hs; cases hs
  | t :: l, h, s, hs => by
    rw [gchs] at hs
    rw [okNs] at h
    rcases List.mem_append.mp hs with z | z
    · exact okN_gch h.1 s z
    · exact okNs_gch h.2 s z
end
mutual
theorem ndT_g : ∀ t : T, (gnm t).length + (gch t).length ≤ ndT t
  | .atom a => by
    rw [gnm, gch, ndT]
    split <;> simp
  | .ex r c => by rw [gnm, gch, ndT]; simp
  | .and l => by rw [gnm, gch, ndT]; exact ndTs_g l
theorem ndTs_g : ∀ l : List T, (gnms l).length + (gchs l).length ≤ ndTs l
  | [] => by rw [gnms, gchs, ndTs]; simp
  | t :: l => by
    have h1 := ndT_g t
    have h2 := ndTs_g l
    rw [gnms, gchs, ndTs, List.length_append, List.length_append]
    omega
end
def FormOf (Ts : List T) (i : Nat) (t : T) : Prop := ∃ X, Ts[i]? = some X ∧ Rd X ∧ Eqv X t ∧ CW X ∧ cz X ≤ cz t
theorem FormOf.more {Ts : List T} {i : Nat} {t : T} (h : FormOf Ts i t) (m : List T) : FormOf (Ts ++ m) i t := by
  obtain ⟨X, h1, h2⟩ := h
  exact ⟨X, by rw [List.getElem?_append_left (List.getElem?_eq_some_iff.mp h1).1]; exact h1, h2⟩
def KidsOf (Ts : List T) (Cs : Ch) (cs : List (Str × T)) : Prop := Paired (fun (p : Str × Nat) (q : Str × T) => p.1 = q.1 ∧ FormOf Ts p.2 q.2) Cs cs
theorem KidsOf.more {Ts : List T} {Cs : Ch} {cs : List (Str × T)} (h : KidsOf Ts Cs cs) (m : List T) : KidsOf (Ts ++ m) Cs cs := paired_imp (fun _ _ z => ⟨z.1, z.2.more m⟩) h
theorem KidsOf.all {Ts : List T} : ∀ {Cs : Ch} {cs : List (Str × T)}, KidsOf Ts Cs cs → (∀ p ∈ Cs, p.2 < Ts.length) ∧ (∀ p ∈ Cs, ∃ q ∈ cs, p.1 = q.1 ∧ Eqv (tn Ts p.2) q.2) ∧ (∀ q ∈ cs, ∃ p ∈ Cs, p.1 = q.1 ∧ Eqv (tn Ts p.2) q.2) ∧ sumT (chT Ts Cs) ≤ sumT cs
  | _, _, .nil => ⟨(fun p h => by cases h), (fun p h => by cases h), (fun p h => by cases h), Nat.le_refl _⟩
  | _, _, .cons (a := p) (l₁ := Cs) (b := q) (l₂ := cs) ⟨e, X, h1, h2, h3, h4, h5⟩ h => by
    obtain ⟨i1, i2, i3, i4⟩ := KidsOf.all h
    have ex : tn Ts p.2 = X := tn_at h1
    refine ⟨fun r hr => ?_, fun r hr => ?_, fun r hr => ?_, ?_⟩
    · rcases List.mem_cons.mp hr with rfl | hr
      · exact (List.getElem?_eq_some_iff.mp h1).1
      · exact i1 r hr
    · rcases List.mem_cons.mp hr with rfl | hr
      · exact ⟨q, List.mem_cons_self, e, by rw [ex]; exact h3⟩
      · obtain ⟨q', m, z⟩ := i2 r hr
        exact ⟨q', List.mem_cons_of_mem _ m, z⟩
    · rcases List.mem_cons.mp hr with rfl | hr
      · exact ⟨p, List.mem_cons_self, e, by rw [ex]; exact h3⟩
      · obtain ⟨q', m, z⟩ := i3 r hr
        exact ⟨q', List.mem_cons_of_mem _ m, z⟩
    · show sumT ((p.1, tn Ts p.2) :: chT Ts Cs) ≤ sumT (q :: cs)
      unfold sumT at i4 ⊢
      simp only [List.map_cons, List.sum_cons]
      rw [ex]
      have h6 : tz X ≤ tz q.2 := Nat.succ_le_succ h5
      omega
theorem kids_eqv {Ts : List T} {Cs : Ch} {t : T} (h : KidsOf Ts Cs (gch t)) (na : ∀ s ∈ gnm t, s ≠ "all") : Eqv (raw (gnm t) (chT Ts Cs)) t := by
  obtain ⟨_, i2, i3, _⟩ := h.all
  constructor
  · refine Le.iff.mpr ⟨fun s hs => (gnm_raw na s).mpr hs, fun q hq => ?_⟩
    obtain ⟨p, hp, e1, e2⟩ := i3 q hq
    exact ⟨tn Ts p.2, (gch_raw _).mpr (List.mem_map.mpr ⟨p, hp, by rw [e1]⟩), e2.1⟩
  · refine Le.iff.mpr ⟨fun s hs => (gnm_raw na s).mp hs, fun q hq => ?_⟩
    obtain ⟨p, hp, rfl⟩ := List.mem_map.mp ((gch_raw q).mp hq)
    obtain ⟨q', m, e1, e2⟩ := i2 p hp
    exact ⟨q'.2, by show (p.1, q'.2) ∈ gch t; rw [e1]; exact m, e2.2⟩
theorem kids_dp {Ts : List T} {Cs : Ch} {t : T} (h : KidsOf Ts Cs (gch t)) {n : Nat} (d : dT t ≤ n) : ∀ p ∈ chT Ts Cs, dT p.2 + 1 ≤ n := fun p hp => by
  obtain ⟨c, hc, rfl⟩ := List.mem_map.mp hp
  obtain ⟨q, hq, e1, e2⟩ := h.all.2.1 c hc
  have h1 := dT_gch hq
  have h2 := dT_le (dT q.2) (Nat.le_refl _) e2.2
  show dT (tn Ts c.2) + 1 ≤ n
  omega
end K1
namespace K1
open PySem L2 K8
theorem FAt.tupB {P : Program} {w : World} {C : Addr} {H H' : Hp} {x : Addr} {A : FA} {Ts : List T} {ch : List Ch} {bn : List Str} (h : FAt P w C H x A Ts ch bn) (b : ButT A.l H H') : TSame H H' := fun a ys e => b _ _ (h.notTup e) e fun _ z => by cases z
theorem gnms_app (a b : List T) : gnms (a ++ b) = gnms a ++ gnms b := by rw [gnms_eq, gnms_eq, gnms_eq, List.flatMap_append]
theorem gchs_app (a b : List T) : gchs (a ++ b) = gchs a ++ gchs b := by rw [gchs_eq, gchs_eq, gchs_eq, List.flatMap_append]
theorem czs_app (a b : List T) : czs (a ++ b) = czs a + czs b := by rw [czs_gch, czs_gch, czs_gch, gchs_app, sumT_app]
section
variable {P : Program} {w : World} {K : PySem.W.Frag} {mg : Str → Option Value} {base : Heap}
/-! ### _gather, of -/
/-- what is asked of a concept that goes in -/
structure Into (A : FA) (n : Nat) (Ts : List T) (t : T) : Prop where
  cw : CW t
  ok : okN A.vn t
  ht : htT t < n
  dp : dT t ≤ 11
  nd : ndT t ≤ 1000
  sz : Ts.length + cz t + 1 ≤ 1000
def spGather (P : Program) (w : World) (C Pt : Addr) (n : Nat) : Sp := fun vs H Q _ => ∃ (x : Addr) (v : V) (pn pc : Addr) (t : T) (N : List Str) (Cs : Ch) (A : FA) (Ts : List T) (ch : List Ch) (bn : List Str), vs = [.ref x, v, .ref pn, .ref pc] ∧ FAt P w C H x A Ts ch bn ∧ TB Pt H ∧ TAt H t v ∧ Into A n Ts t ∧ H pn = some (.lst (N.map V.str)) ∧ TupL chV H pc Cs ∧ pn ∉ A.l ∧ pc ∉ A.l ∧ pn ≠ pc ∧ N.length + (gnm t).length ≤ 1000 ∧ Cs.length + (gch t).length ≤ 1000 ∧
  ∀ H' Ts' ch' bn' Cs', ButT (pn :: pc :: A.l) H H' → TB Pt H' → FAt P w C H' x A Ts' ch' bn' → (∃ more, Ts' = Ts ++ more ∧ more.length ≤ cz t) → H' pn = some (.lst ((N ++ gnm t).map V.str)) → TupL chV H' pc (Cs ++ Cs') → KidsOf Ts' Cs' (gch t) → Q .non H'
def spOf (P : Program) (w : World) (C Pt : Addr) (n : Nat) : Sp := fun vs H Q _ => ∃ (x : Addr) (v : V) (t : T) (A : FA) (Ts : List T) (ch : List Ch) (bn : List Str), vs = [.ref x, v] ∧ FAt P w C H x A Ts ch bn ∧ TB Pt H ∧ TAt H t v ∧ Into A n Ts t ∧
  ∀ H' i Ts' ch' bn', ButT A.l H H' → TB Pt H' → FAt P w C H' x A Ts' ch' bn' → (∃ more, Ts' = Ts ++ more ∧ more.length ≤ cz t + 1) → FormOf Ts' i t → Q (.int (i : Nat)) H'
theorem ok_of (D : Defs K mg) {cM Pt : Addr} (M : MkC D cM) (hTB : LamX.TabB base mg cM Pt) (n : Nat) (GG : FnOk P w K mg base CX0 (28 + 2 * n) D.d_f_gather.f D.d_f_gather.fd ["self", "concept", "names", "children"] (spGather P w D.fC Pt n)) : FnOk P w K mg base CX0 (29 + 2 * n) D.d_f_of.f D.d_f_of.fd ["self", "concept"] (spOf P w D.fC Pt n) := by
  have GM := ok_make (P := P) (w := w) (base := base) D M hTB
  rw [show 29 + 2 * n = (28 + 2 * n) + 1 by omega]
  refine D.d_f_of.F.ok sc_f_of (fun vs H Q E h => ?_) (fun cdv A outer s H vs Q E hr h => ?_)
  · obtain ⟨x, v, t, A, Ts, ch, bn, rfl, _⟩ := h
    rfl
  obtain ⟨x, v, t, A, Ts, ch, bn, rfl, hF, hT, hv, I, q⟩ := h
  have hrM : Room 28 _ := hr.mono (by omega)
  refine ⟨_, (pss_cons (ps_par (i := 2) (j := 3) rfl sc_f_of.nd rfl rfl (by decide) rfl rfl (pa_cons (pe_lst pa_nil) (pa_cons (pe_lst pa_nil) pa_nil)) (by rfl))
      (pss_cons (ps_expr (pe_meth (pv 0) D.fC_cl D.d_f_gather.me GG hr D.d_f_gather.b .nil pass0 (pa_cons (pv 1) (pa_cons (pv 2) (pa_cons (pv 3) pa_nil)))))
      (pss_one (ps_ret (pe_meth (pv 0) D.fC_cl D.d_f_make.me GM hrM D.d_f_make.b .nil pass0 (pa_cons (pv 2) (pa_cons (pv 3) pa_nil))))))), ?_⟩
  refine ⟨(by show 0 ≤ sizeLine; decide), fun pn hpn => ⟨(by show 0 ≤ sizeLine; decide), fun pc hpc => ?_⟩⟩
  have s2 : Same H (upd (upd H pn (.lst [])) pc (.lst [])) := (same_new hpn _).trans (same_new hpc _)
  have n2 : (upd (upd H pn (.lst [])) pc (.lst [])) pn = some (.lst []) := same_new hpc _ _ _ upd_same
  have c2 : (upd (upd H pn (.lst [])) pc (.lst [])) pc = some (.lst []) := upd_same
  have pcH : H pc = none := none_sameT (same_new hpn _) hpc
  have npc : pn ≠ pc := ne_of_none (upd_same (H := H) (a := pn) (o := .lst [])) hpc
  generalize upd (upd H pn (.lst [])) pc (.lst []) = H2 at s2 n2 c2 ⊢
  have F2 := hF.fresh s2
  obtain ⟨dx, fs, hx, z1, z2, z3, z4, z5, z6, z7, z8, z9⟩ := F2.hx
  have lg := ndT_g t
  have ln := I.nd
  refine ⟨_, _, rfl, _, rfl, x, dx, _, rfl, hx, z9 _ (by decide +kernel), _, rfl, _, rfl, _, rfl, x, v, pn, pc, t, [], [], A, Ts, ch, bn, rfl, F2, LamX.Tabs.ext hT s2, hv.same s2, I, n2, TupL.nil c2, fun z => hF.ne_new (.inr z) hpn rfl, fun z => hF.ne_new (.inr z) pcH rfl, npc, by simp; omega, by simp; omega, fun H3 Ts' ch' bn' Cs' b3 T3 F3 mr hn3 hc3 kd => ?_⟩
  obtain ⟨k1, k2, k3, k4⟩ := kd.all
  have lc : Cs'.length = (gch t).length := paired_len kd
  have na : ∀ s ∈ gnm t, s ≠ "all" := fun s hs => (okN_gnm I.ok s hs).2.1
  have wd : Wds Ts' (gnm t) Cs' := ⟨fun s hs => (okN_gnm I.ok s hs).1, na, fun p hp => by
    obtain ⟨q, hq, e, _⟩ := k2 p hp
    rw [e]; exact (okN_gch I.ok q hq).1, k1⟩
  obtain ⟨m1, rfl, lm1⟩ := mr
  obtain ⟨dx3, fs3, hx3, y1, y2, y3, y4, y5, y6, y7, y8, y9⟩ := F3.hx
  have hsz := I.sz
  have hcz := cz_gch t
  refine ⟨_, rfl, x, dx3, _, rfl, hx3, y9 _ (by decide +kernel), _, rfl, _, rfl, x, pn, pc, gnm t, Cs', A, _, ch', bn', rfl, F3, T3, hn3, hc3, wd, fun s hs => (okN_gnm I.ok s hs).2.2, by omega, by rw [List.length_append]; omega, by omega, kids_dp kd I.dp, fun H4 i X Ts4 ch4 bn4 b4 T4 F4 mr4 hi rdX ev cwX czX => ?_⟩
  obtain ⟨m2, rfl, lm2⟩ := mr4
  refine q H4 i _ ch4 bn4 (fun a o n e nt => b4 a o n (b3 a o (by simp; exact ⟨ne_of_none e hpn, ne_of_none e pcH, n⟩) (s2 _ _ e) nt) nt) T4 F4 ⟨m1 ++ m2, List.append_assoc _ _ _, by rw [List.length_append]; omega⟩ ⟨X, hi, rdX, ev.trans (kids_eqv kd na), cwX, by omega⟩
end
end K1
namespace K1
open PySem L2 K8
theorem czs_take {l : List T} : ∀ i, czs (l.take i) ≤ czs l := fun i => by
  have := czs_app (l.take i) (l.drop i)
  rw [List.take_append_drop] at this
  omega
theorem ndTs_mem : ∀ {l : List T} {t : T}, t ∈ l → ndT t ≤ ndTs l
  | a :: l, t, h => by
    rw [ndTs]
    rcases List.mem_cons.mp h with rfl | h
    · omega
    · have := ndTs_mem h; omega
theorem dTs_mem : ∀ {l : List T} {t : T}, t ∈ l → dT t ≤ dTs l
  | a :: l, t, h => by
    rw [dTs]
    rcases List.mem_cons.mp h with rfl | h
    · exact Nat.le_max_left _ _
    · exact Nat.le_trans (dTs_mem h) (Nat.le_max_right _ _)
theorem tb_lst {Pt : Addr} {H : Hp} {a : Addr} {xs : List V} {o : HO} (e : H a = some (.lst xs)) (t : TB Pt H) : TB Pt (upd H a o) := fun p hp => by
  obtain ⟨ps, h1, h2, h3⟩ := t p hp
  refine ⟨ps, by rw [upd_ne fun z => by rw [z, e] at h1; cases h1]; exact h1, h2, fun pos cv hc => ?_⟩
  obtain ⟨c, e1, e2⟩ := h3 pos cv hc
  refine ⟨c, e1, ?_⟩
  rw [upd_ne fun z => by rw [z, e] at e2; unfold LamX.CodeO at e2; cases e2]
  exact e2
theorem FAt.nx {P : Program} {w : World} {C : Addr} {H : Hp} {x : Addr} {A : FA} {Ts : List T} {ch : List Ch} {bn : List Str} (h : FAt P w C H x A Ts ch bn) {b : Addr} {xs : List V} (e : H b = some (.lst xs)) (n : b ∉ A.l) : ∀ a, (a = x ∨ a ∈ A.l) → a ≠ b := fun a ha z => by
  rcases ha with rfl | ha
  · obtain ⟨dx, fs, h1, _⟩ := h.hx
    rw [z, e] at h1; cases h1
  · exact n (z ▸ ha)
section
variable {P : Program} {w : World} {K : PySem.W.Frag} {mg : Str → Option Value} {base : Heap}
theorem ok_gather (D : Defs K mg) {cM Pt : Addr} (M : MkC D cM) (hTB : LamX.TabB base mg cM Pt) : ∀ n : Nat, FnOk P w K mg base CX0 (28 + 2 * n) D.d_f_gather.f D.d_f_gather.fd ["self", "concept", "names", "children"] (spGather P w D.fC Pt n)
  | 0 => none_left fun _ _ _ _ h => by
    obtain ⟨x, v, pn, pc, t, N, Cs, A, Ts, ch, bn, _, _, _, _, I, _⟩ := h
    exact absurd I.ht (Nat.not_lt_zero _)
  | n + 1 => by
    have GG := ok_gather D M hTB n
    have GO := ok_of (P := P) (w := w) D M hTB n GG
    rw [show 28 + 2 * (n + 1) = (29 + 2 * n) + 1 by omega]
    refine D.d_f_gather.F.ok sc_f_gather (fun vs H Q E h => ?_) (fun cdv A outer s H vs Q E hr h => ?_)
    · obtain ⟨x, v, pn, pc, t, N, Cs, A, Ts, ch, bn, rfl, _⟩ := h
      rfl
    obtain ⟨x, v, pn, pc, t, N, Cs, A, Ts, ch, bn, rfl, hF, hT, hv, I, hn, hc, nA, cA, npc, lN, lC, q⟩ := h
    have hrG : Room (28 + 2 * n) _ := hr.mono (by omega)
    refine ⟨_, (pss_one (ps_if (pt_val (pe_callB call_isi (by rfl) D.z_isinstance (by decide +kernel) (pa_cons (pv 1) (pa_cons (pe_bltn (v := .ty "str") (by rfl) D.z_str (by decide +kernel) rfl) pa_nil))))
        (pss_one (ps_if (pt_cmpR op_ne (pv 1) pe_str (nomark _)) (pss_one (ps_expr (pe_bm PySem.F.plainAttrs_list PySem.F.slot_list_append PySem.F.type_list_append mt_append (pv 2) (pa_cons (pv 1) pa_nil)))) pss_nil))
        (pss_one (ps_if (pt_cmpR op_eq (pe_ix ix_tup (pv 1) pe_int (fun _ _ => rfl)) pe_str (nomark _)) (pss_one (ps_expr (pe_bm PySem.F.plainAttrs_list PySem.F.slot_list_append PySem.F.type_list_append mt_append (pv 3) (pa_cons (pe_tup (pa_cons (pe_ix ix_tup (pv 1) pe_int (fun _ _ => rfl)) (pa_cons (pe_meth (pv 0) D.fC_cl D.d_f_of.me GO hr D.d_f_of.b .nil pass0 (pa_cons (pe_ix ix_tup (pv 1) pe_int (fun _ _ => rfl)) pa_nil)) pa_nil))) pa_nil))))
          (pss_one (ps_for PassesOwn.never rfl (pi_tup (pe_slice sl_tup (pv 1) (po_some pe_int) po_none)) (pg_name (i := 4) sc_f_gather.nd rfl (Or.inl rfl)) (pss_one (ps_expr (pe_meth (pv 0) D.fC_cl D.d_f_gather.me GG hrG D.d_f_gather.b .nil pass0 (pa_cons (pv 4) (pa_cons (pv 2) (pa_cons (pv 3) pa_nil)))))))))))), ?_⟩
    obtain ⟨ty0, ty, kt⟩ := pl_str (K := K) hv.pl
    refine ⟨_, rfl, _, _, _, _, _, rfl, .ty _, ty, kt, _, rfl, ?_⟩
    obtain ⟨ps, c1, c2, c3⟩ := id hc
    have lps : (refsT ps).length = Cs.length := by rw [refsT_len, ← c3, List.length_map]
    cases t with
    | atom a =>
      rw [TAt] at hv
      obtain ⟨rfl, hl⟩ := hv
      refine iteT ⟨_, rfl, rfl, decide (a ≠ "all"), congrArg V.bl (by
        by_cases c : a = "all"
        · simp [c]
        · rw [decide_eq_false (show ¬ V.str a = V.str "all" from fun z => c (V.str.inj z)), decide_eq_true c]; rfl), ?_⟩
      have kz : KidsOf Ts [] (gch (.atom a)) := by rw [gch]; exact .nil
      by_cases c : a = "all"
      · refine iteFe (by simp [c]) (q H Ts ch bn [] (ButT.of (But.refl _)) hT hF ⟨[], by simp, by simp⟩ (by rw [gnm, if_pos c, List.append_nil]; exact hn) (by rw [List.append_nil]; exact hc) kz)
      · refine iteTe (by simp [c]) ⟨_, rfl, .inl ⟨rfl, _, SqL.of hn⟩, _, rfl, pn, _, _, rfl, rfl, hn, by rw [List.length_map]; exact small1000 (by omega), ?_⟩
        have nx := hF.nx hn nA
        have tu := upd_t (o := .lst (N.map V.str ++ [.str a])) hn fun _ z => by cases z
        refine q _ Ts ch bn [] (ButT.of (But.put (by simp))) (tb_lst hn hT) (hF.keep tu fun a ha => upd_ne (nx a ha)) ⟨[], by simp, by simp⟩ (by rw [upd_same, gnm, if_neg c, List.map_append]; rfl) (by rw [List.append_nil]; exact hc.keep (fun o e => by rw [upd_ne npc.symm]; exact e) tu) kz
    | ex r c =>
      rw [TAt] at hv
      obtain ⟨a, u, rfl, ha, hu, hl⟩ := hv
      refine iteF ⟨_, rfl, a, _, _, _, rfl, rfl, SqT.of ha, atI_nat (j := 0) rfl, rfl, _, rfl, ?_⟩
      rw [decide_eq_true (show V.str ("some" : Str) = V.str "some" from rfl)]
      have cw := I.cw
      have okc := I.ok
      have htc := I.ht
      have dpc := I.dp
      have ndc := I.nd
      have szc := I.sz
      rw [CW] at cw
      rw [okN] at okc
      rw [htT] at htc
      rw [dT] at dpc
      rw [ndT] at ndc
      have ez : cz (.ex r c) = cz c + 1 := by rw [cz_gch, gch]; simp [sumT, tz]
      rw [ez] at szc
      obtain ⟨dx, fs, hx, z1, z2, z3, z4, z5, z6, z7, z8, z9⟩ := hF.hx
      refine iteT ⟨_, rfl, .inl ⟨rfl, _, SqL.of c1⟩, _, rfl, a, _, _, _, rfl, rfl, SqT.of ha, atI_nat (j := 1) rfl, _, rfl, x, dx, _, rfl, hx, z9 _ (by decide +kernel), _, rfl, a, _, _, _, rfl, rfl, SqT.of ha, atI_nat (j := 2) rfl, x, u, c, A, Ts, ch, bn, rfl, hF, hT, hu, ⟨cw.2, okc.2, by omega, by omega, by omega, by omega⟩, fun H1 i Ts' ch' bn' b1 T1 F1 mr fo => ⟨(by show 2 ≤ sizeLine; decide), fun tt htt => ?_⟩⟩
      have t1 := hF.tupB b1
      have hc1 : TupL chV H1 pc Cs := hc.keep (fun o e => b1 _ _ cA e fun ps z => by rw [z, c1] at e; cases e) t1
      have st : Same H1 (upd H1 tt (.tup (chV (r, i)))) := same_new htt _
      obtain ⟨ys, w1, w2, w3⟩ := (hc1.same st).app (x := (r, i)) (upd_same (o := HO.tup (chV (r, i))))
      have tu := upd_t (o := .lst (ys ++ [.ref tt])) w1 fun _ z => by cases z
      have F2 := F1.fresh st
      have hn1 := b1 _ _ nA hn fun ps z => by cases z
      refine ⟨pc, ys, _, rfl, rfl, w1, by rw [w2]; exact small1000 (by omega), q _ Ts' ch' bn' [(r, i)] ?_ (tb_lst w1 (LamX.Tabs.ext T1 st)) (F2.keep tu fun a ha => upd_ne (F2.nx w1 cA a ha)) ?_ ?_ w3 ?_⟩
      · exact fun a o n e nt => by
          have n0 : a ≠ pc := fun z => n (by simp [z])
          rw [upd_ne n0]
          exact st _ _ (b1 a o (fun z => n (by simp [z])) e nt)
      · obtain ⟨m, e, l⟩ := mr
        exact ⟨m, e, by rw [ez]; exact l⟩
      · rw [gnm, List.append_nil, upd_ne npc]
        exact st _ _ hn1
      · rw [gch]
        exact .cons ⟨rfl, fo⟩ .nil
    | and l =>
      rw [TAt] at hv
      obtain ⟨a, us, rfl, ha, hus⟩ := hv
      refine iteF ⟨_, rfl, a, _, _, _, rfl, rfl, SqT.of ha, atI_nat (j := 0) rfl, rfl, _, rfl, ?_⟩
      rw [decide_eq_false and_ne_some]
      refine iteF ⟨_, rfl, _, rfl, a, _, rfl, SqT.of ha, (by rintro ⟨z, _⟩; simp [HT.sIx] at z), fun p hp => ?_⟩
      rw [show ∀ (x : V) (xs : List V), cutV (x :: xs) (some 1) none = xs from fun x xs => by simp [cutV, HT.sIx]]
      have cw := I.cw
      have okc := I.ok
      have htc := I.ht
      have dpc := I.dp
      have ndc := I.nd
      have szc := I.sz
      rw [CW] at cw
      rw [okN] at okc
      rw [htT] at htc
      rw [dT] at dpc
      rw [ndT] at ndc
      rw [cz] at szc
      rw [gnm] at lN
      rw [gch] at lC
      have s1 : Same H (upd H p (.tup us)) := same_new hp _
      have e1 : (upd H p (.tup us)) p = some (.tup us) := upd_same
      generalize upd H p (.tup us) = H1 at s1 e1 ⊢
      have F1 := hF.fresh s1
      have n1 := s1 _ _ hn
      have cc1 := s1 _ _ c1
      have hus1 := pairT_t (Same.t s1) hus.pair
      have lus : us.length = l.length := (paired_len hus1).symm
      have tsB : ∀ {H' : Hp}, ButT (pn :: pc :: A.l) H1 H' → TSame H1 H' := fun b a ys e => b _ _ (fun z => by
        rcases List.mem_cons.mp z with z | z
        · rw [z, n1] at e; cases e
        · rcases List.mem_cons.mp z with z | z
          · rw [z, cc1] at e; cases e
          · exact F1.notTup e z) e fun _ z => by cases z
      refine ⟨p, rfl, ⟨_, SqT.of e1⟩, ?_⟩
      refine for_tup (xs := us) (fun i σ H' => (∃ o, σ = [some (.ref x), some (.ref a), some (.ref pn), some (.ref pc), o]) ∧ ∃ (Ts1 : List T) (ch1 : List Ch) (bn1 : List Str) (Cs1 : Ch), ButT (pn :: pc :: A.l) H1 H' ∧ TB Pt H' ∧ FAt P w D.fC H' x A Ts1 ch1 bn1 ∧ (∃ more, Ts1 = Ts ++ more ∧ more.length ≤ czs (l.take i)) ∧ H' pn = some (.lst ((N ++ gnms (l.take i)).map V.str)) ∧ TupL chV H' pc (Cs ++ Cs1) ∧ KidsOf Ts1 Cs1 (gchs (l.take i)))
        ⟨⟨none, rfl⟩, Ts, ch, bn, [], ButT.of (But.refl _), LamX.Tabs.ext hT s1, F1, ⟨[], by simp, by simp⟩, by rw [List.take_zero, gnms, List.append_nil]; exact n1, by rw [List.append_nil]; exact hc.same s1, by rw [List.take_zero, gchs]; exact .nil⟩ (fun i σ H' _ hh => by obtain ⟨_, _, _, _, _, b, _⟩ := hh; exact SqT.of (tsB b _ _ e1)) ?_ ?_
      · rintro i u σ H2 hi ⟨⟨o, rfl⟩, Ts1, ch1, bn1, Cs1, b2, T2, F2, ⟨m1, rfl, lm1⟩, hn2, hc2, kd2⟩
        obtain ⟨t, ht, hu⟩ := paired_get hus1 hi
        have mt := List.mem_of_getElem? ht
        have et : l.take (i + 1) = l.take i ++ [t] := take_more ht
        have eg : gnms (l.take (i + 1)) = gnms (l.take i) ++ gnm t := by rw [et, gnms_app, gnms, gnms, List.append_nil]
        have ec : gchs (l.take (i + 1)) = gchs (l.take i) ++ gch t := by rw [et, gchs_app, gchs, gchs, List.append_nil]
        have ez : czs (l.take (i + 1)) = czs (l.take i) + cz t := by rw [et, czs_app, czs, czs, Nat.add_zero]
        have lg : (gnms (l.take (i + 1))).length ≤ (gnms l).length := by
          have := congrArg List.length (gnms_app (l.take (i + 1)) (l.drop (i + 1)))
          rw [List.take_append_drop, List.length_append] at this
          omega
        have lh : (gchs (l.take (i + 1))).length ≤ (gchs l).length := by
          have := congrArg List.length (gchs_app (l.take (i + 1)) (l.drop (i + 1)))
          rw [List.take_append_drop, List.length_append] at this
          omega
        have lz := czs_take (l := l) (i + 1)
        rw [eg, List.length_append] at lg
        rw [ec, List.length_append] at lh
        have lk : Cs1.length = (gchs (l.take i)).length := paired_len kd2
        obtain ⟨dx, fs, hx, z1, z2, z3, z4, z5, z6, z7, z8, z9⟩ := F2.hx
        have h1 := htTs_mem mt
        have h2 := dTs_mem mt
        have h3 := ndTs_mem mt
        refine ⟨_, rfl, x, dx, _, rfl, hx, z9 _ (by decide +kernel), _, rfl, _, rfl, _, rfl, x, u, pn, pc, t, _, _, A, _, ch1, bn1, rfl, F2, T2, hu.t (tsB b2), ⟨CWs_iff.mp cw.2 t mt, okNs_mem okc mt, by omega, by omega, by omega, by rw [List.length_append]; omega⟩, hn2, hc2, nA, cA, npc, by rw [List.length_append]; omega, by rw [List.length_append]; omega, fun H3 Ts3 ch3 bn3 Cs3 b3 T3 F3 mr3 hn3 hc3 kd3 => ?_⟩
        obtain ⟨m3, rfl, lm3⟩ := mr3
        exact ⟨⟨_, rfl⟩, _, ch3, bn3, Cs1 ++ Cs3, b2.trans b3, T3, F3, ⟨m1 ++ m3, List.append_assoc _ _ _, by rw [List.length_append, ez]; omega⟩, by rw [eg, ← List.append_assoc]; exact hn3, by rw [← List.append_assoc]; exact hc3, by rw [ec]; exact paired_append (kd2.more m3) kd3⟩
      · rintro σ H2 ⟨⟨o, rfl⟩, Ts1, ch1, bn1, Cs1, b2, T2, F2, mr, hn2, hc2, kd2⟩
        rw [lus, List.take_length] at mr hn2 kd2
        exact q H2 Ts1 ch1 bn1 Cs1 (fun a o n e nt => b2 a o n (s1 _ _ e) nt) T2 F2 (by rw [cz]; exact mr) (by rw [gnm]; exact hn2) hc2 (by rw [gch]; exact kd2)
end
end K1
namespace K1
open PySem L2 K8
section
variable {P : Program} {w : World} {C : Addr} {H H' : Hp} {x : Addr} {A : FA} {Ts : List T} {ch : List Ch} {bn : List Str}
theorem FAt.rowAt (h : FAt P w C H x A Ts ch bn) {f : Nat} (l : f < Ts.length) : ∃ (ras : List Addr) (a : Addr), H A.lr = some (.lst (ras.map V.ref)) ∧ (ras.map V.ref)[f]? = some (.ref a) ∧ H a = some (.tup ((gnm (tn Ts f)).map V.str)) := by
  obtain ⟨ras, r1, r2⟩ := h.rows
  obtain ⟨a, ha, e⟩ := paired_get2 r2 (at_tn l)
  exact ⟨ras, a, r1, by rw [List.getElem?_map, ha]; rfl, e⟩
def chn (ch : List Ch) (f : Nat) : Ch := ch.getD f []
theorem FAt.kidsAt (h : FAt P w C H x A Ts ch bn) {f : Nat} (l : f < Ts.length) : ∃ (has : List Addr) (a : Addr), H A.lh = some (.lst (has.map V.ref)) ∧ (has.map V.ref)[f]? = some (.ref a) ∧ KidAt H a (chn ch f) ∧ ch[f]? = some (chn ch f) := by
  obtain ⟨has, g1, g2⟩ := h.kids
  have e : ch[f]? = some (chn ch f) := by
    unfold chn
    rw [List.getD_eq_getElem?_getD, List.getElem?_eq_getElem (by rw [h.inv.len]; exact l)]; rfl
  obtain ⟨a, ha, k⟩ := paired_get2 g2 e
  exact ⟨has, a, g1, by rw [List.getElem?_map, ha]; rfl, k, e⟩
end
def ends (ch : List Ch) (r : Str) (f : Nat) : List Nat := ((chn ch f).filter fun p => decide (p.1 = r)).map (·.2)
def rolesF (ch : List Ch) (f : Nat) : List Str := ((chn ch f).map (·.1)).foldl addK []
theorem dc_it {J : It} {n : Nat} {G : Hp → Prop} {Y : Nat → Hp → V → Hp → Prop} (w : Walk J n G Y) {g : TG} {tt : TT} {tk tv : TE} {vs : List Nat} {σ : L2.St} {H1 : Hp} {D : Addr} {Qd : Hp → Prop} (Pv : Nat → Hp → Prop) (h0 : Pv 0 (upd H1 D (.dK []))) (hG : ∀ i H, i ≤ n → Pv i H → G H)
    (hs : ∀ i x H H', i < n → Pv i H → Y i H x H' → g x (wipe σ vs) H' fun σ2 H2 => wipe σ2 vs = wipe σ vs ∧ tt σ2 H2 fun b H3 =>
      if b = true then tk σ2 H3 fun y H4 => tv σ2 H4 fun z H5 => ∃ (kvs : List (L2.Key × V)) (k : L2.Key), y = kV k ∧ H5 D = some (.dK kvs) ∧ kvs.length < sizeLine ∧ Pv (i + 1) (upd H5 D (.dK (putK kvs k z))) else Pv (i + 1) H3) (hd : ∀ H, Pv n H → Qd H) :
    ∃ W : Nat → Nat → Hp → Prop, (∃ m, W 0 m (upd H1 D (.dK []))) ∧ ∀ i m H, W i m H →
      (J.stop i H ∧ Qd H) ∨ (J.go i H ∧ ∃ Nx : Hp → Prop, (∀ H', Nx H' → ∃ m', m' < m ∧ W (i + 1) m' H') ∧ ∀ x H', J.yld i H x H' → g x (wipe σ vs) H' fun σ2 H2 => wipe σ2 vs = wipe σ vs ∧ tt σ2 H2 fun b H3 =>
        if b = true then tk σ2 H3 fun y H4 => tv σ2 H4 fun z H5 => ∃ (kvs : List (L2.Key × V)) (k : L2.Key), y = kV k ∧ H5 D = some (.dK kvs) ∧ kvs.length < sizeLine ∧ Nx (upd H5 D (.dK (putK kvs k z))) else Nx H3) := by
  refine ⟨fun i m H => m = n - i ∧ i ≤ n ∧ Pv i H, ⟨n, by simp, Nat.zero_le _, h0⟩, ?_⟩
  rintro i m H ⟨rfl, hi, p⟩
  have q := hG i H hi p
  by_cases hlt : i < n
  · exact .inr ⟨w.goes i H hlt q, Pv (i + 1), fun H' p' => ⟨n - (i + 1), by omega, rfl, hlt, p'⟩, fun x H' y => hs i x H H' hlt p (w.yields i H x H' hlt q y)⟩
  · have e : i = n := by omega
    subst e
    exact .inl ⟨w.stops H q, hd H p⟩
def rsT (rs : List Str) : List (L2.Key × V) := rs.map fun r => ((Sum.inr r : L2.Key), V.bl true)
theorem rsT_val (r : Str) : ∀ rs : List Str, valV (rsT rs) (Sum.inr r : L2.Key) = if r ∈ rs then some (.bl true) else none
  | [] => rfl
  | a :: rs => by
    have ih := rsT_val r rs
    unfold rsT at ih ⊢
    rw [List.map_cons]
    by_cases c : a = r
    · subst c
      rw [valV_pos rfl, if_pos List.mem_cons_self]
    · rw [valV_neg (fun z => c (Sum.inr.inj (show (Sum.inr a : L2.Key) = Sum.inr r from z))), ih]
      by_cases m : r ∈ rs
      · rw [if_pos m, if_pos (List.mem_cons_of_mem _ m)]
      · rw [if_neg m, if_neg fun z => (List.mem_cons.mp z).elim (fun e => c e.symm) m]
theorem rsT_put (rs : List Str) (r : Str) : putK (rsT rs) (Sum.inr r : L2.Key) (.bl true) = rsT (addK rs r) := by
  by_cases h : r ∈ rs
  · unfold putK
    rw [valV_any, rsT_val, if_pos h, addK_of h]
    show (if true = true then _ else _) = _
    rw [if_pos rfl]
    unfold rsT
    rw [List.map_map]
    refine List.map_congr_left fun j _ => ?_
    show (if (Sum.inr j : L2.Key) = Sum.inr r then ((Sum.inr j : L2.Key), V.bl true) else ((Sum.inr j : L2.Key), V.bl true)) = ((Sum.inr j : L2.Key), V.bl true)
    split <;> rfl
  · rw [putK_new _ (by rw [rsT_val, if_neg h]), addK_new h]
    unfold rsT
    rw [List.map_append]
    rfl
section
variable {P : Program} {w : World} {K : PySem.W.Frag} {mg : Str → Option Value} {base : Heap}
/-! ### _lacks -/
def spLacks (P : Program) (w : World) (C : Addr) : Sp := fun vs H Q _ => ∃ (x pf : Addr) (s : Str) (fs : List Nat) (A : FA) (Ts : List T) (ch : List Ch) (bn : List Str), vs = [.ref x, .ref pf, .str s] ∧ FAt P w C H x A Ts ch bn ∧ H pf = some (.lst (fs.map fun f => V.int (f : Nat))) ∧ (∀ f ∈ fs, f < Ts.length) ∧ ∀ b, (b = true ↔ ∃ f ∈ fs, s ∉ gnm (tn Ts f)) → Q (.bl b) H
theorem ok_lacks (D : Defs K mg) : FnOk P w K mg base CX0 1 D.d_f_lacks.f D.d_f_lacks.fd ["self", "forms", "name"] (spLacks P w D.fC) := by
  refine D.d_f_lacks.F.ok sc_f_lacks (fun vs H Q E h => ?_) (fun cdv A outer s H vs Q E hr h => ?_)
  · obtain ⟨x, pf, s, fs, A, Ts, ch, bn, rfl, _⟩ := h
    rfl
  obtain ⟨x, pf, nm, fs, A, Ts, ch, bn, rfl, hF, hp, rng, q⟩ := h
  refine ⟨_, (pss_cons (ps_for PassesOwn.never rfl (pi_list (pv 1)) (pg_name (i := 3) sc_f_lacks.nd rfl (Or.inl rfl)) (pss_one (ps_if (pt_cmpR op_notInT (pv 2) (pe_ix ix_list (pe_fld (pv 0) rfl) (pv 3) (fun _ _ => rfl)) (by rfl)) (pss_one (ps_ret pe_bl)) pss_nil)))
      (pss_one (ps_ret pe_bl))), ?_⟩
  obtain ⟨dx, fs', hx, z1, z2, z3, z4, z5, z6, z7, z8, z9⟩ := hF.hx
  refine ⟨_, rfl, pf, rfl, ⟨_, SqL.of hp⟩, ?_⟩
  refine for_list (K := K) (a := pf) (xs := fs.map fun f => V.int (f : Nat)) (fun i σ H' => (∃ o, σ = [some (.ref x), some (.ref pf), some (.str nm), o]) ∧ H' = H ∧ ∀ f ∈ fs.take i, nm ∈ gnm (tn Ts f)) ⟨⟨none, rfl⟩, rfl, fun f hf => by simp at hf⟩ (fun i σ H' _ hh => by rw [hh.2.1]; exact SqL.of hp) ?_ ?_
  · rintro i z σ H1 hz ⟨⟨o, rfl⟩, rfl, all⟩
    rw [List.getElem?_map] at hz
    obtain ⟨f, hf, rfl⟩ := Option.map_eq_some_iff.mp hz
    have mf := List.mem_of_getElem? hf
    obtain ⟨ras, a, r1, r2, r3⟩ := hF.rowAt (rng f mf)
    refine ⟨_, rfl, _, rfl, x, D.fC, dx, _, _, rfl, hx, D.fC_cl, D.fC_nrows, z3, _, rfl, A.lr, _, _, V.ref a, rfl, rfl, SqL.of r1, atI_nat r2, nm, a, gnm (tn Ts f), rfl, rfl, .inr (SqT.of r3), _, rfl, ?_⟩
    by_cases c : nm ∈ gnm (tn Ts f)
    · refine iteFe (by simp [c]) ⟨⟨_, rfl⟩, rfl, fun g hg => ?_⟩
      rw [take_more hf] at hg
      rcases List.mem_append.mp hg with y | y
      · exact all g y
      · rw [List.mem_singleton.mp y]; exact c
    · exact iteTe (by simp [c]) (q true ⟨fun _ => ⟨f, mf, c⟩, fun _ => rfl⟩)
  · rintro σ H1 ⟨⟨o, rfl⟩, rfl, all⟩
    rw [List.length_map, List.take_length] at all
    exact q false ⟨(fun z => by cases z), fun ⟨f, hf, c⟩ => absurd (all f hf) c⟩
/-! ### _roles_of -/
def spRolesOf (P : Program) (w : World) (C : Addr) : Sp := fun vs H Q _ => ∃ (x : Addr) (f : Nat) (A : FA) (Ts : List T) (ch : List Ch) (bn : List Str), vs = [.ref x, .int (f : Nat)] ∧ FAt P w C H x A Ts ch bn ∧ f < Ts.length ∧ (chn ch f).length ≤ 1000 ∧ ∀ H' p, Same H H' → H p = none → H' p = some (.lst ((rolesF ch f).map V.str)) → Q (.ref p) H'
theorem ok_rolesOf (D : Defs K mg) : FnOk P w K mg base CX0 1 D.d_f_roles_of.f D.d_f_roles_of.fd ["self", "form"] (spRolesOf P w D.fC) := by
  refine D.d_f_roles_of.F.ok sc_f_roles_of (fun vs H Q E h => ?_) (fun cdv A outer s H vs Q E hr h => ?_)
  · obtain ⟨x, f, A, Ts, ch, bn, rfl, _⟩ := h
    rfl
  obtain ⟨x, f, A, Ts, ch, bn, rfl, hF, lf, l1000, q⟩ := h
  refine ⟨_, (pss_one (ps_ret (pe_callTy ((call_list_dK rfl)) (by rfl) D.z_list (by decide +kernel) (pa_cons (pe_dc (own := [("role", 2), ("_", 3)]) (g := gTup K 2 (gCons (gName 2) (gCons (gName 3) gNil))) rfl sc_f_roles_of.nd (pi_tup (pe_ix ix_list (pe_fld (pv 0) rfl) (pv 1) (fun _ _ => rfl))) (blkOk_by (N := ["self", "form", "role", "_"]) (sc := defScope s_f_roles_of) (by decide +kernel))
    (fun _ _ _ _ _ => pg_tup rfl (pgs_cons (pg_name (i := 2) sc_f_roles_of.nd rfl (Or.inl rfl)) (pgs_cons (pg_name (i := 3) sc_f_roles_of.nd rfl (Or.inl rfl)) pgs_nil))) (fun _ _ _ _ _ => pts_nil) (fun _ _ _ _ _ => (pv 2)) (fun _ _ _ _ _ => pe_bl)) pa_nil)))), ?_⟩
  obtain ⟨dx, fs', hx, z1, z2, z3, z4, z5, z6, z7, z8, z9⟩ := hF.hx
  obtain ⟨has, a, g1, g2, ⟨ps, p1, p2, p3⟩, _⟩ := hF.kidsAt lf
  have lps : (ps.map fun u => V.ref u.1).length = (chn ch f).length := by rw [List.length_map, ← p3, List.length_map]
  refine ⟨_, rfl, x, D.fC, dx, _, _, rfl, hx, D.fC_cl, D.fC_nchildren, z4, _, rfl, A.lh, _, _, V.ref a, rfl, rfl, SqL.of g1, atI_nat g2, a, rfl, ⟨_, SqT.of p1⟩, fun D0 hD0 => ?_⟩
  have aD : a ≠ D0 := ne_of_none p1 hD0
  refine dc_it (walk_tup (K := K) (a := a) (xs := ps.map fun u => V.ref u.1)) (fun i H' => But [D0] (upd H D0 (.dK [])) H' ∧ H' D0 = some (.dK (rsT ((((chn ch f).take i).map (·.1)).foldl addK [])))) ⟨But.refl _, upd_same⟩ (fun i H' _ hh => SqT.of (hh.1 _ _ (by simpa using aD) (by rw [upd_ne aD]; exact p1))) ?_ ?_
  · rintro i z H1 H1' hi ⟨b1, h1⟩ ⟨rfl, hz⟩
    rw [List.getElem?_map] at hz
    obtain ⟨u, hu, rfl⟩ := Option.map_eq_some_iff.mp hz
    have hcu : (chn ch f)[i]? = some u.2 := by rw [← p3, List.getElem?_map, hu]; rfl
    have ut := same_of b1 hD0 _ _ (p2 u (List.mem_of_getElem? hu))
    have lr : ∀ l : List Str, (l.foldl addK []).length ≤ l.length := fun l => by
      have : ∀ (l acc : List Str), (l.foldl addK acc).length ≤ acc.length + l.length := fun l => by
        induction l with
        | nil => exact fun acc => Nat.le_refl _
        | cons s l ih =>
          intro acc
          have h1 := ih (addK acc s)
          have h2 := addK_len (K := acc) (k := s)
          rw [List.foldl_cons, List.length_cons]
          omega
      have := this l []
      simpa using this
    refine ⟨u.1, _, rfl, SqT.of ut, rfl, _, _, rfl, _, _, rfl, rfl, rfl, _, rfl, _, Sum.inr u.2.1, rfl, h1, ?_, b1.trans (But.put (by simp)), ?_⟩
    · unfold rsT
      rw [List.length_map]
      have := lr (((chn ch f).take i).map (·.1))
      rw [List.length_map, List.length_take] at this
      exact small1000 (by omega)
    · rw [upd_same, take_more hcu, List.map_append, List.foldl_append]
      exact congrArg (fun z => some (HO.dK z)) (rsT_put _ _)
  rintro H1 ⟨b1, h1⟩
  rw [lps, List.take_length] at h1
  refine ⟨D0, _, rfl, h1, fun p hp => q _ p ((same_of b1 hD0).trans (same_new hp _)) (none_sameT (same_of b1 hD0) hp) ?_⟩
  rw [upd_same]
  unfold rsT rolesF
  rw [List.map_map]
  rfl
end
end K1
namespace K1
open PySem L2 K8
abbrev natsV (l : List Nat) : List V := l.map fun k => V.int (k : Nat)
/-- a list of lists of numbers -/
def LLat (H : Hp) (p : Addr) (rows : List (List Nat)) : Prop := ∃ as : List Addr, H p = some (.lst (as.map V.ref)) ∧ Paired (fun row a => H a = some (.lst (natsV row))) rows as
theorem LLat.same {H H' : Hp} {p : Addr} {rows : List (List Nat)} (h : LLat H p rows) (s : Same H H') : LLat H' p rows := by
  obtain ⟨as, h1, h2⟩ := h
  exact ⟨as, s _ _ h1, paired_imp (fun _ _ e => s _ _ e) h2⟩
section
variable {P : Program} {w : World} {K : PySem.W.Frag} {mg : Str → Option Value} {base : Heap}
/-! ### _ends_by -/
def spEnds (P : Program) (w : World) (C : Addr) : Sp := fun vs H Q _ => ∃ (x pf : Addr) (r : Str) (fs : List Nat) (A : FA) (Ts : List T) (ch : List Ch) (bn : List Str), vs = [.ref x, .ref pf, .str r] ∧ FAt P w C H x A Ts ch bn ∧ H pf = some (.lst (natsV fs)) ∧ (∀ f ∈ fs, f < Ts.length) ∧ fs.length ≤ 1000 ∧ (∀ f ∈ fs, (chn ch f).length ≤ 1000) ∧ ∀ H' p, Same H H' → H p = none → LLat H' p (fs.map (ends ch r)) → Q (.ref p) H'
theorem ok_ends (D : Defs K mg) : FnOk P w K mg base CX0 1 D.d_f_ends_by.f D.d_f_ends_by.fd ["self", "forms", "role"] (spEnds P w D.fC) := by
  refine D.d_f_ends_by.F.ok sc_f_ends_by (fun vs H Q E h => ?_) (fun cdv A outer s H vs Q E hr h => ?_)
  · obtain ⟨x, pf, r, fs, A, Ts, ch, bn, rfl, _⟩ := h
    rfl
  obtain ⟨x, pf, r, fs, A, Ts, ch, bn, rfl, hF, hp, rng, lfs, lch, q⟩ := h
  refine ⟨_, (pss_one (ps_ret (pe_lc (own := [("form", 3)]) (g := gName 3) rfl sc_f_ends_by.nd (pi_list (pv 1)) (blkOk_by (N := ["self", "forms", "role", "form", "child", "own"]) (sc := defScope s_f_ends_by) (by decide +kernel)) (fun _ _ _ _ _ => pg_name (i := 3) sc_f_ends_by.nd rfl (Or.inl rfl)) (fun _ _ _ _ _ => pts_nil)
      (fun _ _ _ _ _ => pe_lc (own := [("own", 5), ("child", 4)]) (g := gTup K 2 (gCons (gName 5) (gCons (gName 4) gNil))) (wi := iTup K _) rfl sc_f_ends_by.nd (pi_tup (pe_ix (ix_listK (K := K) rfl) (pe_fldK (K := K) rfl (pv 0) rfl) (pv 3) (fun _ _ => rfl)))
        (blkOk_by (N := ["self", "forms", "role", "form", "child", "own"]) (sc := { kind := .function, names := [(".0", .local), ("form", .local), ("role", .cell), ("self", .cell)], isGenerator := false, isCoroutine := false, more := [] }) (by decide +kernel))
        (fun _ _ _ _ _ => pg_tup rfl (pgs_cons (pg_name (i := 5) sc_f_ends_by.nd rfl (Or.inl rfl)) (pgs_cons (pg_name (i := 4) sc_f_ends_by.nd rfl (Or.inl rfl)) pgs_nil))) (fun _ _ _ _ _ => pts_one (pt_cmpR op_eq (pv 5) (pv 2) (nomark _))) (fun _ _ _ _ _ => (pv 4)))))), ?_⟩
  refine ⟨_, rfl, pf, rfl, ⟨_, SqL.of hp⟩, fun D0 hD0 => ?_⟩
  have pD : pf ≠ D0 := ne_of_none hp hD0
  refine lc_list (K := K) (a := pf) (xs := natsV fs) (fun i H' => But [D0] (upd H D0 (.lst [])) H' ∧ ∃ as : List Addr, H' D0 = some (.lst (as.map V.ref)) ∧ Paired (fun row a => H' a = some (.lst (natsV row))) ((fs.take i).map (ends ch r)) as ∧ ∀ b ∈ as, b ≠ D0) ⟨But.refl _, [], upd_same, .nil, (fun b hb => by cases hb)⟩ (fun i H' _ hh => SqL.of (hh.1 _ _ (by simpa using pD) (by rw [upd_ne pD]; exact hp))) ?_ ?_
  · rintro i z H1 hz ⟨b1, as, h1, h2, h0⟩
    rw [List.getElem?_map] at hz
    obtain ⟨f, hf, rfl⟩ := Option.map_eq_some_iff.mp hz
    have mf := List.mem_of_getElem? hf
    have li : i < fs.length := (List.getElem?_eq_some_iff.mp hf).1
    have s1 : Same H H1 := same_of b1 hD0
    have F1 := hF.fresh s1
    obtain ⟨dx, fs', hx, z1, z2, z3, z4, z5, z6, z7, z8, z9⟩ := F1.hx
    obtain ⟨has, a, g1, g2, ⟨ps, p1, p2, p3⟩, _⟩ := F1.kidsAt (rng f mf)
    have lps : (ps.map fun u => V.ref u.1).length = (chn ch f).length := by rw [List.length_map, ← p3, List.length_map]
    refine ⟨rfl, _, rfl, x, D.fC, dx, _, _, rfl, hx, D.fC_cl, D.fC_nchildren, z4, _, rfl, A.lh, _, _, V.ref a, rfl, rfl, SqL.of g1, atI_nat g2, a, rfl, ⟨_, SqT.of p1⟩, fun D2 hD2 => ?_⟩
    have aD : a ≠ D2 := ne_of_none p1 hD2
    refine lc_it (walk_tup (K := K) (a := a) (xs := ps.map fun u => V.ref u.1)) (fun j H' => But [D2] (upd H1 D2 (.lst [])) H' ∧ H' D2 = some (.lst (natsV ((((chn ch f).take j).filter fun p => decide (p.1 = r)).map (·.2))))) ⟨But.refl _, upd_same⟩ (fun j H' _ hh => SqT.of (hh.1 _ _ (by simpa using aD) (by rw [upd_ne aD]; exact p1))) ?_ ?_
    · rintro j z H2 H2' hj ⟨b2, h3⟩ ⟨rfl, hz⟩
      rw [List.getElem?_map] at hz
      obtain ⟨u, hu, rfl⟩ := Option.map_eq_some_iff.mp hz
      have hcu : (chn ch f)[j]? = some u.2 := by rw [← p3, List.getElem?_map, hu]; rfl
      have ut := same_of b2 hD2 _ _ (p2 u (List.mem_of_getElem? hu))
      refine ⟨u.1, _, rfl, SqT.of ut, rfl, _, _, rfl, _, _, rfl, rfl, rfl, _, rfl, _, rfl, rfl, decide (u.2.1 = r), (by show V.bl (decide (V.str u.2.1 = V.str r)) = V.bl (decide (u.2.1 = r)); congr 1; exact decide_eq_decide.mpr ⟨fun z => V.str.inj z, fun z => by rw [z]⟩), ?_⟩
      rw [take_more hcu, List.filter_append]
      by_cases c : u.2.1 = r
      · rw [show List.filter (fun p : Str × Nat => decide (p.1 = r)) [u.2] = [u.2] from by rw [List.filter_cons, if_pos (by simp [c])]; rfl]
        refine iteTe (by simp [c]) ⟨_, rfl, _, h3, ?_, b2.trans (But.put (by simp)), ?_⟩
        · rw [List.length_map, List.length_map]
          exact small1000 (Nat.le_trans (List.length_filter_le _ _) (by rw [List.length_take]; have := lch f mf; omega))
        · rw [upd_same, List.map_append]
          simp only [natsV, List.map_append]
          rfl
      · rw [show List.filter (fun p : Str × Nat => decide (p.1 = r)) [u.2] = [] from by rw [List.filter_cons, if_neg (by simp [c])]; rfl, List.append_nil]
        exact iteFe (by simp [c]) ⟨b2, h3⟩
    · rintro H2 ⟨b2, h3⟩
      rw [lps, List.take_length] at h3
      have s2 : Same H1 H2 := same_of b2 hD2
      have d0 := s2 _ _ h1
      have las : as.length = i := by rw [← paired_len h2, List.length_map, List.length_take]; omega
      have nD : D2 ≠ D0 := (ne_of_none h1 hD2).symm
      refine ⟨_, d0, by rw [List.length_map]; exact small1000 (by omega), (b1.trans (But.of s2)).trans (But.put (by simp)), as ++ [D2], by rw [upd_same, List.map_append]; rfl, ?_, fun b hb => ?_⟩
      · rw [take_more hf, List.map_append]
        refine paired_append ?_ (.cons (by rw [upd_ne nD]; exact h3) .nil)
        have key : ∀ {rows : List (List Nat)} {as : List Addr}, Paired (fun row a => H1 a = some (.lst (natsV row))) rows as → (∀ b ∈ as, b ≠ D0) → ∀ o, Paired (fun row a => (upd H2 D0 o) a = some (.lst (natsV row))) rows as := fun p => by
          induction p with
          | nil => exact fun _ _ => .nil
          | cons e _ ih => exact fun n o => .cons (by rw [upd_ne (n _ List.mem_cons_self)]; exact s2 _ _ e) (ih (fun b hb => n b (List.mem_cons_of_mem _ hb)) o)
        exact key h2 h0 _
      · rcases List.mem_append.mp hb with z | z
        · exact h0 b z
        · rw [List.mem_singleton.mp z]; exact nD
  · rintro H1 ⟨b1, as, h1, h2, _⟩
    rw [List.length_map, List.take_length] at h2
    exact q H1 D0 (same_of b1 hD0) hD0 ⟨as, h1, h2⟩
end
end K1
namespace K1
open PySem L2 K8
/-! the ways to choose -/
def prodN : List Nat → Nat
  | [] => 1
  | a :: l => a * prodN l
def stepW (ws : List (List Nat)) (es : List Nat) : List (List Nat) := ws.flatMap fun w => es.map fun e => w ++ [e]
def ways0 (rows : List (List Nat)) : List (List Nat) := if rows.all fun r => decide (r ≠ []) then [[]] else []
def waysF (rows : List (List Nat)) : List (List Nat) := rows.foldl stepW (ways0 rows)
def chsF (ch : List Ch) (fs : List Nat) : List (Str × List Nat) := (rolesF ch (fs.headD 0)).flatMap fun r => (waysF (fs.map (ends ch r))).map fun w => (r, w)
theorem flatMap_len {α β : Type} {f : α → List β} {n : Nat} : ∀ {l : List α}, (∀ a ∈ l, (f a).length = n) → (l.flatMap f).length = l.length * n
  | [], _ => by simp
  | a :: l, h => by
    rw [List.flatMap_cons, List.length_append, h a List.mem_cons_self, flatMap_len fun b hb => h b (List.mem_cons_of_mem _ hb), List.length_cons, Nat.succ_mul, Nat.add_comm]
theorem stepW_len (ws : List (List Nat)) (es : List Nat) : (stepW ws es).length = ws.length * es.length := flatMap_len fun w _ => List.length_map _
theorem foldW_len : ∀ (rows : List (List Nat)) (ws : List (List Nat)), (rows.foldl stepW ws).length = ws.length * prodN (rows.map List.length)
  | [], ws => by simp [prodN]
  | r :: rows, ws => by
    rw [List.foldl_cons, foldW_len rows, stepW_len, List.map_cons, prodN, Nat.mul_assoc]
theorem mem_stepW {ws : List (List Nat)} {es : List Nat} {v : List Nat} : v ∈ stepW ws es ↔ ∃ w ∈ ws, ∃ e ∈ es, v = w ++ [e] := by
  unfold stepW
  rw [List.mem_flatMap]
  constructor
  · rintro ⟨w, hw, h⟩
    obtain ⟨e, he, rfl⟩ := List.mem_map.mp h
    exact ⟨w, hw, e, he, rfl⟩
  · rintro ⟨w, hw, e, he, rfl⟩
    exact ⟨w, hw, List.mem_map.mpr ⟨e, he, rfl⟩⟩
theorem mem_foldW : ∀ {rows : List (List Nat)} {ws : List (List Nat)} {v : List Nat}, v ∈ rows.foldl stepW ws ↔ ∃ w ∈ ws, ∃ u, v = w ++ u ∧ Paired (fun e r => e ∈ r) u rows
  | [], ws, v => by
    constructor
    · intro h
      exact ⟨v, h, [], by simp, .nil⟩
    · rintro ⟨w, hw, u, rfl, p⟩
      cases p
      simpa using hw
  | r :: rows, ws, v => by
    rw [List.foldl_cons, mem_foldW]
    constructor
    · rintro ⟨w, hw, u, rfl, p⟩
      obtain ⟨w', hw', e, he, rfl⟩ := mem_stepW.mp hw
      exact ⟨w', hw', e :: u, by simp, .cons he p⟩
    · rintro ⟨w, hw, u, rfl, p⟩
      cases p with
      | cons he p => exact ⟨_, mem_stepW.mpr ⟨w, hw, _, he, rfl⟩, _, by simp, p⟩
theorem mem_waysF {rows : List (List Nat)} {v : List Nat} : v ∈ waysF rows ↔ Paired (fun e r => e ∈ r) v rows := by
  unfold waysF
  rw [mem_foldW]
  constructor
  · rintro ⟨w, hw, u, rfl, p⟩
    unfold ways0 at hw
    split at hw
    · rw [List.mem_singleton.mp hw]; exact p
    · cases hw
  · intro p
    have : ways0 rows = [[]] := by
      unfold ways0
      rw [if_pos]
      rw [List.all_eq_true]
      intro r hr
      have : r ≠ [] := by
        induction p with
        | nil => cases hr
        | cons he _ ih =>
          rcases List.mem_cons.mp hr with rfl | hr
          · exact List.ne_nil_of_mem he
          · exact ih hr
      simpa using this
    exact ⟨[], by rw [this]; simp, v, rfl, p⟩
theorem ways0_len (rows : List (List Nat)) : (ways0 rows).length ≤ 1 := by
  unfold ways0; split <;> simp
theorem waysF_len (rows : List (List Nat)) : (waysF rows).length ≤ prodN (rows.map List.length) := by
  unfold waysF
  rw [foldW_len]
  exact Nat.le_trans (Nat.mul_le_mul_right _ (ways0_len rows)) (by omega)
theorem waysF_eq {rows : List (List Nat)} (h : ∀ r ∈ rows, r ≠ []) : (waysF rows).length = prodN (rows.map List.length) := by
  unfold waysF
  rw [foldW_len]
  have : ways0 rows = [[]] := by
    unfold ways0
    rw [if_pos (List.all_eq_true.mpr fun r hr => by simpa using h r hr)]
  rw [this]; simp
theorem prodN_zero : ∀ {l : List Nat}, 0 ∈ l → prodN l = 0
  | a :: l, h => by
    rw [prodN]
    rcases List.mem_cons.mp h with e | h
    · rw [← e, Nat.zero_mul]
    · rw [prodN_zero h, Nat.mul_zero]
theorem waysF_prod (rows : List (List Nat)) : (waysF rows).length = prodN (rows.map List.length) := by
  by_cases h : ∀ r ∈ rows, r ≠ []
  · exact waysF_eq h
  · have : ∃ r ∈ rows, r = [] := by
      apply Classical.byContradiction
      intro z
      exact h fun r hr e => z ⟨r, hr, e⟩
    obtain ⟨r, hr, e⟩ := this
    have z : prodN (rows.map List.length) = 0 := prodN_zero (List.mem_map.mpr ⟨r, hr, by rw [e]; rfl⟩)
    have := waysF_len rows
    omega
theorem prodN_le : ∀ {l m : List Nat}, Paired (fun a b => a ≤ b) l m → prodN l ≤ prodN m
  | _, _, .nil => Nat.le_refl _
  | _, _, .cons h p => Nat.mul_le_mul h (prodN_le p)
theorem prodN_pos : ∀ {l : List Nat}, (∀ a ∈ l, 1 ≤ a) → 1 ≤ prodN l
  | [], _ => Nat.le_refl _
  | a :: l, h => Nat.mul_le_mul (h a List.mem_cons_self) (prodN_pos fun b hb => h b (List.mem_cons_of_mem _ hb))
theorem take_pairs : ∀ (n : Nat) {l : List Nat}, (∀ a ∈ l, 1 ≤ a) → prodN (l.take n) ≤ prodN l
  | 0, l, h => by rw [List.take_zero]; exact prodN_pos h
  | n + 1, [], _ => Nat.le_refl _
  | n + 1, a :: l, h => by
    rw [List.take_succ_cons, prodN, prodN]
    exact Nat.mul_le_mul_left _ (take_pairs n fun b hb => h b (List.mem_cons_of_mem _ hb))
end K1
namespace K1
open PySem L2 K8
/-- a comprehension over two walks: the outer one -/
theorem lc2_it {J : It} {n : Nat} {G : Hp → Prop} {Y : Nat → Hp → V → Hp → Prop} (w : Walk J n G Y) {g g1 : TG} {tt tt1 : TT} {wi1 : TI} {te : TE} {vs vs1 : List Nat} {σ : L2.St} {H1 : Hp} {D : Addr} {Qd : Hp → Prop} (Pv : Nat → Hp → Prop) (h0 : Pv 0 (upd H1 D (.lst []))) (hG : ∀ i H, i ≤ n → Pv i H → G H)
    (hs : ∀ i x H H', i < n → Pv i H → Y i H x H' → g x (wipe σ vs) H' fun σ2 H2 => wipe σ2 vs = wipe σ vs ∧ tt σ2 H2 fun b H3 =>
      if b = true then wi1 σ2 H3 fun J1 H4 => ∃ W1 : Nat → Nat → Hp → Prop, (∃ m, W1 0 m H4) ∧ ∀ j k H, W1 j k H →
        (J1.stop j H ∧ Pv (i + 1) H) ∨ (J1.go j H ∧ ∃ Nx1 : Hp → Prop, (∀ H', Nx1 H' → ∃ k', k' < k ∧ W1 (j + 1) k' H') ∧ ∀ x H', J1.yld j H x H' → g1 x (wipe σ2 vs1) H' fun σ3 H5 => wipe σ3 vs1 = wipe σ2 vs1 ∧ tt1 σ3 H5 fun b H6 =>
          if b = true then te σ3 H6 fun y H7 => ∃ acc, H7 D = some (.lst acc) ∧ acc.length < sizeLine ∧ Nx1 (upd H7 D (.lst (acc ++ [y]))) else Nx1 H6)
      else Pv (i + 1) H3) (hd : ∀ H, Pv n H → Qd H) :
    ∃ W : Nat → Nat → Hp → Prop, (∃ m, W 0 m (upd H1 D (.lst []))) ∧ ∀ i m H, W i m H →
      (J.stop i H ∧ Qd H) ∨ (J.go i H ∧ ∃ Nx : Hp → Prop, (∀ H', Nx H' → ∃ m', m' < m ∧ W (i + 1) m' H') ∧ ∀ x H', J.yld i H x H' → g x (wipe σ vs) H' fun σ2 H2 => wipe σ2 vs = wipe σ vs ∧ tt σ2 H2 fun b H3 =>
        if b = true then wi1 σ2 H3 fun J1 H4 => ∃ W1 : Nat → Nat → Hp → Prop, (∃ m, W1 0 m H4) ∧ ∀ j k H, W1 j k H →
          (J1.stop j H ∧ Nx H) ∨ (J1.go j H ∧ ∃ Nx1 : Hp → Prop, (∀ H', Nx1 H' → ∃ k', k' < k ∧ W1 (j + 1) k' H') ∧ ∀ x H', J1.yld j H x H' → g1 x (wipe σ2 vs1) H' fun σ3 H5 => wipe σ3 vs1 = wipe σ2 vs1 ∧ tt1 σ3 H5 fun b H6 =>
            if b = true then te σ3 H6 fun y H7 => ∃ acc, H7 D = some (.lst acc) ∧ acc.length < sizeLine ∧ Nx1 (upd H7 D (.lst (acc ++ [y]))) else Nx1 H6)
        else Nx H3) := by
  refine ⟨fun i m H => m = n - i ∧ i ≤ n ∧ Pv i H, ⟨n, by simp, Nat.zero_le _, h0⟩, ?_⟩
  rintro i m H ⟨rfl, hi, p⟩
  have q := hG i H hi p
  by_cases hlt : i < n
  · exact .inr ⟨w.goes i H hlt q, Pv (i + 1), fun H' p' => ⟨n - (i + 1), by omega, rfl, hlt, p'⟩, fun x H' y => hs i x H H' hlt p (w.yields i H x H' hlt q y)⟩
  · have e : i = n := by omega
    subst e
    exact .inl ⟨w.stops H q, hd H p⟩
/-- the inner one -/
theorem in_it {J : It} {n : Nat} {G : Hp → Prop} {Y : Nat → Hp → V → Hp → Prop} (w : Walk J n G Y) {g : TG} {tt : TT} {te : TE} {vs : List Nat} {σ : L2.St} {H1 : Hp} {D : Addr} {Qd : Hp → Prop} (Pv : Nat → Hp → Prop) (h0 : Pv 0 H1) (hG : ∀ i H, i ≤ n → Pv i H → G H)
    (hs : ∀ i x H H', i < n → Pv i H → Y i H x H' → g x (wipe σ vs) H' fun σ2 H2 => wipe σ2 vs = wipe σ vs ∧ tt σ2 H2 fun b H3 =>
      if b = true then te σ2 H3 fun y H4 => ∃ acc, H4 D = some (.lst acc) ∧ acc.length < sizeLine ∧ Pv (i + 1) (upd H4 D (.lst (acc ++ [y]))) else Pv (i + 1) H3) (hd : ∀ H, Pv n H → Qd H) :
    ∃ W : Nat → Nat → Hp → Prop, (∃ m, W 0 m H1) ∧ ∀ i m H, W i m H →
      (J.stop i H ∧ Qd H) ∨ (J.go i H ∧ ∃ Nx : Hp → Prop, (∀ H', Nx H' → ∃ m', m' < m ∧ W (i + 1) m' H') ∧ ∀ x H', J.yld i H x H' → g x (wipe σ vs) H' fun σ2 H2 => wipe σ2 vs = wipe σ vs ∧ tt σ2 H2 fun b H3 =>
        if b = true then te σ2 H3 fun y H4 => ∃ acc, H4 D = some (.lst acc) ∧ acc.length < sizeLine ∧ Nx (upd H4 D (.lst (acc ++ [y]))) else Nx H3) := by
  refine ⟨fun i m H => m = n - i ∧ i ≤ n ∧ Pv i H, ⟨n, by simp, Nat.zero_le _, h0⟩, ?_⟩
  rintro i m H ⟨rfl, hi, p⟩
  have q := hG i H hi p
  by_cases hlt : i < n
  · exact .inr ⟨w.goes i H hlt q, Pv (i + 1), fun H' p' => ⟨n - (i + 1), by omega, rfl, hlt, p'⟩, fun x H' y => hs i x H H' hlt p (w.yields i H x H' hlt q y)⟩
  · have e : i = n := by omega
    subst e
    exact .inl ⟨w.stops H q, hd H p⟩
/-- the choices, in the heap -/
def CHat (H0 H : Hp) (p : Addr) (cs : List (Str × List Nat)) : Prop := ∃ ps : List (Addr × Addr × (Str × List Nat)), H p = some (.lst (ps.map fun u => V.ref u.1)) ∧ (∀ u ∈ ps, H u.1 = some (.tup [.str u.2.2.1, .ref u.2.1]) ∧ H u.2.1 = some (.lst (natsV u.2.2.2)) ∧ H0 u.2.1 = none) ∧ ps.map (·.2.2) = cs
/-- a list of lists of numbers, all of them where Z says -/
def LLn (H : Hp) (D : Addr → Prop) (p : Addr) (rows : List (List Nat)) : Prop := ∃ as : List Addr, H p = some (.lst (as.map V.ref)) ∧ Paired (fun row a => H a = some (.lst (natsV row))) rows as ∧ ∀ a ∈ as, D a ∧ a ≠ p
theorem LLn.same {H H' : Hp} {D : Addr → Prop} {p : Addr} {rows : List (List Nat)} (h : LLn H D p rows) (s : Same H H') : LLn H' D p rows := by
  obtain ⟨as, h1, h2, h3⟩ := h
  exact ⟨as, s _ _ h1, paired_imp (fun _ _ e => s _ _ e) h2, h3⟩
/-- one more list of numbers in it -/
theorem LLn.app {H : Hp} {D : Addr → Prop} {p : Addr} {rows : List (List Nat)} (h : LLn H D p rows) {l : Addr} (hl : H l = none) (lD : D l) {row : List Nat} {vs : List V} (hv : vs = natsV row) : ∃ ys, (upd H l (.lst vs)) p = some (.lst ys) ∧ ys.length = rows.length ∧ LLn (upd (upd H l (.lst vs)) p (.lst (ys ++ [.ref l]))) D p (rows ++ [row]) := by
  subst hv
  obtain ⟨as, h1, h2, h3⟩ := h
  have s := same_new hl (.lst (natsV row))
  have pl : p ≠ l := ne_of_none h1 hl
  refine ⟨_, s _ _ h1, by rw [List.length_map, paired_len h2], as ++ [l], by rw [upd_same, List.map_append]; rfl, ?_, fun a ha => ?_⟩
  · have key : ∀ {rows : List (List Nat)} {as : List Addr}, Paired (fun row a => H a = some (.lst (natsV row))) rows as → (∀ b ∈ as, D b ∧ b ≠ p) → ∀ o, Paired (fun row' a => (upd (upd H l (.lst (natsV row))) p o) a = some (.lst (natsV row'))) rows as := fun q => by
      induction q with
      | nil => exact fun _ _ => .nil
      | cons e _ ih => exact fun n o => .cons (by rw [upd_ne (n _ List.mem_cons_self).2]; exact s _ _ e) (ih (fun b hb => n b (List.mem_cons_of_mem _ hb)) o)
    exact paired_append (key h2 h3 _) (.cons (by rw [upd_ne pl.symm, upd_same]) .nil)
  · rcases List.mem_append.mp ha with z | z
    · exact h3 a z
    · rw [List.mem_singleton.mp z]; exact ⟨lD, pl.symm⟩
theorem foldW_mem_len {rows : List (List Nat)} {j : Nat} {v : List Nat} (h : v ∈ (rows.take j).foldl stepW (ways0 rows)) : v.length ≤ rows.length := by
  obtain ⟨w, hw, u, rfl, p⟩ := mem_foldW.mp h
  have e : w = [] := by
    unfold ways0 at hw
    split at hw
    · exact List.mem_singleton.mp hw
    · cases hw
  have := paired_len p
  rw [e, List.nil_append, this, List.length_take]
  exact Nat.min_le_right _ _
theorem foldW_take_len {rows : List (List Nat)} (j : Nat) : ((rows.take j).foldl stepW (ways0 rows)).length ≤ (waysF rows).length := by
  rw [foldW_len]
  unfold waysF
  rw [foldW_len]
  by_cases c : rows.all fun r => decide (r ≠ [])
  · refine Nat.mul_le_mul_left _ ?_
    rw [List.map_take]
    refine take_pairs j fun a ha => ?_
    obtain ⟨r, hr, rfl⟩ := List.mem_map.mp ha
    have : r ≠ [] := by simpa using List.all_eq_true.mp c r hr
    exact List.length_pos_iff.mpr this
  · have e0 : ways0 rows = [] := by unfold ways0; rw [if_neg c]
    rw [e0]; simp
/-- the choices, told so far in the list at D -/
def CHn (H0 H : Hp) (D : Addr) (cs : List (Str × List Nat)) : Prop := ∃ ps : List (Addr × Addr × (Str × List Nat)), H D = some (.lst (ps.map fun u => V.ref u.1)) ∧ (∀ u ∈ ps, H u.1 = some (.tup [.str u.2.2.1, .ref u.2.1]) ∧ H u.2.1 = some (.lst (natsV u.2.2.2)) ∧ u.2.1 ≠ D ∧ H0 u.2.1 = none) ∧ ps.map (·.2.2) = cs
theorem CHn.same {H0 H H' : Hp} {D : Addr} {cs : List (Str × List Nat)} (h : CHn H0 H D cs) (s : Same H H') : CHn H0 H' D cs := by
  obtain ⟨ps, h1, h2, h3⟩ := h
  exact ⟨ps, s _ _ h1, fun u hu => ⟨s _ _ (h2 u hu).1, s _ _ (h2 u hu).2.1, (h2 u hu).2.2⟩, h3⟩
theorem CHn.at {H0 H : Hp} {D : Addr} {cs : List (Str × List Nat)} (h : CHn H0 H D cs) : CHat H0 H D cs := by
  obtain ⟨ps, h1, h2, h3⟩ := h
  exact ⟨ps, h1, fun u hu => ⟨(h2 u hu).1, (h2 u hu).2.1, (h2 u hu).2.2.2⟩, h3⟩
section
variable {P : Program} {w : World} {K : PySem.W.Frag} {mg : Str → Option Value} {base : Heap}
theorem pa_starK {X : Cx} {K : PySem.W.Frag} {e : Expr} {p : Pos} {es : List Expr} {te : TE} {t : TA} (h : X.K = K) (he : PE X e te) (hr : PA X es t) (hs : starEach (.Starred e p :: es) X.env = (true, eval e X.env) :: starEach es X.env := by rfl) : PA X (.Starred e p :: es) (StX.tStar K te t) := by subst h; exact StX.pa_star he hr hs
/-! ### choices -/
def spChoices (P : Program) (w : World) (C : Addr) : Sp := fun vs H Q _ => ∃ (x pf : Addr) (fs : List Nat) (A : FA) (Ts : List T) (ch : List Ch) (bn : List Str), vs = [.ref x, .ref pf] ∧ FAt P w C H x A Ts ch bn ∧ H pf = some (.lst (natsV fs)) ∧ fs ≠ [] ∧ (∀ f ∈ fs, f < Ts.length) ∧ prodN (fs.map fun f => tz (tn Ts f)) ≤ 1000 ∧ (∀ f ∈ fs, (chn ch f).length + 1 ≤ tz (tn Ts f)) ∧ fs.length ≤ 1000 ∧ ∀ H' p, Same H H' → H p = none → CHat H H' p (chsF ch fs) → Q (.ref p) H'
theorem flatMap_le {α β : Type} {f : α → List β} {n : Nat} : ∀ {l : List α}, (∀ a ∈ l, (f a).length ≤ n) → (l.flatMap f).length ≤ l.length * n
  | [], _ => by simp
  | a :: l, h => by
    have h1 := h a List.mem_cons_self
    have h2 := flatMap_le (l := l) (f := f) (n := n) fun b hb => h b (List.mem_cons_of_mem _ hb)
    rw [List.flatMap_cons, List.length_append, List.length_cons, Nat.succ_mul]
    omega
theorem rolesF_len (ch : List Ch) (f : Nat) : (rolesF ch f).length ≤ (chn ch f).length := by
  have : ∀ (l acc : List Str), (l.foldl addK acc).length ≤ acc.length + l.length := fun l => by
    induction l with
    | nil => exact fun acc => Nat.le_refl _
    | cons s l ih =>
      intro acc
      have h1 := ih (addK acc s)
      have h2 := addK_len (K := acc) (k := s)
      rw [List.foldl_cons, List.length_cons]
      omega
  have := this ((chn ch f).map (·.1)) []
  rw [List.length_map] at this
  unfold rolesF
  simpa using this
theorem prodN_mem : ∀ {l : List Nat}, (∀ a ∈ l, 1 ≤ a) → ∀ {a : Nat}, a ∈ l → a ≤ prodN l
  | b :: l, h, a, m => by
    rw [prodN]
    have h1 := h b List.mem_cons_self
    have h2 := prodN_pos fun c hc => h c (List.mem_cons_of_mem _ hc)
    rcases List.mem_cons.mp m with rfl | m
    · exact Nat.le_mul_of_pos_right _ h2
    · exact Nat.le_trans (prodN_mem (fun c hc => h c (List.mem_cons_of_mem _ hc)) m) (Nat.le_mul_of_pos_left _ h1)
theorem ok_choices (D : Defs K mg) : FnOk P w K mg base CX0 2 D.d_f_choices.f D.d_f_choices.fd ["self", "forms"] (spChoices P w D.fC) := by
  have GE := ok_ends (P := P) (w := w) (base := base) D
  have GR := ok_rolesOf (P := P) (w := w) (base := base) D
  refine D.d_f_choices.F.ok sc_f_choices (fun vs H Q E h => ?_) (fun cdv A outer s H vs Q E hr h => ?_)
  · obtain ⟨x, pf, fs, A, Ts, ch, bn, rfl, _⟩ := h
    rfl
  obtain ⟨x, pf, fs, A, Ts, ch, bn, rfl, hF, hp, nfs, rng, hpr, htz, lfs, q⟩ := h
  refine ⟨_, (pss_cons (ps_set (i := 2) sc_f_choices.nd rfl (Or.inl rfl) (pe_lst pa_nil))
      (pss_cons (ps_for PassesOwn.never rfl (pi_list (pe_meth (pv 0) D.fC_cl D.d_f_roles_of.me GR hr D.d_f_roles_of.b .nil pass0 (pa_cons (pe_ix ix_list (pv 1) pe_int (fun _ _ => rfl)) pa_nil))) (pg_name (i := 3) sc_f_choices.nd rfl (Or.inr rfl)) (pss_cons (ps_set (i := 4) sc_f_choices.nd rfl (Or.inl rfl) (pe_meth (pv 0) D.fC_cl D.d_f_ends_by.me GE hr D.d_f_ends_by.b .nil pass0 (pa_cons (pv 1) (pa_cons (pv 3) pa_nil))))
      (pss_cons (ps_set (i := 6) sc_f_choices.nd rfl (Or.inl rfl) (K3.pe_way (pe_ifExp (pt_truth (pe_callB (cr_min rfl) (by rfl) D.z_min (by decide +kernel) (pa_cons (pe_lc (own := [("ends", 5)]) (g := gName 5) rfl sc_f_choices.nd (pi_list (pv 4)) (blkOk_by (N := ["self", "forms", "found", "role", "rows", "ends", "ways", "way", "end"]) (sc := defScope s_f_choices) (by decide +kernel)) (fun _ _ _ _ _ => pg_name (i := 5) sc_f_choices.nd rfl (Or.inl rfl)) (fun _ _ _ _ _ => pts_nil) (fun _ _ _ _ _ => (pe_callB (K3.call_len_seqK (K := K) rfl) (by rfl) D.z_len (by decide +kernel) (pa_cons (pv 5) pa_nil)))) pa_nil)) (by intro _; rfl)) (pe_lst (pa_cons (pe_lst pa_nil) pa_nil)) (pe_lst pa_nil))))
      (pss_cons (ps_for PassesOwn.never rfl (pi_list (pv 4)) (pg_name (i := 5) sc_f_choices.nd rfl (Or.inr rfl)) (pss_one (ps_setLc2 (i := 6) (own := [("way", 7), ("end", 8)]) (vs1 := [8]) (g := gName 7) (g1 := gName 8) (wi1 := iList K (tVar 5)) rfl sc_f_choices.nd rfl rfl (sw_true rfl rfl rfl (by decide +kernel)) (pi_list (pv 6)) (blkOk_by (N := ["self", "forms", "found", "role", "rows", "ends", "ways", "way", "end"]) (sc := defScope s_f_choices) (by decide +kernel)) (by decide)
            (fun _ _ _ _ _ => pg_name (i := 7) sc_f_choices.nd rfl (Or.inl rfl)) (fun _ _ _ _ _ => pts_nil) (fun _ _ _ _ _ => pi_list (pv 5)) (fun _ _ _ _ _ => pg_name (i := 8) sc_f_choices.nd rfl (Or.inl rfl)) (fun _ _ _ _ _ => pts_nil)
            (fun _ _ _ _ _ => pe_lst (pa_starK (K := K) rfl (pv 7) (pa_cons (pv 8) pa_nil))))))
      (pss_one (ps_expr (pe_bm PySem.F.plainAttrs_list PySem.F.slot_list_extend PySem.F.type_list_extend mt_extend (pv 2) (pa_cons (pe_lc (own := [("way", 7)]) (g := gName 7) rfl sc_f_choices.nd (pi_list (pv 6)) (blkOk_by (N := ["self", "forms", "found", "role", "rows", "ends", "ways", "way", "end"]) (sc := defScope s_f_choices) (by decide +kernel)) (fun _ _ _ _ _ => pg_name (i := 7) sc_f_choices.nd rfl (Or.inl rfl)) (fun _ _ _ _ _ => pts_nil) (fun _ _ _ _ _ => (pe_tup (pa_cons (pv 3) (pa_cons (pv 7) pa_nil))))) pa_nil))))))))
      (pss_one (ps_ret (pv 2))))), ?_⟩
  refine ⟨(by show 0 ≤ sizeLine; decide), fun D2 hD2 => ?_⟩
  have s1 : Same H (upd H D2 (.lst [])) := same_new hD2 _
  have D2N : H D2 = none := hD2
  have e1 : (upd H D2 (.lst [])) D2 = some (.lst []) := upd_same
  generalize upd H D2 (.lst []) = H1 at s1 e1 ⊢
  have F1 := hF.fresh s1
  obtain ⟨dx, fs', hx, z1, z2, z3, z4, z5, z6, z7, z8, z9⟩ := F1.hx
  obtain ⟨f0, fl, rfl⟩ : ∃ f0 fl, fs = f0 :: fl := by
    cases fs with
    | nil => exact absurd rfl nfs
    | cons a l => exact ⟨a, l, rfl⟩
  have lt0 := rng f0 List.mem_cons_self
  have tp : ∀ f ∈ f0 :: fl, 1 ≤ tz (tn Ts f) := fun f _ => Nat.succ_le_succ (Nat.zero_le _)
  have tl : ∀ f ∈ f0 :: fl, tz (tn Ts f) ≤ 1000 := fun f hf => Nat.le_trans (prodN_mem (fun a ha => by obtain ⟨g, hg, rfl⟩ := List.mem_map.mp ha; exact tp g hg) (List.mem_map.mpr ⟨f, hf, rfl⟩)) hpr
  have lch : ∀ f ∈ f0 :: fl, (chn ch f).length ≤ 1000 := fun f hf => by have := htz f hf; have := tl f hf; omega
  refine ⟨_, rfl, x, dx, _, rfl, hx, z9 _ (by decide +kernel), _, rfl, pf, _, _, V.int (f0 : Nat), rfl, rfl, SqL.of (s1 _ _ hp), atI_nat (j := 0) rfl, x, f0, A, Ts, ch, bn, rfl, F1, lt0, lch f0 List.mem_cons_self, fun H2 rp s2 rpN hr2 => ⟨rp, rfl, ⟨_, SqL.of hr2⟩, ?_⟩⟩
  have e2 := s2 _ _ e1
  have rD : rp ≠ D2 := (ne_of_none e1 rpN).symm
  have lways : ∀ r, (waysF ((f0 :: fl).map (ends ch r))).length ≤ 1000 := fun r => by
    rw [waysF_prod, List.map_map]
    refine Nat.le_trans (prodN_le ?_) hpr
    have key : ∀ l : List Nat, (∀ f ∈ l, f ∈ f0 :: fl) → Paired (fun a b => a ≤ b) (l.map (List.length ∘ ends ch r)) (l.map fun f => tz (tn Ts f)) := fun l => by
      induction l with
      | nil => exact fun _ => .nil
      | cons f l ih =>
        intro h
        refine .cons ?_ (ih fun g hg => h g (List.mem_cons_of_mem _ hg))
        show (ends ch r f).length ≤ _
        have h1 := htz f (h f List.mem_cons_self)
        have h2 : (ends ch r f).length ≤ (chn ch f).length := by unfold ends; rw [List.length_map]; exact List.length_filter_le _ _
        exact Nat.le_trans h2 (Nat.le_trans (Nat.le_succ _) h1)
    exact key _ fun f hf => hf
  refine for_list (K := K) (a := rp) (xs := (rolesF ch f0).map V.str) (fun i σ H' => (∃ o3 o4 o5 o6, σ = [some (.ref x), some (.ref pf), some (.ref D2), o3, o4, o5, o6, none, none]) ∧ But [D2] H2 H' ∧ CHn H H' D2 (((rolesF ch f0).take i).flatMap fun r => (waysF ((f0 :: fl).map (ends ch r))).map fun w => (r, w)))
    ⟨⟨none, none, none, none, rfl⟩, But.refl _, [], e2, (fun u hu => by cases hu), rfl⟩ (fun i σ H' _ hh => SqL.of (hh.2.1 _ _ (by simpa using rD) hr2)) ?_ ?_
  · rintro i z σ H3 hz ⟨⟨o3, o4, o5, o6, rfl⟩, b3, C3⟩
    rw [List.getElem?_map] at hz
    obtain ⟨r, hr', rfl⟩ := Option.map_eq_some_iff.mp hz
    have S3 : Same H H3 := fun a u e => b3 a u (by simpa using ne_of_none e hD2) (s2 _ _ (s1 _ _ e))
    have F3 := hF.fresh S3
    obtain ⟨d2l, cp1, cp2, cp3⟩ := id C3
    obtain ⟨dx3, fs3, hx3, y1, y2, y3, y4, y5, y6, y7, y8, y9⟩ := F3.hx
    refine ⟨_, rfl, x, dx3, _, rfl, hx3, y9 _ (by decide +kernel), _, rfl, _, rfl, x, pf, r, f0 :: fl, A, Ts, ch, bn, rfl, F3, S3 _ _ hp, rng, lfs, lch, fun H4 ep s4 epN L4 => ?_⟩
    obtain ⟨eas, l1, l2⟩ := id L4
    generalize hrows : (f0 :: fl).map (ends ch r) = rows at L4 l2
    have lrows : rows.length = (f0 :: fl).length := by rw [← hrows, List.length_map]
    have leas : eas.length = rows.length := (paired_len l2).symm
    have D4 := s4 _ _ cp1
    refine ⟨fun v H5 => ∃ wp, v = .ref wp ∧ Same H4 H5 ∧ H4 wp = none ∧ LLn H5 (fun a => H a = none ∧ a ≠ D2) wp (ways0 rows), ?_, ?_⟩
    · refine ⟨_, rfl, ep, rfl, ⟨_, SqL.of l1⟩, fun D5 hD5 => ?_⟩
      have eD : ep ≠ D5 := ne_of_none l1 hD5
      refine lc_list (K := K) (a := ep) (xs := eas.map V.ref) (fun j H' => But [D5] (upd H4 D5 (.lst [])) H' ∧ H' D5 = some (.lst (((rows.take j).map fun e => ((e.length : Nat) : Int)).map V.int))) ⟨But.refl _, upd_same⟩ (fun j H' _ hh => SqL.of (hh.1 _ _ (by simpa using eD) (by rw [upd_ne eD]; exact l1))) ?_ ?_
      · rintro j z H5 hj ⟨b5, h5⟩
        rw [List.getElem?_map] at hj
        obtain ⟨a, ha, rfl⟩ := Option.map_eq_some_iff.mp hj
        obtain ⟨e, he1, he2⟩ := paired_get l2 ha
        have he5 := same_of b5 hD5 _ _ he2
        refine ⟨rfl, _, rfl, a, _, rfl, .inl (SqL.of he5), _, h5, ?_, b5.trans (But.put (by simp)), ?_⟩
        · rw [List.length_map, List.length_map, List.length_take]
          have : rows.length ≤ 1000 := by rw [lrows]; exact lfs
          exact small1000 (Nat.le_trans (Nat.min_le_right _ _) this)
        · rw [upd_same, take_more he1, List.map_append, List.map_append]
          simp [natsV]
      · rintro H5 ⟨b5, h5⟩
        rw [List.length_map, leas, List.take_length] at h5
        have s5 : Same H4 H5 := same_of b5 hD5
        refine ⟨D5, _, rfl, SqL.of h5, by rw [List.length_map, lrows]; simp, fun m hm hmin => ⟨_, rfl, ?_⟩⟩
        by_cases c : rows.all fun r => decide (r ≠ [])
        · have e0 : ways0 rows = [[]] := by unfold ways0; rw [if_pos c]
          obtain ⟨e, he, rfl⟩ := List.mem_map.mp hm
          have ne : e ≠ [] := by simpa using List.all_eq_true.mp c e he
          refine iteTe (by have := List.length_pos_iff.mpr ne; simp; exact ne) ⟨(by show 0 ≤ sizeLine; decide), fun l hl => ⟨(by show 1 ≤ sizeLine; decide), fun wp hwp => ⟨wp, rfl, (s5.trans (same_new hl _)).trans (same_new hwp _), none_sameT (s5.trans (same_new hl _)) hwp, ?_⟩⟩⟩
          rw [e0]
          have lN : l ≠ D2 := fun z => by have := s5 _ _ D4; rw [← z, hl] at this; cases this
          exact ⟨[l], upd_same, .cons (same_new hwp _ _ _ upd_same) .nil, fun a ha => by rw [List.mem_singleton.mp ha]; exact ⟨⟨none_sameT (S3.trans (s4.trans s5)) hl, lN⟩, ne_of_none upd_same hwp⟩⟩
        · have e0 : ways0 rows = [] := by unfold ways0; rw [if_neg c]
          have m0 : m = 0 := by
            have : ∃ e ∈ rows, e = [] := by
              apply Classical.byContradiction
              intro z
              apply c
              rw [List.all_eq_true]
              intro e he
              simp
              exact fun y => z ⟨e, he, y⟩
            obtain ⟨e, he, e00⟩ := this
            have h1 := hmin ((e.length : Nat) : Int) (List.mem_map.mpr ⟨e, he, rfl⟩)
            rw [e00] at h1
            obtain ⟨e', he', rfl⟩ := List.mem_map.mp hm
            simp at h1 ⊢
            exact h1
          refine iteFe (by rw [m0]; rfl) ⟨(by show 0 ≤ sizeLine; decide), fun wp hwp => ⟨wp, rfl, s5.trans (same_new hwp _), none_sameT s5 hwp, ?_⟩⟩
          rw [e0]
          exact ⟨[], upd_same, .nil, fun a ha => by cases ha⟩
    rintro v H5 ⟨wp, rfl, s5, wpN, W5⟩
    have l15 := s5 _ _ l1
    refine ⟨_, rfl, ep, rfl, ⟨_, SqL.of l15⟩, ?_⟩
    have lw : (waysF rows).length ≤ 1000 := by rw [← hrows]; exact lways r
    have lr1 : rows.length ≤ 1000 := by rw [lrows]; exact lfs
    refine for_list (K := K) (a := ep) (xs := eas.map V.ref) (fun j σ H' => (∃ o5 wp, σ = [some (.ref x), some (.ref pf), some (.ref D2), some (.str r), some (.ref ep), o5, some (.ref wp), none, none] ∧ LLn H' (fun a => H a = none ∧ a ≠ D2) wp ((rows.take j).foldl stepW (ways0 rows))) ∧ Same H5 H') ⟨⟨_, wp, rfl, by rw [List.take_zero]; exact W5⟩, Same.refl _⟩ (fun j σ H' _ hh => SqL.of (hh.2 _ _ l15)) ?_ ?_
    · rintro j z σ H6 hj ⟨⟨o5, wp, rfl, W6⟩, s6⟩
      rw [List.getElem?_map] at hj
      obtain ⟨a, ha, rfl⟩ := Option.map_eq_some_iff.mp hj
      obtain ⟨e, he1, he2⟩ := paired_get l2 ha
      have he6 := s6 _ _ (s5 _ _ he2)
      generalize hws : (rows.take j).foldl stepW (ways0 rows) = ws at W6
      have estep : (rows.take (j + 1)).foldl stepW (ways0 rows) = stepW ws e := by rw [take_more he1, List.foldl_append, hws]; rfl
      have lstep : (stepW ws e).length ≤ 1000 := by rw [← estep]; exact Nat.le_trans (foldW_take_len (j + 1)) lw
      have D6' := s6 _ _ (s5 _ _ D4)
      obtain ⟨was, w1, w2, w3⟩ := id W6
      refine ⟨_, rfl, wp, rfl, ⟨_, SqL.of w1⟩, fun D6 hD6 => ?_⟩
      have wD : wp ≠ D6 := ne_of_none w1 hD6
      have lwas : was.length = ws.length := (paired_len w2).symm
      refine lc2_it (walk_list (K := K) (a := wp) (xs := was.map V.ref)) (fun i H' => But [D6] (upd H6 D6 (.lst [])) H' ∧ LLn H' (fun a => H a = none ∧ a ≠ D2) D6 (stepW (ws.take i) e)) ⟨But.refl _, [], upd_same, .nil, (fun a ha => by cases ha)⟩ (fun i H' _ hh => SqL.of (hh.1 _ _ (by simpa using wD) (by rw [upd_ne wD]; exact w1))) ?_ ?_
      · rintro i z H7 H7' hi ⟨b7, L7⟩ ⟨rfl, hz⟩
        rw [List.getElem?_map] at hz
        obtain ⟨aw, haw, rfl⟩ := Option.map_eq_some_iff.mp hz
        obtain ⟨w, hw1, hw2⟩ := paired_get w2 haw
        have s7 : Same H6 H7' := same_of b7 hD6
        have lwl : w.length ≤ 1000 := by
          have : w ∈ (rows.take j).foldl stepW (ways0 rows) := by rw [hws]; exact List.mem_of_getElem? hw1
          exact Nat.le_trans (foldW_mem_len this) lr1
        have es : stepW (ws.take (i + 1)) e = stepW (ws.take i) e ++ e.map fun k => w ++ [k] := by
          rw [take_more hw1]
          unfold stepW
          rw [List.flatMap_append, List.flatMap_cons, List.flatMap_nil, List.append_nil]
        have ls : (stepW (ws.take i) e).length + e.length ≤ 1000 := by
          have h1 := congrArg List.length es
          rw [List.length_append, List.length_map, stepW_len] at h1
          rw [stepW_len] at lstep
          have h2 : (ws.take (i + 1)).length * e.length ≤ ws.length * e.length := Nat.mul_le_mul_right _ (by rw [List.length_take]; exact Nat.min_le_right _ _)
          omega
        refine ⟨rfl, _, rfl, a, rfl, ⟨_, SqL.of (s7 _ _ he6)⟩, ?_⟩
        refine in_it (walk_list (K := K) (a := a) (xs := natsV e)) (fun m H' => But [D6] (upd H6 D6 (.lst [])) H' ∧ LLn H' (fun a => H a = none ∧ a ≠ D2) D6 (stepW (ws.take i) e ++ (e.take m).map fun k => w ++ [k])) ⟨b7, by rw [List.take_zero, List.map_nil, List.append_nil]; exact L7⟩ (fun m H' _ hh => SqL.of (same_of hh.1 hD6 _ _ he6)) ?_ ?_
        · rintro m z H8 H8' hm ⟨b8, L8⟩ ⟨rfl, hz⟩
          rw [List.getElem?_map] at hz
          obtain ⟨k, hk, rfl⟩ := Option.map_eq_some_iff.mp hz
          have s8 : Same H6 H8' := same_of b8 hD6
          have lv2 : (natsV w ++ [V.int (k : Nat)]).length ≤ sizeLine := by
            rw [List.length_append, List.length_map]
            have : 1001 ≤ sizeLine := by decide
            exact Nat.le_trans (Nat.succ_le_succ lwl) this
          refine ⟨rfl, _, rfl, aw, natsV w, rfl, .inr (SqL.of (s8 _ _ hw2)), _, rfl, lv2, fun l hl => ?_⟩
          have lD : l ≠ D2 := fun z => by have := s8 _ _ D6'; rw [← z, hl] at this; cases this
          obtain ⟨ys, g1, g2, g3⟩ := L8.app hl ⟨none_sameT (S3.trans (s4.trans (s5.trans (s6.trans s8)))) hl, lD⟩ (row := w ++ [k]) (vs := natsV w ++ [V.int (k : Nat)]) (by simp [natsV])
          refine ⟨ys, g1, ?_, (b8.trans (But.of (same_new hl _))).trans (But.put (by simp)), ?_⟩
          · rw [g2, List.length_append, List.length_map, List.length_take]
            exact small1000 (by omega)
          · rw [take_more hk, List.map_append, ← List.append_assoc]
            exact g3
        · rintro H8 ⟨b8, L8⟩
          rw [List.length_map, List.take_length, ← es] at L8
          exact ⟨b8, L8⟩
      · rintro H7 ⟨b7, L7⟩
        rw [List.length_map, lwas, List.take_length] at L7
        refine ⟨⟨_, D6, rfl, by rw [estep]; exact L7⟩, s6.trans (same_of b7 hD6)⟩
    · rintro σ H6 ⟨⟨o5, wp, rfl, W6⟩, s6⟩
      rw [List.length_map, leas, List.take_length] at W6
      have W6 : LLn H6 (fun a => H a = none ∧ a ≠ D2) wp (waysF rows) := W6
      obtain ⟨was, w1, w2, w3⟩ := id W6
      have lwas : was.length = (waysF rows).length := (paired_len w2).symm
      have S36 : Same H3 H6 := (s4.trans s5).trans s6
      have C6 := C3.same S36
      obtain ⟨ps6, c1, c2, c3⟩ := id C6
      refine ⟨_, rfl, .inl ⟨rfl, _, SqL.of c1⟩, _, rfl, wp, rfl, ⟨_, SqL.of w1⟩, fun D8 hD8 => ?_⟩
      have wD8 : wp ≠ D8 := ne_of_none w1 hD8
      refine lc_list (K := K) (a := wp) (xs := was.map V.ref) (fun m H' => But [D8] (upd H6 D8 (.lst [])) H' ∧ ∃ ps : List (Addr × Addr × (Str × List Nat)), H' D8 = some (.lst (ps.map fun u => V.ref u.1)) ∧ (∀ u ∈ ps, H' u.1 = some (.tup [.str u.2.2.1, .ref u.2.1]) ∧ H' u.2.1 = some (.lst (natsV u.2.2.2)) ∧ (H u.2.1 = none ∧ u.2.1 ≠ D2) ∧ u.2.1 ≠ D8) ∧ ps.map (·.2.2) = ((waysF rows).take m).map fun w => (r, w)) ⟨But.refl _, [], upd_same, (fun u hu => by cases hu), by simp⟩ (fun m H' _ hh => SqL.of (same_of hh.1 hD8 _ _ w1)) ?_ ?_
      · rintro m z H7 hm ⟨b7, ps, d1, d2, d3⟩
        rw [List.getElem?_map] at hm
        obtain ⟨aw, haw, rfl⟩ := Option.map_eq_some_iff.mp hm
        obtain ⟨w, hw1, hw2⟩ := paired_get w2 haw
        have s7 : Same H6 H7 := same_of b7 hD8
        have lm : ps.length ≤ m := by have := congrArg List.length d3; rw [List.length_map, List.length_map, List.length_take] at this; omega
        have lmm : m < (waysF rows).length := (List.getElem?_eq_some_iff.mp hw1).1
        refine ⟨rfl, _, rfl, _, rfl, (by show 2 ≤ sizeLine; decide), fun tt htt => ?_⟩
        have st : Same H7 (upd H7 tt (.tup [V.str r, V.ref aw])) := same_new htt _
        have tD : D8 ≠ tt := ne_of_none d1 htt
        have awD8 : aw ≠ D8 := ne_of_none hw2 hD8
        refine ⟨_, st _ _ d1, by rw [List.length_map]; exact small1000 (by omega), (b7.trans (But.of st)).trans (But.put (by simp)), ps ++ [(tt, aw, (r, w))], by rw [upd_same, List.map_append]; rfl, fun u hu => ?_, by rw [List.map_append, d3, take_more hw1, List.map_append]; rfl⟩
        rcases List.mem_append.mp hu with y | y
        · obtain ⟨e1', e2', e3', e4'⟩ := d2 u y
          have n1 : u.1 ≠ D8 := fun z => by rw [z, d1] at e1'; cases e1'
          exact ⟨by rw [upd_ne n1]; exact st _ _ e1', by rw [upd_ne e4']; exact st _ _ e2', e3', e4'⟩
        · rw [List.mem_singleton.mp y]
          exact ⟨by rw [upd_ne tD.symm, upd_same], by rw [upd_ne awD8]; exact st _ _ (s7 _ _ hw2), (w3 aw (List.mem_of_getElem? haw)).1, awD8⟩
      · rintro H7 ⟨b7, ps, d1, d2, d3⟩
        rw [List.length_map, lwas, List.take_length] at d3
        have s7 : Same H6 H7 := same_of b7 hD8
        have c17 := s7 _ _ c1
        have lc3 := congrArg List.length c3
        have ld3 := congrArg List.length d3
        rw [List.length_map] at lc3 ld3
        rw [List.length_map] at ld3
        have lfl : (((rolesF ch f0).take i).flatMap fun r => (waysF ((f0 :: fl).map (ends ch r))).map fun w => (r, w)).length ≤ 1000 * 1000 := by
          refine Nat.le_trans (flatMap_le (n := 1000) fun r _ => by rw [List.length_map]; exact lways r) (Nat.mul_le_mul_right _ ?_)
          rw [List.length_take]
          exact Nat.le_trans (Nat.min_le_right _ _) (Nat.le_trans (rolesF_len ch f0) (lch f0 List.mem_cons_self))
        refine ⟨D2, D8, _, _, rfl, rfl, c17, d1, ?_, ⟨_, _, _, _, rfl⟩, ?_, ps6 ++ ps, by rw [upd_same, List.map_append], fun u hu => ?_, ?_⟩
        · rw [List.length_map, List.length_map]
          have : 1000 * 1000 + 1000 ≤ sizeLine := by decide
          omega
        · exact ((b3.trans (But.of S36)).trans (But.of s7)).trans (But.put (by simp))
        · rcases List.mem_append.mp hu with y | y
          · obtain ⟨e1', e2', e3', e5'⟩ := c2 u y
            have n1 : u.1 ≠ D2 := fun z => by rw [z, c1] at e1'; cases e1'
            exact ⟨by rw [upd_ne n1]; exact s7 _ _ e1', by rw [upd_ne e3']; exact s7 _ _ e2', e3', e5'⟩
          · obtain ⟨e1', e2', ⟨e5', e3'⟩, e4'⟩ := d2 u y
            have n1 : u.1 ≠ D2 := fun z => by rw [z, c17] at e1'; cases e1'
            exact ⟨by rw [upd_ne n1]; exact e1', by rw [upd_ne e3']; exact e2', e3', e5'⟩
        · rw [List.map_append, c3, d3, take_more hr', List.flatMap_append, List.flatMap_cons, List.flatMap_nil, List.append_nil, hrows]
  · rintro σ H3 ⟨⟨o3, o4, o5, o6, rfl⟩, b3, C3⟩
    rw [List.length_map, List.take_length] at C3
    exact ⟨_, rfl, q H3 D2 (fun a u e => b3 a u (by simpa using ne_of_none e hD2) (s2 _ _ (s1 _ _ e))) D2N C3.at⟩
end
end K1
namespace K1
open PySem L2 K8
section
variable {P : Program} {w : World} {K : PySem.W.Frag} {mg : Str → Option Value} {base : Heap}
/-! ### many_choices -/
def sumN : List Nat → Nat
  | [] => 0
  | a :: l => a + sumN l
theorem sumN_app : ∀ (a b : List Nat), sumN (a ++ b) = sumN a + sumN b
  | [], b => by simp [sumN]
  | x :: a, b => by rw [List.cons_append, sumN, sumN, sumN_app a b, Nat.add_assoc]
theorem prodN_app : ∀ (a b : List Nat), prodN (a ++ b) = prodN a * prodN b
  | [], b => by simp [prodN]
  | x :: a, b => by rw [List.cons_append, prodN, prodN, prodN_app a b, Nat.mul_assoc]
def manyF (ch : List Ch) (fs : List Nat) : Nat := sumN ((rolesF ch (fs.headD 0)).map fun r => prodN ((fs.map (ends ch r)).map List.length))
theorem manyF_eq (ch : List Ch) (fs : List Nat) : manyF ch fs = (chsF ch fs).length := by
  unfold manyF chsF
  induction rolesF ch (fs.headD 0) with
  | nil => rfl
  | cons r l ih => rw [List.map_cons, sumN, List.flatMap_cons, List.length_append, ih, List.length_map, waysF_prod]
def spMany (P : Program) (w : World) (C : Addr) : Sp := fun vs H Q _ => ∃ (x pf : Addr) (fs : List Nat) (A : FA) (Ts : List T) (ch : List Ch) (bn : List Str), vs = [.ref x, .ref pf] ∧ FAt P w C H x A Ts ch bn ∧ H pf = some (.lst (natsV fs)) ∧ fs ≠ [] ∧ (∀ f ∈ fs, f < Ts.length) ∧ (∀ f ∈ fs, (chn ch f).length ≤ 1000) ∧ fs.length ≤ 1000 ∧ ∀ H', Same H H' → Q (.int ((chsF ch fs).length : Nat)) H'
theorem ok_many (D : Defs K mg) : FnOk P w K mg base CX0 2 D.d_f_many_choices.f D.d_f_many_choices.fd ["self", "forms"] (spMany P w D.fC) := by
  have GE := ok_ends (P := P) (w := w) (base := base) D
  have GR := ok_rolesOf (P := P) (w := w) (base := base) D
  refine D.d_f_many_choices.F.ok sc_f_many_choices (fun vs H Q E h => ?_) (fun cdv A outer s H vs Q E hr h => ?_)
  · obtain ⟨x, pf, fs, A, Ts, ch, bn, rfl, _⟩ := h
    rfl
  obtain ⟨x, pf, fs, A, Ts, ch, bn, rfl, hF, hp, nfs, rng, lch, lfs, q⟩ := h
  refine ⟨_, (pss_cons (ps_set (i := 2) sc_f_many_choices.nd rfl (Or.inl rfl) pe_int)
      (pss_cons (ps_for PassesOwn.never rfl (pi_list (pe_meth (pv 0) D.fC_cl D.d_f_roles_of.me GR hr D.d_f_roles_of.b .nil pass0 (pa_cons (pe_ix ix_list (pv 1) pe_int (fun _ _ => rfl)) pa_nil))) (pg_name (i := 3) sc_f_many_choices.nd rfl (Or.inl rfl)) (pss_cons (ps_set (i := 4) sc_f_many_choices.nd rfl (Or.inl rfl) pe_int)
      (pss_cons (ps_for PassesOwn.never rfl (pi_list (pe_meth (pv 0) D.fC_cl D.d_f_ends_by.me GE hr D.d_f_ends_by.b .nil pass0 (pa_cons (pv 1) (pa_cons (pv 3) pa_nil)))) (pg_name (i := 5) sc_f_many_choices.nd rfl (Or.inl rfl)) (pss_one (ps_set (i := 4) sc_f_many_choices.nd rfl (Or.inl rfl) (pe_op op_mul (pv 4) (pe_callB call_len_seq (by rfl) D.z_len (by decide +kernel) (pa_cons (pv 5) pa_nil))))))
      (pss_one (ps_set (i := 2) sc_f_many_choices.nd rfl (Or.inl rfl) (pe_op op_add (pv 2) (pv 4)))))))
      (pss_one (ps_ret (pv 2))))), ?_⟩
  obtain ⟨dx, fs', hx, z1, z2, z3, z4, z5, z6, z7, z8, z9⟩ := hF.hx
  obtain ⟨f0, fl, rfl⟩ : ∃ f0 fl, fs = f0 :: fl := by
    cases fs with
    | nil => exact absurd rfl nfs
    | cons a l => exact ⟨a, l, rfl⟩
  refine ⟨_, rfl, x, dx, _, rfl, hx, z9 _ (by decide +kernel), _, rfl, pf, _, _, V.int (f0 : Nat), rfl, rfl, SqL.of hp, atI_nat (j := 0) rfl, x, f0, A, Ts, ch, bn, rfl, hF, rng f0 List.mem_cons_self, lch f0 List.mem_cons_self, fun H2 rp s2 rpN hr2 => ⟨rp, rfl, ⟨_, SqL.of hr2⟩, ?_⟩⟩
  refine for_list (K := K) (a := rp) (xs := (rolesF ch f0).map V.str) (fun i σ H' => (∃ o3 o4 o5, σ = [some (.ref x), some (.ref pf), some (.int (sumN (((rolesF ch f0).take i).map fun r => prodN (((f0 :: fl).map (ends ch r)).map List.length)) : Nat)), o3, o4, o5]) ∧ Same H2 H') ⟨⟨none, none, none, rfl⟩, Same.refl _⟩ (fun i σ H' _ hh => SqL.of (hh.2 _ _ hr2)) ?_ ?_
  · rintro i z σ H3 hz ⟨⟨o3, o4, o5, rfl⟩, s3⟩
    rw [List.getElem?_map] at hz
    obtain ⟨r, hr', rfl⟩ := Option.map_eq_some_iff.mp hz
    have S3 := s2.trans s3
    have F3 := hF.fresh S3
    obtain ⟨dx3, fs3, hx3, y1, y2, y3, y4, y5, y6, y7, y8, y9⟩ := F3.hx
    refine ⟨_, rfl, x, dx3, _, rfl, hx3, y9 _ (by decide +kernel), _, rfl, _, rfl, x, pf, r, f0 :: fl, A, Ts, ch, bn, rfl, F3, S3 _ _ hp, rng, lfs, lch, fun H4 ep s4 epN L4 => ?_⟩
    obtain ⟨eas, l1, l2⟩ := id L4
    have leas : eas.length = ((f0 :: fl).map (ends ch r)).length := (paired_len l2).symm
    refine ⟨ep, rfl, ⟨_, SqL.of l1⟩, ?_⟩
    refine for_list (K := K) (a := ep) (xs := eas.map V.ref) (fun j σ H' => (∃ o5, σ = [some (.ref x), some (.ref pf), some (.int (sumN (((rolesF ch f0).take i).map fun r => prodN (((f0 :: fl).map (ends ch r)).map List.length)) : Nat)), some (.str r), some (.int (prodN ((((f0 :: fl).map (ends ch r)).take j).map List.length) : Nat)), o5]) ∧ Same H4 H') ⟨⟨_, rfl⟩, Same.refl _⟩ (fun j σ H' _ hh => SqL.of (hh.2 _ _ l1)) ?_ ?_
    · rintro j z σ H5 hj ⟨⟨o5, rfl⟩, s5⟩
      rw [List.getElem?_map] at hj
      obtain ⟨a, ha, rfl⟩ := Option.map_eq_some_iff.mp hj
      obtain ⟨e, he1, he2⟩ := paired_get l2 ha
      have le : (natsV e).length ≤ 1000 := by
        rw [List.length_map]
        obtain ⟨g, hg, rfl⟩ := List.mem_map.mp (List.mem_of_getElem? he1)
        refine Nat.le_trans ?_ (lch g hg)
        unfold ends
        rw [List.length_map]
        exact List.length_filter_le _ _
      refine ⟨_, rfl, _, rfl, a, _, rfl, .inl (SqL.of (s5 _ _ he2)), _, _, rfl, rfl, .inr ⟨by omega, by omega⟩, ⟨some (.ref a), ?_⟩, s5⟩
      rw [take_more he1, List.map_append, prodN_app]
      simp [prodN, natsV]
    · rintro σ H5 ⟨⟨o5, rfl⟩, s5⟩
      rw [List.length_map, leas, List.take_length]
      refine ⟨_, rfl, _, rfl, _, _, rfl, rfl, ⟨some (.str r), some (.int (prodN (((f0 :: fl).map (ends ch r)).map List.length) : Nat)), o5, ?_⟩, (s3.trans s4).trans s5⟩
      rw [take_more hr', List.map_append, sumN_app]
      simp [sumN]
  · rintro σ H3 ⟨⟨o3, o4, o5, rfl⟩, s3⟩
    rw [List.length_map, List.take_length]
    refine ⟨_, rfl, ?_⟩
    have e : sumN ((rolesF ch f0).map fun r => prodN (((f0 :: fl).map (ends ch r)).map List.length)) = (chsF ch (f0 :: fl)).length := manyF_eq ch (f0 :: fl)
    rw [e]
    exact q H3 (s2.trans s3)
end
end K1
namespace K1
open PySem L2 K8
/-! how large the common tree can be -/
theorem sumN_le {α : Type} {f g : α → Nat} : ∀ {l : List α}, (∀ a ∈ l, f a ≤ g a) → sumN (l.map f) ≤ sumN (l.map g)
  | [], _ => Nat.le_refl _
  | a :: l, h => by
    rw [List.map_cons, List.map_cons, sumN, sumN]
    exact Nat.add_le_add (h a List.mem_cons_self) (sumN_le fun b hb => h b (List.mem_cons_of_mem _ hb))
theorem sumN_mul {α : Type} (f : α → Nat) (n : Nat) : ∀ l : List α, sumN (l.map fun a => f a * n) = sumN (l.map f) * n
  | [] => by simp [sumN]
  | a :: l => by rw [List.map_cons, List.map_cons, sumN, sumN, sumN_mul f n l, Nat.add_mul]
theorem sumN_mulL {α : Type} (f : α → Nat) (n : Nat) : ∀ l : List α, sumN (l.map fun a => n * f a) = n * sumN (l.map f)
  | [] => by simp [sumN]
  | a :: l => by rw [List.map_cons, List.map_cons, sumN, sumN, sumN_mulL f n l, Nat.mul_add]
theorem sumN_add {α : Type} (f g : α → Nat) : ∀ l : List α, sumN (l.map fun a => f a + g a) = sumN (l.map f) + sumN (l.map g)
  | [] => rfl
  | a :: l => by
    rw [List.map_cons, List.map_cons, List.map_cons, sumN, sumN, sumN, sumN_add f g l]
    omega
theorem sumN_ite {α : Type} [DecidableEq α] (x : α) (n : Nat) : ∀ {l : List α}, l.Nodup → sumN (l.map fun a => if x = a then n else 0) ≤ n
  | [], _ => Nat.zero_le _
  | a :: l, nd => by
    rw [List.nodup_cons] at nd
    rw [List.map_cons, sumN]
    by_cases c : x = a
    · rw [if_pos c]
      have : sumN (l.map fun a => if x = a then n else 0) = 0 := by
        have n1 := nd.1
        rw [← c] at n1
        clear nd c
        induction l with
        | nil => rfl
        | cons b l ih =>
          rw [List.map_cons, sumN, if_neg (fun z => n1 (by rw [z]; exact List.mem_cons_self)), ih fun z => n1 (List.mem_cons_of_mem _ z)]
      omega
    · rw [if_neg c]
      have := sumN_ite x n nd.2
      omega
/-- by parts -/
theorem sumN_parts (g : Nat → Nat) {R : List Str} (nd : R.Nodup) : ∀ c : Ch, sumN (R.map fun r => sumN (((c.filter fun p => decide (p.1 = r)).map (·.2)).map g)) ≤ sumN (c.map fun p => g p.2)
  | [] => by
    have : ∀ l : List Str, sumN (l.map fun _ => 0) = 0 := fun l => by
      induction l with
      | nil => rfl
      | cons a l ih => rw [List.map_cons, sumN, ih]
    show sumN (R.map fun _ => 0) ≤ 0
    rw [this R]
    exact Nat.le_refl _
  | p :: c => by
    have e : (R.map fun r => sumN ((((p :: c).filter fun p => decide (p.1 = r)).map (·.2)).map g)) = R.map fun r => (if p.1 = r then g p.2 else 0) + sumN (((c.filter fun p => decide (p.1 = r)).map (·.2)).map g) := by
      refine List.map_congr_left fun r _ => ?_
      by_cases z : p.1 = r
      · rw [List.filter_cons, if_pos (decide_eq_true z), if_pos z, List.map_cons, List.map_cons, sumN]
      · rw [List.filter_cons, if_neg (by simpa using z), if_neg z, Nat.zero_add]
    rw [e, sumN_add]
    have h1 := sumN_parts g nd c
    have h2 := sumN_ite p.1 (g p.2) nd
    rw [List.map_cons, sumN]
    omega
def prW (g : Nat → Nat) (w : List Nat) : Nat := prodN (w.map g)
theorem sumP_step (g : Nat → Nat) (ws : List (List Nat)) (es : List Nat) : sumN ((stepW ws es).map (prW g)) = sumN (ws.map (prW g)) * sumN (es.map g) := by
  unfold stepW
  induction ws with
  | nil => simp [sumN]
  | cons w ws ih =>
    rw [List.flatMap_cons, List.map_append, sumN_app, ih, List.map_cons, sumN, Nat.add_mul]
    have : sumN ((es.map fun e => w ++ [e]).map (prW g)) = prW g w * sumN (es.map g) := by
      rw [List.map_map, ← sumN_mulL]
      refine congrArg sumN (List.map_congr_left fun e _ => ?_)
      show prodN ((w ++ [e]).map g) = _
      rw [List.map_append, prodN_app]
      simp [prodN, prW]
    rw [this]
theorem sumP_fold (g : Nat → Nat) : ∀ (rows ws : List (List Nat)), sumN ((rows.foldl stepW ws).map (prW g)) = sumN (ws.map (prW g)) * prodN (rows.map fun r => sumN (r.map g))
  | [], ws => by simp [prodN]
  | r :: rows, ws => by rw [List.foldl_cons, sumP_fold g rows, sumP_step, List.map_cons, prodN, Nat.mul_assoc]
theorem sumP_ways (g : Nat → Nat) (rows : List (List Nat)) : sumN ((waysF rows).map (prW g)) ≤ prodN (rows.map fun r => sumN (r.map g)) := by
  unfold waysF
  rw [sumP_fold]
  have : sumN ((ways0 rows).map (prW g)) ≤ 1 := by
    unfold ways0
    split
    · exact Nat.le_refl _
    · exact Nat.zero_le _
  exact Nat.le_trans (Nat.mul_le_mul_right _ this) (by omega)
theorem rolesF_nd (ch : List Ch) (f : Nat) : (rolesF ch f).Nodup := by
  unfold rolesF
  have : ∀ (l acc : List Str), acc.Nodup → (l.foldl addK acc).Nodup := fun l => by
    induction l with
    | nil => exact fun acc h => h
    | cons s l ih => exact fun acc h => ih _ (addK_nd h)
  exact this _ _ .nil
theorem mem_rolesF {ch : List Ch} {f : Nat} {r : Str} : r ∈ rolesF ch f ↔ r ∈ (chn ch f).map (·.1) := by
  unfold rolesF
  have : ∀ (l acc : List Str), r ∈ l.foldl addK acc ↔ r ∈ acc ∨ r ∈ l := fun l => by
    induction l with
    | nil => exact fun acc => by simp
    | cons s l ih =>
      intro acc
      rw [List.foldl_cons, ih, mem_addK, List.mem_cons]
      constructor
      · rintro ((a | a) | a)
        · exact .inl a
        · exact .inr (.inl a)
        · exact .inr (.inr a)
      · rintro (a | a | a)
        · exact .inl (.inl a)
        · exact .inl (.inr a)
        · exact .inr a
  rw [this]
  simp
theorem mem_chsF {ch : List Ch} {fs : List Nat} {q : Str × List Nat} : q ∈ chsF ch fs ↔ q.1 ∈ rolesF ch (fs.headD 0) ∧ Paired (fun k f => k ∈ ends ch q.1 f) q.2 fs := by
  unfold chsF
  rw [List.mem_flatMap]
  have e : ∀ {r : Str} {w fs : List Nat}, Paired (fun e r => e ∈ r) w (fs.map (ends ch r)) ↔ Paired (fun k f => k ∈ ends ch r f) w fs := fun {r} => by
    intro w fs
    constructor
    · intro p
      induction fs generalizing w with
      | nil => cases p; exact .nil
      | cons f fs ih =>
        rw [List.map_cons] at p
        cases p with
        | cons h p => exact .cons h (ih p)
    · intro p
      induction p with
      | nil => exact .nil
      | cons h _ ih => exact .cons h ih
  constructor
  · rintro ⟨r, hr, h⟩
    obtain ⟨w, hw, rfl⟩ := List.mem_map.mp h
    exact ⟨hr, e.mp (mem_waysF.mp hw)⟩
  · rintro ⟨hr, p⟩
    exact ⟨q.1, hr, List.mem_map.mpr ⟨q.2, mem_waysF.mpr (e.mpr p), rfl⟩⟩
theorem mem_ends {ch : List Ch} {r : Str} {f k : Nat} : k ∈ ends ch r f ↔ (r, k) ∈ chn ch f := by
  unfold ends
  rw [List.mem_map]
  constructor
  · rintro ⟨p, hp, rfl⟩
    obtain ⟨h1, h2⟩ := List.mem_filter.mp hp
    rw [← of_decide_eq_true h2]; exact h1
  · exact fun h => ⟨(r, k), List.mem_filter.mpr ⟨h, by simp⟩, rfl⟩
section
variable {Ts : List T} {ch : List Ch} {bn : List Str}
theorem FI.kidsq (h : FI Ts ch bn) {f : Nat} (l : f < Ts.length) : gch (tn Ts f) = chT Ts (chn ch f) ∧ ∀ p ∈ chn ch f, p.2 < Ts.length := by
  have lc : f < ch.length := by rw [h.len]; exact l
  refine h.kidT (i := f) (c := chn ch f) ?_ (at_tn l)
  unfold chn
  rw [List.getD_eq_getElem?_getD, List.getElem?_eq_getElem lc]
  rfl
theorem sumT_sumN (c : Ch) : sumT (chT Ts c) = sumN (c.map fun p => tz (tn Ts p.2)) := by
  unfold sumT chT
  rw [List.map_map]
  induction c with
  | nil => rfl
  | cons a c ih => rw [List.map_cons, List.map_cons, List.sum_cons, sumN, ih]; rfl
theorem FI.tz_eq (h : FI Ts ch bn) {f : Nat} (l : f < Ts.length) : tz (tn Ts f) = sumN ((chn ch f).map fun p => tz (tn Ts p.2)) + 1 := by
  unfold tz
  rw [cz_gch, (h.kidsq l).1, sumT_sumN]
  rfl
theorem FI.chn_len (h : FI Ts ch bn) {f : Nat} (l : f < Ts.length) : (chn ch f).length + 1 ≤ tz (tn Ts f) := by
  rw [h.tz_eq l]
  have : ∀ c : Ch, c.length ≤ sumN (c.map fun p => tz (tn Ts p.2)) := fun c => by
    induction c with
    | nil => exact Nat.le_refl _
    | cons a c ih =>
      rw [List.map_cons, sumN, List.length_cons]
      have : 1 ≤ tz (tn Ts a.2) := Nat.le_add_left _ _
      omega
  have := this (chn ch f)
  omega
abbrev wt (Ts : List T) (f : Nat) : Nat := tz (tn Ts f)
theorem wt_pos {Ts : List T} {l : List Nat} : ∀ a ∈ l.map (wt Ts), 1 ≤ a := fun a ha => by
  obtain ⟨f, _, rfl⟩ := List.mem_map.mp ha
  exact Nat.le_add_left _ _
/-- all ways together, and one more, are no more than the product -/
theorem FI.ways (h : FI Ts ch bn) {fs : List Nat} (ne : fs ≠ []) (rng : ∀ f ∈ fs, f < Ts.length) : sumN ((chsF ch fs).map fun q => prW (wt Ts) q.2) + 1 ≤ prW (wt Ts) fs := by
  obtain ⟨f0, fl, rfl⟩ : ∃ f0 fl, fs = f0 :: fl := by
    cases fs with
    | nil => exact absurd rfl ne
    | cons a l => exact ⟨a, l, rfl⟩
  have e : sumN ((chsF ch (f0 :: fl)).map fun q => prW (wt Ts) q.2) = sumN ((rolesF ch f0).map fun r => sumN ((waysF ((f0 :: fl).map (ends ch r))).map (prW (wt Ts)))) := by
    unfold chsF
    show sumN (((rolesF ch f0).flatMap _).map _) = _
    induction rolesF ch f0 with
    | nil => rfl
    | cons r l ih =>
      rw [List.flatMap_cons, List.map_append, sumN_app, ih, List.map_map]
      rfl
  rw [e]
  have h1 : ∀ r ∈ rolesF ch f0, sumN ((waysF ((f0 :: fl).map (ends ch r))).map (prW (wt Ts))) ≤ sumN ((ends ch r f0).map (wt Ts)) * prW (wt Ts) fl := fun r _ => by
    refine Nat.le_trans (sumP_ways (wt Ts) _) ?_
    rw [List.map_map, List.map_cons, prodN]
    refine Nat.mul_le_mul_left _ (prodN_le ?_)
    have : ∀ {l : List Nat}, (∀ f ∈ l, f < Ts.length) → Paired (fun a b => a ≤ b) (l.map ((fun r => sumN (r.map (wt Ts))) ∘ ends ch r)) (l.map (wt Ts)) := fun {l} => by
      induction l with
      | nil => exact fun _ => .nil
      | cons f l ih =>
        intro hl
        refine .cons ?_ (ih fun g hg => hl g (List.mem_cons_of_mem _ hg))
        have h2 := sumN_parts (wt Ts) (R := [r]) (by simp) (chn ch f)
        have h3 := h.tz_eq (hl f List.mem_cons_self)
        rw [List.map_cons, List.map_nil, sumN, sumN, Nat.add_zero] at h2
        show sumN ((ends ch r f).map (wt Ts)) ≤ wt Ts f
        refine Nat.le_trans h2 ?_
        show _ ≤ tz (tn Ts f)
        rw [h3]
        exact Nat.le_succ _
    exact this fun f hf => rng f (List.mem_cons_of_mem _ hf)
  have h2 := sumN_le h1
  rw [sumN_mul] at h2
  have h3 := sumN_parts (wt Ts) (rolesF_nd ch f0) (chn ch f0)
  have h4 := h.tz_eq (rng f0 List.mem_cons_self)
  have h5 : 1 ≤ prW (wt Ts) fl := prodN_pos wt_pos
  have h6 : sumN ((rolesF ch f0).map fun r => sumN ((ends ch r f0).map (wt Ts))) * prW (wt Ts) fl ≤ sumN ((chn ch f0).map fun p => tz (tn Ts p.2)) * prW (wt Ts) fl := Nat.mul_le_mul_right _ h3
  have h7 : prW (wt Ts) (f0 :: fl) = tz (tn Ts f0) * prW (wt Ts) fl := rfl
  rw [h7, h4, Nat.succ_mul]
  omega
/-- the choices are the ways -/
theorem FI.way (h : FI Ts ch bn) {r : Str} : ∀ {w fs : List Nat}, (∀ f ∈ fs, f < Ts.length) → Paired (fun k f => k ∈ ends ch r f) w fs → Way r (fs.map (tn Ts)) (w.map (tn Ts)) ∧ ∀ k ∈ w, k < Ts.length
  | [], [], _, _ => ⟨.nil, fun k hk => by cases hk⟩
  | [], f :: fs, _, p => by cases p
  | k :: w, [], _, p => by cases p
  | k :: w, f :: fs, rng, p => by
    cases p with
    | cons hk p =>
    obtain ⟨h1, h2⟩ := h.way (fun g hg => rng g (List.mem_cons_of_mem _ hg)) p
    obtain ⟨k1, k2⟩ := h.kidsq (rng f List.mem_cons_self)
    have m := mem_ends.mp hk
    refine ⟨.cons ?_ h1, fun j hj => ?_⟩
    · rw [k1]
      exact List.mem_map.mpr ⟨_, m, rfl⟩
    · rcases List.mem_cons.mp hj with rfl | hj
      · exact k2 _ m
      · exact h2 j hj
theorem FI.of_way (h : FI Ts ch bn) {r : Str} : ∀ {fs : List Nat} {as : List T}, (∀ f ∈ fs, f < Ts.length) → Way r (fs.map (tn Ts)) as → ∃ w, as = w.map (tn Ts) ∧ Paired (fun k f => k ∈ ends ch r f) w fs
  | [], as, _, w => by
    cases w
    exact ⟨[], rfl, .nil⟩
  | f :: fs, as, rng, w => by
    rw [List.map_cons] at w
    cases w with
    | cons ha w =>
      obtain ⟨v, rfl, p⟩ := h.of_way (fun g hg => rng g (List.mem_cons_of_mem _ hg)) w
      obtain ⟨k1, k2⟩ := h.kidsq (rng f List.mem_cons_self)
      rw [k1] at ha
      obtain ⟨q, hq, e⟩ := List.mem_map.mp ha
      injection e with e1 e2
      refine ⟨q.2 :: v, by rw [List.map_cons, e2], .cons (mem_ends.mpr (by rw [← e1]; exact hq)) p⟩
theorem FI.chs_way (h : FI Ts ch bn) {fs : List Nat} (rng : ∀ f ∈ fs, f < Ts.length) (ne : fs ≠ []) {r : Str} {as : List T} (w : Way r (fs.map (tn Ts)) as) : ∃ q ∈ chsF ch fs, q.1 = r ∧ q.2.map (tn Ts) = as := by
  obtain ⟨v, rfl, p⟩ := h.of_way rng w
  refine ⟨(r, v), mem_chsF.mpr ⟨?_, p⟩, rfl, rfl⟩
  cases p with
  | nil => exact absurd rfl ne
  | cons hk _ =>
    rw [List.headD_cons, mem_rolesF]
    exact List.mem_map.mpr ⟨_, mem_ends.mp hk, rfl⟩
end
/-! the words of a form -/
mutual
theorem gch_cw : ∀ {t : T}, CW t → ∀ p ∈ gch t, wordOk p.1 = true
  | .atom a, h, p, hp => by rw [gch] at hp; cases hp
  | .ex r c, h, p, hp => by
    rw [gch] at hp
    rw [CW] at h
    rw [List.mem_singleton.mp hp]; exact h.1
  | .and l, h, p, hp => by
    rw [gch] at hp
    rw [CW] at h
    exact gchs_cw h.2 p hp
theorem gchs_cw : ∀ {l : List T}, CWs l → ∀ p ∈ gchs l, wordOk p.1 = true
  | [], h, p, hp => by rw [gchs] at hp; cases hp
  | t :: l, h, p, hp => by
    rw [gchs] at hp
    rw [CWs] at h
    rcases List.mem_append.mp hp with z | z
    · exact gch_cw h.1 p z
    · exact gchs_cw h.2 p z
end
mutual
theorem okN_of {V : List Str} : ∀ {t : T}, (∀ s ∈ gnm t, wordOk s = true ∧ s ∈ V) → (∀ p ∈ gch t, wordOk p.1 = true ∧ okN V p.2) → okN V t
  | .atom a, h, _ => by
    rw [okN]
    by_cases c : a = "all"
    · exact .inl c
    · have := h a (by rw [gnm, if_neg c]; exact List.mem_singleton.mpr rfl)
      exact .inr ⟨this.1, c, this.2⟩
  | .ex r c, _, h => by
    rw [okN]
    exact h (r, c) (by rw [gch]; exact List.mem_singleton.mpr rfl)
  | .and l, h1, h2 => by
    rw [okN]
    rw [gnm] at h1
    rw [gch] at h2
    exact okNs_of h1 h2
theorem okNs_of {V : List Str} : ∀ {l : List T}, (∀ s ∈ gnms l, wordOk s = true ∧ s ∈ V) → (∀ p ∈ gchs l, wordOk p.1 = true ∧ okN V p.2) → okNs V l
  | [], _, _ => by rw [okNs]; trivial
  | t :: l, h1, h2 => by
    rw [okNs]
    rw [gnms] at h1
    rw [gchs] at h2
    exact ⟨okN_of (fun s hs => h1 s (List.mem_append_left _ hs)) fun p hp => h2 p (List.mem_append_left _ hp), okNs_of (fun s hs => h1 s (List.mem_append_right _ hs)) fun p hp => h2 p (List.mem_append_right _ hp)⟩
end
section
variable {P : Program} {w : World} {C : Addr} {H : Hp} {x : Addr} {A : FA} {Ts : List T} {ch : List Ch} {bn : List Str}
theorem FAt.okN (h : FAt P w C H x A Ts ch bn) (hv : ∀ s ∈ A.vn, wordOk s = true) : ∀ (n : Nat) {f : Nat}, f < n → f < Ts.length → K1.okN A.vn (tn Ts f)
  | 0, f, l, _ => absurd l (Nat.not_lt_zero _)
  | n + 1, f, l, lf => by
    have mt := List.mem_of_getElem? (at_tn lf)
    refine okN_of (fun s hs => ?_) fun p hp => ?_
    · have := h.voc.2 s (h.inv.bin _ mt s hs)
      exact ⟨hv s this, this⟩
    · refine ⟨gch_cw (h.inv.cw _ mt) p hp, ?_⟩
      rw [(h.inv.kidsq lf).1] at hp
      obtain ⟨c, hc, rfl⟩ := List.mem_map.mp hp
      have lc : f < ch.length := by rw [h.inv.len]; exact lf
      have e : ch[f]? = some (chn ch f) := by
        unfold chn
        rw [List.getD_eq_getElem?_getD, List.getElem?_eq_getElem lc]
        rfl
      have k := (h.inv.kid f _ _ e (at_tn lf)).1 c hc
      exact h.okN hv n (by omega) (by omega)
theorem FAt.gnm_len (h : FAt P w C H x A Ts ch bn) {f : Nat} (lf : f < Ts.length) : (gnm (tn Ts f)).length ≤ 60 := by
  have mt := List.mem_of_getElem? (at_tn lf)
  have nd : (gnm (tn Ts f)).Nodup := List.Pairwise.imp (S := fun a b => a ≠ b) (fun {a b} q (z : a = b) => ltbT_irrefl b (by rw [z] at q; exact q)) (h.inv.so _ mt)
  exact Nat.le_trans (nodup_sub_len nd (h.inv.bin _ mt)) h.blen
end
end K1
namespace K1
open PySem L2 K8
theorem prW_one (g : Nat → Nat) (f : Nat) : prW g [f] = g f := Nat.mul_one _
theorem tn_app {Ts m : List T} {f : Nat} (l : f < Ts.length) : tn (Ts ++ m) f = tn Ts f := tn_at (by rw [List.getElem?_append_left l]; exact at_tn l)
theorem map_tn_app {Ts m : List T} {fs : List Nat} (l : ∀ f ∈ fs, f < Ts.length) : fs.map (tn (Ts ++ m)) = fs.map (tn Ts) := List.map_congr_left fun f hf => tn_app (l f hf)
theorem prW_app {Ts m : List T} {fs : List Nat} (l : ∀ f ∈ fs, f < Ts.length) : prW (wt (Ts ++ m)) fs = prW (wt Ts) fs := by
  unfold prW
  rw [List.map_congr_left (g := wt Ts) fun f hf => by show tz _ = tz _; rw [tn_app (l f hf)]]
theorem sumN_take {l : List Nat} : ∀ i, sumN (l.take i) ≤ sumN l := fun i => by
  have := sumN_app (l.take i) (l.drop i)
  rw [List.take_append_drop] at this
  omega
theorem paired_mem1 {α β : Type} {R : α → β → Prop} : ∀ {l : List α} {m : List β}, Paired R l m → ∀ a ∈ l, ∃ b ∈ m, R a b
  | _, _, .nil, a, h => by cases h
  | _, _, .cons h p, a, m => by
    rcases List.mem_cons.mp m with rfl | m
    · exact ⟨_, List.mem_cons_self, h⟩
    · obtain ⟨b, hb, r⟩ := paired_mem1 p a m
      exact ⟨b, List.mem_cons_of_mem _ hb, r⟩
theorem paired_mem2 {α β : Type} {R : α → β → Prop} : ∀ {l : List α} {m : List β}, Paired R l m → ∀ b ∈ m, ∃ a ∈ l, R a b
  | _, _, .nil, a, h => by cases h
  | _, _, .cons h p, a, m => by
    rcases List.mem_cons.mp m with rfl | m
    · exact ⟨_, List.mem_cons_self, h⟩
    · obtain ⟨b, hb, r⟩ := paired_mem2 p a m
      exact ⟨b, List.mem_cons_of_mem _ hb, r⟩
/-- a child of the common form: the common form of a way -/
def JoinOf (Ts Ts1 : List T) (c : Str × Nat) (q : Str × List Nat) : Prop := c.1 = q.1 ∧ c.2 < Ts1.length ∧ IsJ (tn Ts1 c.2) (q.2.map (tn Ts)) ∧ wt Ts1 c.2 ≤ prW (wt Ts) q.2
theorem JoinOf.more {Ts Ts1 : List T} {c : Str × Nat} {q : Str × List Nat} (h : JoinOf Ts Ts1 c q) (m : List T) : JoinOf Ts (Ts1 ++ m) c q := by
  obtain ⟨h1, h2, h3, h4⟩ := h
  refine ⟨h1, by rw [List.length_append]; omega, by rw [tn_app h2]; exact h3, ?_⟩
  show tz (tn (Ts1 ++ m) c.2) ≤ _
  rw [tn_app h2]
  exact h4
theorem common_sum {Ts Ts1 : List T} : ∀ {Cs : Ch} {l : List (Str × List Nat)}, Paired (JoinOf Ts Ts1) Cs l → sumT (chT Ts1 Cs) ≤ sumN (l.map fun q => prW (wt Ts) q.2) := fun p => by
  rw [sumT_sumN]
  induction p with
  | nil => exact Nat.le_refl _
  | cons h _ ih =>
    rw [List.map_cons, List.map_cons, sumN, sumN]
    exact Nat.add_le_add h.2.2.2 ih
theorem FI.head {Ts : List T} {ch : List Ch} {bn : List Str} (h : FI Ts ch bn) {f0 : Nat} {fl : List Nat} (l : f0 < Ts.length) {q : Str × List Nat} (hq : q ∈ chsF ch (f0 :: fl)) : wordOk q.1 = true ∧ ∃ k v, q.2 = k :: v ∧ k < Ts.length ∧ dT (tn Ts k) < dT (tn Ts f0) := by
  obtain ⟨_, p⟩ := mem_chsF.mp hq
  generalize q.2 = v at p
  cases v with
  | nil => cases p
  | cons k v =>
    cases p with
    | cons hk p =>
    have m := mem_ends.mp hk
    obtain ⟨k1, k2⟩ := h.kidsq l
    have g : (q.1, tn Ts k) ∈ gch (tn Ts f0) := by rw [k1]; exact List.mem_map.mpr ⟨_, m, rfl⟩
    exact ⟨gch_cw (h.cwt l) _ g, k, v, rfl, k2 _ m, dT_gch g⟩
theorem chs_le {Ts : List T} : ∀ l : List (Str × List Nat), l.length ≤ sumN (l.map fun q => prW (wt Ts) q.2)
  | [] => Nat.le_refl _
  | q :: l => by
    rw [List.map_cons, sumN, List.length_cons]
    have h1 := chs_le (Ts := Ts) l
    have h2 : 1 ≤ prW (wt Ts) q.2 := prodN_pos wt_pos
    omega
def comP (Ts : List T) (fs : List Nat) (s : Str) : Bool := fs.all fun f => decide (s ∈ gnm (tn Ts f))
theorem comP_iff {Ts : List T} {fs : List Nat} {s : Str} : comP Ts fs s = true ↔ ∀ f ∈ fs, s ∈ gnm (tn Ts f) := by simp [comP]
section
variable {P : Program} {w : World} {K : PySem.W.Frag} {mg : Str → Option Value} {base : Heap}
/-! ### common -/
def spCommon (P : Program) (w : World) (C Pt : Addr) (n : Nat) : Sp := fun vs H Q _ => ∃ (x pf : Addr) (fs : List Nat) (A : FA) (Ts : List T) (ch : List Ch) (bn : List Str), vs = [.ref x, .ref pf] ∧ FAt P w C H x A Ts ch bn ∧ TB Pt H ∧ (∀ s ∈ A.vn, wordOk s = true) ∧ H pf = some (.lst (natsV fs)) ∧ pf ∉ A.l ∧ fs ≠ [] ∧ (∀ f ∈ fs, f < Ts.length) ∧ dT (tn Ts (fs.headD 0)) < n ∧ fs.length ≤ 1000 ∧ Ts.length + prW (wt Ts) fs ≤ 1000 ∧ prW (wt Ts) fs ≤ 900 ∧
  ∀ H' i Ts' ch' bn', ButT A.l H H' → TB Pt H' → FAt P w C H' x A Ts' ch' bn' → (∃ more, Ts' = Ts ++ more ∧ more.length ≤ prW (wt Ts) fs) → i < Ts'.length → IsJ (tn Ts' i) (fs.map (tn Ts)) → wt Ts' i ≤ prW (wt Ts) fs → Q (.int (i : Nat)) H'
theorem ok_common (D : Defs K mg) {cM Pt : Addr} (M : MkC D cM) (hTB : LamX.TabB base mg cM Pt) : ∀ n : Nat, FnOk P w K mg base CX0 (28 + n) D.d_f_common.f D.d_f_common.fd ["self", "forms"] (spCommon P w D.fC Pt n)
  | 0 => none_left fun _ _ _ _ h => by
    obtain ⟨x, pf, fs, A, Ts, ch, bn, _, _, _, _, _, _, _, _, d, _⟩ := h
    exact absurd d (Nat.not_lt_zero _)
  | n + 1 => by
    have GC := ok_common D M hTB n
    have GM := ok_make (P := P) (w := w) (base := base) D M hTB
    have GL := ok_lacks (P := P) (w := w) (base := base) D
    have GH := ok_choices (P := P) (w := w) (base := base) D
    rw [show 28 + (n + 1) = (28 + n) + 1 by omega]
    refine D.d_f_common.F.ok sc_f_common (fun vs H Q E h => ?_) (fun cdv A outer s H vs Q E hr h => ?_)
    · obtain ⟨x, pf, fs, A, Ts, ch, bn, rfl, _⟩ := h
      rfl
    obtain ⟨x, pf, fs, A, Ts, ch, bn, rfl, hF, hT, hvn, hp, pA, nfs, rng, hd, lfs, sz, sz9, q⟩ := h
    have hr1 : Room 1 _ := hr.mono (by omega)
    have hr2 : Room 2 _ := hr.mono (by omega)
    have hrM : Room 28 _ := hr.mono (by omega)
    refine ⟨_, (pss_cons (ps_if (pt_cmpR op_eq (pe_callB call_len_seq (by rfl) D.z_len (by decide +kernel) (pa_cons (pv 1) pa_nil)) pe_int (nomark _)) (pss_one (ps_ret (pe_ix ix_list (pv 1) pe_int (fun _ _ => rfl)))) pss_nil)
      (pss_cons (ps_set (i := 2) sc_f_common.nd rfl (Or.inl rfl) (pe_ix ix_list (pv 1) pe_int (fun _ _ => rfl)))
      (pss_cons (ps_setLc (i := 3) (own := [("name", 7)]) (g := gName 7) rfl sc_f_common.nd rfl rfl (sw_true rfl rfl rfl (by decide +kernel)) (pi_tup (pe_ix ix_list (pe_fld (pv 0) rfl) (pv 2) (fun _ _ => rfl))) (blkOk_by (N := ["self", "forms", "first", "row", "children", "role", "choice", "name"]) (sc := defScope s_f_common) (by decide +kernel)) (fun _ _ _ _ _ => pg_name (i := 7) sc_f_common.nd rfl (Or.inl rfl)) (fun _ _ _ _ _ => pts_one (pt_not (pt_val (pe_meth (pv 0) D.fC_cl D.d_f_lacks.me GL hr1 D.d_f_lacks.b .nil pass0 (pa_cons (pv 1) (pa_cons (pv 7) pa_nil)))))) (fun _ _ _ _ _ => (pv 7)))
      (pss_cons (ps_set (i := 4) sc_f_common.nd rfl (Or.inl rfl) (pe_lst pa_nil))
      (pss_cons (ps_for PassesOwn.never rfl (pi_list (pe_meth (pv 0) D.fC_cl D.d_f_choices.me GH hr2 D.d_f_choices.b .nil pass0 (pa_cons (pv 1) pa_nil))) (pg_tup rfl (pgs_cons (pg_name (i := 5) sc_f_common.nd rfl (Or.inl rfl)) (pgs_cons (pg_name (i := 6) sc_f_common.nd rfl (Or.inl rfl)) pgs_nil))) (pss_one (ps_expr (pe_bm PySem.F.plainAttrs_list PySem.F.slot_list_append PySem.F.type_list_append mt_append (pv 4) (pa_cons (pe_tup (pa_cons (pv 5) (pa_cons (pe_meth (pv 0) D.fC_cl D.d_f_common.me GC hr D.d_f_common.b .nil pass0 (pa_cons (pv 6) pa_nil)) pa_nil))) pa_nil)))))
      (pss_one (ps_ret (pe_meth (pv 0) D.fC_cl D.d_f_make.me GM hrM D.d_f_make.b .nil pass0 (pa_cons (pv 3) (pa_cons (pv 4) pa_nil)))))))))), ?_⟩
    refine ⟨_, rfl, pf, _, rfl, .inl (SqL.of hp), rfl, decide (fs.length = 1), (by
      show V.bl (decide (V.int ((natsV fs).length : Nat) = V.int 1)) = V.bl (decide (fs.length = 1))
      congr 1
      exact decide_eq_decide.mpr ⟨fun z => by have := V.int.inj z; rw [List.length_map] at this; omega, fun z => by rw [List.length_map, z]; rfl⟩), ?_⟩
    by_cases c1 : fs.length = 1
    · obtain ⟨f, rfl⟩ : ∃ f, fs = [f] := List.length_eq_one_iff.mp c1
      exact iteTe (by simp) ⟨_, rfl, pf, _, _, V.int (f : Nat), rfl, rfl, SqL.of hp, atI_nat (j := 0) rfl, q H f Ts ch bn (ButT.of (But.refl _)) hT hF ⟨[], by simp, by simp⟩ (rng f (by simp)) (isJ_one _) (by rw [prW_one]; exact Nat.le_refl _)⟩
    obtain ⟨f0, fl, rfl⟩ : ∃ f0 fl, fs = f0 :: fl := by
      cases fs with
      | nil => exact absurd rfl nfs
      | cons a l => exact ⟨a, l, rfl⟩
    have lf0 := rng f0 List.mem_cons_self
    obtain ⟨dx, fx, hx, z1, z2, z3, z4, z5, z6, z7, z8, z9⟩ := hF.hx
    obtain ⟨ras, ra, r1, r2, r3⟩ := hF.rowAt lf0
    refine iteFe (decide_eq_false c1) ⟨_, rfl, pf, _, _, V.int (f0 : Nat), rfl, rfl, SqL.of hp, atI_nat (j := 0) rfl, _, rfl, x, D.fC, dx, _, _, rfl, hx, D.fC_cl, D.fC_nrows, z3, _, rfl, A.lr, _, _, V.ref ra, rfl, rfl, SqL.of r1, atI_nat r2, ra, rfl, ⟨_, SqT.of r3⟩, fun D3 hD3 => ?_⟩
    have aD : ra ≠ D3 := ne_of_none r3 hD3
    have lg := hF.gnm_len lf0
    refine lc_it (walk_tup (K := K) (a := ra) (xs := (gnm (tn Ts f0)).map V.str)) (fun i H' => But [D3] (upd H D3 (.lst [])) H' ∧ H' D3 = some (.lst ((((gnm (tn Ts f0)).take i).filter (comP Ts (f0 :: fl))).map V.str))) ⟨But.refl _, upd_same⟩ (fun i H' _ hh => SqT.of (hh.1 _ _ (by simpa using aD) (by rw [upd_ne aD]; exact r3))) ?_ ?_
    · rintro i z H1 H1' hi ⟨b1, h1⟩ ⟨rfl, hz⟩
      rw [List.getElem?_map] at hz
      obtain ⟨s, hs, rfl⟩ := Option.map_eq_some_iff.mp hz
      have s1 : Same H H1' := same_of b1 hD3
      have F1 := hF.fresh s1
      obtain ⟨dx1, fx1, hx1, w1, w2, w3, w4, w5, w6, w7, w8, w9⟩ := F1.hx
      refine ⟨rfl, _, rfl, x, dx1, _, rfl, hx1, w9 _ (by decide +kernel), _, rfl, _, rfl, x, pf, s, f0 :: fl, A, Ts, ch, bn, rfl, F1, s1 _ _ hp, rng, fun b hb => ⟨_, rfl, ?_⟩⟩
      rw [take_more hs, List.filter_append]
      by_cases c : comP Ts (f0 :: fl) s = true
      · have eb : b = false := by
          cases b with
          | false => rfl
          | true =>
            obtain ⟨f, hf, n⟩ := hb.mp rfl
            exact absurd (comP_iff.mp c f hf) n
        subst eb
        rw [show List.filter (comP Ts (f0 :: fl)) [s] = [s] from by rw [List.filter_cons, if_pos c]; rfl]
        refine iteTe rfl ⟨_, rfl, _, h1, ?_, b1.trans (But.put (by simp)), by rw [upd_same, List.map_append]; rfl⟩
        rw [List.length_map]
        exact small1000 (Nat.le_trans (List.length_filter_le _ _) (by rw [List.length_take]; omega))
      · have eb : b = true := hb.mpr (by
          apply Classical.byContradiction
          intro n
          exact c (comP_iff.mpr fun f hf => Classical.byContradiction fun m => n ⟨f, hf, m⟩))
        subst eb
        rw [show List.filter (comP Ts (f0 :: fl)) [s] = [] from by rw [List.filter_cons, if_neg c]; rfl, List.append_nil]
        exact iteFe rfl ⟨b1, h1⟩
    rintro H1 ⟨b1, h1⟩
    rw [List.length_map, List.take_length] at h1
    have hN : ∀ s, s ∈ (gnm (tn Ts f0)).filter (comP Ts (f0 :: fl)) ↔ ∀ f ∈ f0 :: fl, s ∈ gnm (tn Ts f) := fun s => by
      rw [List.mem_filter, comP_iff]
      exact ⟨fun z => z.2, fun z => ⟨z f0 List.mem_cons_self, z⟩⟩
    have lN : ((gnm (tn Ts f0)).filter (comP Ts (f0 :: fl))).length ≤ 60 := Nat.le_trans (List.length_filter_le _ _) lg
    have s1 : Same H H1 := same_of b1 hD3
    generalize (gnm (tn Ts f0)).filter (comP Ts (f0 :: fl)) = N at h1 hN lN
    refine ⟨(by show 0 ≤ sizeLine; decide), fun pc hpc => ?_⟩
    have s2 : Same H1 (upd H1 pc (.lst [])) := same_new hpc _
    have c2 : (upd H1 pc (.lst [])) pc = some (.lst []) := upd_same
    have n2 := s2 _ _ h1
    have Dpc : D3 ≠ pc := ne_of_none h1 hpc
    have pcA : pc ∉ A.l := fun z => hF.ne_new (.inr z) (none_sameT s1 hpc) rfl
    have DA : D3 ∉ A.l := fun z => hF.ne_new (.inr z) hD3 rfl
    generalize upd H1 pc (.lst []) = H2 at s2 c2 n2 ⊢
    have S2 : Same H H2 := s1.trans s2
    have F2 := hF.fresh S2
    obtain ⟨dx2, fx2, hx2, w1, w2, w3, w4, w5, w6, w7, w8, w9⟩ := F2.hx
    have hways := hF.inv.ways nfs rng
    refine ⟨_, rfl, x, dx2, _, rfl, hx2, w9 _ (by decide +kernel), _, rfl, x, pf, f0 :: fl, A, Ts, ch, bn, rfl, F2, S2 _ _ hp, nfs, rng, (by show prW (wt Ts) (f0 :: fl) ≤ 1000; omega), (fun f hf => hF.inv.chn_len (rng f hf)), lfs, fun H3 p3 s3 p3N C3 => ?_⟩
    obtain ⟨ps, p1, p2, e3⟩ := C3
    have lps : ps.length = (chsF ch (f0 :: fl)).length := by rw [← e3, List.length_map]
    have c3 := s3 _ _ c2
    have F3 := F2.fresh s3
    have p3A : p3 ∉ pc :: A.l := fun z => by
      rcases List.mem_cons.mp z with z | z
      · exact ne_of_none c2 p3N z.symm
      · exact F2.ne_new (.inr z) p3N rfl
    have tsB : ∀ {H' : Hp}, ButT (pc :: A.l) H3 H' → TSame H3 H' := fun b a ys e => b _ _ (fun z => by
        rcases List.mem_cons.mp z with z | z
        · rw [z, c3] at e; cases e
        · exact F3.notTup e z) e fun _ z => by cases z
    refine ⟨p3, rfl, ⟨_, SqL.of p1⟩, ?_⟩
    refine for_list (K := K) (a := p3) (xs := ps.map fun u => V.ref u.1) (fun i σ H' => (∃ o5 o6, σ = [some (.ref x), some (.ref pf), some (.int (f0 : Nat)), some (.ref D3), some (.ref pc), o5, o6, none]) ∧ ∃ (Ts1 : List T) (ch1 : List Ch) (bn1 : List Str) (Cs1 : Ch), ButT (pc :: A.l) H3 H' ∧ TB Pt H' ∧ FAt P w D.fC H' x A Ts1 ch1 bn1 ∧ (∃ more, Ts1 = Ts ++ more ∧ more.length ≤ sumN (((chsF ch (f0 :: fl)).take i).map fun q => prW (wt Ts) q.2)) ∧ TupL chV H' pc Cs1 ∧ Paired (JoinOf Ts Ts1) Cs1 ((chsF ch (f0 :: fl)).take i))
      ⟨⟨none, none, rfl⟩, Ts, ch, bn, [], ButT.of (But.refl _), LamX.Tabs.ext (LamX.Tabs.ext hT S2) s3, F3, ⟨[], by simp, by simp⟩, TupL.nil c3, by rw [List.take_zero]; exact .nil⟩ (fun i σ H' _ hh => by
        obtain ⟨_, _, _, _, _, b, _⟩ := hh
        exact SqL.of (b _ _ p3A p1 fun _ z => by cases z)) ?_ ?_
    · rintro i z σ H4 hz ⟨⟨o5, o6, rfl⟩, Ts1, ch1, bn1, Cs1, b4, T4, F4, ⟨m1, rfl, lm1⟩, C4, J4⟩
      rw [List.getElem?_map] at hz
      obtain ⟨u, hu, rfl⟩ := Option.map_eq_some_iff.mp hz
      have hcu : (chsF ch (f0 :: fl))[i]? = some u.2.2 := by rw [← e3, List.getElem?_map, hu]; rfl
      have mu := List.mem_of_getElem? hcu
      obtain ⟨uq1, uq2⟩ := mem_chsF.mp mu
      obtain ⟨pu1, pu2, pu3⟩ := p2 u (List.mem_of_getElem? hu)
      obtain ⟨wy, wlt⟩ := hF.inv.way rng uq2
      obtain ⟨wq, k, v, ekv, lk, dk⟩ := hF.inv.head lf0 mu
      have uA : u.2.1 ∉ A.l := fun z => F2.ne_new (.inr z) pu3 rfl
      have upc : u.2.1 ≠ pc := (ne_of_none c2 pu3).symm
      have pu1' := tsB b4 _ _ pu1
      have pu2' := b4 _ _ (by simp [upc, uA]) pu2 fun _ z => by cases z
      have tk := take_more hcu
      have es : sumN (((chsF ch (f0 :: fl)).take (i + 1)).map fun q => prW (wt Ts) q.2) = sumN (((chsF ch (f0 :: fl)).take i).map fun q => prW (wt Ts) q.2) + prW (wt Ts) u.2.2.2 := by
        rw [tk, List.map_append, sumN_app]
        simp [sumN]
      have le := sumN_take (l := (chsF ch (f0 :: fl)).map fun q => prW (wt Ts) q.2) (i + 1)
      rw [← List.map_take, es] at le
      have epr : prW (wt (Ts ++ m1)) u.2.2.2 = prW (wt Ts) u.2.2.2 := prW_app wlt
      have lt1 : ∀ j ∈ u.2.2.2, j < (Ts ++ m1).length := fun j hj => by rw [List.length_append]; have := wlt j hj; omega
      have lu : u.2.2.2.length = (f0 :: fl).length := paired_len uq2
      obtain ⟨dx4, fx4, hx4, y1, y2, y3, y4, y5, y6, y7, y8, y9⟩ := F4.hx
      obtain ⟨ys0, g0, _⟩ := C4.lst
      refine ⟨u.1, _, rfl, SqT.of pu1', rfl, _, _, rfl, _, _, rfl, rfl, _, rfl, .inl ⟨rfl, _, SqL.of g0⟩, _, rfl, _, rfl, x, dx4, _, rfl, hx4, y9 _ (by decide +kernel), _, rfl, x, u.2.1, u.2.2.2, A, Ts ++ m1, ch1, bn1, rfl, F4, T4, hvn, pu2', uA, (by rw [ekv]; simp), lt1, ?_, by rw [lu]; exact lfs, by rw [epr, List.length_append]; omega, by rw [epr]; omega, fun H5 j Ts5 ch5 bn5 b5 T5 F5 mr5 lj isj wj => ⟨(by show 2 ≤ sizeLine; decide), fun tt htt => ?_⟩⟩
      · rw [ekv]
        show dT (tn (Ts ++ m1) k) < n
        rw [tn_app lk]
        have : dT (tn Ts f0) < n + 1 := hd
        omega
      obtain ⟨m5, rfl, lm5⟩ := mr5
      rw [epr] at lm5
      have t5 : TSame H4 H5 := F4.tupB b5
      have C5 : TupL chV H5 pc Cs1 := C4.keep (fun o e => b5 _ _ pcA e fun ps z => by rw [z, g0] at e; cases e) t5
      have st : Same H5 (upd H5 tt (.tup (chV (u.2.2.1, j)))) := same_new htt _
      obtain ⟨ys, x1, x2, x3⟩ := (C5.same st).app (x := (u.2.2.1, j)) (upd_same (o := HO.tup (chV (u.2.2.1, j))))
      have tu := upd_t (o := .lst (ys ++ [.ref tt])) x1 fun _ z => by cases z
      have F6 := F5.fresh st
      have lCs : Cs1.length ≤ 1000 := by
        have h1 := paired_len J4
        rw [List.length_take] at h1
        have h2 : (chsF ch (f0 :: fl)).length ≤ sumN ((chsF ch (f0 :: fl)).map fun q => prW (wt Ts) q.2) := chs_le _
        omega
      refine ⟨pc, ys, _, rfl, rfl, x1, by rw [x2]; exact small1000 (by omega), ⟨_, _, rfl⟩, (Ts ++ m1) ++ m5, ch5, bn5, Cs1 ++ [(u.2.2.1, j)], ?_, tb_lst x1 (LamX.Tabs.ext T5 st), F6.keep tu (fun a ha => upd_ne (F6.nx x1 pcA a ha)), ⟨m1 ++ m5, List.append_assoc _ _ _, by rw [List.length_append, es]; omega⟩, x3, ?_⟩
      · exact fun a o n e nt => by
          have n0 : a ≠ pc := fun z => n (by simp [z])
          rw [upd_ne n0]
          exact st _ _ (b5 a o (fun z => n (by simp [z])) (b4 a o n e nt) nt)
      · rw [tk]
        exact paired_append (paired_imp (fun _ _ z => z.more m5) J4) (.cons ⟨rfl, lj, by rw [← map_tn_app wlt]; exact isj, by rw [← epr]; exact wj⟩ .nil)
    · rintro σ H4 ⟨⟨o5, o6, rfl⟩, Ts1, ch1, bn1, Cs1, b4, T4, F4, ⟨m1, rfl, lm1⟩, C4, J4⟩
      rw [List.length_map, lps, List.take_length] at lm1 J4
      obtain ⟨dx4, fx4, hx4, y1, y2, y3, y4, y5, y6, y7, y8, y9⟩ := F4.hx
      have n4 := b4 _ _ (by simp [Dpc, DA]) (s3 _ _ n2) fun _ z => by cases z
      have sj := common_sum J4
      have lCs : Cs1.length ≤ 900 := by
        have h1 := paired_len J4
        have h2 : (chsF ch (f0 :: fl)).length ≤ sumN ((chsF ch (f0 :: fl)).map fun q => prW (wt Ts) q.2) := chs_le _
        omega
      have ok0 := hF.okN hvn (f0 + 1) (Nat.lt_succ_self _) lf0
      have okn : ∀ s ∈ N, wordOk s = true ∧ s ≠ "all" ∧ s ∈ A.vn := fun s hs => okN_gnm ok0 s ((hN s).mp hs f0 List.mem_cons_self)
      have wd : Wds (Ts ++ m1) N Cs1 := ⟨fun s hs => (okn s hs).1, fun s hs => (okn s hs).2.1, fun c hc => by
        obtain ⟨q', hq', j⟩ := paired_mem1 J4 c hc
        rw [j.1]
        exact (hF.inv.head lf0 hq').1, fun c hc => by
        obtain ⟨q', hq', j⟩ := paired_mem1 J4 c hc
        exact j.2.1⟩
      have d11 := hF.inv.dp _ (List.mem_of_getElem? (at_tn lf0))
      refine ⟨_, rfl, x, dx4, _, rfl, hx4, y9 _ (by decide +kernel), _, rfl, _, rfl, x, D3, pc, N, Cs1, A, Ts ++ m1, ch1, bn1, rfl, F4, T4, n4, C4, wd, (fun s hs => (okn s hs).2.2), by omega, by rw [List.length_append]; omega, by omega, fun p hp => ?_, fun H5 i X Ts5 ch5 bn5 b5 T5 F5 mr5 hi rdX ev cwX czX => ?_⟩
      · obtain ⟨c, hc, rfl⟩ := List.mem_map.mp hp
        obtain ⟨q', hq', j⟩ := paired_mem1 J4 c hc
        obtain ⟨_, k, v, ekv, lk, dk⟩ := hF.inv.head lf0 hq'
        have le := j.2.2.1.1 (tn Ts k) (by rw [ekv]; exact List.mem_cons_self)
        have := dT_le (dT (tn Ts k)) (Nat.le_refl _) le
        show dT (tn (Ts ++ m1) c.2) + 1 ≤ 11
        omega
      obtain ⟨m2, rfl, lm2⟩ := mr5
      have li := (List.getElem?_eq_some_iff.mp hi).1
      refine q H5 i _ ch5 bn5 (fun a o n e nt => ?_) T5 F5 ⟨m1 ++ m2, List.append_assoc _ _ _, by rw [List.length_append]; omega⟩ li ?_ ?_
      · have e3' := s3 _ _ (S2 _ _ e)
        refine b5 a o n (b4 a o ?_ e3' nt) nt
        intro z
        rcases List.mem_cons.mp z with z | z
        · exact ne_of_none (s1 _ _ e) hpc z
        · exact n z
      · rw [tn_at hi]
        refine IsJ.of_eqv (join_raw (fun s hs => (okn s hs).2.1) (by simp) (fun s => ?_) (fun p hp => ?_) fun r as wy => ?_) ev
        · rw [hN s]
          constructor
          · intro h y hy
            obtain ⟨f, hf, rfl⟩ := List.mem_map.mp hy
            exact h f hf
          · exact fun h f hf => h _ (List.mem_map.mpr ⟨f, hf, rfl⟩)
        · obtain ⟨c, hc, rfl⟩ := List.mem_map.mp hp
          obtain ⟨q', hq', j⟩ := paired_mem1 J4 c hc
          refine ⟨q'.2.map (tn Ts), ?_, j.2.2.1⟩
          show Way c.1 _ _
          rw [j.1]
          exact (hF.inv.way rng (mem_chsF.mp hq').2).1
        · obtain ⟨q', hq', rfl, rfl⟩ := hF.inv.chs_way rng nfs wy
          obtain ⟨c, hc, j⟩ := paired_mem2 J4 q' hq'
          exact ⟨tn (Ts ++ m1) c.2, List.mem_map.mpr ⟨c, hc, by rw [j.1]⟩, j.2.2.1⟩
      · show tz (tn _ i) ≤ _
        rw [tn_at hi]
        unfold tz
        omega
end
end K1
namespace K1
open PySem L2 K8
/-! ### __init__ -/
/-- an object that is being filled with new places -/
structure Ini (C dx : Addr) (H0 H : Hp) (x : Addr) (fs : List (Str × V)) (L : List (Addr × HO)) : Prop where
  hx : H x = some (.ins C dx fs)
  at_ : ∀ p ∈ L, H p.1 = some p.2
  nd : (L.map (·.1)).Nodup
  nx : ∀ p ∈ L, p.1 ≠ x
  old : ∀ p ∈ L, H0 p.1 = none
  keep : ∀ a o, a ≠ x → H0 a = some o → H a = some o
theorem Ini.step {C dx : Addr} {H0 H : Hp} {x : Addr} {fs : List (Str × V)} {L : List (Addr × HO)} (h : Ini C dx H0 H x fs L) {l : Addr} (hl : H l = none) (o : HO) (fs' : List (Str × V)) : Ini C dx H0 (upd (upd H l o) x (.ins C dx fs')) x fs' (L ++ [(l, o)]) := by
  have xl : x ≠ l := ne_of_none h.hx hl
  have e : ∀ {a : Addr} {u : HO}, a ≠ x → H a = some u → (upd (upd H l o) x (.ins C dx fs')) a = some u := fun n q => by rw [upd_ne n, upd_ne (ne_of_none q hl)]; exact q
  have el : (upd (upd H l o) x (.ins C dx fs')) l = some o := by rw [upd_ne xl.symm, upd_same]
  refine ⟨upd_same, fun p hp => ?_, ?_, fun p hp => ?_, fun p hp => ?_, fun a u n q => e n (h.keep a u n q)⟩
  · rcases List.mem_append.mp hp with z | z
    · exact e (h.nx p z) (h.at_ p z)
    · rw [List.mem_singleton.mp z]; exact el
  · rw [List.map_append]
    refine List.nodup_append.mpr ⟨h.nd, by simp, fun a ha b hb e => ?_⟩
    obtain ⟨p, hp, rfl⟩ := List.mem_map.mp ha
    have : b = l := by simpa using hb
    have q := h.at_ p hp
    rw [e, this, hl] at q
    cases q
  · rcases List.mem_append.mp hp with z | z
    · exact h.nx p z
    · rw [List.mem_singleton.mp z]; exact xl.symm
  · rcases List.mem_append.mp hp with z | z
    · exact h.old p z
    · rw [List.mem_singleton.mp z]
      cases q : H0 l with
      | none => rfl
      | some u => have := h.keep l u xl.symm q; rw [hl] at this; cases this
theorem tb_ins {Pt : Addr} {H H' : Hp} {x C dx : Addr} {fs : List (Str × V)} (e : H x = some (.ins C dx fs)) (k : ∀ a o, a ≠ x → H a = some o → (∀ ps, o ≠ .tbl ps) → H' a = some o) (k2 : ∀ a o, a ≠ x → H a = some o → H' a = some o) (t : TB Pt H) : TB Pt H' := fun p hp => by
  obtain ⟨ps, h1, h2, h3⟩ := t p hp
  refine ⟨ps, k2 _ _ (fun z => by rw [z, e] at h1; cases h1) h1, h2, fun pos cv hc => ?_⟩
  obtain ⟨c, e1, e2⟩ := h3 pos cv hc
  exact ⟨c, e1, k2 _ _ (fun z => by rw [z, e] at e2; unfold LamX.CodeO at e2; cases e2) e2⟩
section
variable {P : Program} {w : World} {C : Addr} {H : Hp} {x : Addr} {A : FA} {Ts : List T} {ch : List Ch} {bn : List Str}
theorem FAt.top (h : FAt P w C H x A Ts ch bn) {dx : Addr} {fs : List (Str × V)} (e : H x = some (.ins C dx fs)) (v : V) : FAt P w C (upd H x (.ins C dx (putF "top" v fs))) x A Ts ch bn := by
  obtain ⟨dx', fs', h1, l1, l2, l3, l4, l5, l6, l7, l8, l9⟩ := h.hx
  rw [e] at h1
  injection h1 with h1
  injection h1 with _ _ h1
  subst h1
  have t : TSame H (upd H x (.ins C dx (putF "top" v fs))) := upd_t e fun _ z => by cases z
  have u : ∀ {a o}, a ∈ A.l → H a = some o → (upd H x (.ins C dx (putF "top" v fs))) a = some o := fun {a o} m q => (upd_ne (show a ≠ x from fun z => h.xN (by rw [← z]; exact m))).trans q
  have lk : ∀ m : Str, m ≠ "top" → (putF "top" v fs).lookup m = fs.lookup m := fun m n => by rw [lookup_putF, if_neg n]
  obtain ⟨cvs, c1, c2⟩ := h.conc
  obtain ⟨ras, r1, r2⟩ := h.rows
  obtain ⟨has, g1, g2⟩ := h.kids
  obtain ⟨ms, m1, m2⟩ := h.masks
  obtain ⟨kt, w1, w2⟩ := h.memo
  refine ⟨⟨dx, _, upd_same, by rw [lk _ (by decide +kernel)]; exact l1, by rw [lk _ (by decide +kernel)]; exact l2, by rw [lk _ (by decide +kernel)]; exact l3, by rw [lk _ (by decide +kernel)]; exact l4, by rw [lk _ (by decide +kernel)]; exact l5, by rw [lk _ (by decide +kernel)]; exact l6, by rw [lk _ (by decide +kernel)]; exact l7, by rw [lk _ (by decide +kernel)]; exact l8, fun m hm => by rw [lk _ (fun z => hm (by rw [z]; decide +kernel))]; exact l9 m hm⟩,
    ⟨cvs, u (by simp [FA.l]) c1, pairT_t t c2⟩, u (by simp [FA.l]) h.texts, ⟨ras, u (by simp [FA.l]) r1, paired_imp (fun _ _ q => t _ _ q) r2⟩, ⟨has, u (by simp [FA.l]) g1, paired_imp (fun _ _ q => q.t t) g2⟩, ⟨ms, u (by simp [FA.l]) m1, m2⟩, u (by simp [FA.l]) h.bits, h.nums.keep ?_ t, ⟨kt, u (by simp [FA.l]) w1, w2⟩, h.ne, h.voc, h.inv⟩
  exact (upd_ne (show A.dn ≠ x from fun z => h.xN (by rw [← z]; simp [FA.l]))).symm
end
theorem fi_nil : FI [] [] [] := ⟨rfl, .nil, (fun t h => by cases h), (fun t h => by cases h), (fun t h => by cases h), (fun i c t h => by simp at h), .nil, (fun t h => by cases h), Nat.zero_le _, (fun t h => by cases h), fun t h => by cases h⟩
section
variable {P : Program} {w : World} {K : PySem.W.Frag} {mg : Str → Option Value} {base : Heap}
def spFInit (P : Program) (w : World) (C Pt : Addr) : Sp := fun vs H Q _ => ∃ (x dx : Addr) (vn : List Str), vs = [.ref x] ∧ H x = some (.ins C dx []) ∧ TB Pt H ∧ vn.length ≤ 60 ∧
  ∀ H' A Ts ch bn, (∀ a o, a ≠ x → H a = some o → (∀ ps, o ≠ .tbl ps) → H' a = some o) → TB Pt H' → A.vn = vn → (∀ a ∈ A.l, H a = none) → FAt P w C H' x A Ts ch bn → Ts.length ≤ 1 → Q .non H'
theorem ok_finit (D : Defs K mg) {cM Pt : Addr} (M : MkC D cM) (hTB : LamX.TabB base mg cM Pt) : FnOk P w K mg base CX0 29 D.d_f_init.f D.d_f_init.fd ["self"] (spFInit P w D.fC Pt) := by
  have GM := ok_make (P := P) (w := w) (base := base) D M hTB
  refine D.d_f_init.F.ok sc_f_init (fun vs H Q E h => ?_) (fun cdv A outer s H vs Q E hr h => ?_)
  · obtain ⟨x, dx, vn, rfl, _⟩ := h
    rfl
  obtain ⟨x, dx, vn, rfl, hx, hT, lvn, q⟩ := h
  refine ⟨_, (pss_cons (ps_fld (pv 0) (pe_lst pa_nil) rfl)
      (pss_cons (ps_fld (pv 0) (pe_lst pa_nil) rfl)
      (pss_cons (ps_fld (pv 0) (pe_lst pa_nil) rfl)
      (pss_cons (ps_fld (pv 0) (pe_lst pa_nil) rfl)
      (pss_cons (ps_fld (pv 0) pe_dnewK rfl)
      (pss_cons (ps_fld (pv 0) pe_dnewT rfl)
      (pss_cons (ps_fld (pv 0) pe_dnewK rfl)
      (pss_cons (ps_fld (pv 0) (pe_lst pa_nil) rfl)
      (pss_cons (ps_fld (pv 0) pe_dnewK rfl)
      (pss_one (ps_fld (pv 0) (pe_meth (pv 0) D.fC_cl D.d_f_make.me GM hr D.d_f_make.b .nil pass0 (pa_cons (pe_lst pa_nil) (pa_cons (pe_lst pa_nil) pa_nil))) rfl))))))))))), ?_⟩
  have I0 : Ini D.fC dx H H x [] [] := ⟨hx, (fun p hp => by cases hp), .nil, (fun p hp => by cases hp), (fun p hp => by cases hp), fun a o n e => e⟩
  refine ⟨(by show 0 ≤ sizeLine; decide), fun lc hlc => ⟨_, rfl, x, D.fC, dx, _, rfl, (by rw [upd_ne (ne_of_none I0.hx hlc)]; exact I0.hx), D.fC_cl, D.fC_nconcepts, (by show 0 < 1000; decide), ?_⟩⟩
  have I1 := I0.step hlc (.lst []) (putF "concepts" (.ref lc) [])
  generalize upd (upd H lc (.lst [])) x (.ins D.fC dx (putF "concepts" (.ref lc) [])) = H1 at I1 ⊢
  refine ⟨(by show 0 ≤ sizeLine; decide), fun lt hlt => ⟨_, rfl, x, D.fC, dx, _, rfl, (by rw [upd_ne (ne_of_none I1.hx hlt)]; exact I1.hx), D.fC_cl, D.fC_ntexts, (by show 1 < 1000; decide), ?_⟩⟩
  have I2 := I1.step hlt (.lst []) (putF "texts" (.ref lt) (putF "concepts" (.ref lc) []))
  generalize upd (upd H1 lt (.lst [])) x (.ins D.fC dx (putF "texts" (.ref lt) (putF "concepts" (.ref lc) []))) = H2 at I2 ⊢
  refine ⟨(by show 0 ≤ sizeLine; decide), fun lr hlr => ⟨_, rfl, x, D.fC, dx, _, rfl, (by rw [upd_ne (ne_of_none I2.hx hlr)]; exact I2.hx), D.fC_cl, D.fC_nrows, (by show 2 < 1000; decide), ?_⟩⟩
  have I3 := I2.step hlr (.lst []) (putF "rows" (.ref lr) (putF "texts" (.ref lt) (putF "concepts" (.ref lc) [])))
  generalize upd (upd H2 lr (.lst [])) x (.ins D.fC dx (putF "rows" (.ref lr) (putF "texts" (.ref lt) (putF "concepts" (.ref lc) [])))) = H3 at I3 ⊢
  refine ⟨(by show 0 ≤ sizeLine; decide), fun lh hlh => ⟨_, rfl, x, D.fC, dx, _, rfl, (by rw [upd_ne (ne_of_none I3.hx hlh)]; exact I3.hx), D.fC_cl, D.fC_nchildren, (by show 3 < 1000; decide), ?_⟩⟩
  have I4 := I3.step hlh (.lst []) (putF "children" (.ref lh) (putF "rows" (.ref lr) (putF "texts" (.ref lt) (putF "concepts" (.ref lc) []))))
  generalize upd (upd H3 lh (.lst [])) x (.ins D.fC dx (putF "children" (.ref lh) (putF "rows" (.ref lr) (putF "texts" (.ref lt) (putF "concepts" (.ref lc) []))))) = H4 at I4 ⊢
  intro dn hdn
  refine ⟨_, rfl, x, D.fC, dx, _, rfl, (by rw [upd_ne (ne_of_none I4.hx hdn)]; exact I4.hx), D.fC_cl, D.fC_n_numbers, (by show 4 < 1000; decide), ?_⟩
  have I5 := I4.step hdn (.dK []) (putF "_numbers" (.ref dn) (putF "children" (.ref lh) (putF "rows" (.ref lr) (putF "texts" (.ref lt) (putF "concepts" (.ref lc) [])))))
  generalize upd (upd H4 dn (.dK [])) x (.ins D.fC dx (putF "_numbers" (.ref dn) (putF "children" (.ref lh) (putF "rows" (.ref lr) (putF "texts" (.ref lt) (putF "concepts" (.ref lc) [])))))) = H5 at I5 ⊢
  intro dw hdw
  refine ⟨_, rfl, x, D.fC, dx, _, rfl, (by rw [upd_ne (ne_of_none I5.hx hdw)]; exact I5.hx), D.fC_cl, D.fC_n_within, (by show 5 < 1000; decide), ?_⟩
  have I6 := I5.step hdw (.dT []) (putF "_within" (.ref dw) (putF "_numbers" (.ref dn) (putF "children" (.ref lh) (putF "rows" (.ref lr) (putF "texts" (.ref lt) (putF "concepts" (.ref lc) []))))))
  generalize upd (upd H5 dw (.dT [])) x (.ins D.fC dx (putF "_within" (.ref dw) (putF "_numbers" (.ref dn) (putF "children" (.ref lh) (putF "rows" (.ref lr) (putF "texts" (.ref lt) (putF "concepts" (.ref lc) []))))))) = H6 at I6 ⊢
  intro du hdu
  refine ⟨_, rfl, x, D.fC, dx, _, rfl, (by rw [upd_ne (ne_of_none I6.hx hdu)]; exact I6.hx), D.fC_cl, D.fC_n_upper, (by show 6 < 1000; decide), ?_⟩
  have I7 := I6.step hdu (.dK []) (putF "_upper" (.ref du) (putF "_within" (.ref dw) (putF "_numbers" (.ref dn) (putF "children" (.ref lh) (putF "rows" (.ref lr) (putF "texts" (.ref lt) (putF "concepts" (.ref lc) [])))))))
  generalize upd (upd H6 du (.dK [])) x (.ins D.fC dx (putF "_upper" (.ref du) (putF "_within" (.ref dw) (putF "_numbers" (.ref dn) (putF "children" (.ref lh) (putF "rows" (.ref lr) (putF "texts" (.ref lt) (putF "concepts" (.ref lc) [])))))))) = H7 at I7 ⊢
  refine ⟨(by show 0 ≤ sizeLine; decide), fun lm hlm => ⟨_, rfl, x, D.fC, dx, _, rfl, (by rw [upd_ne (ne_of_none I7.hx hlm)]; exact I7.hx), D.fC_cl, D.fC_n_masks, (by show 7 < 1000; decide), ?_⟩⟩
  have I8 := I7.step hlm (.lst []) (putF "_masks" (.ref lm) (putF "_upper" (.ref du) (putF "_within" (.ref dw) (putF "_numbers" (.ref dn) (putF "children" (.ref lh) (putF "rows" (.ref lr) (putF "texts" (.ref lt) (putF "concepts" (.ref lc) []))))))))
  generalize upd (upd H7 lm (.lst [])) x (.ins D.fC dx (putF "_masks" (.ref lm) (putF "_upper" (.ref du) (putF "_within" (.ref dw) (putF "_numbers" (.ref dn) (putF "children" (.ref lh) (putF "rows" (.ref lr) (putF "texts" (.ref lt) (putF "concepts" (.ref lc) []))))))))) = H8 at I8 ⊢
  intro db hdb
  refine ⟨_, rfl, x, D.fC, dx, _, rfl, (by rw [upd_ne (ne_of_none I8.hx hdb)]; exact I8.hx), D.fC_cl, D.fC_n_bits, (by show 8 < 1000; decide), ?_⟩
  have I9 := I8.step hdb (.dK []) (putF "_bits" (.ref db) (putF "_masks" (.ref lm) (putF "_upper" (.ref du) (putF "_within" (.ref dw) (putF "_numbers" (.ref dn) (putF "children" (.ref lh) (putF "rows" (.ref lr) (putF "texts" (.ref lt) (putF "concepts" (.ref lc) [])))))))))
  generalize upd (upd H8 db (.dK [])) x (.ins D.fC dx (putF "_bits" (.ref db) (putF "_masks" (.ref lm) (putF "_upper" (.ref du) (putF "_within" (.ref dw) (putF "_numbers" (.ref dn) (putF "children" (.ref lh) (putF "rows" (.ref lr) (putF "texts" (.ref lt) (putF "concepts" (.ref lc) [])))))))))) = H9 at I9 ⊢
  have nd9 := I9.nd
  have at9 := I9.at_
  have old9 := I9.old
  simp only [List.nil_append, List.cons_append] at nd9 at9 old9
  let A : FA := ⟨lc, lt, lr, lh, dn, dw, lm, db, vn⟩
  have F9 : FAt P w D.fC H9 x ⟨lc, lt, lr, lh, dn, dw, lm, db, vn⟩ [] [] [] := by
    refine ⟨⟨dx, _, I9.hx, rfl, rfl, rfl, rfl, rfl, rfl, rfl, rfl, fun m hm => ?_⟩, ⟨[], at9 (lc, .lst []) (by simp), .nil⟩, at9 (lt, .lst []) (by simp), ⟨[], at9 (lr, .lst []) (by simp), .nil⟩, ⟨[], at9 (lh, .lst []) (by simp), .nil⟩, ⟨[], at9 (lm, .lst []) (by simp), .nil⟩, at9 (db, .dK []) (by simp), .inl ⟨rfl, at9 (dn, .dK []) (by simp)⟩, ⟨[], at9 (dw, .dT []) (by simp), .nil, fun k v h => by cases h⟩, ?_, ⟨lvn, fun s h => by cases h⟩, fi_nil⟩
    · have n : ∀ f : Str, f ∈ fNames → f ≠ m := fun f hf z => hm (z ▸ hf)
      rw [lookup_putF, if_neg (n _ (by decide +kernel)).symm, lookup_putF, if_neg (n _ (by decide +kernel)).symm, lookup_putF, if_neg (n _ (by decide +kernel)).symm, lookup_putF, if_neg (n _ (by decide +kernel)).symm, lookup_putF, if_neg (n _ (by decide +kernel)).symm, lookup_putF, if_neg (n _ (by decide +kernel)).symm, lookup_putF, if_neg (n _ (by decide +kernel)).symm, lookup_putF, if_neg (n _ (by decide +kernel)).symm, lookup_putF, if_neg (n _ (by decide +kernel)).symm]
      rfl
    · exact nd9.sublist (.cons₂ _ (.cons₂ _ (.cons₂ _ (.cons₂ _ (.cons₂ _ (.cons₂ _ (.cons _ (.cons₂ _ (.cons₂ _ .slnil)))))))))
  have AO : ∀ a ∈ FA.l ⟨lc, lt, lr, lh, dn, dw, lm, db, vn⟩, H a = none := fun a ha => by
    simp only [FA.l, List.mem_cons, List.not_mem_nil, or_false] at ha
    rcases ha with rfl | rfl | rfl | rfl | rfl | rfl | rfl | rfl
    · exact old9 (_, .lst []) (by simp)
    · exact old9 (_, .lst []) (by simp)
    · exact old9 (_, .lst []) (by simp)
    · exact old9 (_, .lst []) (by simp)
    · exact old9 (_, .dK []) (by simp)
    · exact old9 (_, .dT []) (by simp)
    · exact old9 (_, .lst []) (by simp)
    · exact old9 (_, .dK []) (by simp)
  have T9 : TB Pt H9 := tb_ins hx (fun a o n e _ => I9.keep a o n e) I9.keep hT
  have k9 := I9.keep
  have x9 := I9.hx
  obtain ⟨dx9, fs9, hx9, z1, z2, z3, z4, z5, z6, z7, z8, z9⟩ := F9.hx
  refine ⟨_, rfl, x, dx9, _, rfl, hx9, z9 _ (by decide +kernel), (by show 0 ≤ sizeLine; decide), fun pn hpn => ⟨(by show 0 ≤ sizeLine; decide), fun pc hpc => ?_⟩⟩
  have s2 : Same H9 (upd (upd H9 pn (.lst [])) pc (.lst [])) := (same_new hpn _).trans (same_new hpc _)
  have n2 : (upd (upd H9 pn (.lst [])) pc (.lst [])) pn = some (.lst []) := same_new hpc _ _ _ upd_same
  have c2 : (upd (upd H9 pn (.lst [])) pc (.lst [])) pc = some (.lst []) := upd_same
  generalize upd (upd H9 pn (.lst [])) pc (.lst []) = H10 at s2 n2 c2 ⊢
  refine ⟨x, pn, pc, [], [], ⟨lc, lt, lr, lh, dn, dw, lm, db, vn⟩, [], [], [], rfl, F9.fresh s2, LamX.Tabs.ext T9 s2, n2, TupL.nil c2, ⟨(fun s h => by cases h), (fun s h => by cases h), (fun s h => by cases h), fun s h => by cases h⟩, (fun s h => by cases h), by simp, by simp, by simp [chT, sumT], (fun p hp => by cases hp), fun H11 i X Ts' ch' bn' b11 T11 F11 mr hi rdX ev cwX czX => ?_⟩
  obtain ⟨m, rfl, lm'⟩ := mr
  have x11 := b11 x _ F9.xN (s2 _ _ x9) fun _ z => by cases z
  refine ⟨_, rfl, x, D.fC, dx, _, rfl, x11, D.fC_cl, D.fC_ntop, (by show 9 < 1000; decide), ?_⟩
  have F12 := F11.top x11 (.int (i : Nat))
  refine q _ _ _ ch' bn' (fun a o n e nt => ?_) ?_ rfl AO F12 (by simpa using lm')
  · rw [upd_ne n]
    exact b11 a o (fun z => by rw [AO a z] at e; cases e) (s2 _ _ (k9 a o n e)) nt
  · exact tb_ins x11 (fun a o n e _ => by rw [upd_ne n]; exact e) (fun a o n e => by rw [upd_ne n]; exact e) T11
end
end K1
namespace K1
open PySem L2 K8
theorem snocF {α : Type} (l : List α) : l = [] ∨ ∃ r x, l = r ++ [x] := by
  rcases List.eq_nil_or_concat l with h | ⟨r, x, h⟩
  · exact .inl h
  · exact .inr ⟨r, x, by rw [h, List.concat_eq_append]⟩
theorem sumN_pred {α : Type} {f : α → Nat} : ∀ {l : List α}, (∀ a ∈ l, 1 ≤ f a) → sumN (l.map fun a => f a - 1) + l.length = sumN (l.map f)
  | [], _ => rfl
  | a :: l, h => by
    have h1 := sumN_pred (l := l) fun b hb => h b (List.mem_cons_of_mem _ hb)
    have h2 := h a List.mem_cons_self
    rw [List.map_cons, List.map_cons, sumN, sumN, List.length_cons]
    omega
theorem sumN_mem {α : Type} {f : α → Nat} : ∀ {l : List α} {a : α}, a ∈ l → f a ≤ sumN (l.map f)
  | b :: l, a, h => by
    rw [List.map_cons, sumN]
    rcases List.mem_cons.mp h with rfl | h
    · omega
    · have := sumN_mem (f := f) h; omega
theorem paired_snocR {α β : Type} {R : α → β → Prop} {b : β} : ∀ {m : List β} {xs : List α}, Paired R xs (m ++ [b]) → ∃ r a, xs = r ++ [a] ∧ Paired R r m ∧ R a b
  | [], xs, p => by
    cases p with
    | cons h p => cases p; exact ⟨[], _, rfl, .nil, h⟩
  | c :: m, xs, p => by
    rw [List.cons_append] at p
    cases p with
    | cons h p =>
      obtain ⟨r, a, rfl, q, z⟩ := paired_snocR p
      exact ⟨_ :: r, a, rfl, .cons h q, z⟩
theorem len_prW {Ts : List T} : ∀ l : List (List Nat), l.length ≤ sumN (l.map (prW (wt Ts)))
  | [] => Nat.le_refl _
  | v :: l => by
    rw [List.map_cons, sumN, List.length_cons]
    have h1 := len_prW (Ts := Ts) l
    have h2 : 1 ≤ prW (wt Ts) v := prodN_pos wt_pos
    omega
section
variable {P : Program} {w : World} {K : PySem.W.Frag} {mg : Str → Option Value} {base : Heap}
/-! ### _need_small -/
structure WOk (Ts : List T) (w : List Nat) : Prop where
  ne : w ≠ []
  rng : ∀ k ∈ w, k < Ts.length
  len : w.length ≤ 1000
  pr : prW (wt Ts) w ≤ 900
def spNeedS (P : Program) (w : World) (C : Addr) : Sp := fun vs H Q _ => ∃ (x pn : Addr) (fs : List Nat) (A : FA) (Ts : List T) (ch : List Ch) (bn : List Str), vs = [.ref x, .ref pn] ∧ FAt P w C H x A Ts ch bn ∧ H pn = some (.lst (natsV fs)) ∧ WOk Ts fs ∧ ∀ H', Same H H' → Q .non H'
theorem ok_needS (D : Defs K mg) : FnOk P w K mg base CX0 3 D.d_need_small.f D.d_need_small.fd ["forms", "numbers"] (spNeedS P w D.fC) := by
  have GC := ok_many (P := P) (w := w) (base := base) D
  have GH := ok_choices (P := P) (w := w) (base := base) D
  obtain ⟨tM, hM⟩ := D.mo_m
  refine D.d_need_small.F.ok sc_need_small (fun vs H Q E h => ?_) (fun cdv A outer s H vs Q E hr h => ?_)
  · obtain ⟨x, pn, fs, A, Ts, ch, bn, rfl, _⟩ := h
    rfl
  obtain ⟨x, pn, fs, A, Ts, ch, bn, rfl, hF, hp, wo, q⟩ := h
  refine ⟨_, (pss_cons (ps_par (i := 2) (j := 3) rfl sc_need_small.nd rfl rfl (by decide) rfl rfl (pa_cons pe_int (pa_cons (pe_lst (pa_cons (pv 1) pa_nil)) pa_nil)) (by rfl))
      (pss_cons (ps_while PassesOwn.never (PW.pt (pw_and (pt_truth (pv 3) (by intro _; rfl)) (pw_and1 (pt_cmpR op_le (pv 2) (pe_glob (v := .int 2000) (by rfl) hM ⟨_, rfl⟩) (nomark _))))) (pss_cons (ps_set (i := 4) sc_need_small.nd rfl (Or.inl rfl) (pe_bm0 PySem.F.plainAttrs_list PySem.F.slot_list_pop PySem.F.type_list_pop mt_pop (pv 3)))
      (pss_cons (ps_set (i := 2) sc_need_small.nd rfl (Or.inl rfl) (pe_op op_add (pv 2) (pe_meth (pv 0) D.fC_cl D.d_f_many_choices.me GC hr D.d_f_many_choices.b .nil pass0 (pa_cons (pv 4) pa_nil))))
      (pss_one (ps_if (pt_cmpR op_le (pv 2) (pe_glob (v := .int 2000) (by rfl) hM ⟨_, rfl⟩) (nomark _)) (pss_one (ps_expr (pe_bm PySem.F.plainAttrs_list PySem.F.slot_list_extend PySem.F.type_list_extend mt_extend (pv 3) (pa_cons (pe_lc (own := [("_", 5), ("choice", 6)]) (g := gTup K 2 (gCons (gName 5) (gCons (gName 6) gNil))) rfl sc_need_small.nd (pi_list (pe_meth (pv 0) D.fC_cl D.d_f_choices.me GH hr D.d_f_choices.b .nil pass0 (pa_cons (pv 4) pa_nil))) (blkOk_by (N := ["forms", "numbers", "many", "waiting", "chosen", "_", "choice"]) (sc := defScope s_need_small) (by decide +kernel))
          (fun _ _ _ _ _ => pg_tup rfl (pgs_cons (pg_name (i := 5) sc_need_small.nd rfl (Or.inl rfl)) (pgs_cons (pg_name (i := 6) sc_need_small.nd rfl (Or.inl rfl)) pgs_nil))) (fun _ _ _ _ _ => pts_nil) (fun _ _ _ _ _ => (pv 6))) pa_nil)))) pss_nil)))))
      (pss_one (ps_if (pt_cmpR op_gt (pv 2) (pe_glob (v := .int 2000) (by rfl) hM ⟨_, rfl⟩) (nomark _)) (pss_one ps_never) pss_nil)))), ?_⟩
  refine ⟨_, rfl, (by show 1 ≤ sizeLine; decide), fun wp hwp => ?_⟩
  have pw : pn ≠ wp := ne_of_none hp hwp
  have e0 : (upd H wp (.lst [.ref pn])) wp = some (.lst [.ref pn]) := upd_same
  have s0 : Same H (upd H wp (.lst [.ref pn])) := same_new hwp _
  refine ⟨_, _, rfl, fun m σ H4 => ∃ (many : Nat) (ws : List (List Nat)) (o4 : Option V), m = sumN (ws.map (prW (wt Ts))) ∧ σ = [some (.ref x), some (.ref pn), some (.int (many : Nat)), some (.ref wp), o4, none, none] ∧ But [wp] (upd H wp (.lst [.ref pn])) H4 ∧ LLn H4 (fun _ => True) wp ws ∧ (∀ v ∈ ws, WOk Ts v) ∧ many + sumN (ws.map fun v => prW (wt Ts) v - 1) ≤ 900 ∧ sumN (ws.map (prW (wt Ts))) ≤ 900,
    ⟨_, 1, [fs], none, rfl, rfl, But.refl _, ⟨[pn], e0, .cons (s0 _ _ hp) .nil, fun a ha => by rw [List.mem_singleton.mp ha]; exact ⟨trivial, pw⟩⟩, (fun v hv => by rw [List.mem_singleton.mp hv]; exact wo), ?_, ?_⟩, ?_⟩
  · have := wo.pr
    have h1 : 1 ≤ prW (wt Ts) fs := prodN_pos wt_pos
    show 1 + (prW (wt Ts) fs - 1 + 0) ≤ 900
    omega
  · have := wo.pr
    show prW (wt Ts) fs + 0 ≤ 900
    omega
  rintro m σ H4 ⟨many, ws, o4, rfl, rfl, b4, L4, wok, sm, sw⟩
  have s4 : Same H H4 := same_of b4 hwp
  obtain ⟨as, w1, w2, w3⟩ := id L4
  rcases snocF as with rfl | ⟨as', a, rfl⟩
  · exact ⟨_, rfl, _, .inl ⟨_, SqL.of w1, rfl⟩, iteF ⟨_, rfl, _, _, rfl, rfl, _, rfl, iteFe (decide_eq_false (by omega)) (q H4 s4)⟩⟩
  obtain ⟨ws', v, rfl, w2', hv⟩ := paired_snocR w2
  have wv := wok v (by simp)
  have aw : a ≠ wp := (w3 a (by simp)).2
  have dr : ((as' ++ [a]).map V.ref).dropLast = as'.map V.ref := by rw [List.map_append]; exact List.dropLast_concat
  have lst : ((as' ++ [a]).map V.ref)[((as' ++ [a]).map V.ref).length - 1]? = some (V.ref a) := by simp
  refine ⟨_, rfl, true, .inl ⟨_, SqL.of w1, by simp⟩, iteT ⟨_, rfl, _, _, rfl, rfl, _, rfl, iteTe (decide_eq_true (by omega)) ?_⟩⟩
  have e1 : sumN ((ws' ++ [v]).map fun v => prW (wt Ts) v - 1) = sumN (ws'.map fun v => prW (wt Ts) v - 1) + (prW (wt Ts) v - 1) := by rw [List.map_append, sumN_app]; simp [sumN]
  have e2 : sumN ((ws' ++ [v]).map (prW (wt Ts))) = sumN (ws'.map (prW (wt Ts))) + prW (wt Ts) v := by rw [List.map_append, sumN_app]; simp [sumN]
  rw [e1] at sm
  rw [e2] at sw ⊢
  refine ⟨fun σ' H' => ∃ (many : Nat) (ws : List (List Nat)) (o4 : Option V), sumN (ws.map (prW (wt Ts))) < sumN (ws'.map (prW (wt Ts))) + prW (wt Ts) v ∧ σ' = [some (.ref x), some (.ref pn), some (.int (many : Nat)), some (.ref wp), o4, none, none] ∧ But [wp] (upd H wp (.lst [.ref pn])) H' ∧ LLn H' (fun _ => True) wp ws ∧ (∀ v ∈ ws, WOk Ts v) ∧ many + sumN (ws.map fun v => prW (wt Ts) v - 1) ≤ 900 ∧ sumN (ws.map (prW (wt Ts))) ≤ 900,
    fun σ' H' ⟨many, ws, o4, l1, l2⟩ => ⟨_, l1, many, ws, o4, rfl, l2⟩, ?_⟩
  refine ⟨_, rfl, .inl ⟨rfl, _, SqL.of w1⟩, wp, _, V.ref a, rfl, rfl, w1, lst, ?_⟩
  rw [dr]
  have b5 : But [wp] (upd H wp (.lst [.ref pn])) (upd H4 wp (.lst (as'.map V.ref))) := b4.trans (But.put (by simp))
  have L5 : LLn (upd H4 wp (.lst (as'.map V.ref))) (fun _ => True) wp ws' := ⟨as', upd_same, by
    have key : ∀ {rows : List (List Nat)} {bs : List Addr}, Paired (fun row a => H4 a = some (.lst (natsV row))) rows bs → (∀ b ∈ bs, b ≠ wp) → Paired (fun row a => (upd H4 wp (.lst (as'.map V.ref))) a = some (.lst (natsV row))) rows bs := fun p => by
      induction p with
      | nil => exact fun _ => .nil
      | cons e _ ih => exact fun n => .cons (by rw [upd_ne (n _ List.mem_cons_self)]; exact e) (ih fun b hb => n b (List.mem_cons_of_mem _ hb))
    exact key w2' fun b hb => (w3 b (List.mem_append_left _ hb)).2, fun b hb => w3 b (List.mem_append_left _ hb)⟩
  have hv5 : (upd H4 wp (.lst (as'.map V.ref))) a = some (.lst (natsV v)) := by rw [upd_ne aw]; exact hv
  generalize upd H4 wp (.lst (as'.map V.ref)) = H5 at b5 L5 hv5 ⊢
  have s5 : Same H H5 := same_of b5 hwp
  have F5 := hF.fresh s5
  have hw := hF.inv.ways wv.ne wv.rng
  have pv9 := wv.pr
  have lch : ∀ f ∈ v, (chn ch f).length ≤ 1000 := fun f hf => by
    have h1 := hF.inv.chn_len (wv.rng f hf)
    have h2 : tz (tn Ts f) ≤ prodN (v.map (wt Ts)) := prodN_mem wt_pos (List.mem_map.mpr ⟨f, hf, rfl⟩)
    have h3 : prodN (v.map (wt Ts)) ≤ 900 := pv9
    omega
  obtain ⟨dx5, fx5, hx5, y1, y2, y3, y4, y5, y6, y7, y8, y9⟩ := F5.hx
  refine ⟨_, rfl, _, rfl, x, dx5, _, rfl, hx5, y9 _ (by decide +kernel), _, rfl, x, a, v, A, Ts, ch, bn, rfl, F5, hv5, wv.ne, wv.rng, lch, wv.len, fun H6 s6 => ⟨_, _, rfl, rfl, _, rfl, _, _, rfl, rfl, _, rfl, iteTe (decide_eq_true ?_) ?_⟩⟩
  · have h1 := chs_le (Ts := Ts) (chsF ch v)
    omega
  have S6 : Same H H6 := s5.trans s6
  have F6 := hF.fresh S6
  obtain ⟨dx6, fx6, hx6, z1, z2, z3, z4, z5, z6, z7, z8, z9⟩ := F6.hx
  obtain ⟨as5, w5, w6, w7⟩ := id L5
  refine ⟨_, rfl, .inl ⟨rfl, _, SqL.of (s6 _ _ w5)⟩, _, rfl, x, dx6, _, rfl, hx6, z9 _ (by decide +kernel), _, rfl, x, a, v, A, Ts, ch, bn, rfl, F6, s6 _ _ hv5, wv.ne, wv.rng, (by show prW (wt Ts) v ≤ 1000; omega), (fun f hf => hF.inv.chn_len (wv.rng f hf)), wv.len, fun H7 p7 s7 p7N C7 => ?_⟩
  obtain ⟨ps, p1, p2, p3⟩ := C7
  have lps : ps.length = (chsF ch v).length := by rw [← p3, List.length_map]
  have lch9 : (chsF ch v).length ≤ 900 := by have h1 := chs_le (Ts := Ts) (chsF ch v); omega
  refine ⟨p7, rfl, ⟨_, SqL.of p1⟩, fun D8 hD8 => ?_⟩
  have pD8 : p7 ≠ D8 := ne_of_none p1 hD8
  refine lc_it (walk_list (K := K) (a := p7) (xs := ps.map fun u => V.ref u.1)) (fun i H' => But [D8] (upd H7 D8 (.lst [])) H' ∧ H' D8 = some (.lst ((ps.take i).map fun u => V.ref u.2.1))) ⟨But.refl _, upd_same⟩ (fun i H' _ hh => SqL.of (hh.1 _ _ (by simpa using pD8) (by rw [upd_ne pD8]; exact p1))) ?_ ?_
  · rintro i z H8 H8' hi ⟨b8, h8⟩ ⟨rfl, hz⟩
    rw [List.getElem?_map] at hz
    obtain ⟨u, hu, rfl⟩ := Option.map_eq_some_iff.mp hz
    obtain ⟨q1, q2, q3⟩ := p2 u (List.mem_of_getElem? hu)
    have ut := same_of b8 hD8 _ _ q1
    refine ⟨u.1, _, rfl, SqT.of ut, rfl, _, _, rfl, _, _, rfl, rfl, rfl, _, rfl, _, h8, ?_, b8.trans (But.put (by simp)), by rw [upd_same, take_more hu, List.map_append]; rfl⟩
    rw [List.length_map, List.length_take]
    exact small1000 (by omega)
  rintro H8 ⟨b8, h8⟩
  rw [List.length_map, List.take_length] at h8
  have s8 : Same H7 H8 := same_of b8 hD8
  have S68 : Same H6 H8 := s7.trans s8
  have w58 := S68 _ _ (s6 _ _ w5)
  refine ⟨wp, D8, _, _, rfl, rfl, w58, h8, ?_, _, ws' ++ (chsF ch v).map (·.2), _, ?_, rfl, (b5.trans (But.of (s6.trans S68))).trans (But.put (by simp)), ⟨as5 ++ ps.map (·.2.1), by rw [upd_same, List.map_append, List.map_map]; rfl, ?_, fun b hb => ⟨trivial, ?_⟩⟩, fun u hu => ?_, ?_, ?_⟩
  · have h1 := paired_len w6
    have h2 := len_prW (Ts := Ts) ws'
    rw [List.length_map, List.length_map]
    have : 2000 ≤ sizeLine := by decide
    omega
  · rw [List.map_append, sumN_app, List.map_map]
    have : sumN ((chsF ch v).map (prW (wt Ts) ∘ (·.2))) + 1 ≤ prW (wt Ts) v := hw
    omega
  · have key : ∀ {rows : List (List Nat)} {bs : List Addr}, Paired (fun row a => H5 a = some (.lst (natsV row))) rows bs → (∀ b ∈ bs, b ≠ wp) → ∀ o, Paired (fun row a => (upd H8 wp o) a = some (.lst (natsV row))) rows bs := fun p => by
      induction p with
      | nil => exact fun _ _ => .nil
      | cons e _ ih => exact fun n o => .cons (by rw [upd_ne (n _ List.mem_cons_self)]; exact S68 _ _ (s6 _ _ e)) (ih (fun b hb => n b (List.mem_cons_of_mem _ hb)) o)
    refine paired_append (key w6 (fun b hb => (w7 b hb).2) _) ?_
    rw [← p3, List.map_map]
    have k2 : ∀ l : List (Addr × Addr × (Str × List Nat)), (∀ u ∈ l, u ∈ ps) → ∀ o, Paired (fun row a => (upd H8 wp o) a = some (.lst (natsV row))) (l.map ((·.2) ∘ (·.2.2))) (l.map (·.2.1)) := fun l => by
      induction l with
      | nil => exact fun _ _ => .nil
      | cons u l ih =>
        intro h o
        obtain ⟨q1, q2, q3⟩ := p2 u (h u List.mem_cons_self)
        have n : u.2.1 ≠ wp := fun z => by rw [z, s6 _ _ w5] at q3; cases q3
        exact .cons (by rw [upd_ne n]; exact s8 _ _ q2) (ih (fun w hw => h w (List.mem_cons_of_mem _ hw)) o)
    exact k2 ps (fun u hu => hu) _
  · rcases List.mem_append.mp hb with z | z
    · exact (w7 b z).2
    · obtain ⟨u, hu, rfl⟩ := List.mem_map.mp z
      obtain ⟨q1, q2, q3⟩ := p2 u hu
      exact fun z => by rw [z, s6 _ _ w5] at q3; cases q3
  · rcases List.mem_append.mp hu with z | z
    · exact wok u (List.mem_append_left _ z)
    · obtain ⟨q', hq', rfl⟩ := List.mem_map.mp z
      have m := (mem_chsF.mp hq').2
      have e := paired_len m
      refine ⟨fun z => wv.ne (List.length_eq_zero_iff.mp (by rw [← e, z]; rfl)), (hF.inv.way wv.rng m).2, by rw [e]; exact wv.len, ?_⟩
      have := sumN_mem (f := fun q : Str × List Nat => prW (wt Ts) q.2) hq'
      have this : prW (wt Ts) q'.2 ≤ sumN ((chsF ch v).map fun q => prW (wt Ts) q.2) := this
      omega
  · rw [List.map_append, sumN_app, List.map_map]
    have h1 := sumN_pred (f := fun q : Str × List Nat => prW (wt Ts) q.2) (l := chsF ch v) fun q _ => prodN_pos wt_pos
    have h2 : sumN ((chsF ch v).map ((fun v => prW (wt Ts) v - 1) ∘ (·.2))) + (chsF ch v).length = sumN ((chsF ch v).map fun q => prW (wt Ts) q.2) := h1
    omega
  · rw [List.map_append, sumN_app, List.map_map]
    have : sumN ((chsF ch v).map (prW (wt Ts) ∘ (·.2))) + 1 ≤ prW (wt Ts) v := hw
    omega
end
end K1
namespace K1
open PySem L2 K8
/-! what goes in and comes out, plainly -/
/-- a concept without none, of a small size -/
structure Gd (V : List Str) (t : T) : Prop where
  cw : CW t
  ok : okN V t
  ns : ns t ≤ 8
  nd : ndT t ≤ 900
mutual
theorem dT_ns : ∀ t : T, dT t ≤ ns t
  | .atom a => by rw [dT]; exact Nat.zero_le _
  | .ex r c => by rw [dT, ns]; have := dT_ns c; omega
  | .and l => by rw [dT, ns]; have := dTs_ns l; omega
theorem dTs_ns : ∀ l : List T, dTs l ≤ nss l
  | [] => by rw [dTs]; exact Nat.zero_le _
  | t :: l => by rw [dTs, nss]; have := dT_ns t; have := dTs_ns l; omega
end
mutual
theorem htT_ns : ∀ t : T, htT t ≤ 2 * ns t
  | .atom a => by rw [htT]; exact Nat.zero_le _
  | .ex r c => by rw [htT, ns]; have := htT_ns c; omega
  | .and l => by rw [htT, ns]; have := htTs_ns l; omega
theorem htTs_ns : ∀ l : List T, htTs l ≤ 2 * nss l
  | [] => by rw [htTs]; exact Nat.zero_le _
  | t :: l => by rw [htTs, nss]; have := htT_ns t; have := htTs_ns l; omega
end
theorem word_none : wordOk "none" = false := by decide +kernel
mutual
theorem okN_noN {V : List Str} : ∀ {t : T}, okN V t → noN t = true
  | .atom a, h => by
    rw [okN] at h
    rw [noN]
    rcases h with rfl | ⟨h, _⟩
    · decide +kernel
    · by_cases c : a = "none"
      · rw [c, word_none] at h; cases h
      · simp [c]
  | .ex r c, h => by rw [okN] at h; rw [noN]; exact okN_noN h.2
  | .and l, h => by rw [okN] at h; rw [noN]; exact okNs_noN h
theorem okNs_noN {V : List Str} : ∀ {l : List T}, okNs V l → noNs l = true
  | [], h => by rw [noNs]
  | t :: l, h => by rw [okNs] at h; rw [noNs, okN_noN h.1, okNs_noN h.2]; rfl
end
/-- a reduced form is not deep -/
theorem ns_rd : ∀ {X : T}, Rd X → ns X ≤ 2 * dT X + 1
  | _, .mk I it rd so an => by
    have item : ∀ i ∈ I, ns i ≤ 2 * dT i := fun i hi => by
      cases i with
      | atom a => rw [ns]; exact Nat.zero_le _
      | ex r c => rw [ns, dT]; have := ns_rd (rd r c hi); omega
      | and l => have := it _ hi; cases this
    match I, item with
    | [], _ => rw [conj, ns]; exact Nat.zero_le _
    | [t], h => rw [conj]; have := h t (by simp); omega
    | a :: b :: l, h =>
      show ns (.and (a :: b :: l)) ≤ 2 * dT (.and (a :: b :: l)) + 1
      rw [ns, dT]
      have : nss (a :: b :: l) ≤ 2 * dTs (a :: b :: l) := nss_bound fun t ht => by
        have h1 := h t ht
        have h2 := dTs_mem ht
        omega
      omega
theorem ndT_items : ∀ {I : List T}, (∀ i ∈ I, isIt i = true) → ndTs I = (gnms I).length + ((gchs I).map fun p => ndT p.2 + 1).sum
  | [], _ => by rw [ndTs, gnms, gchs]; rfl
  | i :: I, h => by
    have ih := ndT_items fun j hj => h j (List.mem_cons_of_mem _ hj)
    have hi := h i List.mem_cons_self
    rw [ndTs, gnms, gchs, ih, List.length_append, List.map_append, List.sum_append]
    cases i with
    | atom a =>
      have : a ≠ "all" := of_decide_eq_true hi
      rw [ndT, gnm, if_neg this, gch]
      simp
      omega
    | ex r c => rw [ndT, gnm, gch]; simp; omega
    | and l => cases hi
theorem ndT_rd {V : List Str} : ∀ {X : T}, Rd X → okN V X → ndT X + 1 ≤ (V.length + 2) * tz X
  | _, .mk I it rd so an, ok => by
    have a0 := (gnms_so it so).1
    have nd : (gnms I).Nodup := List.Pairwise.imp (S := fun a b => a ≠ b) (fun {a b} q (z : a = b) => ltbT_irrefl b (by rw [z] at q; exact q)) a0
    have ln : (gnms I).length ≤ V.length := nodup_sub_len nd fun s hs => (okN_gnm ok s (by rw [gnm_conjL]; exact hs)).2.2
    have e : tz (conj I) = sumT (gchs I) + 1 := by unfold tz; rw [cz_gch, gch_conjL]
    have kid : ∀ p ∈ gchs I, ndT p.2 + 1 ≤ (V.length + 2) * tz p.2 := fun p hp => by
      rw [← gch_conjL] at hp
      exact ndT_rd (rd p.1 p.2 ((gch_conj it p).mp hp)) (okN_gch ok p hp).2
    have sum : ∀ l : List (Str × T), (∀ p ∈ l, ndT p.2 + 1 ≤ (V.length + 2) * tz p.2) → (l.map fun p => ndT p.2 + 1).sum ≤ (V.length + 2) * sumT l := fun l => by
      induction l with
      | nil => exact fun _ => Nat.zero_le _
      | cons p l ih =>
        intro h
        have h1 := h p List.mem_cons_self
        have h2 := ih fun q hq => h q (List.mem_cons_of_mem _ hq)
        rw [List.map_cons, List.sum_cons]
        show _ ≤ (V.length + 2) * (tz p.2 + sumT l)
        rw [Nat.mul_add]
        omega
    have hs := sum _ kid
    have hi := ndT_items it
    rw [e, Nat.mul_add]
    match I, hi, hs with
    | [], _, hs => rw [conj, ndT]; omega
    | [t], hi, hs => rw [conj]; rw [ndTs, ndTs] at hi; omega
    | a :: b :: l, hi, hs =>
      show ndT (.and (a :: b :: l)) + 1 ≤ _
      rw [ndT]; omega
theorem Gd.of_rd {V : List Str} {X : T} (r : Rd X) (c : CW X) (o : okN V X) (d : dT X ≤ 3) (lv : V.length ≤ 4) (z : tz X ≤ 50) : Gd V X := by
  have h1 := ns_rd r
  have h2 := ndT_rd r o
  have h3 : (V.length + 2) * tz X ≤ 6 * 50 := Nat.mul_le_mul (by omega) z
  exact ⟨c, o, by omega, by omega⟩
section
variable {X : Cx} {CX : CXT} {k : Nat} {f : Addr} {sp : Sp} {E : XK} {x : Str} {e : Expr} {es : List Expr} {t : TA} {p pos : Pos}
/-- a call of a def with a star parameter, without stars -/
theorem pe_callF (F : FnR X.prog X.w X.K X.mg X.base CX k f sp) (hr : Room k X.A) (hg : Gl X x) (hm : X.mg x = some (.ref f)) (hk : PySem.W.keepIn X.K (.ref f) = true) (hx : Passes CX X E)
    (ha : PA X (e :: es) t) (hdb : (x == ("__debug__" : Str)) = false := by decide) (he : starEach (e :: es) X.env = (false, eval e X.env) :: starEach es X.env := by rfl) (hpl : (backTo pos (starEach es X.env)).any (·.1) = false := by rfl) :
    PE X (.Call (.Name x p) (e :: es) [] pos) (fun σ H Q => t σ H fun vs H1 => sp vs H1 Q E) := by
  refine ⟨fun pins s σ H Q I h => ?_⟩
  refine wpAny_Call_Name_kw (ld_glob I hg hm ?_ hdb)
  refine PySem.W.callWith_K (h₀ := X.base) I.ok.mod.kin hk (thn (ha.run pos pins s σ H _ I h) fun us s1 ⟨vs, H1, I1, r, q⟩ => ⟨I1.kIn, ?_⟩) he hpl
  exact wpAny_call (run_fnR F hr hx I1 r q)
theorem pe_callF0 (F : FnR X.prog X.w X.K X.mg X.base CX k f sp) (hr : Room k X.A) (hg : Gl X x) (hm : X.mg x = some (.ref f)) (hk : PySem.W.keepIn X.K (.ref f) = true) (hx : Passes CX X E)
    (hdb : (x == ("__debug__" : Str)) = false := by decide) : PE X (.Call (.Name x p) [] [] pos) (fun σ H Q => sp [] H Q E) := by
  refine ⟨fun pins s σ H Q I h => ?_⟩
  refine wpAny_Call_Name_kw (ld_glob I hg hm ?_ hdb)
  exact PySem.W.callWith_K0 I.kIn hk (wpAny_call (run_fnR (us := []) F hr hx I .nil h))
end
end K1
namespace K1
open PySem L2 K8
section
variable {P : Program} {w : World} {K : PySem.W.Frag} {mg : Str → Option Value} {base : Heap}
/-! ### reduced -/
theorem Gd.into {V : List Str} {t : T} (g : Gd V t) {A : FA} (e : A.vn = V) {Ts : List T} (z : Ts.length + cz t + 1 ≤ 1000) : Into A 17 Ts t := by
  have h1 := g.ns
  have h2 := g.nd
  have h3 := htT_ns t
  have h4 := dT_ns t
  exact ⟨g.cw, by rw [e]; exact g.ok, by omega, by omega, by omega, z⟩
def spReduced (Pt : Addr) : Sp := fun vs H Q _ => ∃ (v : V) (t : T) (V : List Str), vs = [v] ∧ TB Pt H ∧ TAt H t v ∧ Gd V t ∧ (∀ s ∈ V, wordOk s = true) ∧ V.length ≤ 60 ∧ cz t ≤ 500 ∧
  ∀ H' v' X, ButT [] H H' → TB Pt H' → TAt H' X v' → Rd X → Eqv X t → CW X → okN V X → cz X ≤ cz t → Q v' H'
theorem ok_reduced (D : Defs K mg) {cM Pt : Addr} (M : MkC D cM) (hTB : LamX.TabB base mg cM Pt) : FnOk P w K mg base CX0 64 D.d_reduced.f D.d_reduced.fd ["concept"] (spReduced Pt) := by
  have GO := ok_of (P := P) (w := w) (base := base) D M hTB 17 (ok_gather D M hTB 17)
  have GI := ok_finit (P := P) (w := w) (base := base) D M hTB
  have GN := ok_need (P := P) (w := w) (base := base) D
  have GW := ok_noN (P := P) (w := w) (base := base) D 9
  have MK : L2.Mk K D.fC D.d_f_init.f := ⟨D.fC_mk, D.d_f_init.me.at_, D.d_f_init.me.fn, D.fC_kp⟩
  refine D.d_reduced.F.ok sc_reduced (fun vs H Q E h => ?_) (fun cdv A outer s H vs Q E hr h => ?_)
  · obtain ⟨v, t, V, rfl, _⟩ := h
    rfl
  obtain ⟨v, t, V, rfl, hT, hv, g, hV, lV, hz, q⟩ := h
  have hr1 : Room 13 _ := hr.mono (by omega)
  have hr2 : Room 10 _ := hr.mono (by omega)
  have hr3 : Room 30 _ := hr.mono (by omega)
  refine ⟨_, (pss_cons (ps_expr (pe_call GN hr1 rfl D.d_need_concept.m D.d_need_concept.F.kp D.d_need_concept.b .nil pass0 (pa_cons (pv 0) pa_nil)))
      (pss_cons (ps_if (pt_not (pt_val (pe_call GW hr2 rfl D.d_is_without_none.m D.d_is_without_none.F.kp D.d_is_without_none.b .nil pass0 (pa_cons (pv 0) pa_nil)))) (pss_one (ps_ret pe_str)) pss_nil)
      (pss_cons (ps_set (i := 1) sc_reduced.nd rfl (Or.inl rfl) (pe_make0 MK GI hr3 rfl D.fC_m D.d_f_init.b .nil pass0))
      (pss_one (ps_ret (pe_ix ix_list (pe_fld (pv 1) rfl) (pe_meth (pv 1) D.fC_cl D.d_f_of.me GO hr D.d_f_of.b .nil pass0 (pa_cons (pv 0) pa_nil)) (fun _ _ => rfl))))))), ?_⟩
  have n8 := g.ns
  have nst : nestedB H 100 v = true := (hv.nested 100).mpr ⟨g.cw, by omega⟩
  refine ⟨_, rfl, v, rfl, hv.kn (by omega), nst, fun H1 s1 => ⟨_, rfl, v, t, rfl, hv.same s1, g.cw, g.ns, by decide, fun H2 s2 => ⟨_, rfl, ?_⟩⟩⟩
  rw [okN_noN g.ok]
  refine iteFe rfl fun x dx hx hdx nx => ?_
  have S2 : Same H H2 := s1.trans s2
  have sm : Same H2 (upd (upd H2 dx (.own x)) x (.ins D.fC dx [])) := fun a o e => by rw [upd_ne (ne_of_none e hx), upd_ne (ne_of_none e hdx)]; exact e
  have em : (upd (upd H2 dx (.own x)) x (.ins D.fC dx [])) x = some (.ins D.fC dx []) := upd_same
  have xN : ∀ a o, H a = some o → a ≠ x := fun a o e => ne_of_none (S2 _ _ e) hx
  generalize upd (upd H2 dx (.own x)) x (.ins D.fC dx []) = H3 at sm em ⊢
  have S3 : Same H H3 := S2.trans sm
  refine ⟨x, dx, V, rfl, em, LamX.Tabs.ext hT S3, lV, fun H4 A Ts ch bn k4 T4 evn AO F4 lT => ⟨rfl, ?_⟩⟩
  have AN : ∀ a o, H a = some o → a ∉ A.l := fun a o e z => by have := S3 a o e; rw [AO a z] at this; cases this
  have hv4 : TAt H4 t v := hv.t fun a ys e => k4 a _ (xN a _ e) (S3 _ _ e) fun _ z => by cases z
  obtain ⟨dx4, fx4, hx4, z1, z2, z3, z4, z5, z6, z7, z8, z9⟩ := F4.hx
  refine ⟨_, rfl, x, D.fC, dx4, _, _, rfl, hx4, D.fC_cl, D.fC_nconcepts, z1, _, rfl, x, dx4, _, rfl, hx4, z9 _ (by decide +kernel), _, rfl, x, v, t, A, Ts, ch, bn, rfl, F4, T4, hv4, g.into evn (by omega), fun H5 i Ts5 ch5 bn5 b5 T5 F5 mr fo => ?_⟩
  obtain ⟨X, hi, rdX, eX, cwX, czX⟩ := fo
  obtain ⟨cvs, c1, c2⟩ := F5.conc
  obtain ⟨v', hv', hX⟩ := paired_get2 c2 hi
  have okX : okN A.vn (tn Ts5 i) := F5.okN (by rw [evn]; exact hV) (i + 1) (Nat.lt_succ_self _) (List.getElem?_eq_some_iff.mp hi).1
  rw [tn_at hi, evn] at okX
  exact ⟨A.lc, _, _, v', rfl, rfl, SqL.of c1, atI_nat hv', q H5 v' X (fun a o _ e nt => b5 a o (AN a o e) (k4 a o (xN a o e) (S3 _ _ e) nt) nt) T5 hX rdX eX cwX okX czX⟩
end
end K1
namespace K1
open PySem L2 K8
theorem paired_same {us : List T} {vs : List V} {H H' : Hp} (s : Same H H') (p : Paired (TAt H) us vs) : Paired (TAt H') us vs := paired_imp (fun _ _ z => TAt.same s z) p
theorem forms_pr {Ts : List T} : ∀ {ns : List Nat} {ts : List T}, Paired (FormOf Ts) ns ts → prW (wt Ts) ns ≤ prodN (ts.map tz) := fun p => prodN_le (by
  induction p with
  | nil => exact .nil
  | cons h _ ih =>
    obtain ⟨X, h1, h2, h3, h4, h5⟩ := h
    refine .cons ?_ ih
    show tz (tn Ts _) ≤ _
    rw [tn_at h1]
    exact Nat.succ_le_succ h5)
theorem forms_eqv {Ts : List T} : ∀ {ns : List Nat} {ts : List T}, Paired (FormOf Ts) ns ts → Paired Eqv (ns.map (tn Ts)) ts := fun p => by
  induction p with
  | nil => exact .nil
  | cons h _ ih =>
    obtain ⟨X, h1, h2, h3, h4, h5⟩ := h
    exact .cons (by rw [tn_at h1]; exact h3) ih
theorem forms_lt {Ts : List T} {ns : List Nat} {ts : List T} (p : Paired (FormOf Ts) ns ts) : ∀ n ∈ ns, n < Ts.length := fun n hn => by
  obtain ⟨t, _, X, h, _⟩ := paired_mem1 p n hn
  exact (List.getElem?_eq_some_iff.mp h).1
section
variable {P : Program} {w : World} {K : PySem.W.Frag} {mg : Str → Option Value} {base : Heap}
/-! ### plain_common -/
/-- what is asked of the concepts -/
structure Pc (V : List Str) (us : List T) : Prop where
  cw : ∀ t ∈ us, CW t ∧ ns t ≤ 8
  gd : ∀ t ∈ us.filter noN, Gd V t
  ne : us.filter noN ≠ []
  len : us.length ≤ 8
  wo : ∀ s ∈ V, wordOk s = true
  lV : V.length ≤ 60
  pr : prodN ((us.filter noN).map tz) ≤ 700
  su : sumN ((us.filter noN).map tz) ≤ 200
def spPlain0 (Pt : Addr) : Sp := fun vs H Q _ => ∃ (p : Addr) (ws : List L2.V) (us : List T) (V : List Str), vs = [.ref p] ∧ H p = some (.tup ws) ∧ TB Pt H ∧ Paired (TAt H) us ws ∧ Pc V us ∧
  ∀ H' v' X, ButT [] H H' → TB Pt H' → TAt H' X v' → Rd X → CW X → okN V X → IsJ X (us.filter noN) → tz X ≤ prodN ((us.filter noN).map tz) → Q v' H'
def spPlain (Pt : Addr) : Sp := fun vs H Q _ => ∃ (us : List T) (V : List Str), TB Pt H ∧ Paired (TAt H) us vs ∧ Pc V us ∧
  ∀ H' v' X, ButT [] H H' → TB Pt H' → TAt H' X v' → Rd X → CW X → okN V X → IsJ X (us.filter noN) → tz X ≤ prodN ((us.filter noN).map tz) → Q v' H'
theorem ok_plain (D : Defs K mg) {cM Pt : Addr} (M : MkC D cM) (hTB : LamX.TabB base mg cM Pt) : FnR P w K mg base CX0 65 D.pc (spPlain Pt) := by
  have GO := ok_of (P := P) (w := w) (base := base) D M hTB 17 (ok_gather D M hTB 17)
  have GI := ok_finit (P := P) (w := w) (base := base) D M hTB
  have GN := ok_needs (P := P) (w := w) (base := base) D
  have GW := ok_noN (P := P) (w := w) (base := base) D 9
  have GS := ok_needS (P := P) (w := w) (base := base) D
  have GC := ok_common (P := P) (w := w) (base := base) D M hTB 12
  have MK : L2.Mk K D.fC D.d_f_init.f := ⟨D.fC_mk, D.d_f_init.me.at_, D.d_f_init.me.fn, D.fC_kp⟩
  obtain ⟨oc, od, kV, doc, pm, an, cdv, ct, osl, lk, hcd⟩ := D.pc_l
  have F := StX.fn_star (P := P) (w := w) (mg := mg) (base := base) (CX := CX0) (k := 64) (ps := []) (pv := "concepts") (N := ["concepts", "told", "forms", "numbers", "concept"]) (sp := spPlain0 Pt) lk hcd sc_plain_common StX.cxUp_none
    (fun us rest hu => by
      cases us with
      | cons a b => cases hu
      | nil =>
        cases rest with
        | nil => rfl
        | cons a r => rfl)
    (fun A outer s H vs Q E hr h => by
      obtain ⟨p, ws, us, V, rfl, hp, hT, pus, pc, q⟩ := h
      have hr14 : Room 14 _ := hr.mono (by omega)
      have hr10 : Room 10 _ := hr.mono (by omega)
      have hr30 : Room 30 _ := hr.mono (by omega)
      have hr63 : Room 63 _ := hr.mono (by omega)
      have hr3 : Room 3 _ := hr.mono (by omega)
      have hr40 : Room 40 _ := hr.mono (by omega)
      refine ⟨_, PSs.nox ((pss_cons (ps_if (pt_not (pt_truth (pv 0) (by intro _; rfl))) (pss_one ps_never) pss_nil)
      (pss_cons (ps_expr (pe_call GN hr14 rfl D.d_need_concepts.m D.d_need_concepts.F.kp D.d_need_concepts.b .nil pass0 (pa_cons (pv 0) pa_nil)))
      (pss_cons (ps_setLc (i := 1) (own := [("concept", 4)]) (g := gName 4) rfl sc_plain_common.nd rfl rfl (sw_true rfl rfl rfl (by decide +kernel)) (pi_tup (pv 0)) (blkOk_by (N := ["concepts", "told", "forms", "numbers", "concept"]) (sc := defScope s_plain_common) (by decide +kernel)) (fun _ _ _ _ _ => pg_name (i := 4) sc_plain_common.nd rfl (Or.inl rfl)) (fun _ _ _ _ _ => pts_one (pt_val (pe_call GW hr10 rfl D.d_is_without_none.m D.d_is_without_none.F.kp D.d_is_without_none.b .nil pass0 (pa_cons (pv 4) pa_nil)))) (fun _ _ _ _ _ => (pv 4)))
      (pss_cons (ps_if (pt_not (pt_truth (pv 1) (by intro _; rfl))) (pss_one (ps_ret pe_str)) pss_nil)
      (pss_cons (ps_set (i := 2) sc_plain_common.nd rfl (Or.inr rfl) (pe_make0 MK GI hr30 rfl D.fC_m D.d_f_init.b .nil pass0))
      (pss_cons (ps_setLc (i := 3) (own := [("concept", 4)]) (g := gName 4) rfl sc_plain_common.nd rfl rfl (sw_true rfl rfl rfl (by decide +kernel)) (pi_list (pv 1)) (blkOk_by (N := ["concepts", "told", "forms", "numbers", "concept"]) (sc := defScope s_plain_common) (by decide +kernel)) (fun _ _ _ _ _ => pg_name (i := 4) sc_plain_common.nd rfl (Or.inl rfl)) (fun _ _ _ _ _ => pts_nil) (fun _ _ _ _ _ => (pe_meth (pv 2) D.fC_cl D.d_f_of.me GO hr63 D.d_f_of.b .nil pass0 (pa_cons (pv 4) pa_nil))))
      (pss_cons (ps_expr (pe_call GS hr3 rfl D.d_need_small.m D.d_need_small.F.kp D.d_need_small.b .nil pass0 (pa_cons (pv 2) (pa_cons (pv 3) pa_nil))))
      (pss_one (ps_ret (pe_ix ix_list (pe_fld (pv 2) rfl) (pe_meth (pv 2) D.fC_cl D.d_f_common.me GC hr40 D.d_f_common.b .nil pass0 (pa_cons (pv 3) pa_nil)) (fun _ _ => rfl)))))))))))), ?_⟩
      have lus : us.length = ws.length := paired_len pus
      have une : us ≠ [] := fun z => pc.ne (by rw [z]; rfl)
      have wne : ws ≠ [] := fun z => une (List.length_eq_zero_iff.mp (by rw [lus, z]; rfl))
      refine ⟨_, rfl, true, .inr (.inl ⟨ws, SqT.of hp, by cases ws with | nil => exact absurd rfl wne | cons a l => rfl⟩), iteFe rfl ⟨_, rfl, p, ws, rfl, hp, fun v hv => ?_, fun H1 s1 => ?_⟩⟩
      · obtain ⟨t, ht, hv'⟩ := paired_mem2 pus v hv
        obtain ⟨c1, c2⟩ := pc.cw t ht
        exact ⟨hv'.kn (by omega), (hv'.nested 100).mpr ⟨c1, by omega⟩⟩
      have hp1 := s1 _ _ hp
      have pus1 := paired_same s1 pus
      refine ⟨_, rfl, p, rfl, ⟨_, SqT.of hp1⟩, fun D1 hD1 => ?_⟩
      have pD1 : p ≠ D1 := ne_of_none hp1 hD1
      refine lc_it (walk_tup (K := K) (a := p) (xs := ws)) (fun i H' => But [D1] (upd H1 D1 (.lst [])) H' ∧ ∃ vs', H' D1 = some (.lst vs') ∧ Paired (TAt H1) ((us.take i).filter noN) vs') ⟨But.refl _, [], upd_same, .nil⟩ (fun i H' _ hh => SqT.of (hh.1 _ _ (by simpa using pD1) (by rw [upd_ne pD1]; exact hp1))) ?_ ?_
      · rintro i z H2 H2' hi ⟨b2, vs', d2, p2⟩ ⟨rfl, hz⟩
        obtain ⟨t, ht, hzt⟩ := paired_get pus1 hz
        obtain ⟨c1, c2⟩ := pc.cw t (List.mem_of_getElem? ht)
        have s2 : Same H1 H2' := same_of b2 hD1
        refine ⟨rfl, _, rfl, z, t, rfl, hzt.same s2, c1, c2, by decide, fun H3 s3 => ⟨_, rfl, ?_⟩⟩
        rw [take_more ht, List.filter_append]
        by_cases c : noN t = true
        · rw [c, show List.filter noN [t] = [t] from by rw [List.filter_cons, if_pos c]; rfl]
          refine iteT ⟨_, rfl, vs', s3 _ _ d2, ?_, (b2.trans (But.of s3)).trans (But.put (by simp)), vs' ++ [z], upd_same, paired_append p2 (.cons hzt .nil)⟩
          rw [← paired_len p2]
          exact small1000 (Nat.le_trans (List.length_filter_le _ _) (by rw [List.length_take]; have := pc.len; omega))
        · have c : noN t = false := by simpa using c
          rw [c, show List.filter noN [t] = [] from by rw [List.filter_cons, if_neg (by simp [c])]; rfl, List.append_nil]
          exact iteF ⟨b2.trans (But.of s3), vs', s3 _ _ d2, p2⟩
      rintro H2 ⟨b2, vs', d2, p2⟩
      rw [← lus, List.take_length] at p2
      have gd := pc.gd
      have tne := pc.ne
      have tpr := pc.pr
      have tsu := pc.su
      have tle : (us.filter noN).length ≤ 8 := Nat.le_trans (List.length_filter_le _ _) pc.len
      generalize us.filter noN = ts at p2 q gd tne tpr tsu tle
      have s2 : Same H1 H2 := same_of b2 hD1
      have lts : ts.length = vs'.length := paired_len p2
      have vne : vs' ≠ [] := fun z => tne (List.length_eq_zero_iff.mp (by rw [lts, z]; rfl))
      have S2 : Same H H2 := s1.trans s2
      have p2' := paired_same s2 p2
      refine ⟨_, rfl, true, .inl ⟨vs', SqL.of d2, by cases vs' with | nil => exact absurd rfl vne | cons a l => rfl⟩, iteFe rfl fun x dx hx hdx nx => ?_⟩
      have sm : Same H2 (upd (upd H2 dx (.own x)) x (.ins D.fC dx [])) := fun a o e => by rw [upd_ne (ne_of_none e hx), upd_ne (ne_of_none e hdx)]; exact e
      have em : (upd (upd H2 dx (.own x)) x (.ins D.fC dx [])) x = some (.ins D.fC dx []) := upd_same
      have xN : ∀ a o, H2 a = some o → a ≠ x := fun a o e => ne_of_none e hx
      generalize upd (upd H2 dx (.own x)) x (.ins D.fC dx []) = H3 at sm em ⊢
      have S3 : Same H H3 := S2.trans sm
      refine ⟨x, dx, V, rfl, em, LamX.Tabs.ext hT S3, pc.lV, fun H4 A Ts ch bn k4 T4 evn AO F4 lT => ⟨rfl, ?_⟩⟩
      have AN : ∀ a o, H2 a = some o → a ∉ A.l := fun a o e z => by have := sm a o e; rw [AO a z] at this; cases this
      have d4 := k4 _ _ (xN _ _ d2) (sm _ _ d2) fun _ z => by cases z
      refine ⟨_, rfl, D1, rfl, ⟨_, SqL.of d4⟩, fun D3 hD3 => ?_⟩
      have n13 : D1 ≠ D3 := ne_of_none d4 hD3
      have D3A : D3 ∉ A.l := fun z => F4.ne_new (.inr z) hD3 rfl
      have kk : ∀ {H' : Hp}, ButT (D3 :: A.l) (upd H4 D3 (.lst [])) H' → ∀ a o, H2 a = some o → (∀ ps, o ≠ .tbl ps) → H' a = some o := fun b a o e nt => by
        have e4 := k4 a o (xN a o e) (sm _ _ e) nt
        have n3 : a ≠ D3 := ne_of_none e4 hD3
        refine b a o (fun z => ?_) (by rw [upd_ne n3]; exact e4) nt
        rcases List.mem_cons.mp z with z | z
        · exact n3 z
        · exact AN a o e z
      have e3 : (upd H4 D3 (.lst [])) D3 = some (.lst []) := upd_same
      have s43 : Same H4 (upd H4 D3 (.lst [])) := same_new hD3 _
      refine lc_it (walk_list (K := K) (a := D1) (xs := vs')) (fun i H' => ∃ (Ts1 : List T) (ch1 : List Ch) (bn1 : List Str) (nums : List Nat), ButT (D3 :: A.l) (upd H4 D3 (.lst [])) H' ∧ TB Pt H' ∧ FAt P w D.fC H' x A Ts1 ch1 bn1 ∧ Ts1.length ≤ 1 + sumN ((ts.take i).map tz) ∧ H' D3 = some (.lst (natsV nums)) ∧ Paired (FormOf Ts1) nums (ts.take i))
        ⟨Ts, ch, bn, [], ButT.of (But.refl _), LamX.Tabs.ext T4 s43, F4.fresh s43, by simpa [sumN] using lT, e3, .nil⟩ (fun i H' _ hh => by
          obtain ⟨_, _, _, _, b, _⟩ := hh
          exact SqL.of (kk b _ _ d2 fun _ z => by cases z)) ?_ ?_
      · rintro i z H5 H5' hi ⟨Ts1, ch1, bn1, nums, b5, T5, F5, l5, d5, p5⟩ ⟨rfl, hz⟩
        obtain ⟨t, ht, hzt⟩ := paired_get p2' hz
        have mt := List.mem_of_getElem? ht
        have hz5 : TAt H5' t z := hzt.t fun a ys e => kk b5 _ _ e fun _ z => by cases z
        obtain ⟨dx5, fx5, hx5, y1, y2, y3, y4, y5, y6, y7, y8, y9⟩ := F5.hx
        have es : sumN ((ts.take (i + 1)).map tz) = sumN ((ts.take i).map tz) + tz t := by rw [take_more ht, List.map_append, sumN_app]; simp [sumN]
        have le := sumN_take (l := ts.map tz) (i + 1)
        rw [← List.map_take, es] at le
        have etz : tz t = cz t + 1 := rfl
        refine ⟨rfl, _, rfl, x, dx5, _, rfl, hx5, y9 _ (by decide +kernel), _, rfl, x, z, t, A, Ts1, ch1, bn1, rfl, F5, T5, hz5, (gd t mt).into evn (by omega), fun H6 j Ts6 ch6 bn6 b6 T6 F6 mr fo => ?_⟩
        obtain ⟨m, rfl, lm⟩ := mr
        have d6 := b6 _ _ D3A d5 fun _ z => by cases z
        have tu := upd_t (o := .lst (natsV nums ++ [L2.V.int (j : Nat)])) d6 fun _ z => by cases z
        refine ⟨_, d6, ?_, Ts1 ++ m, ch6, bn6, nums ++ [j], fun a o n e nt => ?_, tb_lst d6 T6, F6.keep tu (fun a ha => upd_ne (F6.nx d6 D3A a ha)), by rw [List.length_append, es]; omega, by rw [upd_same]; simp [natsV], by rw [take_more ht]; exact paired_append (paired_imp (fun _ _ z => z.more m) p5) (.cons fo .nil)⟩
        · rw [List.length_map, paired_len p5, List.length_take]
          exact small1000 (by omega)
        · have n3 : a ≠ D3 := fun z => n (by simp [z])
          rw [upd_ne n3]
          exact b6 a o (fun z => n (List.mem_cons_of_mem _ z)) (b5 a o n e nt) nt
      rintro H5 ⟨Ts1, ch1, bn1, nums, b5, T5, F5, l5, d5, p5⟩
      rw [← lts, List.take_length] at l5 p5
      have wo : WOk Ts1 nums := ⟨fun z => tne (List.length_eq_zero_iff.mp (by rw [← paired_len p5, z]; rfl)), forms_lt p5, by rw [paired_len p5]; omega, Nat.le_trans (forms_pr p5) (by omega)⟩
      refine ⟨_, rfl, _, rfl, x, D3, nums, A, Ts1, ch1, bn1, rfl, F5, d5, wo, fun H6 s6 => ?_⟩
      have F6 := F5.fresh s6
      obtain ⟨dx6, fx6, hx6, z1, z2, z3, z4, z5, z6, z7, z8, z9⟩ := F6.hx
      have hpr := forms_pr p5
      have dh : dT (tn Ts1 (nums.headD 0)) < 12 := by
        cases nums with
        | nil => exact absurd rfl wo.ne
        | cons k l => exact Nat.lt_succ_of_le (F5.inv.dp _ (List.mem_of_getElem? (at_tn (wo.rng k List.mem_cons_self))))
      refine ⟨_, rfl, x, D.fC, dx6, _, _, rfl, hx6, D.fC_cl, D.fC_nconcepts, z1, _, rfl, x, dx6, _, rfl, hx6, z9 _ (by decide +kernel), _, rfl, x, D3, nums, A, Ts1, ch1, bn1, rfl, F6, LamX.Tabs.ext T5 s6, (by rw [evn]; exact pc.wo), s6 _ _ d5, D3A, wo.ne, wo.rng, dh, wo.len, by omega, by omega, fun H7 i Ts7 ch7 bn7 b7 T7 F7 mr li isj wj => ?_⟩
      have hi := at_tn li
      obtain ⟨cvs, c1, c2⟩ := F7.conc
      obtain ⟨v', hv', hX⟩ := paired_get2 c2 hi
      have okX : okN A.vn (tn Ts7 i) := F7.okN (by rw [evn]; exact pc.wo) (i + 1) (Nat.lt_succ_self _) li
      rw [evn] at okX
      exact ⟨A.lc, _, _, v', rfl, rfl, SqL.of c1, atI_nat hv', q H7 v' (tn Ts7 i) (fun a o _ e nt => b7 a o (AN a o (S2 _ _ e)) (s6 _ _ (kk b5 a o (S2 _ _ e) nt)) nt) T7 hX (F7.inv.rd _ (List.mem_of_getElem? hi)) (F7.inv.cw _ (List.mem_of_getElem? hi)) okX (IsJ.map_eqv (forms_eqv p5) isj) (Nat.le_trans wj hpr)⟩)
  intro A outer s H us vs Q E hr e0 r h
  obtain ⟨ts, V, hT, hk, pc, q⟩ := h
  refine F A outer s H us vs Q E hr e0 r ⟨[], vs, rfl, rfl, ?_, fun p hp => ⟨p, vs, ts, V, rfl, upd_same, LamX.Tabs.ext hT (same_new hp _), paired_same (same_new hp _) hk, pc, ?_⟩⟩
  · rw [← paired_len hk]
    exact Nat.le_of_lt (small1000 (by have := pc.len; omega))
  · exact fun H' v' X b => q H' v' X fun a o n e nt => b a o n (same_new hp _ _ _ e) nt
end
end K1
namespace K1
open PySem L2 K8
/-- a drawn concept, so deep at most -/
def czB : Nat → Nat
  | 0 => 0
  | n + 1 => 3 * czB n + 1
structure Dr (N : List Str) (m : Nat) (t : T) : Prop where
  cw : CW t
  ok : okN N t
  ns : ns t ≤ m
  nd : ndT t ≤ 3 ^ m
  cz : cz t ≤ czB m
theorem pow3 (m : Nat) : 1 ≤ 3 ^ m := Nat.one_le_pow _ _ (by decide)
theorem word_all : ∀ {s : Str}, wordOk s = true → s ≠ "all" := fun {s} h z => by
  rw [z] at h
  have : wordOk ("all" : Str) = false := by decide +kernel
  rw [this] at h; cases h
theorem dr_atom {N : List Str} (ok : ∀ x ∈ N, wordOk x = true) {s : Str} (h : s = "all" ∨ s ∈ N) (m : Nat) : Dr N m (.atom s) := by
  refine ⟨?_, ?_, by rw [K1.ns]; exact Nat.zero_le _, by rw [ndT]; exact pow3 m, by rw [K8.cz]; exact Nat.zero_le _⟩
  · rw [CW]
    rcases h with h | h
    · exact .inl h
    · exact .inr (.inr (ok s h))
  · rw [okN]
    rcases h with h | h
    · exact .inl h
    · exact .inr ⟨ok s h, word_all (ok s h), h⟩
theorem dr_ex {N : List Str} {r : Str} {t : T} {m : Nat} (hr : wordOk r = true) (h : Dr N m t) : Dr N (m + 1) (.ex r t) := by
  obtain ⟨h1, h2, h3, h4, h5⟩ := h
  have p := pow3 m
  refine ⟨by rw [CW]; exact ⟨hr, h1⟩, by rw [okN]; exact ⟨hr, h2⟩, by rw [K1.ns]; omega, by rw [ndT, Nat.pow_succ]; omega, by rw [K8.cz, czB]; omega⟩
theorem dr_mono {N : List Str} {m n : Nat} {t : T} (h : Dr N m t) (l : m ≤ n) : Dr N n t := by
  obtain ⟨h1, h2, h3, h4, h5⟩ := h
  have e : ∀ k, czB m ≤ czB (m + k) := fun k => by
    induction k with
    | zero => exact Nat.le_refl _
    | succ k ih => rw [← Nat.add_assoc, czB]; omega
  have e2 := e (n - m)
  rw [show m + (n - m) = n by omega] at e2
  exact ⟨h1, h2, by omega, Nat.le_trans h4 (Nat.pow_le_pow_right (by decide) l), Nat.le_trans h5 e2⟩
theorem dr_list {N : List Str} {m : Nat} : ∀ {l : List T}, (∀ t ∈ l, Dr N m t) → CWs l ∧ okNs N l ∧ nss l ≤ m ∧ ndTs l ≤ l.length * 3 ^ m ∧ czs l ≤ l.length * czB m
  | [], _ => ⟨by rw [CWs]; trivial, by rw [okNs]; trivial, by rw [nss]; exact Nat.zero_le _, by rw [ndTs]; exact Nat.zero_le _, by rw [czs]; exact Nat.zero_le _⟩
  | t :: l, h => by
    obtain ⟨h1, h2, h3, h4, h5⟩ := h t List.mem_cons_self
    obtain ⟨i1, i2, i3, i4, i5⟩ := dr_list fun u hu => h u (List.mem_cons_of_mem _ hu)
    refine ⟨by rw [CWs]; exact ⟨h1, i1⟩, by rw [okNs]; exact ⟨h2, i2⟩, by rw [nss]; omega, ?_, ?_⟩
    · rw [ndTs, List.length_cons, Nat.succ_mul]; omega
    · rw [czs, List.length_cons, Nat.succ_mul]; omega
theorem dr_and {N : List Str} {l : List T} {m : Nat} (h2 : l.length = 2 ∨ l.length = 3) (h : ∀ t ∈ l, Dr N m t) : Dr N (m + 1) (.and l) := by
  obtain ⟨i1, i2, i3, i4, i5⟩ := dr_list h
  have l3 : l.length ≤ 3 := by omega
  have e1 : l.length * 3 ^ m ≤ 3 * 3 ^ m := Nat.mul_le_mul_right _ l3
  have e2 : l.length * czB m ≤ 3 * czB m := Nat.mul_le_mul_right _ l3
  refine ⟨by rw [CW]; exact ⟨by omega, i1⟩, by rw [okN]; exact i2, by rw [K1.ns]; omega, ?_, ?_⟩
  · rw [ndT, Nat.pow_succ]; omega
  · rw [K8.cz, czB]; omega
section
variable {P : Program} {w : World} {K : PySem.W.Frag} {mg : Str → Option Value} {base : Heap}
/-! ### _law_concept -/
def spLCon8 : Nat → Sp
  | 0 => fun _ _ _ _ => False
  | n + 1 => fun vs H Q _ => ∃ (d a tn tr : Addr) (N R : List Str) (m : Nat), vs = [.ref d, .ref tn, .ref tr, .int (m : Nat)] ∧ m ≤ n ∧ DrawAt H d a ∧ Alph H d tn tr N R ∧
    ∀ H' v t, TAt H' t v → Dr N m t → But [d] H H' → DrawAt H' d a → Q v H'
theorem ok_lcon8 (D : Defs K mg) : ∀ n, FnOk P w K mg base CX0 (n + 5) D.d_law_concept.f D.d_law_concept.fd ["draw", "names", "roles", "deep"] (spLCon8 n)
  | 0 => none_left fun _ _ _ _ h => h
  | n + 1 => by
    have G := ok_lcon8 D n
    have GP := ok_pick (P := P) (w := w) (base := base) D
    have GX := ok_next (P := P) (w := w) (base := base) D
    refine D.d_law_concept.F.ok sc_law_concept (fun vs H Q E h => ?_) (fun cdv A outer s H vs Q E hr h => ?_)
    · obtain ⟨d, a, tn, tr, N, R, m, rfl, _⟩ := h
      rfl
    obtain ⟨d, a, tn, tr, N, R, m, rfl, hmn, hd, A0, q⟩ := h
    have hr3 : Room 3 _ := hr.mono (by omega)
    have hr4 : Room 4 _ := hr.mono (by omega)
    refine ⟨_, (pss_cons (ps_set (i := 4) sc_law_concept.nd rfl (Or.inl rfl) (pe_call GX hr3 rfl D.d_law_next.m D.d_law_next.F.kp D.d_law_next.b .nil pass0 (pa_cons (pv 0) (pa_cons pe_int pa_nil))))
      (pss_cons (ps_if (PW.pt (pw_or (pt_cmpR op_eq (pv 3) pe_int (nomark _)) (pw_or1 (pt_cmpR op_lt (pv 4) pe_int (nomark _))))) (pss_one (ps_ret (pe_call GP hr4 rfl D.d_law_pick.m D.d_law_pick.F.kp D.d_law_pick.b .nil pass0 (pa_cons (pv 0) (pa_cons (pe_op op_cat (pe_op op_cat (pv 1) (pv 1)) (pe_lst (pa_cons pe_str pa_nil))) pa_nil))))) pss_nil)
      (pss_cons (ps_if (pt_cmpR op_lt (pv 4) pe_int (nomark _)) (pss_one (ps_ret (pe_tup (pa_cons pe_str (pa_cons (pe_call GP hr4 rfl D.d_law_pick.m D.d_law_pick.F.kp D.d_law_pick.b .nil pass0 (pa_cons (pv 0) (pa_cons (pv 2) pa_nil))) (pa_cons (pe_call G hr rfl D.d_law_concept.m D.d_law_concept.F.kp D.d_law_concept.b .nil pass0 (pa_cons (pv 0) (pa_cons (pv 1) (pa_cons (pv 2) (pa_cons (pe_op op_sub (pv 3) pe_int) pa_nil))))) pa_nil)))))) pss_nil)
      (pss_cons (ps_set (i := 5) sc_law_concept.nd rfl (Or.inl rfl) (pe_op op_add pe_int (pe_callTy call_int1 (by rfl) D.z_int (by decide +kernel) (pa_cons (pe_cmpR op_eq (pe_call GX hr3 rfl D.d_law_next.m D.d_law_next.F.kp D.d_law_next.b .nil pass0 (pa_cons (pv 0) (pa_cons pe_int pa_nil))) pe_int (nomark _)) pa_nil))))
      (pss_one (ps_ret (pe_op op_catT (pe_tup (pa_cons pe_str pa_nil)) (pe_callTy call_tuple_of (by rfl) D.z_tuple (by decide +kernel) (pa_cons (pe_lc (own := [("turn", 6)]) (g := gName 6) rfl sc_law_concept.nd (pi_range1 rfl D.z_range (pa_cons (pv 5) pa_nil)) (blkOk_by (N := ["draw", "names", "roles", "deep", "kind", "many", "turn"]) (sc := defScope s_law_concept) (by decide +kernel)) (fun _ _ _ _ _ => pg_name (i := 6) sc_law_concept.nd rfl (Or.inl rfl)) (fun _ _ _ _ _ => pts_nil) (fun _ _ _ _ _ => (pe_call G hr rfl D.d_law_concept.m D.d_law_concept.F.kp D.d_law_concept.b .nil pass0 (pa_cons (pv 0) (pa_cons (pv 1) (pa_cons (pv 2) (pa_cons (pe_op op_sub (pv 3) pe_int) pa_nil))))))) pa_nil)) ))))))), ?_⟩
    refine ⟨_, rfl, d, a, 8, rfl, (by decide), hd, fun H1 r b1 hd1 r0 r8 => ?_⟩
    have A1 := A0.but b1
    have HX := A1
    have HD := hd1
    have HB := b1
    refine ⟨_, rfl, rfl, _, rfl, ?_⟩
    refine ite2 (fun _ => iteT ?_) (fun cm => ?_)
    · skip
      refine ⟨_, rfl, _, rfl, _, rfl, tn, tn, _, _, rfl, rfl, HX.hn, HX.hn, (by rw [List.length_map]; have := A0.l3; exact Nat.le_of_lt (small1000 (by omega))), fun p1 hp1 => ?_⟩
      have k1 := same_new hp1 (.lst (N.map V.str ++ N.map V.str))
      refine ⟨(by show 1 ≤ sizeLine; decide), fun p2 hp2 => ?_⟩
      have k2 := same_new hp2 (.lst [V.str "all"])
      refine ⟨p1, p2, _, _, rfl, rfl, k2 _ _ upd_same, upd_same, (by rw [List.length_append, List.length_map]; have := A0.l3; exact Nat.le_of_lt (small1000 (by show N.length + N.length + 1 ≤ 1000; omega))), fun p3 hp3 => ?_⟩
      have k3 := same_new hp3 (.lst ((N.map V.str ++ N.map V.str) ++ [V.str "all"]))
      have kk := (k1.trans k2).trans k3
      refine ⟨d, a, p3, _, rfl, HD.same kk, upd_same, ((HD.same (k1.trans k2)).new hp3).1, (by rw [List.length_append]; show 0 < _ + 1; omega), fun H5 x hx b5 hd5 => ?_⟩
      obtain ⟨sw, rfl, hsw⟩ : ∃ sw : Str, x = .str sw ∧ (sw = "all" ∨ sw ∈ N) := by
        simp only [List.mem_append, List.mem_map, List.mem_cons, List.not_mem_nil, or_false] at hx
        rcases hx with (⟨y, hy, rfl⟩ | ⟨y, hy, rfl⟩) | rfl
        · exact ⟨y, rfl, .inr hy⟩
        · exact ⟨y, rfl, .inr hy⟩
        · exact ⟨_, rfl, .inl rfl⟩
      exact q H5 (.str sw) (.atom sw) (by rw [TAt]; exact ⟨rfl, Nat.le_trans (word_le (hsw.imp id (A0.okN sw))) (by decide)⟩) (dr_atom A0.okN hsw m) ((HB.trans (But.of kk)).trans b5) hd5
    have cm' : m ≠ 0 := fun z => by subst z; exact cm (decide_eq_true rfl)
    refine ⟨_, rfl, _, _, rfl, rfl, _, rfl, ite2 (fun _ => ?_) (fun _ => ?_)⟩
    · skip
      refine ⟨_, rfl, _, rfl, _, rfl, tn, tn, _, _, rfl, rfl, HX.hn, HX.hn, (by rw [List.length_map]; have := A0.l3; exact Nat.le_of_lt (small1000 (by omega))), fun p1 hp1 => ?_⟩
      have k1 := same_new hp1 (.lst (N.map V.str ++ N.map V.str))
      refine ⟨(by show 1 ≤ sizeLine; decide), fun p2 hp2 => ?_⟩
      have k2 := same_new hp2 (.lst [V.str "all"])
      refine ⟨p1, p2, _, _, rfl, rfl, k2 _ _ upd_same, upd_same, (by rw [List.length_append, List.length_map]; have := A0.l3; exact Nat.le_of_lt (small1000 (by show N.length + N.length + 1 ≤ 1000; omega))), fun p3 hp3 => ?_⟩
      have k3 := same_new hp3 (.lst ((N.map V.str ++ N.map V.str) ++ [V.str "all"]))
      have kk := (k1.trans k2).trans k3
      refine ⟨d, a, p3, _, rfl, HD.same kk, upd_same, ((HD.same (k1.trans k2)).new hp3).1, (by rw [List.length_append]; show 0 < _ + 1; omega), fun H5 x hx b5 hd5 => ?_⟩
      obtain ⟨sw, rfl, hsw⟩ : ∃ sw : Str, x = .str sw ∧ (sw = "all" ∨ sw ∈ N) := by
        simp only [List.mem_append, List.mem_map, List.mem_cons, List.not_mem_nil, or_false] at hx
        rcases hx with (⟨y, hy, rfl⟩ | ⟨y, hy, rfl⟩) | rfl
        · exact ⟨y, rfl, .inr hy⟩
        · exact ⟨y, rfl, .inr hy⟩
        · exact ⟨_, rfl, .inl rfl⟩
      exact q H5 (.str sw) (.atom sw) (by rw [TAt]; exact ⟨rfl, Nat.le_trans (word_le (hsw.imp id (A0.okN sw))) (by decide)⟩) (dr_atom A0.okN hsw m) ((HB.trans (But.of kk)).trans b5) hd5
    obtain ⟨m, rfl⟩ : ∃ k, m = k + 1 := ⟨m - 1, by omega⟩
    have em : (((m + 1 : Nat) : Nat) : Int) - 1 = ((m : Nat) : Int) := by omega
    have emv : ∀ x y z : L2.V, [x, y, z, L2.V.int ((((m + 1 : Nat) : Nat) : Int) - 1)] = [x, y, z, L2.V.int ((m : Nat) : Int)] := fun x y z => by rw [em]
    cases n with
    | zero => omega
    | succ n =>
    refine ⟨_, rfl, _, _, rfl, rfl, _, rfl, ite2 (fun _ => ?_) (fun _ => ?_)⟩
    · refine ⟨_, rfl, _, rfl, d, a, tr, _, rfl, hd1, A1.hr, A1.rd, (by rw [List.length_map, A1.l2]; decide), fun H3 x hx b3 hd3 => ?_⟩
      obtain ⟨y, hy, rfl⟩ := List.mem_map.mp hx
      have okr := A0.okR y hy
      refine ⟨_, rfl, _, rfl, _, rfl, _, rfl, _, _, rfl, rfl, d, a, tn, tr, N, R, m, emv _ _ _, by omega, hd3, A1.but b3, fun H4 v t h1 h2 b4 hd4 => ⟨(by show 3 ≤ sizeLine; decide), fun p2 hp2 => ?_⟩⟩
      have g2 := same_new hp2 (.tup [.str "some", .str y, v])
      refine q _ (.ref p2) (.ex y t) ?_ (dr_ex okr h2) (((b1.trans b3).trans b4).trans (But.of g2)) (hd4.same g2)
      rw [TAt]
      exact ⟨p2, v, rfl, upd_same, h1.same g2, Nat.le_trans (word_le (.inr okr)) (by decide)⟩
    · refine ⟨_, rfl, d, a, 4, rfl, (by decide), hd1, fun H2 r2 b2 hd2 r20 r24 => ⟨rfl, .inr ⟨_, rfl, _, _, rfl, rfl, ?_⟩⟩⟩
      obtain ⟨many, hmany, h23⟩ : ∃ k : Nat, (2 : Int) + (if decide (V.int r2 = V.int 0) = true then 1 else 0) = (k : Int) ∧ (k = 2 ∨ k = 3) := by
        by_cases c : decide (V.int r2 = V.int 0) = true
        · exact ⟨3, by rw [if_pos c]; rfl, .inr rfl⟩
        · exact ⟨2, by rw [if_neg c]; rfl, .inl rfl⟩
      have A2 := A1.but b2
      refine ⟨(by show 1 ≤ sizeLine; decide), fun t1 ht1 => ⟨_, rfl, ((many : Nat) : Int), congrArg (fun z => [V.int z]) hmany, (by show -(2 ^ 62) ≤ ((many : Nat) : Int); omega), (by show ((many : Nat) : Int) < 2 ^ 62; omega), fun D0 hD => ?_⟩⟩
      have g1 := same_new ht1 (.tup [.str "and"])
      have hdt := hd2.same g1
      obtain ⟨nDd, nDa⟩ := hdt.new hD
      have t1D : t1 ≠ D0 := ne_of_none upd_same hD
      have At := A2.same g1
      have nDn : tn ≠ D0 := ne_of_none At.hn hD
      have nDr : tr ≠ D0 := ne_of_none At.hr hD
      refine lc_range (lo := 0) (n := (((many : Nat) : Int)).toNat) (fun i H4 => But [D0, d] (upd H2 t1 (.tup [.str "and"])) H4 ∧ DrawAt H4 d a ∧ ∃ ts ws, H4 D0 = some (.lst ws) ∧ Paired (TAt H4) ts ws ∧ ts.length = i ∧ ∀ t ∈ ts, Dr N m t)
        ⟨But.of (same_new hD _), hdt.same (same_new hD _), [], [], upd_same, .nil, rfl, fun t ht => nomatch ht⟩ ?_ ?_
      · rintro i H4 hi ⟨b4, hd4, ts, ws, h4, pt4, li, dr⟩
        have i3 : i < 3 := by rw [Int.toNat_natCast] at hi; omega
        have A4 : Alph H4 d tn tr N R := { At with hn := b4 _ _ (by simp only [List.mem_cons, List.not_mem_nil, or_false]; rintro (z | z); exact nDn z; exact At.nd z) At.hn, hr := b4 _ _ (by simp only [List.mem_cons, List.not_mem_nil, or_false]; rintro (z | z); exact nDr z; exact At.rd z) At.hr }
        refine ⟨rfl, _, rfl, _, rfl, _, rfl, _, rfl, _, _, rfl, rfl, d, a, tn, tr, N, R, m, emv _ _ _, by omega, hd4, A4, fun H5 v t h1 h2 b5 hd5 => ?_⟩
        have h5 := b5 _ _ (by simpa using nDd) h4
        have pt5 := pairT_t (b5.t hd4.nt) pt4
        have t6 : TSame H5 (upd H5 D0 (.lst (ws ++ [v]))) := (But.put (D := [D0]) (by simp)).t fun c hc xs z => by rw [List.mem_singleton.mp hc, h5] at z; cases z
        refine ⟨_, h5, by rw [← paired_len pt5]; exact small1000 (by omega), (b4.trans (b5.mono (by simp))).trans (But.put (by simp)), hd5.upd nDd nDa, ts ++ [t], _, upd_same, paired_snoc (h1.t t6) (pairT_t t6 pt5), by rw [List.length_append, li]; rfl, fun t' ht' => ?_⟩
        rcases List.mem_append.mp ht' with z | z
        · exact dr t' z
        · rw [List.mem_singleton.mp z]; exact h2
      · rintro H4 ⟨b4, hd4, ts, ws, h4, pt4, li, dr⟩
        rw [Int.toNat_natCast] at li
        have lws : ws.length = ts.length := (paired_len pt4).symm
        refine ⟨D0, _, rfl, .inl ⟨SqL.of h4, fun t2 ht2 => ?_⟩⟩
        have g2 := same_new ht2 (.tup ws)
        have nt1d : t1 ≠ d := (hd2.new ht1).1
        have h41 : H4 t1 = some (.tup [.str "and"]) := b4 _ _ (by simp only [List.mem_cons, List.not_mem_nil, or_false]; rintro (z | z); exact t1D z; exact nt1d z) upd_same
        refine ⟨t1, t2, _, _, rfl, rfl, SqT.of (g2 _ _ h41), SqT.of upd_same, (by simp), Nat.le_of_lt (small1000 (by show 1 + ws.length ≤ 1000; omega)), (fun z => by rw [z] at lws; simp at lws; omega), fun _ p6 hp6 => ?_⟩
        have g6 := same_new hp6 (.tup ([.str "and"] ++ ws))
        have bD : But [d] (upd H2 t1 (.tup [.str "and"])) H4 := b4.drop hD
        refine q _ (.ref p6) (.and ts) ?_ (dr_and (by omega) dr) (((((b1.trans b2).trans (But.of g1)).trans bD).trans (But.of g2)).trans (But.of g6)) ((hd4.same g2).same g6)
        rw [TAt]
        exact ⟨p6, ws, rfl, upd_same, TsAt.of (pairT_t ((Same.t g2).trans (Same.t g6)) pt4)⟩
end
end K1
namespace K1
open PySem L2 K8
/-- what is drawn above a concept: no larger in any way -/
structure Lg (N : List Str) (t u : T) : Prop where
  cw : CW u
  ok : okN N u
  ns : ns u ≤ ns t
  nd : ndT u ≤ ndT t
  cz : cz u ≤ cz t
mutual
theorem ndT_pos : ∀ {t : T}, CW t → 1 ≤ ndT t
  | .atom a, _ => by rw [ndT]; exact Nat.le_refl _
  | .ex r c, _ => by rw [ndT]; omega
  | .and l, h => by
    rw [CW] at h
    rw [ndT]
    have := ndTs_pos h.2
    omega
theorem ndTs_pos : ∀ {l : List T}, CWs l → l.length ≤ ndTs l
  | [], _ => Nat.zero_le _
  | t :: l, h => by
    rw [CWs] at h
    rw [ndTs, List.length_cons]
    have h1 := ndT_pos h.1
    have h2 := ndTs_pos h.2
    omega
end
theorem lg_all {N : List Str} {t : T} (c : CW t) : Lg N t (.atom "all") := ⟨by rw [CW]; exact .inl rfl, by rw [okN]; exact .inl rfl, by rw [K1.ns]; exact Nat.zero_le _, by rw [ndT]; exact ndT_pos c, by rw [K8.cz]; exact Nat.zero_le _⟩
theorem ndTs_app : ∀ (a b : List T), ndTs (a ++ b) = ndTs a + ndTs b
  | [], b => by rw [List.nil_append, ndTs, Nat.zero_add]
  | t :: a, b => by rw [List.cons_append, ndTs, ndTs, ndTs_app a b, Nat.add_assoc]
theorem nss_app : ∀ {a b : List T} {n : Nat}, nss a ≤ n → nss b ≤ n → nss (a ++ b) ≤ n
  | [], b, n, _, h => h
  | t :: a, b, n, h1, h2 => by
    rw [nss] at h1
    rw [List.cons_append, nss]
    have := nss_app (a := a) (b := b) (n := n) (by omega) h2
    omega
theorem CWs_app {a b : List T} (h1 : CWs a) (h2 : CWs b) : CWs (a ++ b) := CWs_iff.mpr fun t ht => by
  rcases List.mem_append.mp ht with z | z
  · exact CWs_iff.mp h1 t z
  · exact CWs_iff.mp h2 t z
theorem okNs_app {V : List Str} : ∀ {a b : List T}, okNs V a → okNs V b → okNs V (a ++ b)
  | [], b, _, h => h
  | t :: a, b, h1, h2 => by
    rw [okNs] at h1
    rw [List.cons_append, okNs]
    exact ⟨h1.1, okNs_app h1.2 h2⟩
/-- some of the parts, each made larger -/
structure Sm (N : List Str) (l : List T) (us : List T) : Prop where
  cw : CWs us
  ok : okNs N us
  ns : nss us ≤ nss l
  nd : ndTs us ≤ ndTs l
  cz : czs us ≤ czs l
theorem Sm.snoc {N : List Str} {l us : List T} {t u : T} (h : Sm N l us) (g : Lg N t u) : Sm N (l ++ [t]) (us ++ [u]) := by
  have e1 : nss l ≤ nss (l ++ [t]) := nss_bound fun x hx => nss_le (List.mem_append_left _ hx)
  have e2 : K1.ns t ≤ nss (l ++ [t]) := nss_le (by simp)
  have h3 := h.ns
  have g3 := g.ns
  refine ⟨CWs_app h.cw (by rw [CWs, CWs]; exact ⟨g.cw, trivial⟩), okNs_app h.ok (by rw [okNs, okNs]; exact ⟨g.ok, trivial⟩), nss_app (by omega) (by rw [nss, nss]; omega), ?_, ?_⟩
  · rw [ndTs_app, ndTs_app, ndTs, ndTs, ndTs, ndTs]
    have := h.nd
    have := g.nd
    omega
  · rw [czs_app, czs_app, czs, czs, czs, czs]
    have := h.cz
    have := g.cz
    omega
theorem Sm.skip {N : List Str} {l us : List T} {t : T} (h : Sm N l us) : Sm N (l ++ [t]) us := by
  have e1 : nss l ≤ nss (l ++ [t]) := nss_bound fun x hx => nss_le (List.mem_append_left _ hx)
  refine ⟨h.cw, h.ok, Nat.le_trans h.ns e1, ?_, ?_⟩
  · rw [ndTs_app]; exact Nat.le_trans h.nd (Nat.le_add_right _ _)
  · rw [czs_app]; exact Nat.le_trans h.cz (Nat.le_add_right _ _)
section
variable {P : Program} {w : World} {K : PySem.W.Frag} {mg : Str → Option Value} {base : Heap}
/-! ### _law_larger -/
def spLarger : Nat → Sp
  | 0 => fun _ _ _ _ => False
  | n + 1 => fun vs H Q _ => ∃ (d a : Addr) (v : V) (t : T) (N : List Str), vs = [.ref d, v] ∧ DrawAt H d a ∧ TAt H t v ∧ CW t ∧ okN N t ∧ ns t ≤ n ∧ n ≤ 50 ∧ ndT t ≤ 900 ∧
    ∀ H' u x, TAt H' u x → Lg N t u → But [d] H H' → DrawAt H' d a → Q x H'
theorem ok_larger (D : Defs K mg) : ∀ n, FnOk P w K mg base CX0 (n + 4) D.d_law_larger.f D.d_law_larger.fd ["draw", "concept"] (spLarger n)
  | 0 => none_left fun _ _ _ _ h => h
  | n + 1 => by
    have G := ok_larger D n
    have GX := ok_next (P := P) (w := w) (base := base) D
    refine D.d_law_larger.F.ok sc_law_larger (fun vs H Q E h => ?_) (fun cdv A outer s H vs Q E hr h => ?_)
    · obtain ⟨d, a, v, t, N, rfl, _⟩ := h
      rfl
    obtain ⟨d, a, v, t, N, rfl, hd, hv, cw, ok, hn, n50, nd9, q⟩ := h
    have hr3 : Room 3 _ := hr.mono (by omega)
    refine ⟨_, (pss_cons (ps_set (i := 2) sc_law_larger.nd rfl (Or.inl rfl) (pe_call GX hr3 rfl D.d_law_next.m D.d_law_next.F.kp D.d_law_next.b .nil pass0 (pa_cons (pv 0) (pa_cons pe_int pa_nil))))
      (pss_cons (ps_if (pt_val (pe_callB call_isi (by rfl) D.z_isinstance (by decide +kernel) (pa_cons (pv 1) (pa_cons (pe_bltn (v := .ty "str") (by rfl) D.z_str (by decide +kernel) rfl) pa_nil)))) (pss_one (ps_ret (pe_ifExp (pt_cmpR op_eq (pv 2) pe_int (nomark _)) pe_str (pv 1)))) pss_nil)
      (pss_cons (ps_if (pt_cmpR op_eq (pe_ix ix_tup (pv 1) pe_int (fun _ _ => rfl)) pe_str (nomark _)) (pss_one (ps_ret (pe_ifExp (pt_cmpR op_eq (pv 2) pe_int (nomark _)) pe_str (pe_tup (pa_cons pe_str (pa_cons (pe_ix ix_tup (pv 1) pe_int (fun _ _ => rfl)) (pa_cons (pe_call G hr rfl D.d_law_larger.m D.d_law_larger.F.kp D.d_law_larger.b .nil pass0 (pa_cons (pv 0) (pa_cons (pe_ix ix_tup (pv 1) pe_int (fun _ _ => rfl)) pa_nil))) pa_nil))))))) pss_nil)
      (pss_cons (ps_setLc (i := 3) (own := [("part", 4)]) (g := gName 4) rfl sc_law_larger.nd rfl rfl (sw_true rfl rfl rfl (by decide +kernel)) (pi_tup (pe_slice sl_tup (pv 1) (po_some pe_int) po_none)) (blkOk_by (N := ["draw", "concept", "kind", "some", "part"]) (sc := defScope s_law_larger) (by decide +kernel)) (fun _ _ _ _ _ => pg_name (i := 4) sc_law_larger.nd rfl (Or.inl rfl)) (fun _ _ _ _ _ => pts_one (pt_cmpR op_gt (pe_call GX hr3 rfl D.d_law_next.m D.d_law_next.F.kp D.d_law_next.b .nil pass0 (pa_cons (pv 0) (pa_cons pe_int pa_nil))) pe_int (nomark _))) (fun _ _ _ _ _ => (pe_call G hr rfl D.d_law_larger.m D.d_law_larger.F.kp D.d_law_larger.b .nil pass0 (pa_cons (pv 0) (pa_cons (pv 4) pa_nil)))))
      (pss_cons (ps_if (pt_cmpR op_lt (pe_callB call_len_seq (by rfl) D.z_len (by decide +kernel) (pa_cons (pv 3) pa_nil)) pe_int (nomark _)) (pss_one (ps_ret (pe_ifExp (pt_cmpR (op_neD hr.units) (pv 3) (pe_lst pa_nil) (nomark _)) (pe_ix ix_list (pv 3) pe_int (fun _ _ => rfl)) pe_str))) pss_nil)
      (pss_one (ps_ret (pe_op op_catT (pe_tup (pa_cons pe_str pa_nil)) (pe_callTy call_tuple_of (by rfl) D.z_tuple (by decide +kernel) (pa_cons (pv 3) pa_nil)))))))))), ?_⟩
    have l12 : ("all" : Str).length ≤ 1000 := by decide
    have all_at : ∀ H' : Hp, TAt H' (.atom "all") (.str "all") := fun H' => by rw [TAt]; exact ⟨rfl, l12⟩
    refine ⟨_, rfl, d, a, 5, rfl, (by decide), hd, fun H1 r b1 hd1 r0 r5 => ?_⟩
    have hv1 : TAt H1 t v := hv.t (b1.t hd.nt)
    obtain ⟨ty0, ty, kt⟩ := pl_str (K := K) hv1.pl
    refine ⟨_, rfl, _, _, _, _, _, rfl, .ty _, ty, kt, _, rfl, ?_⟩
    cases t with
    | atom s =>
      have hv1' := hv1
      rw [TAt] at hv1
      obtain ⟨rfl, hl⟩ := hv1
      refine iteT ⟨_, rfl, rfl, _, rfl, ite2 (fun _ => ?_) (fun _ => ?_)⟩
      · exact q H1 _ _ (all_at H1) (lg_all cw) b1 hd1
      · exact ⟨_, rfl, q H1 _ _ hv1' ⟨cw, ok, Nat.le_refl _, Nat.le_refl _, Nat.le_refl _⟩ b1 hd1⟩
    | ex rr c =>
      have hv1' := hv1
      rw [TAt] at hv1
      obtain ⟨p, u, rfl, hp, hu, hl⟩ := hv1
      refine iteF ⟨_, rfl, p, _, _, _, rfl, rfl, SqT.of hp, atI_nat (j := 0) rfl, rfl, _, rfl, ?_⟩
      rw [decide_eq_true (show V.str ("some" : Str) = V.str "some" from rfl)]
      refine iteT ⟨_, rfl, rfl, _, rfl, ite2 (fun _ => ?_) (fun _ => ?_)⟩
      · exact q H1 _ _ (all_at H1) (lg_all cw) b1 hd1
      · rw [CW] at cw
        rw [okN] at ok
        rw [ns] at hn
        rw [ndT] at nd9
        cases n with
        | zero => omega
        | succ n =>
          refine ⟨_, rfl, p, _, _, _, rfl, rfl, SqT.of hp, atI_nat (j := 1) rfl, _, rfl, _, rfl, p, _, _, _, rfl, rfl, SqT.of hp, atI_nat (j := 2) rfl, d, a, u, c, N, rfl, hd1, hu, cw.2, ok.2, by omega, by omega, by omega, fun H2 c' x' hx' lg b2 hd2 => ⟨(by show 3 ≤ sizeLine; decide), fun p2 hp2 => ?_⟩⟩
          have g2 := same_new hp2 (.tup [.str "some", .str rr, x'])
          refine q _ (.ex rr c') (.ref p2) ?_ ⟨by rw [CW]; exact ⟨cw.1, lg.cw⟩, by rw [okN]; exact ⟨ok.1, lg.ok⟩, by rw [ns, ns]; have := lg.ns; omega, by rw [ndT, ndT]; have := lg.nd; omega, by rw [cz, cz]; have := lg.cz; omega⟩ ((b1.trans b2).trans (But.of g2)) (hd2.same g2)
          rw [TAt]
          exact ⟨p2, x', rfl, upd_same, hx'.same g2, hl⟩
    | and l =>
      rw [TAt] at hv1
      obtain ⟨p, us, rfl, hp, hus⟩ := hv1
      refine iteF ⟨_, rfl, p, _, _, _, rfl, rfl, SqT.of hp, atI_nat (j := 0) rfl, rfl, _, rfl, ?_⟩
      rw [decide_eq_false and_ne_some]
      refine iteF ⟨_, rfl, _, rfl, p, _, rfl, SqT.of hp, (by rintro ⟨z, _⟩; simp [HT.sIx] at z), fun p1 hp1 => ?_⟩
      rw [show ∀ (x : V) (xs : List V), cutV (x :: xs) (some 1) none = xs from fun x xs => by simp [cutV, HT.sIx]]
      have cw0 := cw
      rw [CW] at cw
      rw [okN] at ok
      rw [ns] at hn
      rw [ndT] at nd9
      have s1 : Same H1 (upd H1 p1 (.tup us)) := same_new hp1 _
      have e1 : (upd H1 p1 (.tup us)) p1 = some (.tup us) := upd_same
      generalize upd H1 p1 (.tup us) = H2 at s1 e1 ⊢
      have hd2 := hd1.same s1
      have hus2 := pairT_t (Same.t s1) hus.pair
      have lus : l.length = us.length := paired_len hus2
      have l9 := ndTs_pos cw.2
      refine ⟨p1, rfl, ⟨_, SqT.of e1⟩, fun D0 hD => ?_⟩
      obtain ⟨nDd, nDa⟩ := hd2.new hD
      have p1D : p1 ≠ D0 := ne_of_none e1 hD
      refine lc_it (walk_tup (K := K) (a := p1) (xs := us)) (fun i H' => But [D0, d] H2 H' ∧ DrawAt H' d a ∧ ∃ ts ws, H' D0 = some (.lst ws) ∧ Paired (TAt H') ts ws ∧ ts.length ≤ i ∧ Sm N (l.take i) ts)
        ⟨But.of (same_new hD _), hd2.same (same_new hD _), [], [], upd_same, .nil, Nat.le_refl _, by rw [List.take_zero]; exact ⟨by rw [CWs]; trivial, by rw [okNs]; trivial, Nat.le_refl _, Nat.le_refl _, Nat.le_refl _⟩⟩ (fun i H' _ hh => SqT.of (hh.1 _ _ (by simp only [List.mem_cons, List.not_mem_nil, or_false]; rintro (z | z); exact p1D z; exact (hd2.nt d (by simp) us (z ▸ e1)).elim) e1)) ?_ ?_
      · rintro i z H3 H3' hi ⟨b3, hd3, ts, ws, h3, pt3, li, sm⟩ ⟨rfl, hz⟩
        obtain ⟨t, ht, hzt⟩ := paired_get hus2 hz
        have mt := List.mem_of_getElem? ht
        have i9 : i < us.length := hi
        refine ⟨rfl, _, rfl, d, a, 4, rfl, (by decide), hd3, fun H4 r4 b4 hd4 r40 r44 => ⟨_, _, rfl, rfl, _, rfl, ?_⟩⟩
        have h4 := b4 _ _ (by simpa using nDd) h3
        have pt4 := pairT_t (b4.t hd3.nt) pt3
        have b34 : But [D0, d] H2 H4 := b3.trans (b4.mono (by simp))
        rw [take_more ht]
        refine ite2 (fun _ => ?_) (fun _ => ?_)
        · cases n with
          | zero => omega
          | succ n =>
          have tup4 : TSame H2 H4 := b34.t fun c hc xs z => by
            simp only [List.mem_cons, List.not_mem_nil, or_false] at hc
            rcases hc with rfl | rfl
            · rw [z] at hD; cases hD
            · exact hd2.nt _ (by simp) _ z
          have nst := nss_le mt
          have ndt := ndTs_mem mt
          refine ⟨_, rfl, _, rfl, d, a, z, t, N, rfl, hd4, hzt.t tup4, CWs_iff.mp cw.2 t mt, okNs_mem ok mt, by omega, by omega, by omega, fun H5 u x hx lg b5 hd5 => ?_⟩
          have h5 := b5 _ _ (by simpa using nDd) h4
          have pt5 := pairT_t (b5.t hd4.nt) pt4
          have t6 : TSame H5 (upd H5 D0 (.lst (ws ++ [x]))) := upd_t h5 fun _ z => by cases z
          refine ⟨_, h5, by rw [← paired_len pt5]; exact small1000 (by omega), (b34.trans (b5.mono (by simp))).trans (But.put (by simp)), hd5.upd nDd nDa, ts ++ [u], _, upd_same, paired_snoc (hx.t t6) (pairT_t t6 pt5), by rw [List.length_append]; simp; omega, sm.snoc lg⟩
        · exact ⟨b34, hd4, ts, ws, h4, pt4, by omega, sm.skip⟩
      · rintro H3 ⟨b3, hd3, ts, ws, h3, pt3, li, sm⟩
        rw [← lus, List.take_length] at sm
        have lws : ts.length = ws.length := paired_len pt3
        have b13 : But [d] H H3 := (b1.trans (But.of s1)).trans (b3.drop hD)
        have hsn := sm.ns
        have hsd := sm.nd
        have hsc := sm.cz
        refine ⟨_, rfl, D0, _, rfl, .inl (SqL.of h3), _, _, rfl, rfl, decide (ws.length < 2), (by
          show V.bl (decide (((ws.length : Nat) : Int) < 2)) = V.bl (decide (ws.length < 2))
          congr 1
          exact decide_eq_decide.mpr ⟨fun z => by omega, fun z => by omega⟩), ?_⟩
        by_cases c2 : ws.length < 2
        · refine iteTe (decide_eq_true c2) ⟨_, rfl, (by show 0 ≤ sizeLine; decide), fun e he => ?_⟩
          have se : Same H3 (upd H3 e (.lst [])) := same_new he _
          match ts, ws, pt3, lws, sm with
          | [], [], _, _, _ =>
            refine ⟨.list [], .list [], .lst (SqL.of (se _ _ h3)) .nil, .lst (SqL.of upd_same) .nil, by decide +kernel, by decide +kernel, _, rfl, iteFe rfl ?_⟩
            exact q _ _ _ (all_at _) (lg_all cw0) (b13.trans (But.of se)) (hd3.same se)
          | [u], [x], .cons hx .nil, _, sm =>
            have cwu := sm.cw
            have oku := sm.ok
            rw [CWs] at cwu
            rw [okNs] at oku
            have hsn := sm.ns
            have hsd := sm.nd
            have hsc := sm.cz
            rw [nss, nss] at hsn
            rw [ndTs, ndTs] at hsd
            rw [czs, czs] at hsc
            refine ⟨.list [datT u], .list [], .lst (SqL.of (se _ _ h3)) (.cons (dp_T (hx.same se)) .nil), .lst (SqL.of upd_same) .nil, shaped_of (by simp [PyData.canLay0, PyData.canLayAll0, lay_T cwu.1]) ?_, by decide +kernel, _, rfl, iteTe rfl ⟨_, rfl, D0, _, _, x, rfl, rfl, SqL.of (se _ _ h3), atI_nat (j := 0) rfl, ?_⟩⟩
            · have := depth_T u
              simp only [PyData.depth, PyData.depthAll]
              omega
            · exact q _ u x (hx.same se) ⟨cwu.1, oku.1, by rw [ns]; omega, by rw [ndT]; omega, by rw [cz]; omega⟩ (b13.trans (But.of se)) (hd3.same se)
          | _ :: _ :: _, _, _, lws, _ => rw [List.length_cons, List.length_cons] at lws; omega
        · refine iteFe (decide_eq_false c2) ⟨(by show 1 ≤ sizeLine; decide), fun t1 ht1 => ⟨_, rfl, D0, ws, rfl, .inl ⟨SqL.of ?_, fun t2 ht2 => ?_⟩⟩⟩
          · exact same_new ht1 _ _ _ h3
          have g1 := same_new ht1 (.tup [.str "and"])
          have g2 := same_new ht2 (.tup ws)
          refine ⟨t1, t2, _, _, rfl, rfl, SqT.of (g2 _ _ upd_same), SqT.of upd_same, (by simp), Nat.le_of_lt (small1000 (by show 1 + ws.length ≤ 1000; omega)), (fun z => by rw [z] at c2; simp at c2), fun _ p6 hp6 => ?_⟩
          have g6 := same_new hp6 (.tup ([.str "and"] ++ ws))
          refine q _ (.and ts) (.ref p6) ?_ ⟨by rw [CW]; exact ⟨by omega, sm.cw⟩, by rw [okN]; exact sm.ok, by rw [ns, ns]; omega, by rw [ndT, ndT]; exact hsd, by rw [cz, cz]; exact hsc⟩ (((b13.trans (But.of g1)).trans (But.of g2)).trans (But.of g6)) (((hd3.same g1).same g2).same g6)
          rw [TAt]
          exact ⟨p6, ws, rfl, upd_same, TsAt.of (pairT_t ((Same.t g1).trans ((Same.t g2).trans (Same.t g6))) pt3)⟩
end
end K1
namespace K1
open PySem L2 K8
/-! ### the law -/
theorem isJ_perm {Z : T} {Xs Ys : List T} (h : IsJ Z Xs) (a : ∀ x ∈ Xs, x ∈ Ys) (b : ∀ y ∈ Ys, y ∈ Xs) : IsJ Z Ys := ⟨fun y hy => h.1 y (b y hy), fun Y hY => h.2 Y fun x hx => hY x (a x hx)⟩
/-- a concept's sizes -/
structure Gs (N : List Str) (n d c : Nat) (t : T) : Prop where
  cw : CW t
  ok : okN N t
  ns : ns t ≤ n
  nd : ndT t ≤ d
  cz : cz t ≤ c
theorem Gs.gd {N : List Str} {n d c : Nat} {t : T} (g : Gs N n d c t) (hn : n ≤ 8) (hd : d ≤ 900) : Gd N t := ⟨g.cw, g.ok, Nat.le_trans g.ns hn, Nat.le_trans g.nd hd⟩
theorem Gs.tz {N : List Str} {n d c : Nat} {t : T} (g : Gs N n d c t) : K8.tz t ≤ c + 1 := Nat.succ_le_succ g.cz
theorem Gs.and2 {N : List Str} {n d c n' d' c' : Nat} {x y : T} (g : Gs N n d c x) (h : Gs N n' d' c' y) : Gs N (max n n' + 1) (d + d') (c + c') (.and [x, y]) := by
  obtain ⟨g1, g2, g3, g4, g5⟩ := g
  obtain ⟨h1, h2, h3, h4, h5⟩ := h
  refine ⟨by rw [CW, CWs, CWs, CWs]; exact ⟨Nat.le_refl _, g1, h1, trivial⟩, by rw [okN, okNs, okNs, okNs]; exact ⟨g2, h2, trivial⟩, by rw [K1.ns, nss, nss, nss]; omega, by rw [ndT, ndTs, ndTs, ndTs]; omega, by rw [K8.cz, czs, czs, czs]; omega⟩
theorem Gs.ex {N : List Str} {n d c : Nat} {r : Str} {x : T} (hr : wordOk r = true) (g : Gs N n d c x) : Gs N (n + 1) (d + 1) (c + 1) (.ex r x) := by
  obtain ⟨g1, g2, g3, g4, g5⟩ := g
  exact ⟨by rw [CW]; exact ⟨hr, g1⟩, by rw [okN]; exact ⟨hr, g2⟩, by rw [K1.ns]; omega, by rw [ndT]; omega, by rw [K8.cz]; omega⟩
/-- what comes out -/
theorem Gs.res {N : List Str} {X : T} {us : List T} {c : Nat} (r : Rd X) (cw : CW X) (o : okN N X) (j : IsJ X us) {u : T} (hu : u ∈ us) (du : dT u ≤ 3) (lN : N.length = 3) (z : K8.tz X ≤ c + 1) (hc : c ≤ 49) : Gs N 7 250 c X := by
  have h0 := dT_le (dT u) (Nat.le_refl _) (j.1 u hu)
  have h1 := ns_rd r
  have h2 := ndT_rd r o
  have h3 : (N.length + 2) * K8.tz X ≤ 5 * 50 := Nat.mul_le_mul (by omega) (by omega)
  exact ⟨cw, o, by omega, by omega, by unfold K8.tz at z; omega⟩
theorem tat_b {H H' : Hp} {t : T} {v : V} (b : ButT [] H H') (h : TAt H t v) : TAt H' t v := h.t fun a ys e => b a _ (by simp) e fun _ z => by cases z
/-- what stays all along -/
structure LS (Pt d sc tn tr : Addr) (N R : List Str) (o t th : T) (v1 v2 v3 : V) (H : Hp) : Prop where
  h1 : TAt H o v1
  h2 : TAt H t v2
  h3 : TAt H th v3
  tb : TB Pt H
  dr : DrawAt H d sc
  al : Alph H d tn tr N R
section
variable {Pt d sc tn tr : Addr} {N R : List Str} {o t th : T} {v1 v2 v3 : V} {H H' : Hp}
theorem LS.same (s : LS Pt d sc tn tr N R o t th v1 v2 v3 H) (e : Same H H') : LS Pt d sc tn tr N R o t th v1 v2 v3 H' := ⟨s.h1.same e, s.h2.same e, s.h3.same e, LamX.Tabs.ext s.tb e, s.dr.same e, s.al.same e⟩
theorem LS.on (s : LS Pt d sc tn tr N R o t th v1 v2 v3 H) (b : ButT [] H H') (T : TB Pt H') : LS Pt d sc tn tr N R o t th v1 v2 v3 H' := by
  have k : ∀ {a : Addr} {xs : List V}, H a = some (.lst xs) → H' a = some (.lst xs) := fun e => b _ _ (by simp) e fun _ z => by cases z
  refine ⟨tat_b b s.h1, tat_b b s.h2, tat_b b s.h3, T, ?_, { s.al with hn := k s.al.hn, hr := k s.al.hr }⟩
  obtain ⟨ns, n, e1, e2, e3⟩ := s.dr.ex
  exact ⟨ns, n, k e1, k e2, e3⟩
end
theorem filter_gd {N : List Str} : ∀ {us : List T}, (∀ t ∈ us, Gd N t) → us.filter noN = us
  | [], _ => rfl
  | t :: us, h => by rw [List.filter_cons, if_pos (okN_noN (h t List.mem_cons_self).ok), filter_gd fun u hu => h u (List.mem_cons_of_mem _ hu)]
theorem plain_of {Pt : Addr} {H : Hp} {us : List T} {vs : List V} {N : List Str} {Q : VK} (hT : TB Pt H) (p : Paired (TAt H) us vs) (wo : ∀ s ∈ N, wordOk s = true) (lN : N.length = 3) (g : ∀ t ∈ us, Gd N t) (ne : us ≠ []) (l : us.length ≤ 8) (pr : prodN (us.map tz) ≤ 700) (su : sumN (us.map tz) ≤ 200)
    (q : ∀ H' v' X, ButT [] H H' → TB Pt H' → TAt H' X v' → Rd X → CW X → okN N X → IsJ X us → tz X ≤ prodN (us.map tz) → Q v' H') : spPlain Pt vs H Q E0 := by
  have e := filter_gd g
  refine ⟨us, N, hT, p, ⟨fun t ht => ⟨(g t ht).cw, (g t ht).ns⟩, by rw [e]; exact g, by rw [e]; exact ne, l, wo, by omega, by rw [e]; exact pr, by rw [e]; exact su⟩, ?_⟩
  rw [e]
  exact q
theorem pr1 {a A : Nat} {t : T} (h : tz t ≤ A) : prodN ([t].map tz) ≤ A * 1 ∧ sumN ([t].map tz) ≤ A + 0 := ⟨Nat.mul_le_mul h (Nat.le_refl _), Nat.add_le_add h (Nat.le_refl _)⟩
theorem pr_c {A B C : Nat} {t : T} {us : List T} (h : tz t ≤ A) (k : prodN (us.map tz) ≤ B ∧ sumN (us.map tz) ≤ C) : prodN ((t :: us).map tz) ≤ A * B ∧ sumN ((t :: us).map tz) ≤ A + C := ⟨Nat.mul_le_mul h k.1, Nat.add_le_add h k.2⟩
theorem pr_n : prodN (([] : List T).map tz) ≤ 1 ∧ sumN (([] : List T).map tz) ≤ 0 := ⟨Nat.le_refl _, Nat.le_refl _⟩
theorem ne_F {X Y : T} (e : Y = X) : V.bl (!PyData.eqv (datT X) (datT Y)) = V.bl false := by rw [e, eqv_T]; rfl
theorem tb_draw {Pt : Addr} {H H' : Hp} {d a : Addr} (dr : DrawAt H d a) (b : But [d] H H') (t : TB Pt H) : TB Pt H' := fun p hp => by
  obtain ⟨ns, n, e, _, _⟩ := dr.ex
  obtain ⟨ps, h1, h2, h3⟩ := t p hp
  refine ⟨ps, b _ _ (by simp; exact fun z => by rw [z, e] at h1; cases h1) h1, h2, fun pos cv hc => ?_⟩
  obtain ⟨c, e1, e2⟩ := h3 pos cv hc
  exact ⟨c, e1, b _ _ (by simp; exact fun z => by rw [z, e] at e2; unfold LamX.CodeO at e2; cases e2) e2⟩
theorem res_ns {X : T} {us : List T} (r : Rd X) (j : IsJ X us) {u : T} (hu : u ∈ us) (du : dT u ≤ 9) : ns X ≤ 64 := by
  have h0 := dT_le (dT u) (Nat.le_refl _) (j.1 u hu)
  have h1 := ns_rd r
  omega
theorem red_ns {X u : T} (r : Rd X) (e : Eqv X u) (du : dT u ≤ 9) : ns X ≤ 64 := by
  have h0 := dT_le (dT u) (Nat.le_refl _) e.2
  have h1 := ns_rd r
  omega
theorem plain_none {Pt : Addr} {H : Hp} {o : T} {v u : V} {N : List Str} {Q : VK} (hT : TB Pt H) (h : TAt H o v) (hu : TAt H (.atom "none") u) (wo : ∀ s ∈ N, wordOk s = true) (lN : N.length = 3) (g : Gd N o) (z : tz o ≤ 50)
    (q : ∀ H' v' X, ButT [] H H' → TB Pt H' → TAt H' X v' → Rd X → CW X → okN N X → IsJ X [o] → Q v' H') : spPlain Pt [v, u] H Q E0 := by
  have e : [o, .atom "none"].filter noN = [o] := by
    rw [List.filter_cons, if_pos (okN_noN g.ok), List.filter_cons, if_neg (by decide +kernel)]
    rfl
  refine ⟨[o, .atom "none"], N, hT, .cons h (.cons hu .nil), ⟨fun t ht => ?_, by rw [e]; exact fun t ht => by rw [List.mem_singleton.mp ht]; exact g, by rw [e]; simp, by show 2 ≤ 8; decide, wo, by omega, by rw [e]; show tz o * 1 ≤ 700; omega, by rw [e]; show tz o + 0 ≤ 200; omega⟩, ?_⟩
  · rcases mem2 ht with rfl | rfl
    · exact ⟨g.cw, g.ns⟩
    · exact ⟨by rw [CW]; exact .inr (.inl rfl), by rw [K1.ns]; exact Nat.zero_le _⟩
  · rw [e]
    exact fun H' v' X b T' hX r c k j _ => q H' v' X b T' hX r c k j
theorem LS.draw {Pt d sc tn tr : Addr} {N R : List Str} {o t th : T} {v1 v2 v3 : V} {H H' : Hp} (s : LS Pt d sc tn tr N R o t th v1 v2 v3 H) (b : But [d] H H') (dr : DrawAt H' d sc) : LS Pt d sc tn tr N R o t th v1 v2 v3 H' :=
  ⟨s.h1.t (b.t s.dr.nt), s.h2.t (b.t s.dr.nt), s.h3.t (b.t s.dr.nt), tb_draw s.dr b s.tb, dr, s.al.but b⟩
theorem gs_all (N : List Str) : Gs N 0 1 0 (.atom "all") := ⟨by rw [CW]; exact .inl rfl, by rw [okN]; exact .inl rfl, by rw [K1.ns]; exact Nat.le_refl _, by rw [ndT]; exact Nat.le_refl _, by rw [K8.cz]; exact Nat.le_refl _⟩
theorem gd_n {N : List Str} : ∀ x ∈ ([] : List T), Gd N x := fun x hx => by cases hx
theorem gd_c {N : List Str} {a : T} {l : List T} (h : Gd N a) (k : ∀ x ∈ l, Gd N x) : ∀ x ∈ a :: l, Gd N x := fun x hx => (List.mem_cons.mp hx).elim (fun e => e ▸ h) (k x)
theorem neD_of {K : PySem.W.Frag} {H : Hp} {X Y : T} {v v' : V} {Q : VK} (h : TAt H X v) (h' : TAt H Y v') (e : Y = X) (cw : CW X) (n : ns X ≤ 64) (q : Q (.bl false) H) : rNeD K v v' H Q := by
  subst e
  exact ⟨datT Y, datT Y, dp_T h, dp_T h', shaped_T cw n, shaped_T cw n, by rw [eqv_T]; exact q⟩
theorem eqD_of {K : PySem.W.Frag} {H : Hp} {X Y : T} {v v' : V} {Q : VK} (h : TAt H X v) (h' : TAt H Y v') (e : Y = X) (cw : CW X) (n : ns X ≤ 64) (q : Q (.bl true) H) : rEqD K v v' H Q := by
  subst e
  exact ⟨datT Y, datT Y, dp_T h, dp_T h', shaped_T cw n, shaped_T cw n, by rw [eqv_T]; exact q⟩
theorem tat_ex {H : Hp} {p : Addr} {r : Str} {x : T} {v : V} (e : H p = some (.tup [.str "some", .str r, v])) (hx : TAt H x v) (l : r.length ≤ 1000) : TAt H (.ex r x) (.ref p) := by
  rw [TAt]
  exact ⟨p, v, rfl, e, hx, l⟩
theorem tat_and {H : Hp} {p : Addr} {x y : T} {v u : V} (e : H p = some (.tup [.str "and", v, u])) (hx : TAt H x v) (hy : TAt H y u) : TAt H (.and [x, y]) (.ref p) := by
  rw [TAt]
  exact ⟨p, [v, u], rfl, e, TsAt.of (.cons hx (.cons hy .nil))⟩
section
variable {P : Program} {w : World} {K : PySem.W.Frag} {mg : Str → Option Value} {base : Heap}
def lawK : Nat := 90
def spLaw (K : PySem.W.Frag) (Pt : Addr) : Sp := fun vs H Q _ => ∃ (a : Addr) (ns : List Int), vs = [.ref a] ∧ SqL K H a (ns.map V.int) ∧ ns.length ≤ 63 ∧ TB Pt H ∧ ∀ H', Q (.bl true) H'
theorem ok_law (D : Defs K mg) {cM Pt : Addr} (M : MkC D cM) (hTB : LamX.TabB base mg cM Pt) : FnOk P w K mg base CX0 lawK D.d_law.f D.d_law.fd ["script"] (spLaw K Pt) := by
  have GA := ok_alpha (P := P) (w := w) (base := base) D
  have GC := ok_lcon8 (P := P) (w := w) (base := base) D 3
  have GX := ok_next (P := P) (w := w) (base := base) D
  have GP := ok_pick (P := P) (w := w) (base := base) D
  have GL := ok_larger (P := P) (w := w) (base := base) D 4
  have GR := ok_reduced (P := P) (w := w) (base := base) D M hTB
  have GW := ok_plain (P := P) (w := w) (base := base) D M hTB
  refine D.d_law.F.ok sc_law (fun vs H Q E h => ?_) (fun cdv A outer s H vs Q E hr h => ?_)
  · obtain ⟨a, zs, rfl, _⟩ := h
    rfl
  obtain ⟨a0, zs, rfl, hS, l63, hT, q⟩ := h
  have hr3 : Room 3 _ := hr.mono (by decide)
  have hr4 : Room 4 _ := hr.mono (by decide)
  have hr6 : Room 6 _ := hr.mono (by decide)
  have hr8 : Room 8 _ := hr.mono (by decide)
  have hr64 : Room 64 _ := hr.mono (by decide)
  have hr65 : Room 65 _ := hr.mono (by decide)
  have hu := hr.units
  refine ⟨_, (pss_cons (ps_set (i := 1) sc_law.nd rfl (Or.inl rfl) (pe_lst (pa_cons (pe_slice sl_list (pv 0) po_none (po_some pe_int)) (pa_cons pe_int (pa_cons pe_int pa_nil)))))
      (pss_cons (ps_asg (pe_call GA hr6 rfl D.d_law_alphabet.m D.d_law_alphabet.F.kp D.d_law_alphabet.b .nil pass0 (pa_cons (pv 1) pa_nil)) (pg_tup rfl (pgs_cons (pg_name (i := 2) sc_law.nd rfl (Or.inl rfl)) (pgs_cons (pg_name (i := 3) sc_law.nd rfl (Or.inl rfl)) pgs_nil))))
      (pss_cons (ps_set (i := 4) sc_law.nd rfl (Or.inl rfl) (pe_call GC hr8 rfl D.d_law_concept.m D.d_law_concept.F.kp D.d_law_concept.b .nil pass0 (pa_cons (pv 1) (pa_cons (pv 2) (pa_cons (pv 3) (pa_cons (pe_op op_add pe_int (pe_call GX hr3 rfl D.d_law_next.m D.d_law_next.F.kp D.d_law_next.b .nil pass0 (pa_cons (pv 1) (pa_cons pe_int pa_nil)))) pa_nil))))))
      (pss_cons (ps_set (i := 5) sc_law.nd rfl (Or.inl rfl) (K3.pe_way (pe_ifExp (pt_cmpR op_eq (pe_call GX hr3 rfl D.d_law_next.m D.d_law_next.F.kp D.d_law_next.b .nil pass0 (pa_cons (pv 1) (pa_cons pe_int pa_nil))) pe_int (nomark _)) (pe_call GL hr8 rfl D.d_law_larger.m D.d_law_larger.F.kp D.d_law_larger.b .nil pass0 (pa_cons (pv 1) (pa_cons (pv 4) pa_nil))) (pe_call GC hr8 rfl D.d_law_concept.m D.d_law_concept.F.kp D.d_law_concept.b .nil pass0 (pa_cons (pv 1) (pa_cons (pv 2) (pa_cons (pv 3) (pa_cons pe_int pa_nil))))))))
      (pss_cons (ps_set (i := 6) sc_law.nd rfl (Or.inl rfl) (pe_tup (pa_cons pe_str (pa_cons (pe_call GL hr8 rfl D.d_law_larger.m D.d_law_larger.F.kp D.d_law_larger.b .nil pass0 (pa_cons (pv 1) (pa_cons (pv 5) pa_nil))) (pa_cons (pe_call GC hr8 rfl D.d_law_concept.m D.d_law_concept.F.kp D.d_law_concept.b .nil pass0 (pa_cons (pv 1) (pa_cons (pv 2) (pa_cons (pv 3) (pa_cons (pe_op op_add pe_int (pe_call GX hr3 rfl D.d_law_next.m D.d_law_next.F.kp D.d_law_next.b .nil pass0 (pa_cons (pv 1) (pa_cons pe_int pa_nil)))) pa_nil))))) pa_nil)))))
      (pss_cons (ps_set (i := 7) sc_law.nd rfl (Or.inl rfl) (pe_callF GW hr65 rfl D.pc_m D.pc_k pass0 (pa_cons (pv 4) (pa_cons (pv 5) pa_nil))))
      (pss_cons (ps_if (PW.pt (pw_or (pt_cmpR (op_neD hu) (pv 7) (pe_callF GW hr65 rfl D.pc_m D.pc_k pass0 (pa_cons (pv 5) (pa_cons (pv 4) pa_nil))) (nomark _)) (pw_or (pt_cmpR (op_neD hu) (pv 7) (pe_callF GW hr65 rfl D.pc_m D.pc_k pass0 (pa_cons (pv 4) (pa_cons (pv 5) (pa_cons (pv 4) pa_nil)))) (nomark _)) (pw_or1 (pt_cmpR (op_neD hu) (pe_callF GW hr65 rfl D.pc_m D.pc_k pass0 (pa_cons (pv 4) pa_nil)) (pe_call GR hr64 rfl D.d_reduced.m D.d_reduced.F.kp D.d_reduced.b .nil pass0 (pa_cons (pv 4) pa_nil)) (nomark _)))))) (pss_one (ps_ret pe_bl)) pss_nil)
      (pss_cons (ps_if (PW.pt (pw_or (pt_cmpR (op_neD hu) (pe_callF GW hr65 rfl D.pc_m D.pc_k pass0 (pa_cons (pv 7) (pa_cons (pv 6) pa_nil))) (pe_callF GW hr65 rfl D.pc_m D.pc_k pass0 (pa_cons (pv 4) (pa_cons (pv 5) (pa_cons (pv 6) pa_nil)))) (nomark _)) (pw_or1 (pt_cmpR (op_neD hu) (pe_callF GW hr65 rfl D.pc_m D.pc_k pass0 (pa_cons (pv 4) (pa_cons (pe_callF GW hr65 rfl D.pc_m D.pc_k pass0 (pa_cons (pv 5) (pa_cons (pv 6) pa_nil))) pa_nil))) (pe_callF GW hr65 rfl D.pc_m D.pc_k pass0 (pa_cons (pv 6) (pa_cons (pv 5) (pa_cons (pv 4) pa_nil)))) (nomark _))))) (pss_one (ps_ret pe_bl)) pss_nil)
      (pss_cons (ps_if (PW.pt (pw_or (pt_cmpR (op_neD hu) (pe_callF GW hr65 rfl D.pc_m D.pc_k pass0 (pa_cons (pv 4) (pa_cons (pe_tup (pa_cons pe_str (pa_cons (pv 4) (pa_cons (pv 5) pa_nil)))) pa_nil))) (pe_call GR hr64 rfl D.d_reduced.m D.d_reduced.F.kp D.d_reduced.b .nil pass0 (pa_cons (pv 4) pa_nil)) (nomark _)) (pw_or1 (pt_cmpR (op_neD hu) (pe_call GR hr64 rfl D.d_reduced.m D.d_reduced.F.kp D.d_reduced.b .nil pass0 (pa_cons (pe_tup (pa_cons pe_str (pa_cons (pv 4) (pa_cons (pv 7) pa_nil)))) pa_nil)) (pe_call GR hr64 rfl D.d_reduced.m D.d_reduced.F.kp D.d_reduced.b .nil pass0 (pa_cons (pv 4) pa_nil)) (nomark _))))) (pss_one (ps_ret pe_bl)) pss_nil)
      (pss_cons (ps_if (pt_cmpR (op_neD hu) (pe_call GR hr64 rfl D.d_reduced.m D.d_reduced.F.kp D.d_reduced.b .nil pass0 (pa_cons (pe_tup (pa_cons pe_str (pa_cons (pv 4) (pa_cons (pe_callF GW hr65 rfl D.pc_m D.pc_k pass0 (pa_cons (pv 5) (pa_cons (pv 6) pa_nil))) pa_nil)))) pa_nil)) (pe_callF GW hr65 rfl D.pc_m D.pc_k pass0 (pa_cons (pe_tup (pa_cons pe_str (pa_cons (pv 4) (pa_cons (pv 5) pa_nil)))) (pa_cons (pe_tup (pa_cons pe_str (pa_cons (pv 4) (pa_cons (pv 6) pa_nil)))) pa_nil))) (nomark _)) (pss_one (ps_ret pe_bl)) pss_nil)
      (pss_cons (ps_if (pt_cmpR (op_neD hu) (pe_callF GW hr65 rfl D.pc_m D.pc_k pass0 (pa_cons (pv 4) (pa_cons (pe_tup (pa_cons pe_str (pa_cons (pv 5) (pa_cons (pv 6) pa_nil)))) pa_nil))) (pe_call GR hr64 rfl D.d_reduced.m D.d_reduced.F.kp D.d_reduced.b .nil pass0 (pa_cons (pe_tup (pa_cons pe_str (pa_cons (pv 7) (pa_cons (pe_callF GW hr65 rfl D.pc_m D.pc_k pass0 (pa_cons (pv 4) (pa_cons (pv 6) pa_nil))) pa_nil)))) pa_nil)) (nomark _)) (pss_one (ps_ret pe_bl)) pss_nil)
      (pss_cons (ps_if (PW.pt (pw_or (pt_cmpR (op_neD hu) (pe_callF GW hr65 rfl D.pc_m D.pc_k pass0 (pa_cons (pv 4) (pa_cons pe_str pa_nil))) pe_str (nomark _)) (pw_or1 (pt_cmpR (op_neD hu) (pe_callF GW hr65 rfl D.pc_m D.pc_k pass0 (pa_cons (pv 4) (pa_cons pe_str pa_nil))) (pe_call GR hr64 rfl D.d_reduced.m D.d_reduced.F.kp D.d_reduced.b .nil pass0 (pa_cons (pv 4) pa_nil)) (nomark _))))) (pss_one (ps_ret pe_bl)) pss_nil)
      (pss_cons (ps_set (i := 8) sc_law.nd rfl (Or.inl rfl) (pe_call GP hr4 rfl D.d_law_pick.m D.d_law_pick.F.kp D.d_law_pick.b .nil pass0 (pa_cons (pv 1) (pa_cons (pv 3) pa_nil))))
      (pss_one (ps_ret (pe_cmpR (op_eqD hu) (pe_callF GW hr65 rfl D.pc_m D.pc_k pass0 (pa_cons (pe_tup (pa_cons pe_str (pa_cons (pv 8) (pa_cons (pv 4) pa_nil)))) (pa_cons (pe_tup (pa_cons pe_str (pa_cons (pv 8) (pa_cons (pv 5) pa_nil)))) pa_nil))) (pe_tup (pa_cons pe_str (pa_cons (pv 8) (pa_cons (pv 7) pa_nil)))) (nomark _))))))))))))))))), ?_⟩
  refine ⟨_, rfl, _, rfl, a0, _, rfl, hS, fun sc hsc => ⟨(by show 3 ≤ sizeLine; decide), fun d hd0 => ?_⟩⟩
  have ec : cutV (zs.map L2.V.int) none (some 63) = zs.map L2.V.int := by
    simp only [cutV, HT.sIx, List.drop_zero, List.length_map]
    rw [if_neg (by omega), Nat.sub_zero]
    exact List.take_of_length_le (by rw [List.length_map]; show zs.length ≤ min 63 zs.length; omega)
  have g1 := same_new hsc (.lst (cutV (zs.map L2.V.int) none (some 63)))
  have hsd : sc ≠ d := ne_of_none upd_same hd0
  have dr0 : DrawAt (upd (upd H sc (.lst (cutV (zs.map L2.V.int) none (some 63)))) d (.lst [.ref sc, .int 0, .int 0])) d sc := ⟨zs, 0, upd_same, by rw [upd_ne hsd, upd_same, ec], Int.le_refl 0⟩
  have T0 : TB Pt (upd (upd H sc (.lst (cutV (zs.map L2.V.int) none (some 63)))) d (.lst [.ref sc, .int 0, .int 0])) := LamX.Tabs.ext (LamX.Tabs.ext hT g1) (same_new hd0 _)
  refine ⟨_, rfl, d, sc, rfl, dr0, fun H1 p0 tn tr N R b1 dr1 hp0 A1 => ?_⟩
  have T1 := tb_draw dr0 b1 T0
  refine ⟨p0, _, rfl, SqT.of hp0, rfl, _, _, rfl, _, _, rfl, rfl, ?_⟩
  -- one
  refine ⟨_, rfl, _, rfl, _, rfl, _, rfl, d, sc, 2, rfl, (by decide), dr1, fun H2 r2 b2 dr2 r20 r22 => ?_⟩
  have em : (1 : Int) + r2 = (((1 + r2.toNat : Nat) : Nat) : Int) := by omega
  refine ⟨_, _, rfl, rfl, d, sc, tn, tr, N, R, 1 + r2.toNat, congrArg (fun z => [V.ref d, V.ref tn, V.ref tr, V.int z]) em, (show 1 + r2.toNat ≤ 2 by omega), dr2, A1.but b2, fun H3 v1 o h1 D1 b3 dr3 => ?_⟩
  have D1 := dr_mono D1 (show 1 + r2.toNat ≤ 2 by omega)
  have go : Gs N 2 9 4 o := ⟨D1.cw, D1.ok, D1.ns, D1.nd, D1.cz⟩
  have A3 := (A1.but b2).but b3
  have T3 := tb_draw dr2 b3 (tb_draw dr1 b2 T1)
  -- two
  refine ⟨fun v H' => ∃ t, TAt H' t v ∧ Gs N 2 9 4 t ∧ But [d] H3 H' ∧ DrawAt H' d sc, ?_, ?_⟩
  · refine ⟨_, rfl, d, sc, 3, rfl, (by decide), dr3, fun H4 r4 b4 dr4 r40 r43 => ⟨rfl, _, rfl, ite2 (fun _ => ?_) (fun _ => ?_)⟩⟩
    · have n1 := go.ns
      have n2 := go.nd
      have n3 := go.cz
      refine ⟨_, rfl, _, rfl, d, sc, v1, o, N, rfl, dr4, h1.t (b4.t dr3.nt), go.cw, go.ok, (show K1.ns o ≤ 3 by omega), by decide, by omega, fun H5 t v2 h2 lg b5 dr5 => ⟨t, h2, ⟨lg.cw, lg.ok, Nat.le_trans lg.ns n1, Nat.le_trans lg.nd n2, Nat.le_trans lg.cz n3⟩, b4.trans b5, dr5⟩⟩
    · refine ⟨_, rfl, _, rfl, _, rfl, d, sc, tn, tr, N, R, 2, rfl, (by decide), dr4, A3.but b4, fun H5 v2 t h2 D2 b5 dr5 => ⟨t, h2, ⟨D2.cw, D2.ok, D2.ns, D2.nd, D2.cz⟩, b4.trans b5, dr5⟩⟩
  rintro v2 H5 ⟨t, h2, gt, b35, dr5⟩
  have h15 := h1.t (b35.t dr3.nt)
  have A5 := A3.but b35
  have T5 := tb_draw dr3 b35 T3
  -- three
  have n1 := gt.ns
  have n2 := gt.nd
  have n3 := gt.cz
  refine ⟨_, rfl, _, rfl, d, sc, v2, t, N, rfl, dr5, h2, gt.cw, gt.ok, (show K1.ns t ≤ 3 by omega), by decide, by omega, fun H6 u x6 h6 lg6 b6 dr6 => ?_⟩
  refine ⟨_, rfl, _, rfl, _, rfl, _, rfl, d, sc, 2, rfl, (by decide), dr6, fun H7 r7 b7 dr7 r70 r72 => ?_⟩
  have em7 : (1 : Int) + r7 = (((1 + r7.toNat : Nat) : Nat) : Int) := by omega
  refine ⟨_, _, rfl, rfl, d, sc, tn, tr, N, R, 1 + r7.toNat, congrArg (fun z => [V.ref d, V.ref tn, V.ref tr, V.int z]) em7, (show 1 + r7.toNat ≤ 2 by omega), dr7, (A5.but b6).but b7, fun H8 x8 c h8 D8 b8 dr8 => ⟨(by show 3 ≤ sizeLine; decide), fun p3 hp3 => ?_⟩⟩
  have D8 := dr_mono D8 (show 1 + r7.toNat ≤ 2 by omega)
  have gu : Gs N 2 9 4 u := ⟨lg6.cw, lg6.ok, Nat.le_trans lg6.ns n1, Nat.le_trans lg6.nd n2, Nat.le_trans lg6.cz n3⟩
  have g3 : Gs N 3 18 8 (.and [u, c]) := gu.and2 ⟨D8.cw, D8.ok, D8.ns, D8.nd, D8.cz⟩
  have T8 := tb_draw dr7 b8 (tb_draw dr6 b7 (tb_draw dr5 b6 T5))
  have s9 := same_new hp3 (.tup [.str "and", x6, x8])
  have b58 : But [d] H5 H8 := (b6.trans b7).trans b8
  have S : LS Pt d sc tn tr N R o t (.and [u, c]) v1 v2 (.ref p3) (upd H8 p3 (.tup [.str "and", x6, x8])) := ⟨(h15.t (b58.t dr5.nt)).same s9, (h2.t (b58.t dr5.nt)).same s9, tat_and upd_same ((h6.t ((b7.trans b8).t dr6.nt)).same s9) (h8.same s9), LamX.Tabs.ext T8 s9, dr8.same s9, (((A5.but b6).but b7).but b8).same s9⟩
  generalize upd H8 p3 (.tup [.str "and", x6, x8]) = H9 at S ⊢
  generalize hth : T.and [u, c] = th at S g3
  have wo := A1.okN
  have lN := A1.l3
  have gdo := go.gd (by decide) (by decide)
  have gdt := gt.gd (by decide) (by decide)
  have gd3 := g3.gd (by decide) (by decide)
  have zo := go.tz
  have zt := gt.tz
  have z3 := g3.tz
  have dO : dT o ≤ 3 := by have h1 := dT_ns o; have h2 := go.ns; omega
  have dTt : dT t ≤ 3 := by have h1 := dT_ns t; have h2 := gt.ns; omega
  have nso : ns o ≤ 64 := by have h2 := go.ns; omega
  clear hth h1 h2 h6 h8 h15 D1 D8 gu lg6 A3 A5 T0 T1 T3 T5 T8 dr0 dr1 dr2 dr3 dr5 dr6 dr7 dr8 b1 b2 b3 b35 b6 b7 b8 b58 hp3 s9 hp0 g1 ec hsd hd0 hsc
  -- common
  have k12 := pr_c zo (pr_c zt pr_n)
  refine ⟨_, rfl, _, rfl, plain_of S.tb (.cons S.h1 (.cons S.h2 .nil)) wo lN (gd_c gdo (gd_c gdt gd_n)) (by simp) (by show 2 ≤ 8; decide) (Nat.le_trans k12.1 (by decide)) (Nat.le_trans k12.2 (by decide)) fun H10 vc C b10 T10 hC rC cC oC jC zC => ?_⟩
  have zC := Nat.le_trans zC k12.1
  have gC : Gs N 7 250 24 C := Gs.res rC cC oC jC (u := o) (by simp) dO lN zC (by decide)
  have gdC := gC.gd (by decide) (by decide)
  have nC : ns C ≤ 64 := by have h2 := gC.ns; omega
  have S := S.on b10 T10
  clear b10 T10
  -- in any order
  have k21 := pr_c zt (pr_c zo pr_n)
  refine ⟨_, rfl, _, rfl, _, rfl, plain_of S.tb (.cons S.h2 (.cons S.h1 .nil)) wo lN (gd_c gdt (gd_c gdo gd_n)) (by simp) (by show 2 ≤ 8; decide) (Nat.le_trans k21.1 (by decide)) (Nat.le_trans k21.2 (by decide)) fun H11 va X b11 T11 hX rX cX oX jX zX => ?_⟩
  have S := S.on b11 T11
  have hC := tat_b b11 hC
  refine neD_of hC hX (rX.uni rC (join_sub jX jC (by simp) (by simp))) cC nC ⟨_, rfl, iteF ?_⟩
  clear hX rX cX oX jX zX b11 T11 k21
  have k121 := pr_c zo (pr_c zt (pr_c zo pr_n))
  refine ⟨_, rfl, _, rfl, _, rfl, _, rfl, plain_of S.tb (.cons S.h1 (.cons S.h2 (.cons S.h1 .nil))) wo lN (gd_c gdo (gd_c gdt (gd_c gdo gd_n))) (by simp) (by show 3 ≤ 8; decide) (Nat.le_trans k121.1 (by decide)) (Nat.le_trans k121.2 (by decide)) fun H12 va X b11 T11 hX rX cX oX jX zX => ?_⟩
  have S := S.on b11 T11
  have hC := tat_b b11 hC
  refine neD_of hC hX (rX.uni rC (join_sub jX jC (by simp) (by simp))) cC nC ⟨_, rfl, iteF ?_⟩
  clear hX rX cX oX jX zX b11 T11 k121
  have k1 := pr_c zo pr_n
  refine ⟨_, rfl, plain_of S.tb (.cons S.h1 .nil) wo lN (gd_c gdo gd_n) (by simp) (by show 1 ≤ 8; decide) (Nat.le_trans k1.1 (by decide)) (Nat.le_trans k1.2 (by decide)) fun H13 va X b11 T11 hX rX cX oX jX zX => ?_⟩
  have S := S.on b11 T11
  have hC := tat_b b11 hC
  clear b11 T11
  have lN60 : N.length ≤ 60 := by omega
  have zo5 : cz o ≤ 500 := by have := go.cz; omega
  refine ⟨_, rfl, v1, o, N, rfl, S.tb, S.h1, gdo, wo, lN60, zo5, fun H14 vb Y b11 T11 hY rY eY cY oY zY => ?_⟩
  have S := S.on b11 T11
  have hC := tat_b b11 hC
  refine neD_of (tat_b b11 hX) hY (rY.uni rX (eY.trans (join_sub (isJ_one o) jX (fun x h => h) fun x h => h))) cX (res_ns rX jX (u := o) (by simp) (by omega)) ⟨_, rfl, iteF ?_⟩
  clear hX rX cX oX jX zX hY rY eY cY oY zY b11 T11
  -- one after the other
  have dTh : dT th ≤ 3 := by have h1 := dT_ns th; have h2 := g3.ns; omega
  have zC25 := gC.tz
  have kC3 := pr_c zC25 (pr_c z3 pr_n)
  refine ⟨_, rfl, _, rfl, plain_of S.tb (.cons hC (.cons S.h3 .nil)) wo lN (gd_c gdC (gd_c gd3 gd_n)) (by simp) (by show 2 ≤ 8; decide) (Nat.le_trans kC3.1 (by decide)) (Nat.le_trans kC3.2 (by decide)) fun H15 va X b11 T11 hX rX cX oX jX zX => ?_⟩
  have S := S.on b11 T11
  have hC := tat_b b11 hC
  clear b11 T11 kC3
  have k123 := pr_c zo (pr_c zt (pr_c z3 pr_n))
  refine ⟨_, rfl, _, rfl, _, rfl, plain_of S.tb (.cons S.h1 (.cons S.h2 (.cons S.h3 .nil))) wo lN (gd_c gdo (gd_c gdt (gd_c gd3 gd_n))) (by simp) (by show 3 ≤ 8; decide) (Nat.le_trans k123.1 (by decide)) (Nat.le_trans k123.2 (by decide)) fun H16 vb Y b11 T11 hY rY cY oY jY zY => ?_⟩
  have S := S.on b11 T11
  have hC := tat_b b11 hC
  refine neD_of (tat_b b11 hX) hY (rY.uni rX (join_nest jC jX jY).symm) cX (res_ns rX jX (u := th) (by simp) (by omega)) ⟨_, rfl, iteF ?_⟩
  clear hX rX cX oX jX zX hY rY cY oY jY zY b11 T11
  have k23 := pr_c zt (pr_c z3 pr_n)
  refine ⟨_, rfl, _, rfl, _, rfl, plain_of S.tb (.cons S.h2 (.cons S.h3 .nil)) wo lN (gd_c gdt (gd_c gd3 gd_n)) (by simp) (by show 2 ≤ 8; decide) (Nat.le_trans k23.1 (by decide)) (Nat.le_trans k23.2 (by decide)) fun H17 vs' Z b11 T11 hZ rZ cZ oZ jZ zZ => ?_⟩
  have S := S.on b11 T11
  have hC := tat_b b11 hC
  have gZ : Gs N 7 250 44 Z := Gs.res rZ cZ oZ jZ (u := t) (by simp) dTt lN (Nat.le_trans zZ k23.1) (by decide)
  clear b11 T11
  have k1Z := pr_c zo (pr_c gZ.tz pr_n)
  refine plain_of S.tb (.cons S.h1 (.cons hZ .nil)) wo lN (gd_c gdo (gd_c (gZ.gd (by decide) (by decide)) gd_n)) (by simp) (by show 2 ≤ 8; decide) (Nat.le_trans k1Z.1 (by decide)) (Nat.le_trans k1Z.2 (by decide)) fun H18 va X b11 T11 hX rX cX oX jX zX => ?_
  have S := S.on b11 T11
  have hC := tat_b b11 hC
  clear b11 T11
  have k321 := pr_c z3 (pr_c zt (pr_c zo pr_n))
  refine ⟨_, rfl, _, rfl, _, rfl, plain_of S.tb (.cons S.h3 (.cons S.h2 (.cons S.h1 .nil))) wo lN (gd_c gd3 (gd_c gdt (gd_c gdo gd_n))) (by simp) (by show 3 ≤ 8; decide) (Nat.le_trans k321.1 (by decide)) (Nat.le_trans k321.2 (by decide)) fun H19 vb Y b11 T11 hY rY cY oY jY zY => ?_⟩
  have S := S.on b11 T11
  have hC := tat_b b11 hC
  have jX' : IsJ X [Z, o] := isJ_perm jX (by simp) (by simp)
  have jY' : IsJ Y [t, th, o] := isJ_perm jY (by simp) (by simp)
  refine neD_of (tat_b b11 hX) hY (rY.uni rX (join_nest jZ jX' jY').symm) cX (res_ns rX jX (u := o) (by simp) (by omega)) ⟨_, rfl, iteF ?_⟩
  clear hX rX cX oX jX zX hY rY cY oY jY zY b11 T11 jX' jY' hZ rZ cZ oZ jZ zZ gZ k321 k1Z
  -- one taken in by the other
  have g12 := go.and2 gt
  have k112 := pr_c zo (pr_c g12.tz pr_n)
  refine ⟨_, rfl, _, rfl, _, rfl, (by show 3 ≤ sizeLine; decide), fun p6 hp6 => ?_⟩
  have s6 := same_new hp6 (.tup [.str "and", v1, v2])
  have S := S.same s6
  have hC := hC.same s6
  have h12 := tat_and (H := upd _ p6 (.tup [.str "and", v1, v2])) upd_same S.h1 S.h2
  refine plain_of S.tb (.cons S.h1 (.cons h12 .nil)) wo lN (gd_c gdo (gd_c (g12.gd (by decide) (by decide)) gd_n)) (by simp) (by show 2 ≤ 8; decide) (Nat.le_trans k112.1 (by decide)) (Nat.le_trans k112.2 (by decide)) fun H20 va X b11 T11 hX rX cX oX jX zX => ?_
  have S := S.on b11 T11
  have hC := tat_b b11 hC
  clear b11 T11 h12 s6 hp6
  refine ⟨_, rfl, v1, o, N, rfl, S.tb, S.h1, gdo, wo, lN60, zo5, fun H21 vb Y b11 T11 hY rY eY cY oY zY => ?_⟩
  have S := S.on b11 T11
  have hC := tat_b b11 hC
  have eX : Eqv X o := ⟨jX.2 o fun w hw => by rcases mem2 hw with rfl | rfl; exact Le.refl _; exact and_le1, jX.1 o (by simp)⟩
  refine neD_of (tat_b b11 hX) hY (rY.uni rX (eY.trans eX.symm)) cX (res_ns rX jX (u := o) (by simp) (by omega)) ⟨_, rfl, iteF ?_⟩
  clear hX rX cX oX jX zX hY rY eY cY oY zY b11 T11 eX k112
  have g1C := go.and2 gC
  have z1C : cz (.and [o, C]) ≤ 500 := Nat.le_trans g1C.cz (by decide)
  refine ⟨_, rfl, _, rfl, (by show 3 ≤ sizeLine; decide), fun p6 hp6 => ?_⟩
  have s6 := same_new hp6 (.tup [.str "and", v1, vc])
  have S := S.same s6
  have hC := hC.same s6
  have h1C := tat_and (H := upd _ p6 (.tup [.str "and", v1, vc])) upd_same S.h1 hC
  refine ⟨_, .and [o, C], N, rfl, S.tb, h1C, g1C.gd (by decide) (by decide), wo, lN60, z1C, fun H22 va X b11 T11 hX rX eX cX oX zX => ?_⟩
  have S := S.on b11 T11
  have hC := tat_b b11 hC
  clear b11 T11 h1C s6 hp6
  refine ⟨_, rfl, v1, o, N, rfl, S.tb, S.h1, gdo, wo, lN60, zo5, fun H23 vb Y b11 T11 hY rY eY cY oY zY => ?_⟩
  have S := S.on b11 T11
  have hC := tat_b b11 hC
  have e1 : Eqv (.and [o, C]) o := ⟨and_le1, le_and (Le.refl _) (jC.1 o (by simp))⟩
  refine neD_of (tat_b b11 hX) hY (rY.uni rX (eY.trans (eX.trans e1).symm)) cX (red_ns rX (eX.trans e1) (by omega)) ⟨_, rfl, iteF ?_⟩
  clear hX rX eX cX oX zX hY rY eY cY oY zY b11 T11 e1
  -- one and (two over three)
  refine ⟨_, rfl, _, rfl, _, rfl, plain_of S.tb (.cons S.h2 (.cons S.h3 .nil)) wo lN (gd_c gdt (gd_c gd3 gd_n)) (by simp) (by show 2 ≤ 8; decide) (Nat.le_trans k23.1 (by decide)) (Nat.le_trans k23.2 (by decide)) fun H24 vs' Z b11 T11 hZ rZ cZ oZ jZ zZ => ⟨(by show 3 ≤ sizeLine; decide), fun p6 hp6 => ?_⟩⟩
  have S := S.on b11 T11
  have hC := tat_b b11 hC
  have gZ : Gs N 7 250 44 Z := Gs.res rZ cZ oZ jZ (u := t) (by simp) dTt lN (Nat.le_trans zZ k23.1) (by decide)
  have s6 := same_new hp6 (.tup [.str "and", v1, vs'])
  have S := S.same s6
  have hC := hC.same s6
  have h1Z := tat_and (H := upd _ p6 (.tup [.str "and", v1, vs'])) upd_same S.h1 (hZ.same s6)
  have g1Z := go.and2 gZ
  refine ⟨_, .and [o, Z], N, rfl, S.tb, h1Z, g1Z.gd (by decide) (by decide), wo, lN60, Nat.le_trans g1Z.cz (by decide), fun H25 va X b12 T12 hX rX eX cX oX zX => ?_⟩
  have S := S.on b12 T12
  have hC := tat_b b12 hC
  clear b11 T11 h1Z s6 hp6 b12 T12 hZ
  refine ⟨_, rfl, _, rfl, (by show 3 ≤ sizeLine; decide), fun p6 hp6 => ?_⟩
  have s6 := same_new hp6 (.tup [.str "and", v1, v2])
  have S := S.same s6
  have hC := hC.same s6
  have hX := hX.same s6
  have h12 := tat_and (H := upd _ p6 (.tup [.str "and", v1, v2])) upd_same S.h1 S.h2
  refine ⟨_, rfl, _, rfl, (by show 3 ≤ sizeLine; decide), fun p7 hp7 => ?_⟩
  have s7 := same_new hp7 (.tup [.str "and", v1, .ref p3])
  have S := S.same s7
  have hC := hC.same s7
  have hX := hX.same s7
  have h12 := h12.same s7
  have h13 := tat_and (H := upd _ p7 (.tup [.str "and", v1, .ref p3])) upd_same S.h1 S.h3
  have g13 := go.and2 g3
  have kdd := pr_c g12.tz (pr_c g13.tz pr_n)
  refine plain_of S.tb (.cons h12 (.cons h13 .nil)) wo lN (gd_c (g12.gd (by decide) (by decide)) (gd_c (g13.gd (by decide) (by decide)) gd_n)) (by simp) (by show 2 ≤ 8; decide) (Nat.le_trans kdd.1 (by decide)) (Nat.le_trans kdd.2 (by decide)) fun H26 vb Y b11 T11 hY rY cY oY jY zY => ?_
  have S := S.on b11 T11
  have hC := tat_b b11 hC
  have d1Z : dT (.and [o, Z]) ≤ 9 := by have h1 := dT_ns (.and [o, Z]); have h2 := g1Z.ns; omega
  refine neD_of (tat_b b11 hX) hY (rY.uni rX ((dist1 jZ jY).symm.trans eX.symm)) cX (red_ns rX eX d1Z) ⟨_, rfl, iteF ?_⟩
  clear hX rX eX cX oX zX hY rY cY oY jY zY b11 T11 d1Z h12 h13 s6 s7 hp6 hp7 kdd g1Z gZ rZ cZ oZ jZ zZ
  -- one over (two and three)
  have g23 := gt.and2 g3
  have k1d := pr_c zo (pr_c g23.tz pr_n)
  refine ⟨_, rfl, _, rfl, _, rfl, (by show 3 ≤ sizeLine; decide), fun p6 hp6 => ?_⟩
  have s6 := same_new hp6 (.tup [.str "and", v2, .ref p3])
  have S := S.same s6
  have hC := hC.same s6
  have h23 := tat_and (H := upd _ p6 (.tup [.str "and", v2, .ref p3])) upd_same S.h2 S.h3
  refine plain_of S.tb (.cons S.h1 (.cons h23 .nil)) wo lN (gd_c gdo (gd_c (g23.gd (by decide) (by decide)) gd_n)) (by simp) (by show 2 ≤ 8; decide) (Nat.le_trans k1d.1 (by decide)) (Nat.le_trans k1d.2 (by decide)) fun H27 va X b11 T11 hX rX cX oX jX zX => ?_
  have S := S.on b11 T11
  have hC := tat_b b11 hC
  clear b11 T11 h23 s6 hp6 k1d
  have k13 := pr_c zo (pr_c z3 pr_n)
  refine ⟨_, rfl, _, rfl, _, rfl, plain_of S.tb (.cons S.h1 (.cons S.h3 .nil)) wo lN (gd_c gdo (gd_c gd3 gd_n)) (by simp) (by show 2 ≤ 8; decide) (Nat.le_trans k13.1 (by decide)) (Nat.le_trans k13.2 (by decide)) fun H28 vs' Z b11 T11 hZ rZ cZ oZ jZ zZ => ⟨(by show 3 ≤ sizeLine; decide), fun p6 hp6 => ?_⟩⟩
  have S := S.on b11 T11
  have hC := tat_b b11 hC
  have hX := tat_b b11 hX
  have gZ : Gs N 7 250 44 Z := Gs.res rZ cZ oZ jZ (u := o) (by simp) dO lN (Nat.le_trans zZ k13.1) (by decide)
  have s6 := same_new hp6 (.tup [.str "and", vc, vs'])
  have S := S.same s6
  have hC := hC.same s6
  have hX := hX.same s6
  have hCZ := tat_and (H := upd _ p6 (.tup [.str "and", vc, vs'])) upd_same hC (hZ.same s6)
  have gCZ := gC.and2 gZ
  refine ⟨_, .and [C, Z], N, rfl, S.tb, hCZ, gCZ.gd (by decide) (by decide), wo, lN60, Nat.le_trans gCZ.cz (by decide), fun H29 vb Y b12 T12 hY rY eY cY oY zY => ?_⟩
  have S := S.on b12 T12
  have hC := tat_b b12 hC
  refine neD_of (tat_b b12 hX) hY (rY.uni rX (eY.trans (dist2 jX jC jZ).symm)) cX (res_ns rX jX (u := o) (by simp) (by omega)) ⟨_, rfl, iteF ?_⟩
  clear hX rX cX oX jX zX hY rY eY cY oY zY b11 T11 b12 T12 hCZ gCZ gZ hZ rZ cZ oZ jZ zZ s6 hp6 k13
  -- with all and none
  have l12 : ("all" : Str).length ≤ 1000 := by decide
  have l13 : ("none" : Str).length ≤ 1000 := by decide
  have all_at : ∀ H' : Hp, TAt H' (.atom "all") (.str "all") := fun H' => by rw [TAt]; exact ⟨rfl, l12⟩
  have none_at : ∀ H' : Hp, TAt H' (.atom "none") (.str "none") := fun H' => by rw [TAt]; exact ⟨rfl, l13⟩
  have ga := gs_all N
  have k1a := pr_c zo (pr_c ga.tz pr_n)
  refine ⟨_, rfl, plain_of S.tb (.cons S.h1 (.cons (all_at _) .nil)) wo lN (gd_c gdo (gd_c (ga.gd (by decide) (by decide)) gd_n)) (by simp) (by show 2 ≤ 8; decide) (Nat.le_trans k1a.1 (by decide)) (Nat.le_trans k1a.2 (by decide)) fun H30 va X b11 T11 hX rX cX oX jX zX => ?_⟩
  have S := S.on b11 T11
  have hC := tat_b b11 hC
  have eA : Eqv (.atom "all") X := And.intro (jX.1 (.atom "all") (by simp)) le_all
  unfold tC
  refine neD_of hX (all_at _) (rd_all.uni rX eA) cX (res_ns rX jX (u := o) (by simp) (by omega)) ⟨_, rfl, iteF ?_⟩
  clear hX rX cX oX jX zX b11 T11 k1a ga eA
  refine ⟨_, rfl, plain_none S.tb S.h1 (none_at _) wo lN gdo (by omega) fun H31 va X b11 T11 hX rX cX oX jX => ?_⟩
  have S := S.on b11 T11
  have hC := tat_b b11 hC
  clear b11 T11
  refine ⟨_, rfl, v1, o, N, rfl, S.tb, S.h1, gdo, wo, lN60, zo5, fun H32 vb Y b11 T11 hY rY eY cY oY zY => ?_⟩
  have S := S.on b11 T11
  have hC := tat_b b11 hC
  refine neD_of (tat_b b11 hX) hY (rY.uni rX (eY.trans (join_sub (isJ_one o) jX (fun x h => h) fun x h => h))) cX (res_ns rX jX (u := o) (by simp) (by omega)) ⟨_, rfl, iteF ?_⟩
  clear hX rX cX oX jX hY rY eY cY oY zY b11 T11
  -- within a some
  refine ⟨_, rfl, _, rfl, d, sc, tr, _, rfl, S.dr, S.al.hr, S.al.rd, (by rw [List.length_map, S.al.l2]; decide), fun H33 x hx b11 dr11 => ?_⟩
  have hC := hC.t (b11.t S.dr.nt)
  have okR := S.al.okR
  have S := S.draw b11 dr11
  obtain ⟨y, hy, rfl⟩ := List.mem_map.mp hx
  have wy := okR y hy
  have ly : y.length ≤ 1000 := word1000 wy
  refine ⟨_, rfl, _, rfl, (by show 3 ≤ sizeLine; decide), fun p6 hp6 => ?_⟩
  have s6 := same_new hp6 (.tup [.str "some", .str y, v1])
  have S := S.same s6
  have hC := hC.same s6
  have hs1 := tat_ex (H := upd _ p6 (.tup [.str "some", .str y, v1])) upd_same (S.h1) ly
  refine ⟨_, rfl, _, rfl, (by show 3 ≤ sizeLine; decide), fun p7 hp7 => ?_⟩
  have s7 := same_new hp7 (.tup [.str "some", .str y, v2])
  have S := S.same s7
  have hC := hC.same s7
  have hs1 := hs1.same s7
  have hs2 := tat_ex (H := upd _ p7 (.tup [.str "some", .str y, v2])) upd_same (S.h2) ly
  have e1 := go.ex wy
  have e2 := gt.ex wy
  have kss := pr_c e1.tz (pr_c e2.tz pr_n)
  refine plain_of S.tb (.cons hs1 (.cons hs2 .nil)) wo lN (gd_c (e1.gd (by decide) (by decide)) (gd_c (e2.gd (by decide) (by decide)) gd_n)) (by simp) (by show 2 ≤ 8; decide) (Nat.le_trans kss.1 (by decide)) (Nat.le_trans kss.2 (by decide)) fun H34 va X b11 T11 hX rX cX oX jX zX => ?_
  have hC := tat_b b11 hC
  refine ⟨_, rfl, _, rfl, (by show 3 ≤ sizeLine; decide), fun p8 hp8 => ?_⟩
  have s8 := same_new hp8 (.tup [.str "some", .str y, vc])
  have hs3 := tat_ex (H := upd _ p8 (.tup [.str "some", .str y, vc])) upd_same (hC.same s8) ly
  have d1 : dT (.ex y o) ≤ 9 := by rw [dT]; omega
  exact eqD_of (hX.same s8) hs3 ((rd_ex rC).uni rX (join_ex jC jX).symm) cX (res_ns rX jX (u := .ex y o) (by simp) d1) (q _)
end
end K1
namespace K1
open PySem L2
set_option maxHeartbeats 0 in
theorem defs_mk {K : PySem.W.Frag} {h : Heap} {mg : Str → Option Value} (X : K.In h) (G : h.Ns mainGlobals mg)
    {f0 f1 f2 f3 f4 f5 f6 f7 f8 f9 f10 f11 f12 f13 f14 f15 f16 f17 f18 f19 f20 f21 f22 f23 f24 f25 f26 f27 f28 f29 f30 f31 f32 f33 f34 f35 f36 f37 nw fC cM : Addr} {od0 an0 od1 an1 od2 an2 od3 an3 od4 an4 od5 an5 od6 an6 od7 an7 od8 an8 od9 an9 od10 an10 od11 an11 od12 an12 od13 an13 od14 an14 od15 an15 od16 an16 od17 an17 od18 an18 od19 an19 od20 an20 od21 an21 od22 an22 od23 an23 od24 an24 od25 an25 od26 an26 od27 an27 od28 an28 od29 an29 od30 an30 od31 an31 od32 an32 od33 an33 od34 an34 od35 an35 od36 an36 od37 an37 ddN : Option Addr} {sl0 sl1 sl2 sl3 sl4 sl5 sl6 sl7 sl8 sl9 sl10 sl11 sl12 sl13 sl14 sl15 sl16 sl17 sl18 sl19 sl20 sl21 sl22 sl23 sl24 sl25 sl26 sl27 sl28 sl29 sl30 sl31 sl32 sl33 sl34 sl35 sl36 sl37 slN : Array (Option Value)} {nN : Nat} {tk1 tk2 tk3 tkL tkD tkM : Tok}
    {oc0 kV0 dc0 pm0 cd0 ct0 oc1 kV1 dc1 pm1 cd1 ct1 oc2 kV2 dc2 pm2 cd2 ct2 oc3 kV3 dc3 pm3 cd3 ct3 oc4 kV4 dc4 pm4 cd4 ct4 oc5 kV5 dc5 pm5 cd5 ct5 oc6 kV6 dc6 pm6 cd6 ct6 oc7 kV7 dc7 pm7 cd7 ct7 oc8 kV8 dc8 pm8 cd8 ct8 oc9 kV9 dc9 pm9 cd9 ct9 oc10 kV10 dc10 pm10 cd10 ct10 oc11 kV11 dc11 pm11 cd11 ct11 oc12 kV12 dc12 pm12 ct12 oc13 kV13 dc13 pm13 cd13 ct13 oc14 kV14 dc14 pm14 cd14 ct14 oc15 kV15 dc15 pm15 cd15 ct15 oc16 kV16 dc16 pm16 cd16 ct16 oc17 kV17 dc17 pm17 cd17 ct17 oc18 kV18 dc18 pm18 cd18 ct18 oc19 kV19 dc19 pm19 cd19 ct19 oc20 kV20 dc20 pm20 cd20 ct20 oc21 kV21 dc21 pm21 cd21 ct21 oc22 kV22 dc22 pm22 cd22 ct22 oc23 kV23 dc23 pm23 cd23 ct23 oc24 kV24 dc24 pm24 cd24 ct24 oc25 kV25 dc25 pm25 cd25 ct25 oc26 kV26 dc26 pm26 cd26 ct26 oc27 kV27 dc27 pm27 cd27 ct27 oc28 kV28 dc28 pm28 cd28 ct28 oc29 kV29 dc29 pm29 cd29 ct29 oc30 kV30 dc30 pm30 cd30 ct30 oc31 kV31 dc31 pm31 cd31 ct31 oc32 kV32 dc32 pm32 cd32 ct32 oc33 kV33 dc33 pm33 cd33 ct33 oc34 kV34 dc34 pm34 cd34 ct34 oc35 kV35 dc35 pm35 cd35 ct35 oc36 kV36 dc36 pm36 cd36 ct36 oc37 kV37 dc37 pm37 cd37 ct37 : Value}
    (m_fC : PySem.W.nsIn K mainGlobals "Forms" = some (some (.ref fC)))
    (pg_fC : PySem.W.plainGet K fC Str.empty = true)
    (hd_fC : PySem.W.hasDictIn K fC = true)
    (po_fC : PySem.W.plainOver K fC = true)
    (sa_fC : PySem.W.findIn K (.ref fC) "__setattr__" = some (some (.builtin "object.__setattr__")))
    (mk_fC : PySem.W.makesIn K fC = true)
    (kp_fC : PySem.W.keepIn K (.ref fC) = true)
    (n_fCconcepts : PySem.W.findIn K (.ref fC) "concepts" = some none)
    (n_fCtexts : PySem.W.findIn K (.ref fC) "texts" = some none)
    (n_fCrows : PySem.W.findIn K (.ref fC) "rows" = some none)
    (n_fCchildren : PySem.W.findIn K (.ref fC) "children" = some none)
    (n_fC_numbers : PySem.W.findIn K (.ref fC) "_numbers" = some none)
    (n_fC_within : PySem.W.findIn K (.ref fC) "_within" = some none)
    (n_fC_upper : PySem.W.findIn K (.ref fC) "_upper" = some none)
    (n_fC_masks : PySem.W.findIn K (.ref fC) "_masks" = some none)
    (n_fC_bits : PySem.W.findIn K (.ref fC) "_bits" = some none)
    (n_fCtop : PySem.W.findIn K (.ref fC) "top" = some none)
    (a0 : PySem.W.nsIn K mainGlobals "is_word" = some (some (.ref f0)))
    (l0 : K.lookup f0 = some ⟨oc0, od0, .func (PySem.W.fnOf "is_word" "is_word" (defArgs s_is_word) (defBody s_is_word) (defScope s_is_word) .none kV0 dc0 pm0 an0 cd0 ct0), sl0⟩)
    (c0 : PySem.W.codeIn K cd0 "is_word" = true)
    (k0 : PySem.W.keepIn K (.ref f0) = true)
    (a1 : PySem.W.nsIn K mainGlobals "is_concept" = some (some (.ref f1)))
    (l1 : K.lookup f1 = some ⟨oc1, od1, .func (PySem.W.fnOf "is_concept" "is_concept" (defArgs s_is_concept) (defBody s_is_concept) (defScope s_is_concept) .none kV1 dc1 pm1 an1 cd1 ct1), sl1⟩)
    (c1 : PySem.W.codeIn K cd1 "is_concept" = true)
    (k1 : PySem.W.keepIn K (.ref f1) = true)
    (a2 : PySem.W.nsIn K mainGlobals "_is_nested" = some (some (.ref f2)))
    (l2 : K.lookup f2 = some ⟨oc2, od2, .func (PySem.W.fnOf "_is_nested" "_is_nested" (defArgs s_is_nested) (defBody s_is_nested) (defScope s_is_nested) .none kV2 dc2 pm2 an2 cd2 ct2), sl2⟩)
    (c2 : PySem.W.codeIn K cd2 "_is_nested" = true)
    (k2 : PySem.W.keepIn K (.ref f2) = true)
    (a3 : PySem.W.nsIn K mainGlobals "need_concept" = some (some (.ref f3)))
    (l3 : K.lookup f3 = some ⟨oc3, od3, .func (PySem.W.fnOf "need_concept" "need_concept" (defArgs s_need_concept) (defBody s_need_concept) (defScope s_need_concept) .none kV3 dc3 pm3 an3 cd3 ct3), sl3⟩)
    (c3 : PySem.W.codeIn K cd3 "need_concept" = true)
    (k3 : PySem.W.keepIn K (.ref f3) = true)
    (a4 : PySem.W.nsIn K mainGlobals "need_concepts" = some (some (.ref f4)))
    (l4 : K.lookup f4 = some ⟨oc4, od4, .func (PySem.W.fnOf "need_concepts" "need_concepts" (defArgs s_need_concepts) (defBody s_need_concepts) (defScope s_need_concepts) .none kV4 dc4 pm4 an4 cd4 ct4), sl4⟩)
    (c4 : PySem.W.codeIn K cd4 "need_concepts" = true)
    (k4 : PySem.W.keepIn K (.ref f4) = true)
    (a5 : PySem.W.nsIn K mainGlobals "inner" = some (some (.ref f5)))
    (l5 : K.lookup f5 = some ⟨oc5, od5, .func (PySem.W.fnOf "inner" "inner" (defArgs s_inner) (defBody s_inner) (defScope s_inner) .none kV5 dc5 pm5 an5 cd5 ct5), sl5⟩)
    (c5 : PySem.W.codeIn K cd5 "inner" = true)
    (k5 : PySem.W.keepIn K (.ref f5) = true)
    (a6 : PySem.W.nsIn K mainGlobals "is_without_none" = some (some (.ref f6)))
    (l6 : K.lookup f6 = some ⟨oc6, od6, .func (PySem.W.fnOf "is_without_none" "is_without_none" (defArgs s_is_without_none) (defBody s_is_without_none) (defScope s_is_without_none) .none kV6 dc6 pm6 an6 cd6 ct6), sl6⟩)
    (c6 : PySem.W.codeIn K cd6 "is_without_none" = true)
    (k6 : PySem.W.keepIn K (.ref f6) = true)
    (a7 : PySem.W.nsIn K mainGlobals "conjoin" = some (some (.ref f7)))
    (l7 : K.lookup f7 = some ⟨oc7, od7, .func (PySem.W.fnOf "conjoin" "conjoin" (defArgs s_conjoin) (defBody s_conjoin) (defScope s_conjoin) .none kV7 dc7 pm7 an7 cd7 ct7), sl7⟩)
    (c7 : PySem.W.codeIn K cd7 "conjoin" = true)
    (k7 : PySem.W.keepIn K (.ref f7) = true)
    (a8 : PySem.W.nsIn K mainGlobals "lies_in" = some (some (.ref f8)))
    (l8 : K.lookup f8 = some ⟨oc8, od8, .func (PySem.W.fnOf "lies_in" "lies_in" (defArgs s_lies_in) (defBody s_lies_in) (defScope s_lies_in) .none kV8 dc8 pm8 an8 cd8 ct8), sl8⟩)
    (c8 : PySem.W.codeIn K cd8 "lies_in" = true)
    (k8 : PySem.W.keepIn K (.ref f8) = true)
    (a9 : PySem.W.findIn K (.ref fC) "__init__" = some (some (.ref f9)))
    (i9 : PySem.W.isFn K (.ref f9) = true)
    (l9 : K.lookup f9 = some ⟨oc9, od9, .func (PySem.W.fnOf "__init__" "Forms.__init__" (defArgs s_f_init) (defBody s_f_init) (defScope s_f_init) .none kV9 dc9 pm9 an9 cd9 ct9), sl9⟩)
    (c9 : PySem.W.codeIn K cd9 "Forms.__init__" = true)
    (k9 : PySem.W.keepIn K (.ref f9) = true)
    (a10 : PySem.W.findIn K (.ref fC) "of" = some (some (.ref f10)))
    (i10 : PySem.W.isFn K (.ref f10) = true)
    (l10 : K.lookup f10 = some ⟨oc10, od10, .func (PySem.W.fnOf "of" "Forms.of" (defArgs s_f_of) (defBody s_f_of) (defScope s_f_of) .none kV10 dc10 pm10 an10 cd10 ct10), sl10⟩)
    (c10 : PySem.W.codeIn K cd10 "Forms.of" = true)
    (k10 : PySem.W.keepIn K (.ref f10) = true)
    (a11 : PySem.W.findIn K (.ref fC) "_gather" = some (some (.ref f11)))
    (i11 : PySem.W.isFn K (.ref f11) = true)
    (l11 : K.lookup f11 = some ⟨oc11, od11, .func (PySem.W.fnOf "_gather" "Forms._gather" (defArgs s_f_gather) (defBody s_f_gather) (defScope s_f_gather) .none kV11 dc11 pm11 an11 cd11 ct11), sl11⟩)
    (c11 : PySem.W.codeIn K cd11 "Forms._gather" = true)
    (k11 : PySem.W.keepIn K (.ref f11) = true)
    (a12 : PySem.W.findIn K (.ref fC) "make" = some (some (.ref f12)))
    (i12 : PySem.W.isFn K (.ref f12) = true)
    (l12 : K.lookup f12 = some ⟨oc12, od12, .func (PySem.W.fnOf "make" "Forms.make" (defArgs s_f_make) (defBody s_f_make) (defScope s_f_make) .none kV12 dc12 pm12 an12 (.ref cM) ct12), sl12⟩)
    (c12 : PySem.W.codeIn K (.ref cM) "Forms.make" = true)
    (k12 : PySem.W.keepIn K (.ref f12) = true)
    (a13 : PySem.W.findIn K (.ref fC) "_mask" = some (some (.ref f13)))
    (i13 : PySem.W.isFn K (.ref f13) = true)
    (l13 : K.lookup f13 = some ⟨oc13, od13, .func (PySem.W.fnOf "_mask" "Forms._mask" (defArgs s_f_mask) (defBody s_f_mask) (defScope s_f_mask) .none kV13 dc13 pm13 an13 cd13 ct13), sl13⟩)
    (c13 : PySem.W.codeIn K cd13 "Forms._mask" = true)
    (k13 : PySem.W.keepIn K (.ref f13) = true)
    (a14 : PySem.W.findIn K (.ref fC) "_text_of_some" = some (some (.ref f14)))
    (i14 : PySem.W.isFn K (.ref f14) = true)
    (l14 : K.lookup f14 = some ⟨oc14, od14, .func (PySem.W.fnOf "_text_of_some" "Forms._text_of_some" (defArgs s_f_text_of_some) (defBody s_f_text_of_some) (defScope s_f_text_of_some) .none kV14 dc14 pm14 an14 cd14 ct14), sl14⟩)
    (c14 : PySem.W.codeIn K cd14 "Forms._text_of_some" = true)
    (k14 : PySem.W.keepIn K (.ref f14) = true)
    (a15 : PySem.W.findIn K (.ref fC) "_needed_parts" = some (some (.ref f15)))
    (i15 : PySem.W.isFn K (.ref f15) = true)
    (l15 : K.lookup f15 = some ⟨oc15, od15, .func (PySem.W.fnOf "_needed_parts" "Forms._needed_parts" (defArgs s_f_needed_parts) (defBody s_f_needed_parts) (defScope s_f_needed_parts) .none kV15 dc15 pm15 an15 cd15 ct15), sl15⟩)
    (c15 : PySem.W.codeIn K cd15 "Forms._needed_parts" = true)
    (k15 : PySem.W.keepIn K (.ref f15) = true)
    (a16 : PySem.W.findIn K (.ref fC) "_has_lower" = some (some (.ref f16)))
    (i16 : PySem.W.isFn K (.ref f16) = true)
    (l16 : K.lookup f16 = some ⟨oc16, od16, .func (PySem.W.fnOf "_has_lower" "Forms._has_lower" (defArgs s_f_has_lower) (defBody s_f_has_lower) (defScope s_f_has_lower) .none kV16 dc16 pm16 an16 cd16 ct16), sl16⟩)
    (c16 : PySem.W.codeIn K cd16 "Forms._has_lower" = true)
    (k16 : PySem.W.keepIn K (.ref f16) = true)
    (a17 : PySem.W.findIn K (.ref fC) "is_within" = some (some (.ref f17)))
    (i17 : PySem.W.isFn K (.ref f17) = true)
    (l17 : K.lookup f17 = some ⟨oc17, od17, .func (PySem.W.fnOf "is_within" "Forms.is_within" (defArgs s_f_is_within) (defBody s_f_is_within) (defScope s_f_is_within) .none kV17 dc17 pm17 an17 cd17 ct17), sl17⟩)
    (c17 : PySem.W.codeIn K cd17 "Forms.is_within" = true)
    (k17 : PySem.W.keepIn K (.ref f17) = true)
    (a18 : PySem.W.findIn K (.ref fC) "_maps" = some (some (.ref f18)))
    (i18 : PySem.W.isFn K (.ref f18) = true)
    (l18 : K.lookup f18 = some ⟨oc18, od18, .func (PySem.W.fnOf "_maps" "Forms._maps" (defArgs s_f_maps) (defBody s_f_maps) (defScope s_f_maps) .none kV18 dc18 pm18 an18 cd18 ct18), sl18⟩)
    (c18 : PySem.W.codeIn K cd18 "Forms._maps" = true)
    (k18 : PySem.W.keepIn K (.ref f18) = true)
    (a19 : PySem.W.findIn K (.ref fC) "common" = some (some (.ref f19)))
    (i19 : PySem.W.isFn K (.ref f19) = true)
    (l19 : K.lookup f19 = some ⟨oc19, od19, .func (PySem.W.fnOf "common" "Forms.common" (defArgs s_f_common) (defBody s_f_common) (defScope s_f_common) .none kV19 dc19 pm19 an19 cd19 ct19), sl19⟩)
    (c19 : PySem.W.codeIn K cd19 "Forms.common" = true)
    (k19 : PySem.W.keepIn K (.ref f19) = true)
    (a20 : PySem.W.findIn K (.ref fC) "_lacks" = some (some (.ref f20)))
    (i20 : PySem.W.isFn K (.ref f20) = true)
    (l20 : K.lookup f20 = some ⟨oc20, od20, .func (PySem.W.fnOf "_lacks" "Forms._lacks" (defArgs s_f_lacks) (defBody s_f_lacks) (defScope s_f_lacks) .none kV20 dc20 pm20 an20 cd20 ct20), sl20⟩)
    (c20 : PySem.W.codeIn K cd20 "Forms._lacks" = true)
    (k20 : PySem.W.keepIn K (.ref f20) = true)
    (a21 : PySem.W.findIn K (.ref fC) "choices" = some (some (.ref f21)))
    (i21 : PySem.W.isFn K (.ref f21) = true)
    (l21 : K.lookup f21 = some ⟨oc21, od21, .func (PySem.W.fnOf "choices" "Forms.choices" (defArgs s_f_choices) (defBody s_f_choices) (defScope s_f_choices) .none kV21 dc21 pm21 an21 cd21 ct21), sl21⟩)
    (c21 : PySem.W.codeIn K cd21 "Forms.choices" = true)
    (k21 : PySem.W.keepIn K (.ref f21) = true)
    (a22 : PySem.W.findIn K (.ref fC) "many_choices" = some (some (.ref f22)))
    (i22 : PySem.W.isFn K (.ref f22) = true)
    (l22 : K.lookup f22 = some ⟨oc22, od22, .func (PySem.W.fnOf "many_choices" "Forms.many_choices" (defArgs s_f_many_choices) (defBody s_f_many_choices) (defScope s_f_many_choices) .none kV22 dc22 pm22 an22 cd22 ct22), sl22⟩)
    (c22 : PySem.W.codeIn K cd22 "Forms.many_choices" = true)
    (k22 : PySem.W.keepIn K (.ref f22) = true)
    (a23 : PySem.W.findIn K (.ref fC) "_roles_of" = some (some (.ref f23)))
    (i23 : PySem.W.isFn K (.ref f23) = true)
    (l23 : K.lookup f23 = some ⟨oc23, od23, .func (PySem.W.fnOf "_roles_of" "Forms._roles_of" (defArgs s_f_roles_of) (defBody s_f_roles_of) (defScope s_f_roles_of) .none kV23 dc23 pm23 an23 cd23 ct23), sl23⟩)
    (c23 : PySem.W.codeIn K cd23 "Forms._roles_of" = true)
    (k23 : PySem.W.keepIn K (.ref f23) = true)
    (a24 : PySem.W.findIn K (.ref fC) "_ends_by" = some (some (.ref f24)))
    (i24 : PySem.W.isFn K (.ref f24) = true)
    (l24 : K.lookup f24 = some ⟨oc24, od24, .func (PySem.W.fnOf "_ends_by" "Forms._ends_by" (defArgs s_f_ends_by) (defBody s_f_ends_by) (defScope s_f_ends_by) .none kV24 dc24 pm24 an24 cd24 ct24), sl24⟩)
    (c24 : PySem.W.codeIn K cd24 "Forms._ends_by" = true)
    (k24 : PySem.W.keepIn K (.ref f24) = true)
    (a25 : PySem.W.nsIn K mainGlobals "reduced" = some (some (.ref f25)))
    (l25 : K.lookup f25 = some ⟨oc25, od25, .func (PySem.W.fnOf "reduced" "reduced" (defArgs s_reduced) (defBody s_reduced) (defScope s_reduced) .none kV25 dc25 pm25 an25 cd25 ct25), sl25⟩)
    (c25 : PySem.W.codeIn K cd25 "reduced" = true)
    (k25 : PySem.W.keepIn K (.ref f25) = true)
    (a26 : PySem.W.nsIn K mainGlobals "_need_small" = some (some (.ref f26)))
    (l26 : K.lookup f26 = some ⟨oc26, od26, .func (PySem.W.fnOf "_need_small" "_need_small" (defArgs s_need_small) (defBody s_need_small) (defScope s_need_small) .none kV26 dc26 pm26 an26 cd26 ct26), sl26⟩)
    (c26 : PySem.W.codeIn K cd26 "_need_small" = true)
    (k26 : PySem.W.keepIn K (.ref f26) = true)
    (a27 : PySem.W.nsIn K mainGlobals "plain_common" = some (some (.ref f27)))
    (l27 : K.lookup f27 = some ⟨oc27, od27, .func (PySem.W.fnOf "plain_common" "plain_common" (defArgs s_plain_common) (defBody s_plain_common) (defScope s_plain_common) .none kV27 dc27 pm27 an27 cd27 ct27), sl27⟩)
    (c27 : PySem.W.codeIn K cd27 "plain_common" = true)
    (k27 : PySem.W.keepIn K (.ref f27) = true)
    (a28 : PySem.W.nsIn K mainGlobals "_law_cell_at" = some (some (.ref f28)))
    (l28 : K.lookup f28 = some ⟨oc28, od28, .func (PySem.W.fnOf "_law_cell_at" "_law_cell_at" (defArgs s_law_cell_at) (defBody s_law_cell_at) (defScope s_law_cell_at) .none kV28 dc28 pm28 an28 cd28 ct28), sl28⟩)
    (c28 : PySem.W.codeIn K cd28 "_law_cell_at" = true)
    (k28 : PySem.W.keepIn K (.ref f28) = true)
    (a29 : PySem.W.nsIn K mainGlobals "_law_draw" = some (some (.ref f29)))
    (l29 : K.lookup f29 = some ⟨oc29, od29, .func (PySem.W.fnOf "_law_draw" "_law_draw" (defArgs s_law_draw) (defBody s_law_draw) (defScope s_law_draw) .none kV29 dc29 pm29 an29 cd29 ct29), sl29⟩)
    (c29 : PySem.W.codeIn K cd29 "_law_draw" = true)
    (k29 : PySem.W.keepIn K (.ref f29) = true)
    (a30 : PySem.W.nsIn K mainGlobals "_law_number" = some (some (.ref f30)))
    (l30 : K.lookup f30 = some ⟨oc30, od30, .func (PySem.W.fnOf "_law_number" "_law_number" (defArgs s_law_number) (defBody s_law_number) (defScope s_law_number) .none kV30 dc30 pm30 an30 cd30 ct30), sl30⟩)
    (c30 : PySem.W.codeIn K cd30 "_law_number" = true)
    (k30 : PySem.W.keepIn K (.ref f30) = true)
    (a31 : PySem.W.nsIn K mainGlobals "_law_next" = some (some (.ref f31)))
    (l31 : K.lookup f31 = some ⟨oc31, od31, .func (PySem.W.fnOf "_law_next" "_law_next" (defArgs s_law_next) (defBody s_law_next) (defScope s_law_next) .none kV31 dc31 pm31 an31 cd31 ct31), sl31⟩)
    (c31 : PySem.W.codeIn K cd31 "_law_next" = true)
    (k31 : PySem.W.keepIn K (.ref f31) = true)
    (a32 : PySem.W.nsIn K mainGlobals "_law_pick" = some (some (.ref f32)))
    (l32 : K.lookup f32 = some ⟨oc32, od32, .func (PySem.W.fnOf "_law_pick" "_law_pick" (defArgs s_law_pick) (defBody s_law_pick) (defScope s_law_pick) .none kV32 dc32 pm32 an32 cd32 ct32), sl32⟩)
    (c32 : PySem.W.codeIn K cd32 "_law_pick" = true)
    (k32 : PySem.W.keepIn K (.ref f32) = true)
    (a33 : PySem.W.nsIn K mainGlobals "_law_words" = some (some (.ref f33)))
    (l33 : K.lookup f33 = some ⟨oc33, od33, .func (PySem.W.fnOf "_law_words" "_law_words" (defArgs s_law_words) (defBody s_law_words) (defScope s_law_words) .none kV33 dc33 pm33 an33 cd33 ct33), sl33⟩)
    (c33 : PySem.W.codeIn K cd33 "_law_words" = true)
    (k33 : PySem.W.keepIn K (.ref f33) = true)
    (a34 : PySem.W.nsIn K mainGlobals "_law_alphabet" = some (some (.ref f34)))
    (l34 : K.lookup f34 = some ⟨oc34, od34, .func (PySem.W.fnOf "_law_alphabet" "_law_alphabet" (defArgs s_law_alphabet) (defBody s_law_alphabet) (defScope s_law_alphabet) .none kV34 dc34 pm34 an34 cd34 ct34), sl34⟩)
    (c34 : PySem.W.codeIn K cd34 "_law_alphabet" = true)
    (k34 : PySem.W.keepIn K (.ref f34) = true)
    (a35 : PySem.W.nsIn K mainGlobals "_law_concept" = some (some (.ref f35)))
    (l35 : K.lookup f35 = some ⟨oc35, od35, .func (PySem.W.fnOf "_law_concept" "_law_concept" (defArgs s_law_concept) (defBody s_law_concept) (defScope s_law_concept) .none kV35 dc35 pm35 an35 cd35 ct35), sl35⟩)
    (c35 : PySem.W.codeIn K cd35 "_law_concept" = true)
    (k35 : PySem.W.keepIn K (.ref f35) = true)
    (a36 : PySem.W.nsIn K mainGlobals "_law_larger" = some (some (.ref f36)))
    (l36 : K.lookup f36 = some ⟨oc36, od36, .func (PySem.W.fnOf "_law_larger" "_law_larger" (defArgs s_law_larger) (defBody s_law_larger) (defScope s_law_larger) .none kV36 dc36 pm36 an36 cd36 ct36), sl36⟩)
    (c36 : PySem.W.codeIn K cd36 "_law_larger" = true)
    (k36 : PySem.W.keepIn K (.ref f36) = true)
    (a37 : PySem.W.nsIn K mainGlobals "law" = some (some (.ref f37)))
    (l37 : K.lookup f37 = some ⟨oc37, od37, .func (PySem.W.fnOf "law" "law" (defArgs s_law) (defBody s_law) (defScope s_law) .none kV37 dc37 pm37 an37 cd37 ct37), sl37⟩)
    (c37 : PySem.W.codeIn K cd37 "law" = true)
    (k37 : PySem.W.keepIn K (.ref f37) = true)
    (aN : PySem.W.nsIn K mainGlobals "NO_WORDS" = some (some (.ref nw)))
    (lN : K.lookup nw = some ⟨.type "tuple", ddN, .seq #[.str "all" tk1, .str "none" tk2, .str "some" tk3] nN, slN⟩)
    (aL : PySem.W.nsIn K mainGlobals "LONGEST" = some (some (.int 12 tkL)))
    (aD : PySem.W.nsIn K mainGlobals "DEEPEST" = some (some (.int 100 tkD)))
    (aM : PySem.W.nsIn K mainGlobals "MOST_NODES" = some (some (.int 2000 tkM)))
    (z_isinstance : PySem.W.nsIn K mainGlobals "isinstance" = some none)
    (z_str : PySem.W.nsIn K mainGlobals "str" = some none)
    (z_len : PySem.W.nsIn K mainGlobals "len" = some none)
    (z_tuple : PySem.W.nsIn K mainGlobals "tuple" = some none)
    (z_list : PySem.W.nsIn K mainGlobals "list" = some none)
    (z_int : PySem.W.nsIn K mainGlobals "int" = some none)
    (z_sorted : PySem.W.nsIn K mainGlobals "sorted" = some none)
    (z_range : PySem.W.nsIn K mainGlobals "range" = some none)
    (z_set : PySem.W.nsIn K mainGlobals "set" = some none)
    (z_min : PySem.W.nsIn K mainGlobals "min" = some none) : ∃ D : Defs K mg, MkC D cM := by
  have F0 := fun_mk (st := s_is_word) l0 c0 k0
  have b0 := F0.binds (ps := ["thing"]) fun _ _ _ _ _ _ us hl => match us, hl with | [_], _ => rfl
  have F1 := fun_mk (st := s_is_concept) l1 c1 k1
  have b1 := F1.binds (ps := ["thing"]) fun _ _ _ _ _ _ us hl => match us, hl with | [_], _ => rfl
  have F2 := fun_mk (st := s_is_nested) l2 c2 k2
  have b2 := F2.binds (ps := ["thing", "levels"]) fun _ _ _ _ _ _ us hl => match us, hl with | [_, _], _ => rfl
  have F3 := fun_mk (st := s_need_concept) l3 c3 k3
  have b3 := F3.binds (ps := ["thing"]) fun _ _ _ _ _ _ us hl => match us, hl with | [_], _ => rfl
  have F4 := fun_mk (st := s_need_concepts) l4 c4 k4
  have b4 := F4.binds (ps := ["things"]) fun _ _ _ _ _ _ us hl => match us, hl with | [_], _ => rfl
  have F5 := fun_mk (st := s_inner) l5 c5 k5
  have b5 := F5.binds (ps := ["concept"]) fun _ _ _ _ _ _ us hl => match us, hl with | [_], _ => rfl
  have F6 := fun_mk (st := s_is_without_none) l6 c6 k6
  have b6 := F6.binds (ps := ["concept"]) fun _ _ _ _ _ _ us hl => match us, hl with | [_], _ => rfl
  have F7 := fun_mk (st := s_conjoin) l7 c7 k7
  have b7 := F7.binds (ps := ["concepts"]) fun _ _ _ _ _ _ us hl => match us, hl with | [_], _ => rfl
  have F8 := fun_mk (st := s_lies_in) l8 c8 k8
  have b8 := F8.binds (ps := ["part", "whole"]) fun _ _ _ _ _ _ us hl => match us, hl with | [_, _], _ => rfl
  have F9 := fun_mk (st := s_f_init) l9 c9 k9
  have b9 := F9.binds (ps := ["self"]) fun _ _ _ _ _ _ us hl => match us, hl with | [_], _ => rfl
  have F10 := fun_mk (st := s_f_of) l10 c10 k10
  have b10 := F10.binds (ps := ["self", "concept"]) fun _ _ _ _ _ _ us hl => match us, hl with | [_, _], _ => rfl
  have F11 := fun_mk (st := s_f_gather) l11 c11 k11
  have b11 := F11.binds (ps := ["self", "concept", "names", "children"]) fun _ _ _ _ _ _ us hl => match us, hl with | [_, _, _, _], _ => rfl
  have F12 := fun_mk (st := s_f_make) l12 c12 k12
  have b12 := F12.binds (ps := ["self", "names", "children"]) fun _ _ _ _ _ _ us hl => match us, hl with | [_, _, _], _ => rfl
  have F13 := fun_mk (st := s_f_mask) l13 c13 k13
  have b13 := F13.binds (ps := ["self", "names"]) fun _ _ _ _ _ _ us hl => match us, hl with | [_, _], _ => rfl
  have F14 := fun_mk (st := s_f_text_of_some) l14 c14 k14
  have b14 := F14.binds (ps := ["self", "role", "form"]) fun _ _ _ _ _ _ us hl => match us, hl with | [_, _, _], _ => rfl
  have F15 := fun_mk (st := s_f_needed_parts) l15 c15 k15
  have b15 := F15.binds (ps := ["self", "children"]) fun _ _ _ _ _ _ us hl => match us, hl with | [_, _], _ => rfl
  have F16 := fun_mk (st := s_f_has_lower) l16 c16 k16
  have b16 := F16.binds (ps := ["self", "form", "others"]) fun _ _ _ _ _ _ us hl => match us, hl with | [_, _, _], _ => rfl
  have F17 := fun_mk (st := s_f_is_within) l17 c17 k17
  have b17 := F17.binds (ps := ["self", "form", "other"]) fun _ _ _ _ _ _ us hl => match us, hl with | [_, _, _], _ => rfl
  have F18 := fun_mk (st := s_f_maps) l18 c18 k18
  have b18 := F18.binds (ps := ["self", "form", "other"]) fun _ _ _ _ _ _ us hl => match us, hl with | [_, _, _], _ => rfl
  have F19 := fun_mk (st := s_f_common) l19 c19 k19
  have b19 := F19.binds (ps := ["self", "forms"]) fun _ _ _ _ _ _ us hl => match us, hl with | [_, _], _ => rfl
  have F20 := fun_mk (st := s_f_lacks) l20 c20 k20
  have b20 := F20.binds (ps := ["self", "forms", "name"]) fun _ _ _ _ _ _ us hl => match us, hl with | [_, _, _], _ => rfl
  have F21 := fun_mk (st := s_f_choices) l21 c21 k21
  have b21 := F21.binds (ps := ["self", "forms"]) fun _ _ _ _ _ _ us hl => match us, hl with | [_, _], _ => rfl
  have F22 := fun_mk (st := s_f_many_choices) l22 c22 k22
  have b22 := F22.binds (ps := ["self", "forms"]) fun _ _ _ _ _ _ us hl => match us, hl with | [_, _], _ => rfl
  have F23 := fun_mk (st := s_f_roles_of) l23 c23 k23
  have b23 := F23.binds (ps := ["self", "form"]) fun _ _ _ _ _ _ us hl => match us, hl with | [_, _], _ => rfl
  have F24 := fun_mk (st := s_f_ends_by) l24 c24 k24
  have b24 := F24.binds (ps := ["self", "forms", "role"]) fun _ _ _ _ _ _ us hl => match us, hl with | [_, _, _], _ => rfl
  have F25 := fun_mk (st := s_reduced) l25 c25 k25
  have b25 := F25.binds (ps := ["concept"]) fun _ _ _ _ _ _ us hl => match us, hl with | [_], _ => rfl
  have F26 := fun_mk (st := s_need_small) l26 c26 k26
  have b26 := F26.binds (ps := ["forms", "numbers"]) fun _ _ _ _ _ _ us hl => match us, hl with | [_, _], _ => rfl
  have F27 := fun_mk (st := s_plain_common) l27 c27 k27
  have F28 := fun_mk (st := s_law_cell_at) l28 c28 k28
  have b28 := F28.binds (ps := ["script", "k"]) fun _ _ _ _ _ _ us hl => match us, hl with | [_, _], _ => rfl
  have F29 := fun_mk (st := s_law_draw) l29 c29 k29
  have b29 := F29.binds (ps := ["cell", "k", "bound"]) fun _ _ _ _ _ _ us hl => match us, hl with | [_, _, _], _ => rfl
  have F30 := fun_mk (st := s_law_number) l30 c30 k30
  have b30 := F30.binds (ps := ["cell", "k", "bound"]) fun _ _ _ _ _ _ us hl => match us, hl with | [_, _, _], _ => rfl
  have F31 := fun_mk (st := s_law_next) l31 c31 k31
  have b31 := F31.binds (ps := ["draw", "bound"]) fun _ _ _ _ _ _ us hl => match us, hl with | [_, _], _ => rfl
  have F32 := fun_mk (st := s_law_pick) l32 c32 k32
  have b32 := F32.binds (ps := ["draw", "things"]) fun _ _ _ _ _ _ us hl => match us, hl with | [_, _], _ => rfl
  have F33 := fun_mk (st := s_law_words) l33 c33 k33
  have b33 := F33.binds (ps := ["draw", "many"]) fun _ _ _ _ _ _ us hl => match us, hl with | [_, _], _ => rfl
  have F34 := fun_mk (st := s_law_alphabet) l34 c34 k34
  have b34 := F34.binds (ps := ["draw"]) fun _ _ _ _ _ _ us hl => match us, hl with | [_], _ => rfl
  have F35 := fun_mk (st := s_law_concept) l35 c35 k35
  have b35 := F35.binds (ps := ["draw", "names", "roles", "deep"]) fun _ _ _ _ _ _ us hl => match us, hl with | [_, _, _, _], _ => rfl
  have F36 := fun_mk (st := s_law_larger) l36 c36 k36
  have b36 := F36.binds (ps := ["draw", "concept"]) fun _ _ _ _ _ _ us hl => match us, hl with | [_, _], _ => rfl
  have F37 := fun_mk (st := s_law) l37 c37 k37
  have b37 := F37.binds (ps := ["script"]) fun _ _ _ _ _ _ us hl => match us, hl with | [_], _ => rfl
  refine ⟨{
    fC := fC
    d_is_word := ⟨f0, _, F0, PySem.W.mg_of X G a0, b0⟩
    d_is_concept := ⟨f1, _, F1, PySem.W.mg_of X G a1, b1⟩
    d_is_nested := ⟨f2, _, F2, PySem.W.mg_of X G a2, b2⟩
    d_need_concept := ⟨f3, _, F3, PySem.W.mg_of X G a3, b3⟩
    d_need_concepts := ⟨f4, _, F4, PySem.W.mg_of X G a4, b4⟩
    d_inner := ⟨f5, _, F5, PySem.W.mg_of X G a5, b5⟩
    d_is_without_none := ⟨f6, _, F6, PySem.W.mg_of X G a6, b6⟩
    d_conjoin := ⟨f7, _, F7, PySem.W.mg_of X G a7, b7⟩
    d_lies_in := ⟨f8, _, F8, PySem.W.mg_of X G a8, b8⟩
    d_f_init := ⟨f9, _, F9, ⟨a9, i9, k9⟩, b9⟩
    d_f_of := ⟨f10, _, F10, ⟨a10, i10, k10⟩, b10⟩
    d_f_gather := ⟨f11, _, F11, ⟨a11, i11, k11⟩, b11⟩
    d_f_make := ⟨f12, _, F12, ⟨a12, i12, k12⟩, b12⟩
    d_f_mask := ⟨f13, _, F13, ⟨a13, i13, k13⟩, b13⟩
    d_f_text_of_some := ⟨f14, _, F14, ⟨a14, i14, k14⟩, b14⟩
    d_f_needed_parts := ⟨f15, _, F15, ⟨a15, i15, k15⟩, b15⟩
    d_f_has_lower := ⟨f16, _, F16, ⟨a16, i16, k16⟩, b16⟩
    d_f_is_within := ⟨f17, _, F17, ⟨a17, i17, k17⟩, b17⟩
    d_f_maps := ⟨f18, _, F18, ⟨a18, i18, k18⟩, b18⟩
    d_f_common := ⟨f19, _, F19, ⟨a19, i19, k19⟩, b19⟩
    d_f_lacks := ⟨f20, _, F20, ⟨a20, i20, k20⟩, b20⟩
    d_f_choices := ⟨f21, _, F21, ⟨a21, i21, k21⟩, b21⟩
    d_f_many_choices := ⟨f22, _, F22, ⟨a22, i22, k22⟩, b22⟩
    d_f_roles_of := ⟨f23, _, F23, ⟨a23, i23, k23⟩, b23⟩
    d_f_ends_by := ⟨f24, _, F24, ⟨a24, i24, k24⟩, b24⟩
    d_reduced := ⟨f25, _, F25, PySem.W.mg_of X G a25, b25⟩
    d_need_small := ⟨f26, _, F26, PySem.W.mg_of X G a26, b26⟩
    d_law_cell_at := ⟨f28, _, F28, PySem.W.mg_of X G a28, b28⟩
    d_law_draw := ⟨f29, _, F29, PySem.W.mg_of X G a29, b29⟩
    d_law_number := ⟨f30, _, F30, PySem.W.mg_of X G a30, b30⟩
    d_law_next := ⟨f31, _, F31, PySem.W.mg_of X G a31, b31⟩
    d_law_pick := ⟨f32, _, F32, PySem.W.mg_of X G a32, b32⟩
    d_law_words := ⟨f33, _, F33, PySem.W.mg_of X G a33, b33⟩
    d_law_alphabet := ⟨f34, _, F34, PySem.W.mg_of X G a34, b34⟩
    d_law_concept := ⟨f35, _, F35, PySem.W.mg_of X G a35, b35⟩
    d_law_larger := ⟨f36, _, F36, PySem.W.mg_of X G a36, b36⟩
    d_law := ⟨f37, _, F37, PySem.W.mg_of X G a37, b37⟩
    fC_m := PySem.W.mg_of X G m_fC, fC_cl := ⟨pg_fC, hd_fC, po_fC, sa_fC⟩, fC_mk := mk_fC, fC_kp := kp_fC
    fC_nconcepts := n_fCconcepts, fC_ntexts := n_fCtexts, fC_nrows := n_fCrows, fC_nchildren := n_fCchildren, fC_n_numbers := n_fC_numbers, fC_n_within := n_fC_within, fC_n_upper := n_fC_upper, fC_n_masks := n_fC_masks, fC_n_bits := n_fC_bits, fC_ntop := n_fCtop
    law_b := fun _ _ => .of_eq rfl
    nw := nw, nw_m := PySem.W.mg_of X G aN
    nw_l := .inr ⟨_, _, _, lN, rfl, rfl, (by show 3 ≤ sizeLine; decide), .cons ⟨_, rfl⟩ (.cons ⟨_, rfl⟩ (.cons ⟨_, rfl⟩ .nil))⟩
    lo_m := ⟨_, PySem.W.mg_of X G aL⟩, de_m := ⟨_, PySem.W.mg_of X G aD⟩, mo_m := ⟨_, PySem.W.mg_of X G aM⟩
    pc := f27, pc_m := PySem.W.mg_of X G a27, pc_k := k27, pc_l := ⟨_, _, _, _, _, _, _, _, _, l27, c27⟩
    z_isinstance := PySem.W.mg_none_of X G z_isinstance
    z_str := PySem.W.mg_none_of X G z_str
    z_len := PySem.W.mg_none_of X G z_len
    z_tuple := PySem.W.mg_none_of X G z_tuple
    z_list := PySem.W.mg_none_of X G z_list
    z_int := PySem.W.mg_none_of X G z_int
    z_sorted := PySem.W.mg_none_of X G z_sorted
    z_range := PySem.W.mg_none_of X G z_range
    z_set := PySem.W.mg_none_of X G z_set
    z_min := PySem.W.mg_none_of X G z_min
  }, ?_⟩
  exact ⟨_, _, _, _, _, _, _, _, rfl, l12, c12⟩
end K1
namespace K1
open PySem L2
theorem walk {l : PySem.W.OpenLaw} {q : Program} {loose : List Str} {XP : (Str → Option Value) → Heap → Prop} {YP : World → Heap → Prop} {d : DefRec} {K : Params → PySem.W.Frag} (hn : l.most = some 63) (hdf : d.params.defaults = []) (hnm : d.name = "law")
    (hY : ∀ (w : World) (h : Heap), YP w h → (K w.params).In h)
    (F : ∀ (w : World) (mg : Str → Option Value) (h : Heap), YP w h → (K w.params).In h → h.Ns mainGlobals mg → ∃ (cM Pt : Addr), (∃ D : Defs (K w.params) mg, MkC D cM) ∧ h.get? Pt = some { cls := .none, data := .fields #[] } ∧ (K w.params).lookup Pt = none ∧ PySem.W.CodeHd h cM Pt) :
    PySem.W.WalkO q loose XP YP l.row.toRowW d [] (fun f vs => PySem.call f vs) :=
  LamX.walk_ofTs (n := 63) (k := lawK) (x := "script") (CX := fun _ => CX0) hn (by decide) hdf ⟨rfl, by decide, by decide⟩ hY
    (fun w mg fa h Y KX G hfa => by
      obtain ⟨cM, Pt, ⟨D, M⟩, t1, t2, t3⟩ := F w mg h Y KX G
      rw [hnm] at hfa
      have e := hfa.symm.trans D.d_law.m
      cases e
      have one : ∀ {p : Addr × Addr}, p ∈ [(cM, Pt)] → p = (cM, Pt) := fun h => List.mem_singleton.mp h
      refine ⟨D.d_law.fd, [(cM, Pt)], spLaw (K w.params) Pt, fun p hp => by rw [one hp]; exact t1, fun p hp => by rw [one hp]; exact t2, fun p hp => by rw [one hp]; exact t3, D.law_b, fun H a ns hl _ hH hS => ⟨a, ns, rfl, hS, hl, fun p hp => ?_, fun _ => rfl⟩, fun base _ _ hT => ok_law D M (hT (cM, Pt) (by simp))⟩
      rw [List.mem_singleton.mp hp]
      exact LamX.TabS.nil (hH (cM, Pt) (by simp)))
    fun _ _ _ _ _ z => z
end K1
open PySem PySem.W PyProof.Rows
set_option maxRecDepth 100000 in
set_option maxHeartbeats 0 in
theorem PySem.Challenge.cw_conceptworlds_k83_whole_lattice_holds : PySem.Challenge.rw_conceptworlds_k83_whole_lattice.Holds := by
  w_on; o_law; k_head; (case hw => w_witness2)
  k_fill
  refine K1.walk (l := PySem.Challenge.rw_conceptworlds_k83_whole_lattice) rfl rfl rfl (fun w h Y => PySem.W.km_in_of Y) ?F
  case F =>
    intro w mg h Y KX G
    refine' ⟨_, 152, K1.defs_mk KX G ?m_fC ?pg_fC ?hd_fC ?po_fC ?sa_fC ?mk_fC ?kp_fC ?n_fCconcepts ?n_fCtexts ?n_fCrows ?n_fCchildren ?n_fC_numbers ?n_fC_within ?n_fC_upper ?n_fC_masks ?n_fC_bits ?n_fCtop ?a0 ?l0 ?c0 ?k0 ?a1 ?l1 ?c1 ?k1 ?a2 ?l2 ?c2 ?k2 ?a3 ?l3 ?c3 ?k3 ?a4 ?l4 ?c4 ?k4 ?a5 ?l5 ?c5 ?k5 ?a6 ?l6 ?c6 ?k6 ?a7 ?l7 ?c7 ?k7 ?a8 ?l8 ?c8 ?k8 ?a9 ?i9 ?l9 ?c9 ?k9 ?a10 ?i10 ?l10 ?c10 ?k10 ?a11 ?i11 ?l11 ?c11 ?k11 ?a12 ?i12 ?l12 ?c12 ?k12 ?a13 ?i13 ?l13 ?c13 ?k13 ?a14 ?i14 ?l14 ?c14 ?k14 ?a15 ?i15 ?l15 ?c15 ?k15 ?a16 ?i16 ?l16 ?c16 ?k16 ?a17 ?i17 ?l17 ?c17 ?k17 ?a18 ?i18 ?l18 ?c18 ?k18 ?a19 ?i19 ?l19 ?c19 ?k19 ?a20 ?i20 ?l20 ?c20 ?k20 ?a21 ?i21 ?l21 ?c21 ?k21 ?a22 ?i22 ?l22 ?c22 ?k22 ?a23 ?i23 ?l23 ?c23 ?k23 ?a24 ?i24 ?l24 ?c24 ?k24 ?a25 ?l25 ?c25 ?k25 ?a26 ?l26 ?c26 ?k26 ?a27 ?l27 ?c27 ?k27 ?a28 ?l28 ?c28 ?k28 ?a29 ?l29 ?c29 ?k29 ?a30 ?l30 ?c30 ?k30 ?a31 ?l31 ?c31 ?k31 ?a32 ?l32 ?c32 ?k32 ?a33 ?l33 ?c33 ?k33 ?a34 ?l34 ?c34 ?k34 ?a35 ?l35 ?c35 ?k35 ?a36 ?l36 ?c36 ?k36 ?a37 ?l37 ?c37 ?k37 ?aN ?lN ?aL ?aD ?aM ?z_isinstance ?z_str ?z_len ?z_tuple ?z_list ?z_int ?z_sorted ?z_range ?z_set ?z_min, PySem.W.km_tabs_of Y 152 ?tbm, ?tbn, PySem.W.codeHd_of_K KX ?tbc⟩
    (case m_fC => k_is)
    (case pg_fC => k_is)
    (case hd_fC => k_is)
    (case po_fC => k_is)
    (case sa_fC => k_is)
    (case mk_fC => k_is)
    (case kp_fC => k_is)
    (case n_fCconcepts => k_is)
    (case n_fCtexts => k_is)
    (case n_fCrows => k_is)
    (case n_fCchildren => k_is)
    (case n_fC_numbers => k_is)
    (case n_fC_within => k_is)
    (case n_fC_upper => k_is)
    (case n_fC_masks => k_is)
    (case n_fC_bits => k_is)
    (case n_fCtop => k_is)
    (case a0 => k_is)
    (case l0 => k_is)
    (case c0 => k_is)
    (case k0 => k_is)
    (case a1 => k_is)
    (case l1 => k_is)
    (case c1 => k_is)
    (case k1 => k_is)
    (case a2 => k_is)
    (case l2 => k_is)
    (case c2 => k_is)
    (case k2 => k_is)
    (case a3 => k_is)
    (case l3 => k_is)
    (case c3 => k_is)
    (case k3 => k_is)
    (case a4 => k_is)
    (case l4 => k_is)
    (case c4 => k_is)
    (case k4 => k_is)
    (case a5 => k_is)
    (case l5 => k_is)
    (case c5 => k_is)
    (case k5 => k_is)
    (case a6 => k_is)
    (case l6 => k_is)
    (case c6 => k_is)
    (case k6 => k_is)
    (case a7 => k_is)
    (case l7 => k_is)
    (case c7 => k_is)
    (case k7 => k_is)
    (case a8 => k_is)
    (case l8 => k_is)
    (case c8 => k_is)
    (case k8 => k_is)
    (case a9 => k_is)
    (case i9 => k_is)
    (case l9 => k_is)
    (case c9 => k_is)
    (case k9 => k_is)
    (case a10 => k_is)
    (case i10 => k_is)
    (case l10 => k_is)
    (case c10 => k_is)
    (case k10 => k_is)
    (case a11 => k_is)
    (case i11 => k_is)
    (case l11 => k_is)
    (case c11 => k_is)
    (case k11 => k_is)
    (case a12 => k_is)
    (case i12 => k_is)
    (case l12 => k_is)
    (case c12 => k_is)
    (case k12 => k_is)
    (case a13 => k_is)
    (case i13 => k_is)
    (case l13 => k_is)
    (case c13 => k_is)
    (case k13 => k_is)
    (case a14 => k_is)
    (case i14 => k_is)
    (case l14 => k_is)
    (case c14 => k_is)
    (case k14 => k_is)
    (case a15 => k_is)
    (case i15 => k_is)
    (case l15 => k_is)
    (case c15 => k_is)
    (case k15 => k_is)
    (case a16 => k_is)
    (case i16 => k_is)
    (case l16 => k_is)
    (case c16 => k_is)
    (case k16 => k_is)
    (case a17 => k_is)
    (case i17 => k_is)
    (case l17 => k_is)
    (case c17 => k_is)
    (case k17 => k_is)
    (case a18 => k_is)
    (case i18 => k_is)
    (case l18 => k_is)
    (case c18 => k_is)
    (case k18 => k_is)
    (case a19 => k_is)
    (case i19 => k_is)
    (case l19 => k_is)
    (case c19 => k_is)
    (case k19 => k_is)
    (case a20 => k_is)
    (case i20 => k_is)
    (case l20 => k_is)
    (case c20 => k_is)
    (case k20 => k_is)
    (case a21 => k_is)
    (case i21 => k_is)
    (case l21 => k_is)
    (case c21 => k_is)
    (case k21 => k_is)
    (case a22 => k_is)
    (case i22 => k_is)
    (case l22 => k_is)
    (case c22 => k_is)
    (case k22 => k_is)
    (case a23 => k_is)
    (case i23 => k_is)
    (case l23 => k_is)
    (case c23 => k_is)
    (case k23 => k_is)
    (case a24 => k_is)
    (case i24 => k_is)
    (case l24 => k_is)
    (case c24 => k_is)
    (case k24 => k_is)
    (case a25 => k_is)
    (case l25 => k_is)
    (case c25 => k_is)
    (case k25 => k_is)
    (case a26 => k_is)
    (case l26 => k_is)
    (case c26 => k_is)
    (case k26 => k_is)
    (case a27 => k_is)
    (case l27 => k_is)
    (case c27 => k_is)
    (case k27 => k_is)
    (case a28 => k_is)
    (case l28 => k_is)
    (case c28 => k_is)
    (case k28 => k_is)
    (case a29 => k_is)
    (case l29 => k_is)
    (case c29 => k_is)
    (case k29 => k_is)
    (case a30 => k_is)
    (case l30 => k_is)
    (case c30 => k_is)
    (case k30 => k_is)
    (case a31 => k_is)
    (case l31 => k_is)
    (case c31 => k_is)
    (case k31 => k_is)
    (case a32 => k_is)
    (case l32 => k_is)
    (case c32 => k_is)
    (case k32 => k_is)
    (case a33 => k_is)
    (case l33 => k_is)
    (case c33 => k_is)
    (case k33 => k_is)
    (case a34 => k_is)
    (case l34 => k_is)
    (case c34 => k_is)
    (case k34 => k_is)
    (case a35 => k_is)
    (case l35 => k_is)
    (case c35 => k_is)
    (case k35 => k_is)
    (case a36 => k_is)
    (case l36 => k_is)
    (case c36 => k_is)
    (case k36 => k_is)
    (case a37 => k_is)
    (case l37 => k_is)
    (case c37 => k_is)
    (case k37 => k_is)
    (case aN => k_is)
    (case lN => k_is)
    (case aL => k_is)
    (case aD => k_is)
    (case aM => k_is)
    (case z_isinstance => k_is)
    (case z_str => k_is)
    (case z_len => k_is)
    (case z_tuple => k_is)
    (case z_list => k_is)
    (case z_int => k_is)
    (case z_sorted => k_is)
    (case z_range => k_is)
    (case z_set => k_is)
    (case z_min => k_is)
    (case tbm => decide)
    (case tbn => kernel_rfl)
    (case tbc => kernel_rfl)
#print axioms PySem.Challenge.cw_conceptworlds_k83_whole_lattice_holds
