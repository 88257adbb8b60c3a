import PyProof.Rows.All
import Wide.All
import OpenK.AllK
import Wide.FinOn
import HandS.ForMost
import HandS.More
import HandS.IsInst
import HandS.FStr
import HandS.Star
import HandS.Wide
import HandS.TupAny
import HandS.Walk
import HandS.OwnEq
import HandS.Property
import HandS.WideBits
import HandS.SetKeys
import HandS.SortRule
import HandS.Deep
import HandS.DictComp
import KE.DataCmp
import KE.SortData
import PyProof.InstNe
import HandS.IterVal
import KE.GoesMore
import KE.GoesComp
import KE.KDictPairs
import KE.GoesEnum
import KE.BitLaws
import KE.KBits
import KE.OsArith
import KE.IntBitsLaws
import PySem.Challenge.RW_conceptworlds_k02_whole_worlds
set_option Elab.async false
set_option maxRecDepth 100000
set_option linter.all false
namespace K1
open PySem L2
def top (i : Nat) : Stmt := PySem.Challenge.pw_conceptworlds_k02_whole_worlds.main.body.getD i (.Pass ⟨0, 0, 0, 0⟩)
/-- a def of the program's top: where it stands, and that its name names it -/
structure Tx (K : PySem.W.Frag) (mg : Str → Option Value) (x : Str) (st : Stmt) (ps : List Str) : Type where
  f : Addr
  fd : FuncData
  F : Fun K x x st f fd
  m : mg x = some (.ref f)
  b : Binds K fd ps []
/-- a method of the class at C -/
structure Tm (K : PySem.W.Frag) (C : Addr) (x qual : Str) (st : Stmt) (ps : List Str) : Type where
  f : Addr
  fd : FuncData
  F : Fun K x qual st f fd
  me : Meth K C x f
  b : Binds K fd ps []
abbrev s_is_word : Stmt := top 8
theorem sc_is_word : FnScope ["thing", "sign"] ["thing"] (defScope s_is_word) := ⟨rfl, rfl, rfl, by decide +kernel, rfl, by decide +kernel, by decide +kernel⟩
abbrev s_is_concept : Stmt := top 9
theorem sc_is_concept : FnScope ["thing"] ["thing"] (defScope s_is_concept) := ⟨rfl, rfl, rfl, by decide +kernel, rfl, by decide +kernel, by decide +kernel⟩
abbrev s_is_nested : Stmt := top 10
theorem sc_is_nested : FnScope ["thing", "levels", "part"] ["thing", "levels"] (defScope s_is_nested) := ⟨rfl, rfl, rfl, by decide +kernel, rfl, by decide +kernel, by decide +kernel⟩
abbrev s_need_concept : Stmt := top 11
theorem sc_need_concept : FnScope ["thing"] ["thing"] (defScope s_need_concept) := ⟨rfl, rfl, rfl, by decide +kernel, rfl, by decide +kernel, by decide +kernel⟩
abbrev s_is_ascending : Stmt := top 12
theorem sc_is_ascending : FnScope ["things", "at"] ["things"] (defScope s_is_ascending) := ⟨rfl, rfl, rfl, by decide +kernel, rfl, by decide +kernel, by decide +kernel⟩
abbrev s_are_words : Stmt := top 13
theorem sc_are_words : FnScope ["thing", "word"] ["thing"] (defScope s_are_words) := ⟨rfl, rfl, rfl, by decide +kernel, rfl, by decide +kernel, by decide +kernel⟩
abbrev s_inner : Stmt := top 14
theorem sc_inner : FnScope ["concept"] ["concept"] (defScope s_inner) := ⟨rfl, rfl, rfl, by decide +kernel, rfl, by decide +kernel, by decide +kernel⟩
abbrev s_told_words : Stmt := top 15
theorem sc_told_words : FnScope ["names", "roles"] ["names", "roles"] (defScope s_told_words) := ⟨rfl, rfl, rfl, by decide +kernel, rfl, by decide +kernel, by decide +kernel⟩
abbrev s_bits : Stmt := top 17
theorem sc_bits : FnScope ["mask", "found", "lowest"] ["mask"] (defScope s_bits) := ⟨rfl, rfl, rfl, by decide +kernel, rfl, by decide +kernel, by decide +kernel⟩
abbrev s_g_init : Stmt := inClass (top 18) 0
theorem sc_g_init : FnScope ["self", "names", "edges", "thing", "row", "name", "role", "other"] ["self", "names", "edges"] (defScope s_g_init) := ⟨rfl, rfl, rfl, by decide +kernel, rfl, by decide +kernel, by decide +kernel⟩
abbrev s_g_put_edges : Stmt := inClass (top 18) 1
theorem sc_g_put_edges : FnScope ["self", "thing", "role", "ends", "rows"] ["self", "thing", "role", "ends"] (defScope s_g_put_edges) := ⟨rfl, rfl, rfl, by decide +kernel, rfl, by decide +kernel, by decide +kernel⟩
abbrev s_g_behind : Stmt := inClass (top 18) 2
theorem sc_g_behind : FnScope ["self", "role", "mask", "found", "rows", "thing"] ["self", "role", "mask"] (defScope s_g_behind) := ⟨rfl, rfl, rfl, by decide +kernel, rfl, by decide +kernel, by decide +kernel⟩
abbrev s_g_sources : Stmt := inClass (top 18) 3
theorem sc_g_sources : FnScope ["self", "role", "rows", "thing", "others", "end"] ["self", "role"] (defScope s_g_sources) := ⟨rfl, rfl, rfl, by decide +kernel, rfl, by decide +kernel, by decide +kernel⟩
abbrev s_g_holding : Stmt := inClass (top 18) 4
theorem sc_g_holding : FnScope ["self", "concept", "found", "part"] ["self", "concept"] (defScope s_g_holding) := ⟨rfl, rfl, rfl, by decide +kernel, rfl, by decide +kernel, by decide +kernel⟩
abbrev s_g_targets : Stmt := inClass (top 18) 5
theorem sc_g_targets : FnScope ["self", "role", "thing"] ["self", "role", "thing"] (defScope s_g_targets) := ⟨rfl, rfl, rfl, by decide +kernel, rfl, by decide +kernel, by decide +kernel⟩
abbrev s_is_number : Stmt := top 20
theorem sc_is_number : FnScope ["thing"] ["thing"] (defScope s_is_number) := ⟨rfl, rfl, rfl, by decide +kernel, rfl, by decide +kernel, by decide +kernel⟩
abbrev s_is_thing : Stmt := top 21
theorem sc_is_thing : FnScope ["thing", "many"] ["thing", "many"] (defScope s_is_thing) := ⟨rfl, rfl, rfl, by decide +kernel, rfl, by decide +kernel, by decide +kernel⟩
abbrev s_is_edge : Stmt := top 22
theorem sc_is_edge : FnScope ["thing", "many"] ["thing", "many"] (defScope s_is_edge) := ⟨rfl, rfl, rfl, by decide +kernel, rfl, by decide +kernel, by decide +kernel⟩
abbrev s_are_names : Stmt := top 23
theorem sc_are_names : FnScope ["names", "row"] ["names"] (defScope s_are_names) := ⟨rfl, rfl, rfl, by decide +kernel, rfl, by decide +kernel, by decide +kernel⟩
abbrev s_are_edges : Stmt := top 24
theorem sc_are_edges : FnScope ["edges", "many", "edge"] ["edges", "many"] (defScope s_are_edges) := ⟨rfl, rfl, rfl, by decide +kernel, rfl, by decide +kernel, by decide +kernel⟩
abbrev s_w_init : Stmt := inClass (top 25) 0
theorem sc_w_init : FnScope ["self", "names", "edges"] ["self", "names", "edges"] (defScope s_w_init) := ⟨rfl, rfl, rfl, by decide +kernel, rfl, by decide +kernel, by decide +kernel⟩
abbrev s_w_size : Stmt := inClass (top 25) 1
theorem sc_w_size : FnScope ["self"] ["self"] (defScope s_w_size) := ⟨rfl, rfl, rfl, by decide +kernel, rfl, by decide +kernel, by decide +kernel⟩
abbrev s_w_names : Stmt := inClass (top 25) 2
theorem sc_w_names : FnScope ["self"] ["self"] (defScope s_w_names) := ⟨rfl, rfl, rfl, by decide +kernel, rfl, by decide +kernel, by decide +kernel⟩
abbrev s_w_edges : Stmt := inClass (top 25) 3
theorem sc_w_edges : FnScope ["self"] ["self"] (defScope s_w_edges) := ⟨rfl, rfl, rfl, by decide +kernel, rfl, by decide +kernel, by decide +kernel⟩
abbrev s_w_graph : Stmt := inClass (top 25) 4
theorem sc_w_graph : FnScope ["self"] ["self"] (defScope s_w_graph) := ⟨rfl, rfl, rfl, by decide +kernel, rfl, by decide +kernel, by decide +kernel⟩
abbrev s_w_things_in : Stmt := inClass (top 25) 5
theorem sc_w_things_in : FnScope ["self", "concept"] ["self", "concept"] (defScope s_w_things_in) := ⟨rfl, rfl, rfl, by decide +kernel, rfl, by decide +kernel, by decide +kernel⟩
abbrev s_w_words : Stmt := inClass (top 25) 6
theorem sc_w_words : FnScope ["self", "names", "roles", "edge"] ["self"] (defScope s_w_words) := ⟨rfl, rfl, rfl, by decide +kernel, rfl, by decide +kernel, by decide +kernel⟩
abbrev s_w_len : Stmt := inClass (top 25) 7
theorem sc_w_len : FnScope ["self"] ["self"] (defScope s_w_len) := ⟨rfl, rfl, rfl, by decide +kernel, rfl, by decide +kernel, by decide +kernel⟩
abbrev s_w_iter : Stmt := inClass (top 25) 8
theorem sc_w_iter : FnScope ["self"] ["self"] (defScope s_w_iter) := ⟨rfl, rfl, rfl, by decide +kernel, rfl, by decide +kernel, by decide +kernel⟩
abbrev s_w_contains : Stmt := inClass (top 25) 9
theorem sc_w_contains : FnScope ["self", "edge"] ["self", "edge"] (defScope s_w_contains) := ⟨rfl, rfl, rfl, by decide +kernel, rfl, by decide +kernel, by decide +kernel⟩
abbrev s_w_eq : Stmt := inClass (top 25) 10
theorem sc_w_eq : FnScope ["self", "other"] ["self", "other"] (defScope s_w_eq) := ⟨rfl, rfl, rfl, by decide +kernel, rfl, by decide +kernel, by decide +kernel⟩
abbrev s_need_world : Stmt := top 26
theorem sc_need_world : FnScope ["thing"] ["thing"] (defScope s_need_world) := ⟨rfl, rfl, rfl, by decide +kernel, rfl, by decide +kernel, by decide +kernel⟩
abbrev s_pair_edges : Stmt := top 27
theorem sc_pair_edges : FnScope ["ahead", "others_ahead", "many", "found", "role", "thing", "targets", "other", "more", "pair", "ends", "end", "last"] ["ahead", "others_ahead", "many"] (defScope s_pair_edges) := ⟨rfl, rfl, rfl, by decide +kernel, rfl, by decide +kernel, by decide +kernel⟩
abbrev s_product : Stmt := top 28
theorem sc_product : FnScope ["first", "second", "names", "row", "more", "name"] ["first", "second"] (defScope s_product) := ⟨rfl, rfl, rfl, by decide +kernel, rfl, by decide +kernel, by decide +kernel⟩
abbrev s_law_cell_at : Stmt := top 30
theorem sc_law_cell_at : FnScope ["script", "k"] ["script", "k"] (defScope s_law_cell_at) := ⟨rfl, rfl, rfl, by decide +kernel, rfl, by decide +kernel, by decide +kernel⟩
abbrev s_law_draw : Stmt := top 31
theorem sc_law_draw : FnScope ["cell", "k", "bound", "primes"] ["cell", "k", "bound"] (defScope s_law_draw) := ⟨rfl, rfl, rfl, by decide +kernel, rfl, by decide +kernel, by decide +kernel⟩
abbrev s_law_number : Stmt := top 32
theorem sc_law_number : FnScope ["cell", "k", "bound", "power", "lap", "remains", "small"] ["cell", "k", "bound"] (defScope s_law_number) := ⟨rfl, rfl, rfl, by decide +kernel, rfl, by decide +kernel, by decide +kernel⟩
abbrev s_law_next : Stmt := top 33
theorem sc_law_next : FnScope ["draw", "bound", "at", "cell"] ["draw", "bound"] (defScope s_law_next) := ⟨rfl, rfl, rfl, by decide +kernel, rfl, by decide +kernel, by decide +kernel⟩
abbrev s_law_pick : Stmt := top 34
theorem sc_law_pick : FnScope ["draw", "things"] ["draw", "things"] (defScope s_law_pick) := ⟨rfl, rfl, rfl, by decide +kernel, rfl, by decide +kernel, by decide +kernel⟩
abbrev s_law_word : Stmt := top 35
theorem sc_law_word : FnScope ["draw", "letters", "many", "word", "turn"] ["draw"] (defScope s_law_word) := ⟨rfl, rfl, rfl, by decide +kernel, rfl, by decide +kernel, by decide +kernel⟩
abbrev s_law_vocab : Stmt := top 36
theorem sc_law_vocab : FnScope ["draw", "many", "found", "turn", "word", "spare", "one"] ["draw", "many"] (defScope s_law_vocab) := ⟨rfl, rfl, rfl, by decide +kernel, rfl, by decide +kernel, by decide +kernel⟩
abbrev s_law_atom : Stmt := top 37
theorem sc_law_atom : FnScope ["draw", "names", "turn"] ["draw", "names"] (defScope s_law_atom) := ⟨rfl, rfl, rfl, by decide +kernel, rfl, by decide +kernel, by decide +kernel⟩
abbrev s_law_concept : Stmt := top 38
theorem sc_law_concept : FnScope ["draw", "names", "roles", "deep", "turn", "pieces"] ["draw", "names", "roles", "deep"] (defScope s_law_concept) := ⟨rfl, rfl, rfl, by decide +kernel, rfl, by decide +kernel, by decide +kernel⟩
abbrev s_law_marks : Stmt := top 39
theorem sc_law_marks : FnScope ["names", "edges", "concept", "inside", "good", "rows", "one", "edge", "thing", "part", "row"] ["names", "edges", "concept"] (defScope s_law_marks) := ⟨rfl, rfl, rfl, by decide +kernel, rfl, by decide +kernel, by decide +kernel⟩
abbrev s_law_world : Stmt := top 40
theorem sc_law_world : FnScope ["draw", "names", "roles", "many", "found", "edges", "thing", "turn", "edge", "name"] ["draw", "names", "roles", "many"] (defScope s_law_world) := ⟨rfl, rfl, rfl, by decide +kernel, rfl, by decide +kernel, by decide +kernel⟩
abbrev s_law_product : Stmt := top 41
theorem sc_law_product : FnScope ["one", "two", "many", "names", "edges", "first", "name", "second"] ["one", "two"] (defScope s_law_product) := ⟨rfl, rfl, rfl, by decide +kernel, rfl, by decide +kernel, by decide +kernel⟩
abbrev s_law_same : Stmt := top 42
theorem sc_law_same : FnScope ["world", "due", "concepts", "concept", "marks", "names", "thing", "inside", "edge"] ["world", "due", "concepts"] (defScope s_law_same) := ⟨rfl, rfl, rfl, by decide +kernel, rfl, by decide +kernel, by decide +kernel⟩
abbrev s_law : Stmt := top 43
theorem sc_law : FnScope ["script", "draw", "names", "roles", "concepts", "one", "two", "given", "edges", "first", "second", "both", "thing", "role", "due", "row", "words", "more", "turn", "edge", "word", "at"] ["script"] (defScope s_law) := ⟨rfl, rfl, rfl, by decide +kernel, rfl, by decide +kernel, by decide +kernel⟩
/-- what the top has written -/
structure Defs (K : PySem.W.Frag) (mg : Str → Option Value) : Type where
  gC : Addr
  wC : Addr
  d_is_word : Tx K mg "is_word" s_is_word ["thing"]
  d_is_concept : Tx K mg "is_concept" s_is_concept ["thing"]
  d_is_nested : Tx K mg "_is_nested" s_is_nested ["thing", "levels"]
  d_need_concept : Tx K mg "need_concept" s_need_concept ["thing"]
  d_is_ascending : Tx K mg "is_ascending" s_is_ascending ["things"]
  d_are_words : Tx K mg "are_words" s_are_words ["thing"]
  d_inner : Tx K mg "inner" s_inner ["concept"]
  d_told_words : Tx K mg "told_words" s_told_words ["names", "roles"]
  d_bits : Tx K mg "bits" s_bits ["mask"]
  d_g_init : Tm K gC "__init__" "Graph.__init__" s_g_init ["self", "names", "edges"]
  d_g_put_edges : Tm K gC "put_edges" "Graph.put_edges" s_g_put_edges ["self", "thing", "role", "ends"]
  d_g_behind : Tm K gC "behind" "Graph.behind" s_g_behind ["self", "role", "mask"]
  d_g_sources : Tm K gC "sources" "Graph.sources" s_g_sources ["self", "role"]
  d_g_holding : Tm K gC "holding" "Graph.holding" s_g_holding ["self", "concept"]
  d_g_targets : Tm K gC "targets" "Graph.targets" s_g_targets ["self", "role", "thing"]
  d_is_number : Tx K mg "is_number" s_is_number ["thing"]
  d_is_thing : Tx K mg "is_thing" s_is_thing ["thing", "many"]
  d_is_edge : Tx K mg "is_edge" s_is_edge ["thing", "many"]
  d_are_names : Tx K mg "_are_names" s_are_names ["names"]
  d_are_edges : Tx K mg "_are_edges" s_are_edges ["edges", "many"]
  d_w_init : Tm K wC "__init__" "World.__init__" s_w_init ["self", "names", "edges"]
  w_size_p : Addr
  w_size_f : Addr
  w_size_fd : FuncData
  w_size_F : Fun K "size" "World.size" s_w_size w_size_f w_size_fd
  w_size_b : Binds K w_size_fd ["self"] []
  w_size_at : PropOf K wC "size" w_size_p w_size_f
  d_w_names : Tm K wC "names" "World.names" s_w_names ["self"]
  d_w_edges : Tm K wC "edges" "World.edges" s_w_edges ["self"]
  d_w_graph : Tm K wC "graph" "World.graph" s_w_graph ["self"]
  d_w_things_in : Tm K wC "things_in" "World.things_in" s_w_things_in ["self", "concept"]
  d_w_words : Tm K wC "words" "World.words" s_w_words ["self"]
  d_w_len : Tm K wC "__len__" "World.__len__" s_w_len ["self"]
  d_w_iter : Tm K wC "__iter__" "World.__iter__" s_w_iter ["self"]
  d_w_contains : Tm K wC "__contains__" "World.__contains__" s_w_contains ["self", "edge"]
  d_w_eq : Tm K wC "__eq__" "World.__eq__" s_w_eq ["self", "other"]
  d_need_world : Tx K mg "need_world" s_need_world ["thing"]
  d_pair_edges : Tx K mg "pair_edges" s_pair_edges ["ahead", "others_ahead", "many"]
  d_product : Tx K mg "product" s_product ["first", "second"]
  d_law_cell_at : Tx K mg "_law_cell_at" s_law_cell_at ["script", "k"]
  d_law_draw : Tx K mg "_law_draw" s_law_draw ["cell", "k", "bound"]
  d_law_number : Tx K mg "_law_number" s_law_number ["cell", "k", "bound"]
  d_law_next : Tx K mg "_law_next" s_law_next ["draw", "bound"]
  d_law_pick : Tx K mg "_law_pick" s_law_pick ["draw", "things"]
  d_law_word : Tx K mg "_law_word" s_law_word ["draw"]
  d_law_vocab : Tx K mg "_law_vocab" s_law_vocab ["draw", "many"]
  d_law_atom : Tx K mg "_law_atom" s_law_atom ["draw", "names"]
  d_law_concept : Tx K mg "_law_concept" s_law_concept ["draw", "names", "roles", "deep"]
  d_law_marks : Tx K mg "_law_marks" s_law_marks ["names", "edges", "concept"]
  d_law_world : Tx K mg "_law_world" s_law_world ["draw", "names", "roles", "many"]
  d_law_product : Tx K mg "_law_product" s_law_product ["one", "two"]
  d_law_same : Tx K mg "_law_same" s_law_same ["world", "due", "concepts"]
  d_law : Tx K mg "law" s_law ["script"]
  gC_m : mg "Graph" = some (.ref gC)
  gC_cl : Cls K gC
  gC_mk : PySem.W.makesIn K gC = true
  gC_kp : PySem.W.keepIn K (.ref gC) = true
  gC_neverything : NoAttr K gC "everything"
  gC_nnamed : NoAttr K gC "named"
  gC_nahead : NoAttr K gC "ahead"
  gC_n_sources : NoAttr K gC "_sources"
  wC_m : mg "World" = some (.ref wC)
  wC_cl : Cls K wC
  wC_mk : PySem.W.makesIn K wC = true
  wC_kp : PySem.W.keepIn K (.ref wC) = true
  wC_n_names : NoAttr K wC "_names"
  wC_n_edges : NoAttr K wC "_edges"
  wC_n_known : NoAttr K wC "_known"
  wC_n_graph : NoAttr K wC "_graph"
  wC_ne : PySem.W.findIn K (.ref wC) "__ne__" = some (some (.builtin "object.__ne__"))
  wC_ob : PySem.W.mroIn K wC (.type "object") = some true
  wC_cls : PySem.W.findIn K (.ref wC) "__class__" = some (some (.builtin "object.__class__"))
  oc_get : PySem.W.specialIn K (.builtin "object.__class__") "__get__" = some (some (.builtin "getset_descriptor.__get__"))
  oc_tk : PySem.W.takesIn K (.builtin "object.__class__") = some true
  law_b : ∀ (s : Shared) (v : Value), BindsTo s d_law.fd ⟨[v], []⟩ [("script", v)]
  nw : Addr
  nw_m : mg "NO_WORDS" = some (.ref nw)
  nw_l : SqT K (fun _ => none) nw [.str "all", .str "none", .str "some"]
  lo_m : ∃ t, mg "LONGEST" = some (.int 12 t)
  de_m : ∃ t, mg "DEEPEST" = some (.int 100 t)
  z_isinstance : mg "isinstance" = none
  z_str : mg "str" = none
  z_len : mg "len" = none
  z_tuple : mg "tuple" = none
  z_list : mg "list" = none
  z_int : mg "int" = none
  z_bool : mg "bool" = none
  z_sorted : mg "sorted" = none
  z_range : mg "range" = none
  z_enumerate : mg "enumerate" = none
  z_all : mg "all" = none
  z_iter : mg "iter" = none
end K1
namespace K1
open PySem L2
/-! ### the data: concepts as trees -/
inductive Con where
  | atom (s : Str)
  | ex (r : Str) (c : Con)
  | and2 (a b : Con)
  | and3 (a b c : Con)
abbrev cs (x : Str) : List Nat := x.cps.toList
theorem str_ext {a b : Str} (h : cs a = cs b) : a = b := by
  cases a; cases b
  simp only [cs, Array.toList_inj] at h
  rw [h]
def letters (l : List Nat) : Bool := l.all fun c => decide (97 ≤ c) && decide (c ≤ 122)
def noWords : List Str := ["all", "none", "some"]
def wordOk (s : Str) : Bool := decide (1 ≤ s.length) && decide (s.length ≤ 12) && !decide (s ∈ noWords) && letters (cs s)
def nest : Con → Nat
  | .atom _ => 0
  | .ex _ c => nest c + 1
  | .and2 a b => max (nest a) (nest b) + 1
  | .and3 a b c => max (nest a) (max (nest b) (nest c)) + 1
def nodes : Con → Nat
  | .atom _ => 1
  | .ex _ c => nodes c + 1
  | .and2 a b => nodes a + nodes b + 1
  | .and3 a b c => nodes a + (nodes b + nodes c) + 1
/-- the words of a concept are told ones -/
def In (N R : List Str) : Con → Prop
  | .atom s => s = "all" ∨ s = "none" ∨ s ∈ N
  | .ex r c => r ∈ R ∧ In N R c
  | .and2 a b => In N R a ∧ In N R b
  | .and3 a b c => In N R a ∧ In N R b ∧ In N R c
def Good (c : Con) : Prop := ∃ N R, (∀ x ∈ N, wordOk x = true) ∧ (∀ x ∈ R, wordOk x = true) ∧ In N R c
/-- texts -/
def isAnd : Con → Bool
  | .and2 _ _ => true
  | .and3 _ _ _ => true
  | _ => false
def wrap (b : Bool) (l : List Nat) : List Nat := if b then 40 :: (l ++ [41]) else l
def txt : Con → List Nat
  | .atom s => cs s
  | .ex r c => [115, 111, 109, 101, 32] ++ (cs r ++ (32 :: wrap (isAnd c) (txt c)))
  | .and2 a b => wrap (isAnd a) (txt a) ++ ([32, 38, 32] ++ wrap (isAnd b) (txt b))
  | .and3 a b c => wrap (isAnd a) (txt a) ++ ([32, 38, 32] ++ (wrap (isAnd b) (txt b) ++ ([32, 38, 32] ++ wrap (isAnd c) (txt c))))
abbrev par (c : Con) : List Nat := wrap (isAnd c) (txt c)
def End (x : List Nat) : Prop := ∀ c r, x = c :: r → c = 32 ∨ c = 41
theorem end_nil : End [] := fun _ _ h => nomatch h
theorem end_32 {x} : End (32 :: x) := fun c r h => .inl (by injection h with h _; exact h.symm)
theorem end_41 {x} : End (41 :: x) := fun c r h => .inr (by injection h with h _; exact h.symm)
theorem split_letters : ∀ {s t x y : List Nat}, letters s = true → letters t = true → End x → End y → s ++ x = t ++ y → s = t ∧ x = y
  | [], [], x, y, _, _, _, _, h => ⟨rfl, h⟩
  | [], d :: t, x, y, _, ht, ex, _, h => by
    simp [letters] at ht
    rcases ex d (t ++ y) h with rfl | rfl <;> omega
  | c :: s, [], x, y, hs, _, _, ey, h => by
    simp [letters] at hs
    rcases ey c (s ++ x) h.symm with rfl | rfl <;> omega
  | c :: s, d :: t, x, y, hs, ht, ex, ey, h => by
    simp only [List.cons_append, List.cons.injEq] at h
    simp only [letters, List.all_cons, Bool.and_eq_true] at hs ht
    obtain ⟨h1, h2⟩ := split_letters (s := s) (t := t) hs.2 ht.2 ex ey h.2
    exact ⟨by rw [h.1, h1], h2⟩
/-- what a word of a concept is -/
def Wd (s : Str) : Prop := letters (cs s) = true ∧ cs s ≠ [] ∧ cs s ≠ [115, 111, 109, 101]
def Wf : Con → Prop
  | .atom s => Wd s
  | .ex r c => Wd r ∧ Wf c
  | .and2 a b => Wf a ∧ Wf b
  | .and3 a b c => Wf a ∧ Wf b ∧ Wf c
theorem par_atom {s : Str} : par (.atom s) = cs s := rfl
theorem par_ex {r : Str} {c : Con} : par (.ex r c) = [115, 111, 109, 101, 32] ++ (cs r ++ (32 :: par c)) := rfl
theorem par_and2 {a b : Con} : par (.and2 a b) = 40 :: ((par a ++ ([32, 38, 32] ++ par b)) ++ [41]) := rfl
theorem par_and3 {a b c : Con} : par (.and3 a b c) = 40 :: ((par a ++ ([32, 38, 32] ++ (par b ++ ([32, 38, 32] ++ par c)))) ++ [41]) := rfl
theorem atom_ex {s r : Str} {c : Con} {x y : List Nat} (hs : Wd s) (ex : End x) (h : par (.atom s) ++ x = par (.ex r c) ++ y) : False := by
  rw [par_atom, par_ex] at h
  have h' : cs s ++ x = [115, 111, 109, 101] ++ (32 :: (cs r ++ (32 :: par c) ++ y)) := by rw [h]; simp
  exact hs.2.2 (split_letters hs.1 (by decide) ex end_32 h').1
theorem atom_40 {s : Str} {x y : List Nat} (hs : Wd s) (h : cs s ++ x = 40 :: y) : False := by
  cases e : cs s with
  | nil => exact hs.2.1 e
  | cons c l =>
    rw [e] at h
    have h1 := hs.1
    rw [e] at h1
    simp only [List.cons_append, List.cons.injEq] at h
    simp [letters] at h1
    omega
theorem par_inj : ∀ (a b : Con) (x y : List Nat), Wf a → Wf b → End x → End y → par a ++ x = par b ++ y → a = b ∧ x = y
  | .atom s, .atom t, x, y, ha, hb, ex, ey, h => by
    obtain ⟨h1, h2⟩ := split_letters (show letters (cs s) = true from ha.1) (show letters (cs t) = true from hb.1) ex ey h
    exact ⟨by rw [str_ext h1], h2⟩
  | .atom s, .ex r c, x, y, ha, _, ex, _, h => (atom_ex ha ex h).elim
  | .atom s, .and2 p q, x, y, ha, _, ex, _, h => (atom_40 ha (show cs s ++ x = 40 :: _ from h)).elim
  | .atom s, .and3 p q r, x, y, ha, _, ex, _, h => (atom_40 ha (show cs s ++ x = 40 :: _ from h)).elim
  | .ex r c, .atom t, x, y, _, hb, _, ey, h => (atom_ex hb ey h.symm).elim
  | .ex r c, .ex r' c', x, y, ha, hb, ex, ey, h => by
    rw [par_ex, par_ex] at h
    simp only [List.append_assoc, List.cons_append, List.nil_append, List.cons.injEq, true_and] at h
    obtain ⟨h1, h2⟩ := split_letters ha.1.1 hb.1.1 end_32 end_32 h
    simp only [List.cons.injEq, true_and] at h2
    obtain ⟨h3, h4⟩ := par_inj c c' x y ha.2 hb.2 ex ey h2
    exact ⟨by rw [str_ext h1, h3], h4⟩
  | .ex r c, .and2 p q, x, y, _, _, _, _, h => by
    rw [par_ex, par_and2] at h
    simp at h
  | .ex r c, .and3 p q s, x, y, _, _, _, _, h => by
    rw [par_ex, par_and3] at h
    simp at h
  | .and2 p q, .atom t, x, y, _, hb, _, ey, h => (atom_40 hb (show cs t ++ y = 40 :: _ from h.symm)).elim
  | .and2 p q, .ex r c, x, y, _, _, _, _, h => by
    rw [par_ex, par_and2] at h
    simp at h
  | .and2 p q, .and2 p' q', x, y, ha, hb, ex, ey, h => by
    rw [par_and2, par_and2] at h
    simp only [List.append_assoc, List.cons_append, List.nil_append, List.cons.injEq, true_and] at h
    obtain ⟨h1, h2⟩ := par_inj p p' _ _ ha.1 hb.1 end_32 end_32 h
    simp only [List.cons.injEq, true_and] at h2
    obtain ⟨h3, h4⟩ := par_inj q q' _ _ ha.2 hb.2 end_41 end_41 h2
    simp only [List.cons.injEq, true_and] at h4
    exact ⟨by rw [h1, h3], h4⟩
  | .and2 p q, .and3 p' q' s, x, y, ha, hb, ex, ey, h => by
    rw [par_and2, par_and3] at h
    simp only [List.append_assoc, List.cons_append, List.nil_append, List.cons.injEq, true_and] at h
    obtain ⟨h1, h2⟩ := par_inj p p' _ _ ha.1 hb.1 end_32 end_32 h
    simp only [List.cons.injEq, true_and] at h2
    obtain ⟨h3, h4⟩ := par_inj q q' _ _ ha.2 hb.2.1 end_41 end_32 h2
    simp at h4
  | .and3 p q s, .atom t, x, y, _, hb, _, ey, h => (atom_40 hb (show cs t ++ y = 40 :: _ from h.symm)).elim
  | .and3 p q s, .ex r c, x, y, _, _, _, _, h => by
    rw [par_ex, par_and3] at h
    simp at h
  | .and3 p q s, .and2 p' q', x, y, ha, hb, ex, ey, h => by
    rw [par_and2, par_and3] at h
    simp only [List.append_assoc, List.cons_append, List.nil_append, List.cons.injEq, true_and] at h
    obtain ⟨h1, h2⟩ := par_inj p p' _ _ ha.1 hb.1 end_32 end_32 h
    simp only [List.cons.injEq, true_and] at h2
    obtain ⟨h3, h4⟩ := par_inj q q' _ _ ha.2.1 hb.2 end_32 end_41 h2
    simp at h4
  | .and3 p q s, .and3 p' q' s', x, y, ha, hb, ex, ey, h => by
    rw [par_and3, par_and3] at h
    simp only [List.append_assoc, List.cons_append, List.nil_append, List.cons.injEq, true_and] at h
    obtain ⟨h1, h2⟩ := par_inj p p' _ _ ha.1 hb.1 end_32 end_32 h
    simp only [List.cons.injEq, true_and] at h2
    obtain ⟨h3, h4⟩ := par_inj q q' _ _ ha.2.1 hb.2.1 end_32 end_32 h2
    simp only [List.cons.injEq, true_and] at h4
    obtain ⟨h5, h6⟩ := par_inj s s' _ _ ha.2.2 hb.2.2 end_41 end_41 h4
    simp only [List.cons.injEq, true_and] at h6
    exact ⟨by rw [h1, h3, h5], h6⟩
/-- an and's text begins with its first part's and goes on with a blank -/
theorem txt_and {a : Con} (h : isAnd a = true) : ∃ p r, txt a = par p ++ (32 :: r) ∧ (Wf a → Wf p) := by
  cases a with
  | atom s => cases h
  | ex r c => cases h
  | and2 p q => exact ⟨p, 38 :: 32 :: par q, rfl, fun w => w.1⟩
  | and3 p q s => exact ⟨p, 38 :: 32 :: (par q ++ ([32, 38, 32] ++ par s)), rfl, fun w => w.1⟩
theorem par_no {c : Con} (h : isAnd c = false) : par c = txt c := by
  unfold par wrap
  rw [h]
  rfl
theorem txt_inj {a b : Con} (ha : Wf a) (hb : Wf b) (h : txt a = txt b) : a = b := by
  have key : ∀ c d : Con, Wf c → Wf d → isAnd c = true → isAnd d = false → txt c = txt d → False := by
    intro c d hc hd h1 h2 e
    obtain ⟨p, r, e1, w⟩ := txt_and h1
    have z : par p ++ (32 :: r) = par d ++ [] := by rw [List.append_nil, par_no h2, ← e, e1]
    have z2 := (par_inj p d _ _ (w hc) hd end_32 end_nil z).2
    cases z2
  cases h1 : isAnd a with
  | true =>
    cases h2 : isAnd b with
    | true =>
      have z : par a ++ [] = par b ++ [] := by
        unfold par wrap
        rw [h1, h2, h]
      exact (par_inj a b _ _ ha hb end_nil end_nil z).1
    | false => exact (key a b ha hb h1 h2 h).elim
  | false =>
    cases h2 : isAnd b with
    | true => exact (key b a hb ha h2 h1 h.symm).elim
    | false =>
      have z : par a ++ [] = par b ++ [] := by rw [List.append_nil, List.append_nil, par_no h1, par_no h2, h]
      exact (par_inj a b _ _ ha hb end_nil end_nil z).1
theorem wd_of {s : Str} (h : wordOk s = true) : Wd s := by
  unfold wordOk at h
  simp only [Bool.and_eq_true, decide_eq_true_eq, Bool.not_eq_true', decide_eq_false_iff_not] at h
  obtain ⟨⟨⟨h1, h2⟩, h3⟩, h4⟩ := h
  refine ⟨h4, fun e => ?_, fun e => ?_⟩
  · have : s.length = (cs s).length := rfl
    rw [e] at this
    simp at this
    omega
  · have : s = ("some" : Str) := str_ext (by rw [e]; decide +kernel)
    exact h3 (by rw [this]; decide +kernel)
theorem wf_of {N R : List Str} (hN : ∀ x ∈ N, wordOk x = true) (hR : ∀ x ∈ R, wordOk x = true) : ∀ {c : Con}, In N R c → Wf c
  | .atom s, h => by
    rcases h with h | h | h
    · rw [h]; exact ⟨by decide +kernel, by decide +kernel, by decide +kernel⟩
    · rw [h]; exact ⟨by decide +kernel, by decide +kernel, by decide +kernel⟩
    · exact wd_of (hN _ h)
  | .ex r c, h => ⟨wd_of (hR _ h.1), wf_of hN hR h.2⟩
  | .and2 a b, h => ⟨wf_of hN hR h.1, wf_of hN hR h.2⟩
  | .and3 a b c, h => ⟨wf_of hN hR h.1, wf_of hN hR h.2.1, wf_of hN hR h.2.2⟩
/-! ### ascending lists -/
def ltb (a b : Str) : Bool := PySem.Spec.ltCps (cs a) (cs b)
theorem ltc_irrefl : ∀ a : List Nat, PySem.Spec.ltCps a a = false
  | [] => rfl
  | a :: r => by simp [PySem.Spec.ltCps, ltc_irrefl r]
theorem ltc_trans : ∀ {a b c : List Nat}, PySem.Spec.ltCps a b = true → PySem.Spec.ltCps b c = true → PySem.Spec.ltCps a c = true
  | [], [], _, h, _ => by simp [PySem.Spec.ltCps] at h
  | [], _ :: _, [], _, h => by simp [PySem.Spec.ltCps] at h
  | [], _ :: _, _ :: _, _, _ => rfl
  | _ :: _, [], _, h, _ => by simp [PySem.Spec.ltCps] at h
  | _ :: _, _ :: _, [], _, h => by simp [PySem.Spec.ltCps] at h
  | a :: r, b :: t, c :: u, h1, h2 => by
    simp only [PySem.Spec.ltCps, Bool.or_eq_true, Bool.and_eq_true, decide_eq_true_eq, beq_iff_eq] at h1 h2 ⊢
    rcases h1 with h1 | ⟨rfl, h1⟩
    · rcases h2 with h2 | ⟨rfl, h2⟩
      · exact .inl (by omega)
      · exact .inl h1
    · rcases h2 with h2 | ⟨rfl, h2⟩
      · exact .inl h2
      · exact .inr ⟨rfl, ltc_trans h1 h2⟩
theorem ltc_total : ∀ {a b : List Nat}, PySem.Spec.ltCps a b = false → PySem.Spec.ltCps b a = false → a = b
  | [], [], _, _ => rfl
  | [], _ :: _, h, _ => by simp [PySem.Spec.ltCps] at h
  | _ :: _, [], _, h => by simp [PySem.Spec.ltCps] at h
  | a :: r, b :: t, h1, h2 => by
    simp only [PySem.Spec.ltCps, Bool.or_eq_false_iff, Bool.and_eq_false_imp, decide_eq_false_iff_not, beq_iff_eq] at h1 h2
    have e : a = b := by omega
    subst e
    rw [ltc_total (h1.2 rfl) (h2.2 rfl)]
theorem ltb_irrefl (a : Str) : ltb a a = false := ltc_irrefl _
theorem ltb_trans {a b c : Str} (h : ltb a b = true) (h' : ltb b c = true) : ltb a c = true := ltc_trans h h'
theorem ltb_total {a b : Str} (h : ltb a b = false) (h' : ltb b a = false) : a = b := str_ext (ltc_total h h')
theorem leb_trans {a b c : Str} (h : ltb b a = false) (h' : ltb c b = false) : ltb c a = false := by
  cases q : ltb c a with
  | false => rfl
  | true =>
    cases q2 : ltb b c with
    | true => rw [ltb_trans q2 q] at h; cases h
    | false =>
      have e := ltb_total h' q2
      subst e
      rw [h] at q
      cases q
def Asc (l : List Str) : Prop := l.Pairwise fun a b => ltb a b = true
def Weak (l : List Str) : Prop := l.Pairwise fun a b => ltb b a = false
theorem rising_weak : ∀ {p : Str} {l : List Str}, PyProof.Rows.risingS p l = true → Weak (p :: l)
  | p, [], _ => List.pairwise_singleton _ _
  | p, x :: r, h => by
    unfold PyProof.Rows.risingS at h
    simp only [Bool.and_eq_true, Bool.not_eq_true'] at h
    have ih := rising_weak h.2
    refine List.pairwise_cons.mpr ⟨fun y hy => ?_, ih⟩
    rcases List.mem_cons.mp hy with rfl | hy
    · exact h.1
    · exact leb_trans h.1 ((List.pairwise_cons.mp ih).1 y hy)
theorem weak_of {l : List Str} (h : PyProof.Rows.sortedS l = true) : Weak l := by
  cases l with
  | nil => exact List.Pairwise.nil
  | cons x r => exact rising_weak h
theorem asc_of {l : List Str} (h : Weak l) (nd : l.Nodup) : Asc l := by
  refine (h.and nd).imp ?_
  intro a b ⟨h1, h2⟩
  cases q : ltb a b with
  | true => rfl
  | false => exact (h2 (ltb_total q h1)).elim
theorem asc_uniq : ∀ {l m : List Str}, Asc l → Asc m → (∀ x, x ∈ l ↔ x ∈ m) → l = m
  | [], [], _, _, _ => rfl
  | [], y :: m, _, _, h => absurd ((h y).mpr (List.mem_cons_self ..)) (by simp)
  | x :: l, [], _, _, h => absurd ((h x).mp (List.mem_cons_self ..)) (by simp)
  | x :: l, y :: m, h1, h2, h => by
    have a1 := List.pairwise_cons.mp h1
    have a2 := List.pairwise_cons.mp h2
    have e : x = y := by
      rcases List.mem_cons.mp ((h x).mp (List.mem_cons_self ..)) with e | e
      · exact e
      · rcases List.mem_cons.mp ((h y).mpr (List.mem_cons_self ..)) with e' | e'
        · exact e'.symm
        · have q := ltb_trans (a1.1 y e') (a2.1 x e)
          rw [ltb_irrefl] at q
          cases q
    subst e
    rw [asc_uniq a1.2 a2.2 fun z => ?_]
    constructor
    · intro hz
      rcases List.mem_cons.mp ((h z).mp (List.mem_cons_of_mem _ hz)) with e | e
      · subst e
        have q := a1.1 z hz
        rw [ltb_irrefl] at q
        cases q
      · exact e
    · intro hz
      rcases List.mem_cons.mp ((h z).mpr (List.mem_cons_of_mem _ hz)) with e | e
      · subst e
        have q := a2.1 z hz
        rw [ltb_irrefl] at q
        cases q
      · exact e
/-! ### sizes -/
theorem nest_le_nodes : ∀ c : Con, nest c ≤ nodes c
  | .atom _ => Nat.zero_le _
  | .ex _ c => Nat.succ_le_succ (nest_le_nodes c)
  | .and2 a b => by have := nest_le_nodes a; have := nest_le_nodes b; unfold nest nodes; omega
  | .and3 a b c => by have := nest_le_nodes a; have := nest_le_nodes b; have := nest_le_nodes c; unfold nest nodes; omega
theorem nodes_pos : ∀ c : Con, 1 ≤ nodes c
  | .atom _ => Nat.le_refl _
  | .ex _ c => by unfold nodes; omega
  | .and2 a b => by unfold nodes; omega
  | .and3 a b c => by unfold nodes; omega
theorem word_len {s : Str} (h : wordOk s = true) : (cs s).length ≤ 12 := by
  unfold wordOk at h
  simp only [Bool.and_eq_true, decide_eq_true_eq] at h
  exact h.1.1.2
theorem wrap_len (b : Bool) (l : List Nat) : (wrap b l).length ≤ l.length + 2 := by
  unfold wrap
  split <;> simp
theorem txt_len {N R : List Str} (hN : ∀ x ∈ N, wordOk x = true) (hR : ∀ x ∈ R, wordOk x = true) : ∀ {c : Con}, In N R c → (txt c).length + 2 ≤ 24 * nodes c
  | .atom s, h => by
    have : (cs s).length ≤ 12 := by
      rcases h with h | h | h
      · rw [h]; decide +kernel
      · rw [h]; decide +kernel
      · exact word_len (hN _ h)
    simp only [txt, nodes]
    omega
  | .ex r c, h => by
    have := txt_len hN hR h.2
    have := word_len (hR _ h.1)
    have := wrap_len (isAnd c) (txt c)
    simp only [txt, nodes, List.length_append, List.length_cons, List.length_nil]
    omega
  | .and2 a b, h => by
    have := txt_len hN hR h.1
    have := txt_len hN hR h.2
    have := wrap_len (isAnd a) (txt a)
    have := wrap_len (isAnd b) (txt b)
    simp only [txt, nodes, List.length_append, List.length_cons, List.length_nil]
    omega
  | .and3 a b c, h => by
    have := txt_len hN hR h.1
    have := txt_len hN hR h.2.1
    have := txt_len hN hR h.2.2
    have := wrap_len (isAnd a) (txt a)
    have := wrap_len (isAnd b) (txt b)
    have := wrap_len (isAnd c) (txt c)
    simp only [txt, nodes, List.length_append, List.length_cons, List.length_nil]
    omega
/-! ### parts, depth, size, words -/
def prt : Con → List Con
  | .atom s => [.atom s]
  | .ex r c => .ex r c :: prt c
  | .and2 a b => .and2 a b :: (prt a ++ prt b)
  | .and3 a b c => .and3 a b c :: (prt a ++ (prt b ++ prt c))
theorem prt_len : ∀ c : Con, (prt c).length = nodes c
  | .atom _ => rfl
  | .ex r c => by simp [prt, nodes, prt_len c]
  | .and2 a b => by simp [prt, nodes, prt_len a, prt_len b]
  | .and3 a b c => by simp [prt, nodes, prt_len a, prt_len b, prt_len c]
theorem prt_self : ∀ c : Con, c ∈ prt c
  | .atom _ => by simp [prt]
  | .ex r c => by simp [prt]
  | .and2 a b => by simp [prt]
  | .and3 a b c => by simp [prt]
theorem prt_in {N R : List Str} : ∀ {c : Con}, In N R c → ∀ p ∈ prt c, In N R p
  | .atom s, h, p, hp => by simp only [prt, List.mem_singleton] at hp; subst hp; exact h
  | .ex r c, h, p, hp => by
    simp only [prt, List.mem_cons] at hp
    rcases hp with rfl | hp
    · exact h
    · exact prt_in h.2 p hp
  | .and2 a b, h, p, hp => by
    simp only [prt, List.mem_cons, List.mem_append] at hp
    rcases hp with rfl | hp | hp
    · exact h
    · exact prt_in h.1 p hp
    · exact prt_in h.2 p hp
  | .and3 a b c, h, p, hp => by
    simp only [prt, List.mem_cons, List.mem_append] at hp
    rcases hp with rfl | hp | hp | hp
    · exact h
    · exact prt_in h.1 p hp
    · exact prt_in h.2.1 p hp
    · exact prt_in h.2.2 p hp
def dep : Con → Int
  | .atom _ => 0
  | .ex _ c => dep c + 1
  | .and2 a b => max (dep a) (dep b)
  | .and3 a b c => max (dep a) (max (dep b) (dep c))
theorem dep_nn : ∀ c : Con, 0 ≤ dep c
  | .atom _ => Int.le_refl _
  | .ex _ c => by have := dep_nn c; unfold dep; omega
  | .and2 a b => by have := dep_nn a; unfold dep; omega
  | .and3 a b c => by have := dep_nn a; unfold dep; omega
def siz : Con → Int
  | .atom s => if s = "all" ∨ s = "none" then 0 else 1
  | .ex _ c => 1 + siz c
  | .and2 a b => siz a + siz b
  | .and3 a b c => siz a + siz b + siz c
/-- a name that a concept is -/
def isName (s : Str) : Prop := ¬ (s = "all" ∨ s = "none")
def nms : Con → List Str
  | .atom s => if s = "all" ∨ s = "none" then [] else [s]
  | .ex _ c => nms c
  | .and2 a b => nms a ++ nms b
  | .and3 a b c => nms a ++ (nms b ++ nms c)
def rls : Con → List Str
  | .atom _ => []
  | .ex r c => r :: rls c
  | .and2 a b => rls a ++ rls b
  | .and3 a b c => rls a ++ (rls b ++ rls c)
theorem nms_in {N R : List Str} : ∀ {c : Con}, In N R c → ∀ x ∈ nms c, x ∈ N
  | .atom s, h, x, hx => by
    unfold nms at hx
    split at hx
    · simp at hx
    · rename_i q
      simp only [List.mem_singleton] at hx
      subst hx
      rcases h with h | h | h
      · exact (q (.inl h)).elim
      · exact (q (.inr h)).elim
      · exact h
  | .ex r c, h, x, hx => nms_in h.2 x hx
  | .and2 a b, h, x, hx => by
    simp only [nms, List.mem_append] at hx
    rcases hx with hx | hx
    · exact nms_in h.1 x hx
    · exact nms_in h.2 x hx
  | .and3 a b c, h, x, hx => by
    simp only [nms, List.mem_append] at hx
    rcases hx with hx | hx | hx
    · exact nms_in h.1 x hx
    · exact nms_in h.2.1 x hx
    · exact nms_in h.2.2 x hx
theorem rls_in {N R : List Str} : ∀ {c : Con}, In N R c → ∀ x ∈ rls c, x ∈ R
  | .atom s, h, x, hx => by simp [rls] at hx
  | .ex r c, h, x, hx => by
    simp only [rls, List.mem_cons] at hx
    rcases hx with rfl | hx
    · exact h.1
    · exact rls_in h.2 x hx
  | .and2 a b, h, x, hx => by
    simp only [rls, List.mem_append] at hx
    rcases hx with hx | hx
    · exact rls_in h.1 x hx
    · exact rls_in h.2 x hx
  | .and3 a b c, h, x, hx => by
    simp only [rls, List.mem_append] at hx
    rcases hx with hx | hx | hx
    · exact rls_in h.1 x hx
    · exact rls_in h.2.1 x hx
    · exact rls_in h.2.2 x hx
/-- a list without repeats whose members are all in another one is no longer than it -/
theorem nodup_le : ∀ {l m : List Str}, l.Nodup → (∀ x ∈ l, x ∈ m) → l.length ≤ m.length
  | [], _, _, _ => Nat.zero_le _
  | x :: l, m, nd, h => by
    have h1 := List.nodup_cons.mp nd
    have hx := h x (List.mem_cons_self ..)
    have ih := nodup_le (l := l) (m := m.erase x) h1.2 fun y hy => by
      have ne : y ≠ x := fun e => h1.1 (e ▸ hy)
      exact (List.mem_erase_of_ne ne).mpr (h y (List.mem_cons_of_mem _ hy))
    rw [List.length_erase_of_mem hx] at ih
    have pos : 0 < m.length := List.length_pos_of_mem hx
    rw [List.length_cons]
    omega
end K1
namespace K1
open PySem L2
/-! ### what stands in the heap -/
theorem same_new {H : Hp} {p : Addr} (h : H p = none) (o : HO) : Same H (upd H p o) := fun b u q => by rw [upd_ne (ne_of_none q h)]; exact q
theorem Same.tup {H H' : Hp} {K : PySem.W.Frag} {a : Addr} {xs : List V} (e : Same H H') (h : SqT K H a xs) : SqT K H' a xs := by
  rcases h with (h | ⟨o, h⟩) | h
  · exact .inl (.inl (e _ _ h))
  · exact .inl (.inr ⟨o, e _ _ h⟩)
  · exact .inr h
theorem sqt_k {H' : Hp} {K : PySem.W.Frag} {a : Addr} {xs : List V} (h : SqT K (fun _ => none) a xs) : SqT K H' a xs := by
  rcases h with (h | ⟨o, h⟩) | h
  · cases h
  · cases h
  · exact .inr h
theorem take_more {α : Type} : ∀ {l : List α} {i : Nat} {x : α}, l[i]? = some x → l.take (i + 1) = l.take i ++ [x]
  | [], i, x, h => by simp at h
  | a :: l, 0, x, h => by
    have e : a = x := Option.some.inj h
    subst e
    rfl
  | a :: l, i + 1, x, h => by
    have ih := take_more (l := l) (i := i) (x := x) h
    show a :: l.take (i + 1) = a :: l.take i ++ [x]
    rw [ih]
    rfl
theorem paired_get {α β : Type} {F : α → β → Prop} : ∀ {xs : List α} {us : List β} {i : Nat} {u : β}, Paired F xs us → us[i]? = some u → ∃ x, xs[i]? = some x ∧ F x u
  | _, _, _, _, .nil, e => by simp at e
  | _, _, 0, _, .cons r _, e => by simp at e; subst e; exact ⟨_, rfl, r⟩
  | _, _, i + 1, u, .cons _ t, e => by
    obtain ⟨x, h1, h2⟩ := paired_get (i := i) (u := u) t (by simpa using e)
    exact ⟨x, by simpa using h1, h2⟩
theorem paired_get2 {α β : Type} {F : α → β → Prop} : ∀ {xs : List α} {us : List β} {i : Nat} {x : α}, Paired F xs us → xs[i]? = some x → ∃ u, us[i]? = some u ∧ F x u
  | _, _, _, _, .nil, e => by simp at e
  | _, _, 0, _, .cons r _, e => by simp at e; subst e; exact ⟨_, rfl, r⟩
  | _, _, i + 1, x, .cons _ t, e => by
    obtain ⟨u, h1, h2⟩ := paired_get2 (i := i) (x := x) t (by simpa using e)
    exact ⟨u, by simpa using h1, h2⟩
theorem paired_len {α β : Type} {F : α → β → Prop} : ∀ {xs : List α} {us : List β}, Paired F xs us → xs.length = us.length
  | _, _, .nil => rfl
  | _, _, .cons _ t => by simp [paired_len t]
theorem paired_snoc {α β : Type} {F : α → β → Prop} {x : α} {u : β} (h : F x u) : ∀ {xs : List α} {us : List β}, Paired F xs us → Paired F (xs ++ [x]) (us ++ [u])
  | _, _, .nil => .cons h .nil
  | _, _, .cons r t => .cons r (paired_snoc h t)
/-- a value that isinstance may be asked of -/
def Pl (H : Hp) : V → Prop
  | .non => True
  | .bl _ => True
  | .int _ => True
  | .str s => s.length ≤ 1000
  | .ref a => (∃ xs, H a = some (.lst xs)) ∨ ∃ xs, H a = some (.tup xs)
  | _ => False
theorem Pl.same {H H' : Hp} (e : Same H H') : ∀ {v : V}, Pl H v → Pl H' v
  | .non, h => h
  | .bl _, h => h
  | .int _, h => h
  | .str _, h => h
  | .ref a, h => by
    rcases h with ⟨xs, h⟩ | ⟨xs, h⟩
    · exact .inl ⟨xs, e _ _ h⟩
    · exact .inr ⟨xs, e _ _ h⟩
  | .byt _, h => h.elim
  | .flt _, h => h.elim
  | .ty _, h => h.elim
def isStr : V → Bool
  | .str _ => true
  | _ => false
def isTup (H : Hp) : V → Bool
  | .ref a => match H a with
    | some (.tup _) => true
    | _ => false
  | _ => false
theorem kbs1 : kitB "NoneType" "str" = some false := by decide +kernel
theorem kbs2 : kitB "bool" "str" = some false := by decide +kernel
theorem kbs3 : kitB "int" "str" = some false := by decide +kernel
theorem kbs4 : kitB "str" "str" = some true := by decide +kernel
theorem kbs5 : kitB "list" "str" = some false := by decide +kernel
theorem kbs6 : kitB "tuple" "str" = some false := by decide +kernel
theorem kbt1 : kitB "NoneType" "tuple" = some false := by decide +kernel
theorem kbt2 : kitB "bool" "tuple" = some false := by decide +kernel
theorem kbt3 : kitB "int" "tuple" = some false := by decide +kernel
theorem kbt4 : kitB "str" "tuple" = some false := by decide +kernel
theorem kbt5 : kitB "list" "tuple" = some false := by decide +kernel
theorem kbt6 : kitB "tuple" "tuple" = some true := by decide +kernel
theorem isTup_lst {H : Hp} {a : Addr} {xs : List V} (h : H a = some (.lst xs)) : isTup H (.ref a) = false := by simp [isTup, h]
theorem isTup_tup {H : Hp} {a : Addr} {xs : List V} (h : H a = some (.tup xs)) : isTup H (.ref a) = true := by simp [isTup, h]
theorem pl_str {K : PySem.W.Frag} {H : Hp} : ∀ {v : V}, Pl H v → ∃ t, TyX K H v t ∧ PySem.W.kitOne K t (.type "str") = some (isStr v)
  | .non, _ => ⟨_, .base .non, kit_ty kbs1⟩
  | .bl b, _ => ⟨_, .base (.bl b), kit_ty kbs2⟩
  | .int i, _ => ⟨_, .base (.int i), kit_ty kbs3⟩
  | .str s, _ => ⟨_, .base (.str s), kit_ty kbs4⟩
  | .ref a, h => by
    rcases h with ⟨xs, h⟩ | ⟨xs, h⟩
    · exact ⟨_, .base (.lst h), kit_ty kbs5⟩
    · exact ⟨_, .base (.tup h), kit_ty kbs6⟩
  | .byt _, h => h.elim
  | .flt _, h => h.elim
  | .ty _, h => h.elim
theorem pl_tup {K : PySem.W.Frag} {H : Hp} : ∀ {v : V}, Pl H v → ∃ t, TyX K H v t ∧ PySem.W.kitOne K t (.type "tuple") = some (isTup H v)
  | .non, _ => ⟨_, .base .non, kit_ty kbt1⟩
  | .bl b, _ => ⟨_, .base (.bl b), kit_ty kbt2⟩
  | .int i, _ => ⟨_, .base (.int i), kit_ty kbt3⟩
  | .str s, _ => ⟨_, .base (.str s), kit_ty kbt4⟩
  | .ref a, h => by
    rcases h with ⟨xs, h⟩ | ⟨xs, h⟩
    · exact ⟨_, .base (.lst h), by rw [isTup_lst h]; exact kit_ty kbt5⟩
    · exact ⟨_, .base (.tup h), by rw [isTup_tup h]; exact kit_ty kbt6⟩
  | .byt _, h => h.elim
  | .flt _, h => h.elim
  | .ty _, h => h.elim
def isWordV : V → Bool
  | .str s => wordOk s
  | _ => false
/-- what _is_nested answers -/
def nestedB (H : Hp) : Nat → V → Bool
  | 0, .str s => decide (s = "all" ∨ s = "none") || wordOk s
  | 0, _ => false
  | n + 1, .str s => decide (s = "all" ∨ s = "none") || wordOk s
  | n + 1, .ref a => match H a with
    | some (.tup (.str k :: x :: y :: r)) =>
      if k = "some" then decide (r = []) && (isWordV x && nestedB H n y)
      else if k = "and" then (x :: y :: r).all (nestedB H n) else false
    | _ => false
  | _ + 1, _ => false
theorem nestedB_str {H : Hp} {n : Nat} {s : Str} : nestedB H n (.str s) = (decide (s = "all" ∨ s = "none") || wordOk s) := by cases n <;> rfl
/-- known so deep that it can be asked -/
def Kn (H : Hp) : Nat → V → Prop
  | 0, v => Pl H v ∧ ∀ a xs, v = .ref a → H a ≠ some (.tup xs)
  | m + 1, v => Pl H v ∧ ∀ a xs, v = .ref a → H a = some (.tup xs) → ∀ x ∈ xs, Kn H m x
theorem Kn.pl {H : Hp} : ∀ {m : Nat} {v : V}, Kn H m v → Pl H v
  | 0, _, h => h.1
  | _ + 1, _, h => h.1
theorem Kn.same {H H' : Hp} (e : Same H H') : ∀ {m : Nat} {v : V}, Kn H m v → Kn H' m v
  | 0, v, h => ⟨h.1.same e, fun a xs hv q => by
    subst hv
    rcases h.1 with ⟨ys, g⟩ | ⟨ys, g⟩
    · rw [e _ _ g] at q; cases q
    · exact h.2 _ _ rfl g⟩
  | m + 1, v, h => ⟨h.1.same e, fun a xs hv q x hx => by
    subst hv
    rcases h.1 with ⟨ys, g⟩ | ⟨ys, g⟩
    · rw [e _ _ g] at q; cases q
    · have q' := e _ _ g
      rw [q] at q'
      cases q'
      exact Kn.same e (h.2 _ _ rfl g x hx)⟩
theorem nestedB_same {H H' : Hp} (e : Same H H') : ∀ {n m : Nat} {v : V}, Kn H m v → nestedB H' n v = nestedB H n v
  | n, m, .str s, _ => by rw [nestedB_str, nestedB_str]
  | 0, m, .ref a, _ => rfl
  | n + 1, m, .ref a, h => by
    rcases h.pl with ⟨ys, g⟩ | ⟨ys, g⟩
    · simp only [nestedB, g, e _ _ g]
    · have hk : ∀ x ∈ ys, ∃ m', Kn H m' x := by
        cases m with
        | zero => exact (h.2 _ _ rfl g).elim
        | succ m => exact fun x hx => ⟨m, h.2 _ _ rfl g x hx⟩
      simp only [nestedB, g, e _ _ g]
      split
      · rename_i k x y r hz
        cases hz
        have key : ∀ z ∈ (x :: y :: r), nestedB H' n z = nestedB H n z := fun z hz => by
          obtain ⟨m', q⟩ := hk z (List.mem_cons_of_mem _ hz)
          exact nestedB_same e q
        rw [key y (by simp)]
        have e2 : (x :: y :: r).all (nestedB H' n) = (x :: y :: r).all (nestedB H n) := by
          rw [Bool.eq_iff_iff, List.all_eq_true, List.all_eq_true]
          exact ⟨fun z w hw => (key w hw) ▸ z w hw, fun z w hw => (key w hw).symm ▸ z w hw⟩
        rw [e2]
      · rfl
  | 0, m, .non, _ => rfl
  | 0, m, .bl _, _ => rfl
  | 0, m, .int _, _ => rfl
  | 0, m, .byt _, _ => rfl
  | 0, m, .flt _, _ => rfl
  | 0, m, .ty _, _ => rfl
  | n + 1, m, .non, _ => rfl
  | n + 1, m, .bl _, _ => rfl
  | n + 1, m, .int _, _ => rfl
  | n + 1, m, .byt _, _ => rfl
  | n + 1, m, .flt _, _ => rfl
  | n + 1, m, .ty _, _ => rfl
/-- the value v stands for the concept c -/
def ConAt (H : Hp) : Con → V → Prop
  | .atom s, v => v = .str s ∧ s.length ≤ 12
  | .ex r c, v => ∃ p u, v = .ref p ∧ H p = some (.tup [.str "some", .str r, u]) ∧ ConAt H c u ∧ r.length ≤ 12
  | .and2 a b, v => ∃ p u1 u2, v = .ref p ∧ H p = some (.tup [.str "and", u1, u2]) ∧ ConAt H a u1 ∧ ConAt H b u2
  | .and3 a b c, v => ∃ p u1 u2 u3, v = .ref p ∧ H p = some (.tup [.str "and", u1, u2, u3]) ∧ ConAt H a u1 ∧ ConAt H b u2 ∧ ConAt H c u3
theorem ConAt.same {H H' : Hp} (e : Same H H') : ∀ {c : Con} {v : V}, ConAt H c v → ConAt H' c v
  | .atom s, v, h => h
  | .ex r c, v, ⟨p, u, h1, h2, h3, h9⟩ => ⟨p, u, h1, e _ _ h2, h3.same e, h9⟩
  | .and2 a b, v, ⟨p, u1, u2, h1, h2, h3, h4⟩ => ⟨p, u1, u2, h1, e _ _ h2, h3.same e, h4.same e⟩
  | .and3 a b c, v, ⟨p, u1, u2, u3, h1, h2, h3, h4, h5⟩ => ⟨p, u1, u2, u3, h1, e _ _ h2, h3.same e, h4.same e, h5.same e⟩
def kids : Con → List Con
  | .atom _ => []
  | .ex _ c => [c]
  | .and2 a b => [a, b]
  | .and3 a b c => [a, b, c]
theorem con_pl {H : Hp} : ∀ {c : Con} {v : V}, ConAt H c v → Pl H v
  | .atom s, v, h => by
    obtain ⟨rfl, h⟩ := h
    exact Nat.le_trans h (by decide)
  | .ex r c, v, ⟨p, u, h1, h2, h3, h9⟩ => by subst h1; exact .inr ⟨_, h2⟩
  | .and2 a b, v, ⟨p, u1, u2, h1, h2, _⟩ => by subst h1; exact .inr ⟨_, h2⟩
  | .and3 a b c, v, ⟨p, u1, u2, u3, h1, h2, _⟩ => by subst h1; exact .inr ⟨_, h2⟩
theorem kn_str {H : Hp} {m : Nat} {s : Str} (h : s.length ≤ 1000) : Kn H m (.str s) := by
  cases m with
  | zero => exact ⟨h, fun _ _ z => nomatch z⟩
  | succ m => exact ⟨h, fun _ _ z => nomatch z⟩
theorem con_kn {H : Hp} : ∀ {c : Con} {v : V} {m : Nat}, ConAt H c v → nest c ≤ m → Kn H m v
  | .atom s, v, m, h, _ => by
    obtain ⟨rfl, h⟩ := h
    exact kn_str (Nat.le_trans h (by decide))
  | .ex r c, v, m, ⟨p, u, h1, h2, h3, h9⟩, hm => by
    subst h1
    cases m with
    | zero => exact absurd hm (by simp [nest])
    | succ m =>
      refine ⟨.inr ⟨_, h2⟩, fun a xs e q x hx => ?_⟩
      cases e
      rw [h2] at q
      cases q
      simp only [List.mem_cons, List.not_mem_nil, or_false] at hx
      rcases hx with rfl | rfl | rfl
      · exact kn_str (by decide +kernel)
      · exact kn_str (Nat.le_trans h9 (by decide))
      · exact con_kn h3 (by simp only [nest] at hm; omega)
  | .and2 a b, v, m, ⟨p, u1, u2, h1, h2, h3, h4⟩, hm => by
    subst h1
    cases m with
    | zero => exact absurd hm (by simp [nest])
    | succ m =>
      refine ⟨.inr ⟨_, h2⟩, fun a xs e q x hx => ?_⟩
      cases e
      rw [h2] at q
      cases q
      simp only [List.mem_cons, List.not_mem_nil, or_false] at hx
      simp only [nest] at hm
      rcases hx with rfl | rfl | rfl
      · exact kn_str (by decide +kernel)
      · exact con_kn h3 (by omega)
      · exact con_kn h4 (by omega)
  | .and3 a b c, v, m, ⟨p, u1, u2, u3, h1, h2, h3, h4, h5⟩, hm => by
    subst h1
    cases m with
    | zero => exact absurd hm (by simp [nest])
    | succ m =>
      refine ⟨.inr ⟨_, h2⟩, fun a xs e q x hx => ?_⟩
      cases e
      rw [h2] at q
      cases q
      simp only [List.mem_cons, List.not_mem_nil, or_false] at hx
      simp only [nest] at hm
      rcases hx with rfl | rfl | rfl | rfl
      · exact kn_str (by decide +kernel)
      · exact con_kn h3 (by omega)
      · exact con_kn h4 (by omega)
      · exact con_kn h5 (by omega)
theorem con_nested {N R : List Str} (hN : ∀ x ∈ N, wordOk x = true) (hR : ∀ x ∈ R, wordOk x = true) {H : Hp} : ∀ {c : Con} {v : V} {n : Nat}, In N R c → ConAt H c v → nest c ≤ n → nestedB H n v = true
  | .atom s, v, n, hi, h, _ => by
    obtain ⟨rfl, h'⟩ := h
    rw [nestedB_str]
    rcases hi with h | h | h
    · rw [h]; decide +kernel
    · rw [h]; decide +kernel
    · rw [hN _ h, Bool.or_true]
  | .ex r c, v, n, hi, ⟨p, u, h1, h2, h3, h9⟩, hm => by
    subst h1
    cases n with
    | zero => exact absurd hm (by simp [nest])
    | succ n =>
      have ih := con_nested hN hR hi.2 h3 (n := n) (by simp only [nest] at hm; omega)
      simp [nestedB, h2, isWordV, hR _ hi.1, ih]
  | .and2 a b, v, n, hi, ⟨p, u1, u2, h1, h2, h3, h4⟩, hm => by
    subst h1
    cases n with
    | zero => exact absurd hm (by simp [nest])
    | succ n =>
      simp only [nest] at hm
      have i1 := con_nested hN hR hi.1 h3 (n := n) (by omega)
      have i2 := con_nested hN hR hi.2 h4 (n := n) (by omega)
      have e : ¬ (("and" : Str) = "some") := by decide +kernel
      simp [nestedB, h2, i1, i2, e]
  | .and3 a b c, v, n, hi, ⟨p, u1, u2, u3, h1, h2, h3, h4, h5⟩, hm => by
    subst h1
    cases n with
    | zero => exact absurd hm (by simp [nest])
    | succ n =>
      simp only [nest] at hm
      have i1 := con_nested hN hR hi.1 h3 (n := n) (by omega)
      have i2 := con_nested hN hR hi.2.1 h4 (n := n) (by omega)
      have i3 := con_nested hN hR hi.2.2 h5 (n := n) (by omega)
      have e : ¬ (("and" : Str) = "some") := by decide +kernel
      simp [nestedB, h2, i1, i2, i3, e]
end K1
namespace K1
open PySem L2
theorem inV_str (s : Str) : ∀ l : List Str, inV (.str s) (l.map V.str) = decide (s ∈ l)
  | [] => by simp [inV]
  | x :: l => by
    have ih := inV_str s l
    unfold inV at ih ⊢
    rw [List.map_cons, List.any_cons, ih]
    by_cases h : x = s
    · subst h; simp [eqV]
    · have h' : ¬ s = x := fun e => h e.symm
      simp [eqV, h, h']
theorem flat_strs : ∀ l : List Str, (l.map V.str).all flatV = true
  | [] => rfl
  | x :: l => by rw [List.map_cons, List.all_cons, flat_strs l]; rfl
section
variable {X : Cx}
/-- a text in a list or tuple of texts -/
def rInT (K : PySem.W.Frag) (neg : Bool) : R2 := fun x y H Q => ∃ (s : Str) (p : Addr) (l : List Str), x = .str s ∧ y = .ref p ∧ (SqL K H p (l.map V.str) ∨ SqT K H p (l.map V.str)) ∧ Q (.bl (if neg then !decide (s ∈ l) else decide (s ∈ l))) H
theorem op_inT : OpR X (compareOp .In) (rInT X.K false) := by
  intro pins s σ H x y v u Q I rx ry h
  obtain ⟨z, p, l, rfl, rfl, hq, q⟩ := h
  exact op_in_seq pins s σ H _ _ v u Q I rx ry ⟨p, l.map V.str, rfl, hq, rfl, flat_strs l, by rw [inV_str]; exact q⟩
theorem op_notInT : OpR X (compareOp .NotIn) (rInT X.K true) := by
  intro pins s σ H x y v u Q I rx ry h
  obtain ⟨z, p, l, rfl, rfl, hq, q⟩ := h
  exact op_notIn_seq pins s σ H _ _ v u Q I rx ry ⟨p, l.map V.str, rfl, hq, rfl, flat_strs l, by rw [inV_str]; exact q⟩
end
/-- the same within a comprehension -/
theorem op_inTK {X : Cx} {K : PySem.W.Frag} (h : X.K = K) : OpR X (compareOp .In) (rInT K false) := by subst h; exact op_inT
theorem op_notInTK {X : Cx} {K : PySem.W.Frag} (h : X.K = K) : OpR X (compareOp .NotIn) (rInT K true) := by subst h; exact op_notInT
theorem ix_listK {X : Cx} {K : PySem.W.Frag} (h : X.K = K) : IxR X (rIxL K) := by subst h; exact ix_list
theorem lt_a (c : Nat) : decide (([c] : List Nat) < ("a" : Str).cps.toList) = decide (c < 97) := by
  have e : ("a" : Str).cps.toList = [97] := by decide +kernel
  rw [e]
  by_cases h : c < 97
  · rw [decide_eq_true h]
    exact decide_eq_true (List.Lex.rel h)
  · rw [decide_eq_false h, decide_eq_false]
    intro z
    cases z with
    | rel z => exact h z
    | cons z => cases z
theorem lt_z (c : Nat) : decide (("z" : Str).cps.toList < ([c] : List Nat)) = decide (122 < c) := by
  have e : ("z" : Str).cps.toList = [122] := by decide +kernel
  rw [e]
  by_cases h : 122 < c
  · rw [decide_eq_true h]
    exact decide_eq_true (List.Lex.rel h)
  · rw [decide_eq_false h, decide_eq_false]
    intro z
    cases z with
    | rel z => exact h z
    | cons z => cases z
theorem letters_snoc {l : List Nat} {c : Nat} : letters (l ++ [c]) = (letters l && (decide (97 ≤ c) && decide (c ≤ 122))) := by
  unfold letters
  rw [List.all_append]
  simp
theorem letters_get {l : List Nat} {i c : Nat} (h : letters l = true) (hc : l[i]? = some c) : 97 ≤ c ∧ c ≤ 122 := by
  unfold letters at h
  rw [List.all_eq_true] at h
  have := h c (List.mem_of_getElem? hc)
  simpa using this
end K1
namespace K1
open PySem L2
section
variable {P : Program} {w : World} {K : PySem.W.Frag} {mg : Str → Option Value} {base : Heap}
/-! ### is_word -/
def spIsWord : Sp := fun vs H Q _ => ∃ v, vs = [v] ∧ Pl H v ∧ Q (.bl (isWordV v)) H
theorem ok_is_word (D : Defs K mg) : FnOk P w K mg base CX0 1 D.d_is_word.f D.d_is_word.fd ["thing"] spIsWord := by
  refine D.d_is_word.F.ok sc_is_word (fun vs H Q E h => ?_) (fun cdv A outer s H vs Q E hr h => ?_)
  · obtain ⟨v, rfl, _⟩ := h
    rfl
  obtain ⟨v, rfl, hp, q⟩ := h
  obtain ⟨tL, hL⟩ := D.lo_m
  refine ⟨_, pss_cons (ps_if (PW.pt (pw_or (pt_not (pt_val (pe_callB call_isi (by rfl) D.z_isinstance (by decide +kernel) (pa_cons (pv 0) (pa_cons (pe_bltn (v := .ty "str") (by rfl) D.z_str (by decide +kernel) rfl) pa_nil)))))
      (pw_or (pt_not (pt_chain op_le op_le pe_int (pe_callB call_len_str (by rfl) D.z_len PySem.boot_len (pa_cons (pv 0) pa_nil)) (pe_glob (v := .int 12) (by rfl) hL ⟨_, rfl⟩)))
        (pw_or1 (pt_cmpR op_inT (pv 0) (pe_glob (v := .ref D.nw) (by rfl) D.nw_m rfl) (by rfl))))))
      (pss_one (ps_ret pe_bl)) pss_nil)
    (pss_cons (ps_for PassesOwn.never rfl (pi_str (pv 0)) (pg_name (i := 1) sc_is_word.nd rfl (Or.inl rfl))
        (pss_one (ps_if (pt_not (pt_chain op_le_str op_le_str pe_str (pv 1) pe_str)) (pss_one (ps_ret pe_bl)) pss_nil)))
    (pss_one (ps_ret pe_bl))), ?_⟩
  obtain ⟨t, ty, kt⟩ := pl_str (K := K) hp
  refine ⟨_, rfl, _, _, _, _, _, rfl, .ty _, ty, kt, _, rfl, ?_⟩
  cases e : isStr v with
  | false =>
    refine iteT (iteT ?_)
    have e2 : isWordV v = false := by cases v <;> first | rfl | (cases e)
    rw [← e2]
    exact q
  | true =>
    obtain ⟨s, rfl⟩ : ∃ s, v = .str s := by cases v <;> first | exact ⟨_, rfl⟩ | (cases e)
    have hl : s.length ≤ 1000 := hp
    refine iteF ?_
    refine ⟨_, rfl, _, rfl, Nat.le_of_lt (small1000 hl), _, _, rfl, rfl, _, rfl, ?_⟩
    have ret : ∀ b, wordOk s = b → Q (.bl b) H := fun b hb => by rw [← hb]; exact q
    by_cases c1 : (1 : Int) ≤ (s.length : Int)
    · rw [decide_eq_true c1]
      refine iteT ⟨_, _, rfl, rfl, _, rfl, ?_⟩
      by_cases c2 : (s.length : Int) ≤ 12
      · rw [decide_eq_true c2]
        refine iteF ⟨_, rfl, s, D.nw, noWords, rfl, rfl, .inr (sqt_k D.nw_l), _, rfl, ?_⟩
        by_cases c3 : s ∈ noWords
        · rw [decide_eq_true c3]
          refine iteT ?_
          refine ret _ ?_
          unfold wordOk
          rw [decide_eq_true c3]
          simp
        rw [decide_eq_false c3]
        refine iteF ?_
        have all : letters (cs s) = true → wordOk s = true := fun hz => by
          unfold wordOk
          rw [decide_eq_true (show 1 ≤ s.length by omega), decide_eq_true (show s.length ≤ 12 by omega), decide_eq_false c3, hz]
          rfl
        have some_no : letters (cs s) = false → wordOk s = false := fun hz => by
          unfold wordOk
          rw [hz, Bool.and_false]
        refine ⟨_, rfl, s, rfl, for_it walk_str (fun i σ H2 => H2 = H ∧ (∃ o, σ = [some (.str s), o]) ∧ letters ((cs s).take i) = true) ⟨rfl, ⟨none, rfl⟩, rfl⟩ (fun _ _ _ _ _ => trivial) ?_ ?_⟩
        · rintro i x σ H1 H2 hi ⟨rfl, ⟨o, rfl⟩, hle⟩ ⟨rfl, c, hc, rfl⟩
          have hc' : (cs s)[i]? = some c := by rw [Array.getElem?_toList]; exact hc
          refine ⟨_, rfl, _, _, rfl, rfl, _, rfl, ?_⟩
          rw [lt_a]
          by_cases d1 : c < 97
          · rw [decide_eq_true d1]
            refine iteF ⟨_, rfl, ?_⟩
            refine iteT (ret _ (some_no ?_))
            cases hz : letters (cs s) with
            | false => rfl
            | true => have := letters_get hz hc'; omega
          · rw [decide_eq_false d1]
            refine iteT ⟨_, _, rfl, rfl, _, rfl, ?_⟩
            rw [lt_z]
            by_cases d2 : 122 < c
            · rw [decide_eq_true d2]
              refine iteT (ret _ (some_no ?_))
              cases hz : letters (cs s) with
              | false => rfl
              | true => have := letters_get hz hc'; omega
            · rw [decide_eq_false d2]
              refine iteF ⟨rfl, ⟨_, rfl⟩, ?_⟩
              rw [take_more hc', letters_snoc, hle, decide_eq_true (show 97 ≤ c by omega), decide_eq_true (show c ≤ 122 by omega)]
              rfl
        · rintro σ H1 ⟨rfl, ⟨o, rfl⟩, hle⟩
          refine ret _ (all ?_)
          have e : (cs s).take s.cps.size = cs s := by rw [List.take_of_length_le]; simp
          rw [e] at hle
          exact hle
      · rw [decide_eq_false c2]
        refine iteT (iteT ?_)
        refine ret _ ?_
        unfold wordOk
        rw [decide_eq_false (show ¬ s.length ≤ 12 by omega)]
        simp
    · rw [decide_eq_false c1]
      refine iteF ⟨_, rfl, ?_⟩
      refine iteT (iteT ?_)
      refine ret _ ?_
      unfold wordOk
      rw [decide_eq_false (show ¬ 1 ≤ s.length by omega)]
      simp
end
end K1
namespace K1
open PySem L2
section
variable {P : Program} {w : World} {K : PySem.W.Frag} {mg : Str → Option Value} {base : Heap}
theorem none_left {CX : CXT} {k : Nat} {f : Addr} {fd : FuncData} {ps : List Str} {sp : Sp} (no : ∀ vs H Q E, ¬ sp vs H Q E) : FnOk P w K mg base CX k f fd ps sp :=
  ⟨fun vs H Q E h => absurd h (no vs H Q E), fun A outer s H args us vs Q E _ _ _ _ h => absurd h (no vs H Q E)⟩
/-! ### _is_nested -/
def spN : Nat → Sp
  | 0 => fun _ _ _ _ => False
  | n + 1 => fun vs H Q _ => ∃ (v : V) (L : Nat), vs = [v, .int (L : Int)] ∧ Kn H n v ∧ ∀ H', Same H H' → Q (.bl (nestedB H L v)) H'
theorem ok_nested (D : Defs K mg) : ∀ n, FnOk P w K mg base CX0 (n + 1) D.d_is_nested.f D.d_is_nested.fd ["thing", "levels"] (spN n)
  | 0 => none_left fun _ _ _ _ h => h
  | n + 1 => by
    have G := ok_nested D n
    have GW := ok_is_word (P := P) (w := w) (base := base) D
    refine D.d_is_nested.F.ok sc_is_nested (fun vs H Q E h => ?_) (fun cdv A outer s H vs Q E hr h => ?_)
    · obtain ⟨v, L, rfl, _⟩ := h
      rfl
    obtain ⟨v, L, rfl, hk, q⟩ := h
    have hr1 : Room 1 _ := hr.mono (by omega)
    refine ⟨_, pss_cons (ps_if (pt_val (pe_callB call_isi (by rfl) D.z_isinstance (by decide +kernel) (pa_cons (pv 0) (pa_cons (pe_bltn (v := .ty "str") (by rfl) D.z_str (by decide +kernel) rfl) pa_nil))))
        (pss_one (ps_ret (pe_or (pe_cmpR op_inT (pv 0) (pe_tup (pa_cons pe_str (pa_cons pe_str pa_nil))) (by rfl)) (pe_one (pe_call GW hr1 rfl D.d_is_word.m D.d_is_word.F.kp D.d_is_word.b .nil pass0 (pa_cons (pv 0) pa_nil)))))) pss_nil)
      (pss_cons (ps_if (PW.pt (pw_or (pt_not (pt_val (pe_callB call_isi (by rfl) D.z_isinstance (by decide +kernel) (pa_cons (pv 0) (pa_cons (pe_bltn (v := .ty "tuple") (by rfl) D.z_tuple (by decide +kernel) rfl) pa_nil)))))
          (pw_or (pt_cmpR op_eq (pv 1) pe_int (nomark _))
          (pw_or (pt_cmpR op_lt (pe_callB call_len_seq (by rfl) D.z_len PySem.boot_len (pa_cons (pv 0) pa_nil)) pe_int (nomark _))
          (pw_or1 (pt_not (pt_val (pe_callB call_isi (by rfl) D.z_isinstance (by decide +kernel) (pa_cons (pe_ix ix_tup (pv 0) pe_int (fun _ _ => rfl)) (pa_cons (pe_bltn (v := .ty "str") (by rfl) D.z_str (by decide +kernel) rfl) pa_nil))))))))))
        (pss_one (ps_ret pe_bl)) pss_nil)
      (pss_cons (ps_if (pt_cmpR op_eq (pe_ix ix_tup (pv 0) pe_int (fun _ _ => rfl)) pe_str (nomark _))
        (pss_one (ps_ret (pe_and (pe_cmpR op_eq (pe_callB call_len_seq (by rfl) D.z_len PySem.boot_len (pa_cons (pv 0) pa_nil)) pe_int (nomark _))
          (pe_and (pe_call GW hr1 rfl D.d_is_word.m D.d_is_word.F.kp D.d_is_word.b .nil pass0 (pa_cons (pe_ix ix_tup (pv 0) pe_int (fun _ _ => rfl)) pa_nil))
          (pe_one (pe_call G hr rfl D.d_is_nested.m D.d_is_nested.F.kp D.d_is_nested.b .nil pass0 (pa_cons (pe_ix ix_tup (pv 0) pe_int (fun _ _ => rfl)) (pa_cons (pe_op op_sub (pv 1) pe_int) pa_nil)))))))) pss_nil)
      (pss_cons (ps_if (pt_cmpR op_ne (pe_ix ix_tup (pv 0) pe_int (fun _ _ => rfl)) pe_str (nomark _)) (pss_one (ps_ret pe_bl)) pss_nil)
      (pss_cons (ps_for PassesOwn.never rfl (pi_tup (pe_slice sl_tup (pv 0) (po_some pe_int) po_none)) (pg_name (i := 2) sc_is_nested.nd rfl (Or.inl rfl))
        (pss_one (ps_if (pt_not (pt_val (pe_call G hr rfl D.d_is_nested.m D.d_is_nested.F.kp D.d_is_nested.b .nil pass0 (pa_cons (pv 2) (pa_cons (pe_op op_sub (pv 1) pe_int) pa_nil))))) (pss_one (ps_ret pe_bl)) pss_nil)))
      (pss_one (ps_ret pe_bl)))))), ?_⟩
    obtain ⟨t, ty, kt⟩ := pl_str (K := K) hk.pl
    refine ⟨_, rfl, _, _, _, _, _, rfl, .ty _, ty, kt, _, rfl, ?_⟩
    cases e : isStr v with
    | true =>
      obtain ⟨s, rfl⟩ : ∃ s, v = .str s := by cases v <;> first | exact ⟨_, rfl⟩ | (cases e)
      rw [nestedB_str] at q
      refine iteT ⟨_, rfl, (by show 2 ≤ sizeLine; decide), fun p hp => ⟨s, p, ["all", "none"], rfl, rfl, .inr (SqT.of upd_same), _, rfl, ?_⟩⟩
      have em : decide (s ∈ (["all", "none"] : List Str)) = decide (s = "all" ∨ s = "none") := by simp
      by_cases c : s = "all" ∨ s = "none"
      · rw [em, decide_eq_true c]
        refine iteT ?_
        rw [decide_eq_true c] at q
        exact q _ (same_new hp _)
      · rw [em, decide_eq_false c]
        refine iteF ⟨_, rfl, _, rfl, hk.pl.same (same_new hp _), ?_⟩
        rw [decide_eq_false c] at q
        exact q _ (same_new hp _)
    | false =>
      refine iteF ?_
      obtain ⟨t2, ty2, kt2⟩ := pl_tup (K := K) hk.pl
      refine ⟨_, rfl, _, _, _, _, _, rfl, .ty _, ty2, kt2, _, rfl, ?_⟩
      have ret : ∀ b, nestedB H L v = b → Q (.bl b) H := fun b hb => by rw [← hb]; exact q H (Same.refl H)
      cases e2 : isTup H v with
      | false =>
        refine iteT (iteT (ret _ ?_))
        cases L with
        | zero => cases v <;> first | rfl | (cases e)
        | succ L =>
          cases v <;> first | rfl | (cases e) | skip
          rename_i a
          rcases hk.pl with ⟨xs, g⟩ | ⟨xs, g⟩
          · simp [nestedB, g]
          · rw [isTup_tup g] at e2
            cases e2
      | true =>
        obtain ⟨a, xs, rfl, ha⟩ : ∃ a xs, v = .ref a ∧ H a = some (.tup xs) := by
          cases v <;> first | (cases e2) | skip
          rename_i a
          rcases hk.pl with ⟨xs, g⟩ | ⟨xs, g⟩
          · rw [isTup_lst g] at e2
            cases e2
          · exact ⟨a, xs, rfl, g⟩
        refine iteF ⟨_, rfl, rfl, _, rfl, ?_⟩
        cases L with
        | zero =>
          rw [decide_eq_true (show V.int ((0 : Nat) : Int) = V.int 0 from rfl)]
          exact iteT (iteT (ret _ rfl))
        | succ L =>
          rw [decide_eq_false (show ¬ V.int ((L + 1 : Nat) : Int) = V.int 0 from fun z => by injection z with z; omega)]
          refine iteF ⟨_, rfl, a, xs, rfl, .inr (SqT.of ha), _, _, rfl, rfl, _, rfl, ?_⟩
          by_cases c3 : (xs.length : Int) < 3
          · rw [decide_eq_true c3]
            refine iteT (iteT (ret _ ?_))
            rcases xs with _ | ⟨x0, _ | ⟨x1, _ | ⟨x2, r⟩⟩⟩
            · simp [nestedB, ha]
            · cases x0 <;> simp [nestedB, ha]
            · cases x0 <;> simp [nestedB, ha]
            · simp only [List.length_cons] at c3; omega
          · rw [decide_eq_false c3]
            refine iteF ?_
            rcases xs with _ | ⟨x0, _ | ⟨x1, _ | ⟨x2, r⟩⟩⟩
            · exact absurd (by decide : ((0 : Nat) : Int) < 3) c3
            · exact absurd (by decide : ((1 : Nat) : Int) < 3) c3
            · exact absurd (by decide : ((2 : Nat) : Int) < 3) c3
            cases n with
            | zero => exact (hk.2 _ _ rfl ha).elim
            | succ n =>
              have hx := hk.2 _ _ rfl ha
              obtain ⟨t3, ty3, kt3⟩ := pl_str (K := K) (hx x0 (by simp)).pl
              refine ⟨_, rfl, a, _, _, x0, rfl, rfl, SqT.of ha, atI_nat (j := 0) rfl, _, _, _, _, _, rfl, .ty _, ty3, kt3, _, rfl, ?_⟩
              cases e4 : isStr x0 with
              | false =>
                refine iteT (ret _ ?_)
                cases x0 <;> first | (simp [nestedB, ha]; done) | (cases e4)
              | true =>
                obtain ⟨k, rfl⟩ : ∃ s, x0 = .str s := by cases x0 <;> first | exact ⟨_, rfl⟩ | (cases e4)
                refine iteF ?_
                refine ⟨_, rfl, a, _, _, _, rfl, rfl, SqT.of ha, atI_nat (j := 0) rfl, rfl, _, rfl, ?_⟩
                have lev : ((L + 1 : Nat) : Int) - 1 = (L : Int) := by omega
                have levs : ∀ x : V, ([x, V.int (((L + 1 : Nat) : Int) - 1)] ++ []) = [x, V.int (L : Int)] := fun x => by rw [lev]; rfl
                by_cases ck : k = "some"
                · subst ck
                  rw [decide_eq_true (show V.str ("some" : Str) = V.str "some" from rfl)]
                  refine iteT ⟨_, rfl, a, _, rfl, .inr (SqT.of ha), rfl, _, rfl, ?_⟩
                  have eN : nestedB H (L + 1) (.ref a) = (decide (r = []) && (isWordV x1 && nestedB H L x2)) := by simp [nestedB, ha]
                  by_cases cr : r = []
                  · subst cr
                    rw [decide_eq_true (by rfl)]
                    refine iteT ⟨_, rfl, a, _, _, x1, rfl, rfl, SqT.of ha, atI_nat (j := 1) rfl, _, rfl, (hx x1 (by simp)).pl, _, rfl, ?_⟩
                    cases cw : isWordV x1 with
                    | false =>
                      refine iteF (ret _ ?_)
                      rw [eN, cw]
                      rfl
                    | true =>
                      refine iteT ⟨_, rfl, a, _, _, x2, rfl, rfl, SqT.of ha, atI_nat (j := 2) rfl, _, rfl, _, _, rfl, rfl, x2, L, levs x2, hx x2 (by simp), fun H' g => ?_⟩
                      have z := q H' g
                      rw [eN, cw] at z
                      exact z
                  · have nz : ¬ V.int ((((V.str "some" :: x1 :: x2 :: r).length : Nat) : Int)) = V.int 3 := fun z => by
                      injection z with z
                      simp only [List.length_cons] at z
                      exact cr (List.length_eq_zero_iff.mp (by omega))
                    rw [decide_eq_false nz]
                    refine iteF (ret _ ?_)
                    rw [eN, decide_eq_false cr]
                    rfl
                · rw [decide_eq_false (show ¬ V.str k = V.str "some" from fun z => ck (by injection z))]
                  refine iteF ⟨_, rfl, a, _, _, _, rfl, rfl, SqT.of ha, atI_nat (j := 0) rfl, rfl, _, rfl, ?_⟩
                  by_cases ca : k = "and"
                  · subst ca
                    rw [decide_eq_true (show V.str ("and" : Str) = V.str "and" from rfl)]
                    refine iteF ?_
                    have eN : nestedB H (L + 1) (.ref a) = (x1 :: x2 :: r).all (nestedB H L) := by simp [nestedB, ha, ck]
                    refine ⟨_, rfl, _, rfl, a, _, rfl, SqT.of ha, (by rintro ⟨z, _⟩; simp [HT.sIx] at z), fun p hp => ?_⟩
                    have eC : cutV (V.str "and" :: x1 :: x2 :: r) (some 1) none = x1 :: x2 :: r := by simp [cutV, HT.sIx]
                    have g0 : Same H (upd H p (.tup (cutV (V.str "and" :: x1 :: x2 :: r) (some 1) none))) := same_new hp _
                    rw [eC] at g0
                    have hp' : (upd H p (.tup (cutV (V.str "and" :: x1 :: x2 :: r) (some 1) none))) = upd H p (.tup (x1 :: x2 :: r)) := by rw [eC]
                    rw [hp']
                    refine ⟨p, rfl, ⟨_, SqT.of upd_same⟩, for_tup (xs := x1 :: x2 :: r) (fun i σ H2 => Same (upd H p (.tup (x1 :: x2 :: r))) H2 ∧ (∃ o, σ = [some (.ref a), some (.int ((L + 1 : Nat) : Int)), o]) ∧ ((x1 :: x2 :: r).take i).all (nestedB H L) = true)
                      ⟨Same.refl _, ⟨none, rfl⟩, rfl⟩ (fun i σ H2 _ hh => SqT.of (hh.1 _ _ upd_same)) ?_ ?_⟩
                    · rintro i x σ H2 hi ⟨g, ⟨o, rfl⟩, hall⟩
                      have gg := g0.trans g
                      have hkx : Kn H n x := hx x (List.mem_cons_of_mem _ (List.mem_of_getElem? hi))
                      refine ⟨_, rfl, _, rfl, _, _, rfl, rfl, x, L, levs x, hkx.same gg, fun H3 g3 => ⟨_, rfl, ?_⟩⟩
                      rw [nestedB_same gg hkx]
                      cases cx : nestedB H L x with
                      | false =>
                        refine iteT ?_
                        have z := q H3 (gg.trans g3)
                        rw [eN] at z
                        have e0 : (x1 :: x2 :: r).all (nestedB H L) = false := by
                          rw [← Bool.not_eq_true, List.all_eq_true]
                          intro zz
                          have := zz x (List.mem_of_getElem? hi)
                          rw [cx] at this
                          cases this
                        rw [e0] at z
                        exact z
                      | true =>
                        refine iteF ⟨g.trans g3, ⟨_, rfl⟩, ?_⟩
                        rw [take_more hi, List.all_append, hall]
                        simp [cx]
                    · rintro σ H2 ⟨g, ⟨o, rfl⟩, hall⟩
                      have z := q H2 (g0.trans g)
                      rw [eN] at z
                      rw [List.take_length] at hall
                      rw [hall] at z
                      exact z
                  · rw [decide_eq_false (show ¬ V.str k = V.str "and" from fun z => ca (by injection z))]
                    refine iteT (ret _ ?_)
                    simp [nestedB, ha, ck, ca]
end
end K1
namespace K1
open PySem L2
section
variable {P : Program} {w : World} {K : PySem.W.Frag} {mg : Str → Option Value} {base : Heap}
/-! ### is_concept, need_concept, need_concepts -/
def spIsC : Sp := fun vs H Q _ => ∃ v, vs = [v] ∧ Kn H 9 v ∧ ∀ H', Same H H' → Q (.bl (nestedB H 100 v)) H'
theorem ok_is_concept (D : Defs K mg) : FnOk P w K mg base CX0 12 D.d_is_concept.f D.d_is_concept.fd ["thing"] spIsC := by
  have G := ok_nested (P := P) (w := w) (base := base) D 10
  obtain ⟨tD, hD⟩ := D.de_m
  refine D.d_is_concept.F.ok sc_is_concept (fun vs H Q E h => ?_) (fun cdv A outer s H vs Q E hr h => ?_)
  · obtain ⟨v, rfl, _⟩ := h
    rfl
  obtain ⟨v, rfl, hk, q⟩ := h
  refine ⟨_, pss_one (ps_ret (pe_call G hr rfl D.d_is_nested.m D.d_is_nested.F.kp D.d_is_nested.b .nil pass0 (pa_cons (pv 0) (pa_cons (pe_glob (v := .int 100) (by rfl) hD ⟨_, rfl⟩) pa_nil)))), ?_⟩
  exact ⟨_, rfl, v, 100, rfl, hk, q⟩
def spNeed : Sp := fun vs H Q _ => ∃ v, vs = [v] ∧ Kn H 9 v ∧ nestedB H 100 v = true ∧ ∀ H', Same H H' → Q .non H'
theorem ok_need (D : Defs K mg) : FnOk P w K mg base CX0 13 D.d_need_concept.f D.d_need_concept.fd ["thing"] spNeed := by
  have G := ok_is_concept (P := P) (w := w) (base := base) D
  refine D.d_need_concept.F.ok sc_need_concept (fun vs H Q E h => ?_) (fun cdv A outer s H vs Q E hr h => ?_)
  · obtain ⟨v, rfl, _⟩ := h
    rfl
  obtain ⟨v, rfl, hk, hn, q⟩ := h
  refine ⟨_, pss_one (ps_if (pt_not (pt_val (pe_call G hr rfl D.d_is_concept.m D.d_is_concept.F.kp D.d_is_concept.b .nil pass0 (pa_cons (pv 0) pa_nil)))) (pss_one ps_never) pss_nil), ?_⟩
  refine ⟨_, rfl, v, rfl, hk, fun H' g => ⟨_, rfl, ?_⟩⟩
  rw [hn]
  exact iteF (q H' g)
def spNeeds : Sp := fun vs H Q _ => ∃ p ws, vs = [.ref p] ∧ H p = some (.tup ws) ∧ (∀ v ∈ ws, Kn H 9 v ∧ nestedB H 100 v = true) ∧ ∀ H', Same H H' → Q .non H'
/-! ### inner -/
def KidsAt (H : Hp) (c : Con) (ws : List V) : Prop := Paired (ConAt H) (kids c) ws
theorem kids_same {H H' : Hp} (e : Same H H') : ∀ {ks : List Con} {ws : List V}, Paired (ConAt H) ks ws → Paired (ConAt H') ks ws
  | _, _, .nil => .nil
  | _, _, .cons r t => .cons (r.same e) (kids_same e t)
def spInner : Sp := fun vs H Q _ => ∃ v c, vs = [v] ∧ ConAt H c v ∧ ∀ p ws H', Same H H' → H' p = some (.tup ws) → Paired (ConAt H') (kids c) ws → Q (.ref p) H'
theorem ok_inner (D : Defs K mg) : FnOk P w K mg base CX0 1 D.d_inner.f D.d_inner.fd ["concept"] spInner := by
  refine D.d_inner.F.ok sc_inner (fun vs H Q E h => ?_) (fun cdv A outer s H vs Q E hr h => ?_)
  · obtain ⟨v, c, rfl, _⟩ := h
    rfl
  obtain ⟨v, c, rfl, hc, q⟩ := h
  refine ⟨_, pss_cons (ps_if (pt_val (pe_callB call_isi (by rfl) D.z_isinstance (by decide +kernel) (pa_cons (pv 0) (pa_cons (pe_bltn (v := .ty "str") (by rfl) D.z_str (by decide +kernel) rfl) pa_nil)))) (pss_one (ps_ret (pe_tup pa_nil))) pss_nil)
    (pss_one (ps_ret (pe_ifExp (pt_cmpR op_eq (pe_ix ix_tup (pv 0) pe_int (fun _ _ => rfl)) pe_str (nomark _)) (pe_slice sl_tup (pv 0) (po_some pe_int) po_none) (pe_slice sl_tup (pv 0) (po_some pe_int) po_none)))), ?_⟩
  obtain ⟨t, ty, kt⟩ := pl_str (K := K) (con_pl hc)
  refine ⟨_, rfl, _, _, _, _, _, rfl, .ty _, ty, kt, _, rfl, ?_⟩
  have sl1 : ∀ (x : V) (xs : List V), cutV (x :: xs) (some 1) none = xs := fun x xs => by simp [cutV, HT.sIx]
  have sl2 : ∀ (x y : V) (xs : List V), cutV (x :: y :: xs) (some 2) none = xs := fun x y xs => by simp [cutV, HT.sIx]
  cases c with
  | atom a =>
    obtain ⟨rfl, hl⟩ := hc
    refine iteT ⟨(by show 0 ≤ sizeLine; decide), fun p hp => ?_⟩
    exact q p [] _ (same_new hp _) upd_same .nil
  | ex r c =>
    obtain ⟨a, u, rfl, ha, hu, hl⟩ := hc
    refine iteF ⟨_, rfl, a, _, _, _, rfl, rfl, SqT.of ha, atI_nat (j := 0) rfl, rfl, _, rfl, ?_⟩
    rw [decide_eq_true (show V.str ("some" : Str) = V.str "some" from rfl)]
    refine iteT ⟨_, rfl, _, rfl, a, _, rfl, SqT.of ha, (by rintro ⟨z, _⟩; simp [HT.sIx] at z), fun p hp => ?_⟩
    rw [sl2]
    exact q p [u] _ (same_new hp _) upd_same (.cons (hu.same (same_new hp _)) .nil)
  | and2 x y =>
    obtain ⟨a, u1, u2, rfl, ha, h1, h2⟩ := hc
    refine iteF ⟨_, rfl, a, _, _, _, rfl, rfl, SqT.of ha, atI_nat (j := 0) rfl, rfl, _, rfl, ?_⟩
    rw [decide_eq_false (show ¬ V.str ("and" : Str) = V.str "some" from fun z => absurd (V.str.inj z) (by decide +kernel))]
    refine iteF ⟨_, rfl, _, rfl, a, _, rfl, SqT.of ha, (by rintro ⟨z, _⟩; simp [HT.sIx] at z), fun p hp => ?_⟩
    rw [sl1]
    exact q p [u1, u2] _ (same_new hp _) upd_same (.cons (h1.same (same_new hp _)) (.cons (h2.same (same_new hp _)) .nil))
  | and3 x y z =>
    obtain ⟨a, u1, u2, u3, rfl, ha, h1, h2, h3⟩ := hc
    refine iteF ⟨_, rfl, a, _, _, _, rfl, rfl, SqT.of ha, atI_nat (j := 0) rfl, rfl, _, rfl, ?_⟩
    rw [decide_eq_false (show ¬ V.str ("and" : Str) = V.str "some" from fun z => absurd (V.str.inj z) (by decide +kernel))]
    refine iteF ⟨_, rfl, _, rfl, a, _, rfl, SqT.of ha, (by rintro ⟨z, _⟩; simp [HT.sIx] at z), fun p hp => ?_⟩
    rw [sl1]
    exact q p [u1, u2, u3] _ (same_new hp _) upd_same (.cons (h1.same (same_new hp _)) (.cons (h2.same (same_new hp _)) (.cons (h3.same (same_new hp _)) .nil)))
end
end K1
namespace K1
open PySem L2
/-! ### texts as Str -/
def sOf (l : List Nat) : Str := ⟨l.toArray⟩
theorem cs_sOf (l : List Nat) : cs (sOf l) = l := by simp [sOf, cs]
theorem sOf_cs (s : Str) : sOf (cs s) = s := str_ext (cs_sOf _)
theorem len_sOf (l : List Nat) : (sOf l).length = l.length := by simp [sOf, Str.length]
theorem len_cs (s : Str) : s.length = (cs s).length := rfl
theorem cs_app (a b : Str) : cs (a ++ b) = cs a ++ cs b := PyProof.Rows.cps_toList_append a b
theorem len_app (a b : Str) : (a ++ b).length = a.length + b.length := by
  rw [len_cs, cs_app, List.length_append]
  rfl
def tS (c : Con) : Str := sOf (txt c)
def pS (c : Con) : Str := sOf (par c)
theorem tS_atom {s : Str} : tS (.atom s) = s := sOf_cs s
theorem pS_eq {c : Con} (h : isAnd c = false) : pS c = tS c := by unfold pS tS; rw [par_no h]
theorem cs_empty : cs Str.empty = [] := rfl
theorem cs_some : cs ("some " : Str) = [115, 111, 109, 101, 32] := by decide +kernel
theorem cs_sp : cs (" " : Str) = [32] := by decide +kernel
theorem cs_lp : cs ("(" : Str) = [40] := by decide +kernel
theorem cs_rp : cs (")" : Str) = [41] := by decide +kernel
theorem cs_amp : cs (" & " : Str) = [32, 38, 32] := by decide +kernel
/-- f'({piece})' -/
theorem paren_is {c : Con} (h : isAnd c = true) : Str.empty ++ "(" ++ tS c ++ ")" = pS c := str_ext (by
  rw [cs_app, cs_app, cs_app, cs_empty, cs_lp, cs_rp]
  unfold tS pS
  rw [cs_sOf, cs_sOf]
  unfold par wrap
  rw [h]
  rfl)
theorem paren_is2 {c : Con} (h : isAnd c = true) : ("(" : Str) ++ tS c ++ ")" = pS c := str_ext (by
  rw [cs_app, cs_app, cs_lp, cs_rp]
  unfold tS pS
  rw [cs_sOf, cs_sOf]
  unfold par wrap
  rw [h]
  rfl)
theorem ex_is {r : Str} {c : Con} : Str.empty ++ "some " ++ r ++ " " ++ pS c = tS (.ex r c) := str_ext (by
  rw [cs_app, cs_app, cs_app, cs_app, cs_empty, cs_some, cs_sp]
  unfold tS pS
  rw [cs_sOf, cs_sOf]
  simp [txt])
theorem ex_is2 {r : Str} {c : Con} : ("some " : Str) ++ r ++ " " ++ pS c = tS (.ex r c) := str_ext (by
  rw [cs_app, cs_app, cs_app, cs_some, cs_sp]
  unfold tS pS
  rw [cs_sOf, cs_sOf]
  simp [txt])
theorem join2 {a b : Con} : PySem.Txt.join " & " [pS a, pS b] = tS (.and2 a b) := str_ext (by
  rw [TL.join_eq]
  show TL.tl (Str.join " & " [pS a, pS b]) = _
  rw [TL.tl_join]
  show TL.joinL (cs " & ") [cs (pS a), cs (pS b)] = _
  rw [cs_amp]
  unfold tS pS
  rw [cs_sOf, cs_sOf, cs_sOf]
  rfl)
theorem join3 {a b c : Con} : PySem.Txt.join " & " [pS a, pS b, pS c] = tS (.and3 a b c) := str_ext (by
  rw [TL.join_eq]
  show TL.tl (Str.join " & " [pS a, pS b, pS c]) = _
  rw [TL.tl_join]
  show TL.joinL (cs " & ") [cs (pS a), cs (pS b), cs (pS c)] = _
  rw [cs_amp]
  unfold tS pS
  rw [cs_sOf, cs_sOf, cs_sOf, cs_sOf]
  rfl)
theorem con_len {H : Hp} : ∀ {c : Con} {v : V}, ConAt H c v → (txt c).length + 2 ≤ 24 * nodes c
  | .atom s, v, ⟨_, h⟩ => by
    have : (cs s).length ≤ 12 := h
    simp only [txt, nodes]
    omega
  | .ex r c, v, ⟨_, _, _, _, h, hr⟩ => by
    have := con_len h
    have : (cs r).length ≤ 12 := hr
    have := wrap_len (isAnd c) (txt c)
    simp only [txt, nodes, List.length_append, List.length_cons, List.length_nil]
    omega
  | .and2 a b, v, ⟨_, _, _, _, _, h1, h2⟩ => by
    have := con_len h1
    have := con_len h2
    have := wrap_len (isAnd a) (txt a)
    have := wrap_len (isAnd b) (txt b)
    simp only [txt, nodes, List.length_append, List.length_cons, List.length_nil]
    omega
  | .and3 a b c, v, ⟨_, _, _, _, _, _, h1, h2, h3⟩ => by
    have := con_len h1
    have := con_len h2
    have := con_len h3
    have := wrap_len (isAnd a) (txt a)
    have := wrap_len (isAnd b) (txt b)
    have := wrap_len (isAnd c) (txt c)
    simp only [txt, nodes, List.length_append, List.length_cons, List.length_nil]
    omega
theorem tS_inj {a b : Con} (ha : Wf a) (hb : Wf b) (h : tS a = tS b) : a = b := txt_inj ha hb (by have := congrArg cs h; unfold tS at this; rwa [cs_sOf, cs_sOf] at this)
/-! ### heaps that keep what stands, but for a few places -/
/-- tuples stay -/
def TSame (H H' : Hp) : Prop := ∀ b xs, H b = some (.tup xs) → H' b = some (.tup xs)
theorem Same.t {H H' : Hp} (e : Same H H') : TSame H H' := fun b xs h => e b _ h
theorem TSame.trans {H H1 H2 : Hp} (a : TSame H H1) (b : TSame H1 H2) : TSame H H2 := fun c xs h => b c xs (a c xs h)
theorem TSame.refl (H : Hp) : TSame H H := fun _ _ h => h
theorem ConAt.t {H H' : Hp} (e : TSame H H') : ∀ {c : Con} {v : V}, ConAt H c v → ConAt H' c v
  | .atom s, v, h => h
  | .ex r c, v, ⟨p, u, h1, h2, h3, h9⟩ => ⟨p, u, h1, e _ _ h2, h3.t e, h9⟩
  | .and2 a b, v, ⟨p, u1, u2, h1, h2, h3, h4⟩ => ⟨p, u1, u2, h1, e _ _ h2, h3.t e, h4.t e⟩
  | .and3 a b c, v, ⟨p, u1, u2, u3, h1, h2, h3, h4, h5⟩ => ⟨p, u1, u2, u3, h1, e _ _ h2, h3.t e, h4.t e, h5.t e⟩
theorem paired_t {H H' : Hp} (e : TSame H H') : ∀ {ks : List Con} {ws : List V}, Paired (ConAt H) ks ws → Paired (ConAt H') ks ws
  | _, _, .nil => .nil
  | _, _, .cons r t => .cons (r.t e) (paired_t e t)
/-- all but what stands at the places of D -/
def But (D : List Addr) (H H' : Hp) : Prop := ∀ b o, b ∉ D → H b = some o → H' b = some o
theorem But.of {D : List Addr} {H H' : Hp} (e : Same H H') : But D H H' := fun b o _ h => e b o h
theorem But.trans {D : List Addr} {H H1 H2 : Hp} (a : But D H H1) (b : But D H1 H2) : But D H H2 := fun c o n h => b c o n (a c o n h)
theorem But.refl {D : List Addr} (H : Hp) : But D H H := fun _ _ _ h => h
theorem But.put {D : List Addr} {H : Hp} {d : Addr} {o : HO} (hd : d ∈ D) : But D H (L2.upd H d o) := fun b u n h => by
  rw [upd_ne (fun e => n (by rw [e]; exact hd))]
  exact h
theorem But.new {D : List Addr} {H : Hp} {d : Addr} {o : HO} (hd : H d = none) : But D H (L2.upd H d o) := But.of (same_new hd o)
theorem But.mono {D D' : List Addr} {H H' : Hp} (a : But D H H') (h : ∀ x ∈ D, x ∈ D') : But D' H H' := fun b o n q => a b o (fun z => n (h b z)) q
/-- a place that was not there may be changed -/
theorem But.drop {D : List Addr} {l : Addr} {H H' : Hp} (a : But (l :: D) H H') (h : H l = none) : But D H H' := fun b o n q => a b o (fun z => by
  rcases List.mem_cons.mp z with rfl | z
  · rw [h] at q; cases q
  · exact n z) q
theorem But.t {D : List Addr} {H H' : Hp} (a : But D H H') (h : ∀ d ∈ D, ∀ xs, H d ≠ some (.tup xs)) : TSame H H' := fun b xs q => a b _ (fun z => h b z xs q) q
/-! ### a dict of texts -/
structure Dk (H : Hp) (d : Addr) (ks : List Str) (kvs : List (Key × V)) : Prop where
  at_ : H d = some (.dK kvs)
  keys : kvs.map (·.1) = ks.map Sum.inr
  nd : ks.Nodup
theorem Dk.len {H : Hp} {d : Addr} {ks : List Str} {kvs : List (Key × V)} (h : Dk H d ks kvs) : kvs.length = ks.length := by
  have := congrArg List.length h.keys
  simpa using this
def addS (ks : List Str) (s : Str) : List Str := if s ∈ ks then ks else ks ++ [s]
theorem mem_addS {ks : List Str} {s x : Str} : x ∈ addS ks s ↔ x ∈ ks ∨ x = s := by
  unfold addS
  split
  · constructor
    · exact .inl
    · rintro (h | rfl)
      · exact h
      · assumption
  · simp
theorem nd_addS {ks : List Str} {s : Str} (h : ks.Nodup) : (addS ks s).Nodup := by
  unfold addS
  split
  · exact h
  · rename_i n
    exact List.nodup_append.mpr ⟨h, by simp, fun a ha b hb e => n (by simp only [List.mem_singleton] at hb; rw [← hb, ← e]; exact ha)⟩
theorem len_addS {ks : List Str} {s : Str} : (addS ks s).length ≤ ks.length + 1 := by
  unfold addS
  split <;> simp
theorem Dk.any {H : Hp} {d : Addr} {ks : List Str} {kvs : List (Key × V)} (h : Dk H d ks kvs) (s : Str) : (kvs.any fun kv => decide (kv.1 = (Sum.inr s : Key))) = decide (s ∈ ks) := by
  rw [Bool.eq_iff_iff, List.any_eq_true, decide_eq_true_eq]
  have hk : (Sum.inr s : Key) ∈ kvs.map (·.1) ↔ s ∈ ks := by
    rw [h.keys, List.mem_map]
    constructor
    · rintro ⟨x, hx, e⟩
      cases e
      exact hx
    · exact fun hx => ⟨s, hx, rfl⟩
  rw [← hk, List.mem_map]
  constructor
  · rintro ⟨kv, h1, h2⟩
    exact ⟨kv, h1, of_decide_eq_true h2⟩
  · rintro ⟨kv, h1, h2⟩
    exact ⟨kv, h1, decide_eq_true h2⟩
theorem Dk.put {H : Hp} {d : Addr} {ks : List Str} {kvs : List (Key × V)} (h : Dk H d ks kvs) (s : Str) (v : V) : Dk (upd H d (.dK (putK kvs (Sum.inr s) v))) d (addS ks s) (putK kvs (Sum.inr s) v) := by
  refine ⟨upd_same, ?_, nd_addS h.nd⟩
  unfold putK addS
  rw [h.any s]
  by_cases c : s ∈ ks
  · rw [if_pos (decide_eq_true c), if_pos c, ← h.keys, List.map_map]
    refine List.map_congr_left fun kv _ => ?_
    show (if kv.1 = (Sum.inr s : Key) then (kv.1, v) else kv).1 = kv.1
    split <;> rfl
  · rw [decide_eq_false c, if_neg Bool.false_ne_true, if_neg c, List.map_append, h.keys, List.map_append]
    rfl
theorem Dk.some {H : Hp} {d : Addr} {ks : List Str} {kvs : List (Key × V)} (h : Dk H d ks kvs) {s : Str} (hs : s ∈ ks) : ∃ v, valV kvs (Sum.inr s : Key) = some v := by
  have := valV_any (Sum.inr s : Key) kvs
  rw [h.any s, decide_eq_true hs] at this
  exact Option.isSome_iff_exists.mp this.symm
theorem Dk.same {H H' : Hp} {d : Addr} {ks : List Str} {kvs : List (Key × V)} (h : Dk H d ks kvs) (e : H' d = H d) : Dk H' d ks kvs := ⟨e.trans h.at_, h.keys, h.nd⟩
end K1
namespace K1
open PySem L2
theorem and_ne_some : ¬ V.str ("and" : Str) = V.str "some" := fun z => absurd (V.str.inj z) (by decide +kernel)
theorem one_ne_and (c : Nat) : ¬ V.str ⟨#[c]⟩ = V.str "and" := fun z => by
  have e := congrArg Str.length (V.str.inj z)
  have e2 : ("and" : Str).length = 3 := by decide +kernel
  rw [e2] at e
  exact absurd (show (1 : Nat) = 3 from e) (by decide)
/-- the values of a dict of texts stand for concepts with these texts -/
def GoodV (H : Hp) (kvs : List (Key × V)) : Prop := ∀ (s : Str) (v : V), valV kvs (Sum.inr s : Key) = some v → ∃ p, Wf p ∧ s = tS p ∧ ConAt H p v
theorem GoodV.t {H H' : Hp} {kvs : List (Key × V)} (g : GoodV H kvs) (e : TSame H H') : GoodV H' kvs := fun s v h => by
  obtain ⟨p, h1, h2, h3⟩ := g s v h
  exact ⟨p, h1, h2, h3.t e⟩
theorem GoodV.put {H H' : Hp} {kvs : List (Key × V)} {c : Con} {v : V} (g : GoodV H kvs) (e : TSame H H') (w : Wf c) (h : ConAt H c v) : GoodV H' (putK kvs (Sum.inr (tS c)) v) := fun s y hy => by
  rw [valV_put] at hy
  by_cases z : (Sum.inr s : Key) = Sum.inr (tS c)
  · rw [if_pos z] at hy
    cases hy
    cases z
    exact ⟨c, w, rfl, h.t e⟩
  · rw [if_neg z] at hy
    obtain ⟨p, h1, h2, h3⟩ := g s y hy
    exact ⟨p, h1, h2, h3.t e⟩
theorem kid_wf {c : Con} (h : Wf c) : ∀ k ∈ kids c, Wf k := by
  cases c with
  | atom s => intro k hk; cases hk
  | ex r c => intro k hk; simp only [kids, List.mem_singleton] at hk; subst hk; exact h.2
  | and2 a b =>
    intro k hk
    simp only [kids, List.mem_cons, List.not_mem_nil, or_false] at hk
    rcases hk with rfl | rfl
    · exact h.1
    · exact h.2
  | and3 a b c =>
    intro k hk
    simp only [kids, List.mem_cons, List.not_mem_nil, or_false] at hk
    rcases hk with rfl | rfl | rfl
    · exact h.1
    · exact h.2.1
    · exact h.2.2
theorem kid_nest {c : Con} : ∀ k ∈ kids c, nest k + 1 ≤ nest c := by
  cases c with
  | atom s => intro k hk; cases hk
  | ex r c => intro k hk; simp only [kids, List.mem_singleton] at hk; subst hk; exact Nat.le_refl _
  | and2 a b =>
    intro k hk
    simp only [kids, List.mem_cons, List.not_mem_nil, or_false] at hk
    rcases hk with rfl | rfl <;> (simp only [nest]; omega)
  | and3 a b c =>
    intro k hk
    simp only [kids, List.mem_cons, List.not_mem_nil, or_false] at hk
    rcases hk with rfl | rfl | rfl <;> (simp only [nest]; omega)
def nodesL (l : List Con) : Nat := (l.map nodes).sum
theorem nodesL_kids {c : Con} : nodesL (kids c) + 1 = nodes c := by
  cases c <;> simp [nodesL, kids, nodes] <;> omega
theorem nodesL_snoc {l : List Con} {k : Con} : nodesL (l ++ [k]) = nodesL l + nodes k := by simp [nodesL]
theorem nodesL_take {l : List Con} : ∀ i, nodesL (l.take i) ≤ nodesL l := by
  induction l with
  | nil => intro i; simp [nodesL]
  | cons x l ih =>
    intro i
    cases i with
    | zero => simp [nodesL]
    | succ i => have := ih i; simp only [nodesL, List.take_succ_cons, List.map_cons, List.sum_cons] at this ⊢; omega
theorem prt_kids {c : Con} : prt c = c :: ((kids c).map prt).flatten := by
  cases c <;> simp [prt, kids]
theorem mem_prt {c p : Con} : p ∈ prt c ↔ p = c ∨ ∃ k ∈ kids c, p ∈ prt k := by
  rw [prt_kids]
  simp only [List.mem_cons, List.mem_flatten, List.mem_map]
  constructor
  · rintro (h | ⟨l, ⟨k, hk, rfl⟩, hp⟩)
    · exact .inl h
    · exact .inr ⟨k, hk, hp⟩
  · rintro (h | ⟨k, hk, hp⟩)
    · exact .inl h
    · exact .inr ⟨_, ⟨k, hk, rfl⟩, hp⟩
section
variable {P : Program} {w : World} {K : PySem.W.Frag} {mg : Str → Option Value} {base : Heap}
/-! ### gather -/
def spG : Nat → Sp
  | 0 => fun _ _ _ _ => False
  | n + 1 => fun vs H Q _ => ∃ (v : V) (c : Con) (d : Addr) (ks : List Str) (kvs : List (Key × V)), vs = [v, .ref d] ∧ ConAt H c v ∧ Wf c ∧ nest c ≤ n ∧ nodes c ≤ 100 ∧ Dk H d ks kvs ∧ GoodV H kvs ∧ ks.length + nodes c ≤ 1000 ∧
    ∀ H' ks' kvs', But [d] H H' → Dk H' d ks' kvs' → GoodV H' kvs' → ks'.length ≤ ks.length + nodes c → (∀ s, s ∈ ks' ↔ s ∈ ks ∨ ∃ p ∈ prt c, s = tS p) → Q (.str (tS c)) H'
end
end K1
namespace K1
open PySem L2
def depL (l : List Con) : Int := l.foldl (fun m k => if dep k > m then dep k else m) 0
theorem depL_snoc {l : List Con} {k : Con} : depL (l ++ [k]) = if dep k > depL l then dep k else depL l := by unfold depL; rw [List.foldl_append]; rfl
def sizL (l : List Con) : Int := l.foldl (fun m k => m + siz k) 0
theorem fold_add : ∀ (l : List Con) (a : Int), l.foldl (fun m k => m + siz k) a = a + sizL l
  | [], a => by simp [sizL]
  | x :: l, a => by
    unfold sizL
    rw [List.foldl_cons, List.foldl_cons, fold_add l (a + siz x), fold_add l (0 + siz x)]
    omega
theorem sizL_snoc {l : List Con} {k : Con} : sizL (l ++ [k]) = sizL l + siz k := by unfold sizL; rw [List.foldl_append]; rfl
def isEx : Con → Bool
  | .ex _ _ => true
  | _ => false
theorem dep_kids {c : Con} : dep c = depL (kids c) + (if isEx c then 1 else 0) := by
  cases c with
  | atom s => rfl
  | ex r c => have := dep_nn c; simp only [dep, depL, kids, isEx, List.foldl_cons, List.foldl_nil]; split <;> simp <;> omega
  | and2 a b => have := dep_nn a; have := dep_nn b; simp only [dep, depL, kids, isEx, List.foldl_cons, List.foldl_nil]; (repeat split) <;> simp <;> omega
  | and3 a b c => have := dep_nn a; have := dep_nn b; have := dep_nn c; simp only [dep, depL, kids, isEx, List.foldl_cons, List.foldl_nil]; (repeat split) <;> simp <;> omega
theorem siz_kids {c : Con} (h : ∀ s, c ≠ .atom s) : siz c = (if isEx c then 1 else 0) + sizL (kids c) := by
  cases c with
  | atom s => exact (h s rfl).elim
  | ex r c => simp [siz, sizL, kids, isEx]
  | and2 a b => simp [siz, sizL, kids, isEx]
  | and3 a b c => simp [siz, sizL, kids, isEx]
theorem some_is : decide (V.str ("some" : Str) = V.str "some") = true := by decide +kernel
theorem and_is : decide (V.str ("and" : Str) = V.str "some") = false := by decide +kernel
/-- what a concept that is no text is -/
theorem con_head {H : Hp} {c : Con} {v : V} (h : ConAt H c v) (n : ∀ s, c ≠ .atom s) : ∃ a x xs, v = .ref a ∧ H a = some (.tup (.str x :: xs)) ∧ decide (V.str x = V.str "some") = isEx c := by
  cases c with
  | atom s => exact (n s rfl).elim
  | ex r c =>
    obtain ⟨p, u, rfl, h, _⟩ := h
    exact ⟨p, _, _, rfl, h, some_is⟩
  | and2 a b =>
    obtain ⟨p, u, u', rfl, h, _⟩ := h
    exact ⟨p, _, _, rfl, h, and_is⟩
  | and3 a b c =>
    obtain ⟨p, u, u', u'', rfl, h, _⟩ := h
    exact ⟨p, _, _, rfl, h, and_is⟩
theorem con_str {H : Hp} {c : Con} {v : V} (h : ConAt H c v) (n : ∀ s, c ≠ .atom s) : isStr v = false := by
  obtain ⟨a, x, xs, rfl, _⟩ := con_head h n
  rfl
theorem atom_or (c : Con) : (∃ s, c = .atom s) ∨ ∀ s, c ≠ .atom s := by
  cases c with
  | atom s => exact .inl ⟨s, rfl⟩
  | ex r c => exact .inr fun s h => nomatch h
  | and2 a b => exact .inr fun s h => nomatch h
  | and3 a b c => exact .inr fun s h => nomatch h
section
variable {P : Program} {w : World} {K : PySem.W.Frag} {mg : Str → Option Value} {base : Heap}
/-! ### text_of -/
def spTextOf : Sp := fun vs H Q _ => ∃ v c, vs = [v] ∧ ConAt H c v ∧ Wf c ∧ nest c ≤ 8 ∧ nodes c ≤ 100 ∧ ∀ H', Same H H' → Q (.str (tS c)) H'
/-! ### depth_of -/
def spDep : Nat → Sp
  | 0 => fun _ _ _ _ => False
  | n + 1 => fun vs H Q _ => ∃ v c, vs = [v] ∧ ConAt H c v ∧ nest c ≤ n ∧ ∀ H', Same H H' → Q (.int (dep c)) H'
/-! ### size_of -/
def spSiz : Nat → Sp
  | 0 => fun _ _ _ _ => False
  | n + 1 => fun vs H Q _ => ∃ v c, vs = [v] ∧ ConAt H c v ∧ nest c ≤ n ∧ ∀ H', Same H H' → Q (.int (siz c)) H'
theorem mem_an (s : Str) : decide (s ∈ (["all", "none"] : List Str)) = decide (s = "all" ∨ s = "none") := by simp
end
end K1
namespace K1
open PySem L2
section
variable {X : Cx} {CX : CXT} {k : Nat} {f : Addr} {sp : Sp} {E : XK} {x : Str} {e : Expr} {es : List Expr} {t : TA} {p pos : Pos}
/-- a call of a def with a star parameter, without stars -/
theorem pe_callF (F : FnR X.prog X.w X.K X.mg X.base CX k f sp) (hr : Room k X.A) (hg : Gl X x) (hm : X.mg x = some (.ref f)) (hk : PySem.W.keepIn X.K (.ref f) = true) (hx : Passes CX X E)
    (ha : PA X (e :: es) t) (hdb : (x == ("__debug__" : Str)) = false := by decide) (he : starEach (e :: es) X.env = (false, eval e X.env) :: starEach es X.env := by rfl) (hpl : (backTo pos (starEach es X.env)).any (·.1) = false := by rfl) :
    PE X (.Call (.Name x p) (e :: es) [] pos) (fun σ H Q => t σ H fun vs H1 => sp vs H1 Q E) := by
  refine ⟨fun pins s σ H Q I h => ?_⟩
  refine wpAny_Call_Name_kw (ld_glob I hg hm ?_ hdb)
  refine PySem.W.callWith_K (h₀ := X.base) I.ok.mod.kin hk (thn (ha.run pos pins s σ H _ I h) fun us s1 ⟨vs, H1, I1, r, q⟩ => ⟨I1.kIn, ?_⟩) he hpl
  exact wpAny_call (run_fnR F hr hx I1 r q)
theorem pe_callF0 (F : FnR X.prog X.w X.K X.mg X.base CX k f sp) (hr : Room k X.A) (hg : Gl X x) (hm : X.mg x = some (.ref f)) (hk : PySem.W.keepIn X.K (.ref f) = true) (hx : Passes CX X E)
    (hdb : (x == ("__debug__" : Str)) = false := by decide) : PE X (.Call (.Name x p) [] [] pos) (fun σ H Q => sp [] H Q E) := by
  refine ⟨fun pins s σ H Q I h => ?_⟩
  refine wpAny_Call_Name_kw (ld_glob I hg hm ?_ hdb)
  exact PySem.W.callWith_K0 I.kIn hk (wpAny_call (run_fnR (us := []) F hr hx I .nil h))
end
theorem nms_kids {c : Con} (h : ∀ s, c ≠ .atom s) (x : Str) : x ∈ nms c ↔ ∃ k ∈ kids c, x ∈ nms k := by
  cases c with
  | atom s => exact (h s rfl).elim
  | ex r c => simp [nms, kids]
  | and2 a b => simp [nms, kids]
  | and3 a b c => simp [nms, kids]
def rl1 : Con → List Str
  | .ex r _ => [r]
  | _ => []
theorem rls_kids {c : Con} (x : Str) : x ∈ rls c ↔ x ∈ rl1 c ∨ ∃ k ∈ kids c, x ∈ rls k := by
  cases c with
  | atom s => simp [rls, kids, rl1]
  | ex r c => simp [rls, kids, rl1]
  | and2 a b => simp [rls, kids, rl1]
  | and3 a b c => simp [rls, kids, rl1]
section
variable {P : Program} {w : World} {K : PySem.W.Frag} {mg : Str → Option Value} {base : Heap}
/-! ### collect_words -/
def spCW : Nat → Sp
  | 0 => fun _ _ _ _ => False
  | n + 1 => fun vs H Q _ => ∃ (v : V) (c : Con) (dn dr : Addr) (kn kr : List Str) (kvn kvr : List (Key × V)), vs = [v, .ref dn, .ref dr] ∧ ConAt H c v ∧ nest c ≤ n ∧ nodes c ≤ 100 ∧ dn ≠ dr ∧ Dk H dn kn kvn ∧ Dk H dr kr kvr ∧ kn.length + nodes c ≤ 1000 ∧ kr.length + nodes c ≤ 1000 ∧
    ∀ H' kn' kr' kvn' kvr', But [dn, dr] H H' → Dk H' dn kn' kvn' → Dk H' dr kr' kvr' → kn'.length ≤ kn.length + nodes c → kr'.length ≤ kr.length + nodes c → (∀ s, s ∈ kn' ↔ s ∈ kn ∨ s ∈ nms c) → (∀ s, s ∈ kr' ↔ s ∈ kr ∨ s ∈ rls c) → Q .non H'
theorem dk_nt {H : Hp} {dn dr : Addr} {kn kr : List Str} {kvn kvr : List (Key × V)} (h1 : Dk H dn kn kvn) (h2 : Dk H dr kr kvr) : ∀ e ∈ [dn, dr], ∀ xs, H e ≠ some (.tup xs) := fun e he xs z => by
  simp only [List.mem_cons, List.not_mem_nil, or_false] at he
  rcases he with rfl | rfl
  · rw [h1.at_] at z; cases z
  · rw [h2.at_] at z; cases z
end
end K1
namespace K1
open PySem L2
/-- told words stand at p -/
def ToldAt (H : Hp) (p : Addr) (ys zs : List Str) : Prop := ∃ t1 t2, H p = some (.tup [.ref t1, .ref t2]) ∧ H t1 = some (.tup (ys.map V.str)) ∧ H t2 = some (.tup (zs.map V.str))
theorem perm_mem {l m : List Str} (h : l.Perm m) (x : Str) : x ∈ l ↔ x ∈ m := h.mem_iff
/-- concepts whose words are good and few -/
def Fine (N R : List Str) (c : Con) : Prop := In N R c ∧ nest c ≤ 8 ∧ nodes c ≤ 50
structure Vocab (N R : List Str) : Prop where
  n : ∀ x ∈ N, wordOk x = true
  r : ∀ x ∈ R, wordOk x = true
  ln : N.length ≤ 10
  lr : R.length ≤ 10
section
variable {P : Program} {w : World} {K : PySem.W.Frag} {mg : Str → Option Value} {base : Heap}
/-! ### told_words -/
def spTold : Sp := fun vs H Q _ => ∃ (dn dr : Addr) (kn kr : List Str) (kvn kvr : List (Key × V)), vs = [.ref dn, .ref dr] ∧ Dk H dn kn kvn ∧ Dk H dr kr kvr ∧ kn.length < 64 ∧ kr.length < 64 ∧
  ∀ H' p ys zs, Same H H' → ToldAt H' p ys zs → Asc ys → Asc zs → (∀ s, s ∈ ys ↔ s ∈ kn) → (∀ s, s ∈ zs ↔ s ∈ kr) → Q (.ref p) H'
theorem ok_told (D : Defs K mg) : FnOk P w K mg base CX0 1 D.d_told_words.f D.d_told_words.fd ["names", "roles"] spTold := by
  refine D.d_told_words.F.ok sc_told_words (fun vs H Q E h => ?_) (fun cdv A outer s H vs Q E hr h => ?_)
  · obtain ⟨dn, dr, kn, kr, kvn, kvr, rfl, _⟩ := h
    rfl
  obtain ⟨dn, dr, kn, kr, kvn, kvr, rfl, h1, h2, l1, l2, q⟩ := h
  refine ⟨_, (pss_one (ps_ret (pe_tup (pa_cons (pe_callTy call_tuple_of (by rfl) D.z_tuple (by decide +kernel) (pa_cons (pe_callB (call_sortedD rfl) (by rfl) D.z_sorted (by decide +kernel) (pa_cons (pv 0) pa_nil)) pa_nil)) (pa_cons (pe_callTy call_tuple_of (by rfl) D.z_tuple (by decide +kernel) (pa_cons (pe_callB (call_sortedD rfl) (by rfl) D.z_sorted (by decide +kernel) (pa_cons (pv 1) pa_nil)) pa_nil)) pa_nil))))), ?_⟩
  refine ⟨_, rfl, dn, kvn, kn, rfl, Rd.of h1.at_, h1.keys, l1, fun ys p1 pm1 sr1 hp1 => ⟨p1, _, rfl, .inl ⟨SqL.of upd_same, fun t1 ht1 => ?_⟩⟩⟩
  have g1 : Same H (upd H p1 (.lst (ys.map V.str))) := same_new hp1 _
  have g2 : Same H (upd (upd H p1 (.lst (ys.map V.str))) t1 (.tup (ys.map V.str))) := g1.trans (same_new ht1 _)
  refine ⟨_, rfl, dr, kvr, kr, rfl, Rd.of (g2 _ _ h2.at_), h2.keys, l2, fun zs p2 pm2 sr2 hp2 => ⟨p2, _, rfl, .inl ⟨SqL.of upd_same, fun t2 ht2 => ?_⟩⟩⟩
  refine ⟨(by show 2 ≤ sizeLine; decide), fun p hp => ?_⟩
  have g3 := same_new hp2 (.lst (zs.map V.str))
  have g4 := same_new ht2 (.tup (zs.map V.str))
  have g5 := same_new hp (.tup [.ref t1, .ref t2])
  refine q _ p ys zs (g2.trans (g3.trans (g4.trans g5))) ⟨t1, t2, upd_same, g5 _ _ (g4 _ _ (g3 _ _ upd_same)), g5 _ _ upd_same⟩ (asc_of (weak_of sr1) (pm1.nodup_iff.mpr h1.nd)) (asc_of (weak_of sr2) (pm2.nodup_iff.mpr h2.nd)) (fun s => pm1.mem_iff) (fun s => pm2.mem_iff)
/-! ### parts, size, depth, text -/
def spParts : Sp := fun vs H Q _ => ∃ v c N R, vs = [v] ∧ ConAt H c v ∧ Vocab N R ∧ Fine N R c ∧
  ∀ H' p ws cl, Same H H' → H' p = some (.lst ws) → Paired (ConAt H') cl ws → (∀ x ∈ cl, Wf x) → Asc (cl.map tS) → (∀ s, s ∈ cl.map tS ↔ ∃ x ∈ prt c, s = tS x) → Q (.ref p) H'
theorem fine_wf {N R : List Str} {c : Con} (V : Vocab N R) (h : Fine N R c) : Wf c := wf_of V.n V.r h.1
theorem fine_nested {N R : List Str} {c : Con} {H : Hp} {v : V} (V : Vocab N R) (h : Fine N R c) (hc : ConAt H c v) : Kn H 9 v ∧ nestedB H 100 v = true :=
  ⟨con_kn hc (Nat.le_trans h.2.1 (by decide)), con_nested V.n V.r h.1 hc (Nat.le_trans h.2.1 (by decide))⟩
def spOf (f : Con → V) : Sp := fun vs H Q _ => ∃ v c N R, vs = [v] ∧ ConAt H c v ∧ Vocab N R ∧ Fine N R c ∧ ∀ H', Same H H' → Q (f c) H'
end
end K1
namespace K1
open PySem L2
/-! ### the draws of the law -/
structure DrawAt (H : Hp) (d a : Addr) : Prop where
  ex : ∃ (ns : List Int) (n : Int), H d = some (.lst [.ref a, .int 0, .int n]) ∧ H a = some (.lst (ns.map V.int)) ∧ 0 ≤ n
theorem draw_ne {H : Hp} {a d : Addr} {ns : List Int} {n : Int} (h1 : H d = some (.lst [.ref a, .int 0, .int n])) (h2 : H a = some (.lst (ns.map V.int))) : a ≠ d := by
  rintro rfl
  rw [h1] at h2
  cases ns with
  | nil => cases h2
  | cons x r => cases h2
theorem DrawAt.same {H H' : Hp} {d a : Addr} (h : DrawAt H d a) (e : Same H H') : DrawAt H' d a := by
  obtain ⟨ns, n, h1, h2, h3⟩ := h.ex
  exact ⟨ns, n, e _ _ h1, e _ _ h2, h3⟩
theorem DrawAt.new {H : Hp} {d a l : Addr} (h : DrawAt H d a) (hl : H l = none) : l ≠ d ∧ l ≠ a := by
  obtain ⟨ns, n, h1, h2, h3⟩ := h.ex
  exact ⟨(ne_of_none h1 hl).symm, (ne_of_none h2 hl).symm⟩
theorem DrawAt.upd {H : Hp} {d a l : Addr} {o : HO} (h : DrawAt H d a) (n1 : l ≠ d) (n2 : l ≠ a) : DrawAt (L2.upd H l o) d a := by
  obtain ⟨ns, n, h1, h2, h3⟩ := h.ex
  exact ⟨ns, n, by rw [upd_ne n1.symm]; exact h1, by rw [upd_ne n2.symm]; exact h2, h3⟩
theorem DrawAt.nt {H : Hp} {d a : Addr} (h : DrawAt H d a) : ∀ e ∈ [d], ∀ xs, H e ≠ some (.tup xs) := fun e he xs z => by
  simp only [List.mem_singleton] at he
  subst he
  obtain ⟨ns, n, h1, _⟩ := h.ex
  rw [h1] at z
  cases z
def primesL : List Int := [1000003, 1000033, 1000037, 1000039, 1000081, 1000099, 1000117, 1000121, 1000133, 1000151, 1000159, 1000171, 1000183, 1000187, 1000193, 1000199]
theorem prime_get : ∀ j : Fin 16, ∃ p : Int, primesL[j.val]? = some p ∧ 0 < p := by
  intro j
  have h : ∀ j : Fin 16, primesL[j.val]? = some (primesL.getD j.val 0) ∧ 0 < primesL.getD j.val 0 := by decide +kernel
  exact ⟨_, h j⟩
theorem pow_small : ∀ i : Nat, 0 < (1009 : Int) ^ i ∧ ((1009 : Int) ^ i).natAbs < 2 ^ (10 * i + 1)
  | 0 => by decide
  | i + 1 => by
    obtain ⟨h1, h2⟩ := pow_small i
    constructor
    · rw [Int.pow_succ]; omega
    · rw [Int.pow_succ, Int.natAbs_mul, show 10 * (i + 1) + 1 = (10 * i + 1) + 10 from by omega, Nat.pow_add]
      have : (1009 : Int).natAbs < 2 ^ 10 := by decide
      exact Nat.mul_lt_mul'' h2 this
section
variable {P : Program} {w : World} {K : PySem.W.Frag} {mg : Str → Option Value} {base : Heap}
def spCell : Sp := fun vs H Q _ => ∃ (a : Addr) (ns : List Int) (k : Int), vs = [.ref a, .int k] ∧ H a = some (.lst (ns.map V.int)) ∧ 0 ≤ k ∧ ∀ z : Int, Q (.int z) H
theorem ok_cell_at (D : Defs K mg) : FnOk P w K mg base CX0 1 D.d_law_cell_at.f D.d_law_cell_at.fd ["script", "k"] spCell := by
  refine D.d_law_cell_at.F.ok sc_law_cell_at (fun vs H Q E h => ?_) (fun cdv A outer s H vs Q E hr h => ?_)
  · obtain ⟨a, ns, k, rfl, _⟩ := h
    rfl
  obtain ⟨a, ns, k, rfl, ha, hk, q⟩ := h
  refine ⟨_, (pss_cons (ps_if (pt_cmpR op_lt (pv 1) (pe_callB call_len_seq (by rfl) D.z_len (by decide +kernel) (pa_cons (pv 0) pa_nil)) (nomark _)) (pss_one (ps_ret (pe_ix ix_list (pv 0) (pv 1) (fun _ _ => rfl)))) pss_nil)
      (pss_one (ps_ret pe_int))), ?_⟩
  refine ⟨_, rfl, _, rfl, a, _, rfl, .inl (SqL.of ha), _, _, rfl, rfl, _, rfl, ?_⟩
  refine ite2 (fun c => ?_) (fun c => q 0)
  have c' : k < (((ns.map V.int).length : Nat) : Int) := of_decide_eq_true c
  rw [List.length_map] at c'
  have hk2 : k.toNat < ns.length := by omega
  have ek : k = ((k.toNat : Nat) : Int) := by omega
  have z : atI (ns.map V.int) ((k.toNat : Nat) : Int) = some (.int ns[k.toNat]) := atI_nat (by rw [List.getElem?_map, List.getElem?_eq_getElem hk2] <;> rfl)
  rw [← ek] at z
  exact ⟨_, rfl, _, rfl, a, _, _, _, rfl, rfl, SqL.of ha, z, q _⟩
def spDraw : Sp := fun vs H Q _ => ∃ (c k b : Int), vs = [.int c, .int k, .int b] ∧ 0 < b ∧ ∀ H' (r : Int), Same H H' → 0 ≤ r → r < b → Q (.int r) H'
theorem ok_draw (D : Defs K mg) : FnOk P w K mg base CX0 1 D.d_law_draw.f D.d_law_draw.fd ["cell", "k", "bound"] spDraw := by
  refine D.d_law_draw.F.ok sc_law_draw (fun vs H Q E h => ?_) (fun cdv A outer s H vs Q E hr h => ?_)
  · obtain ⟨c, k, b, rfl, _⟩ := h
    rfl
  obtain ⟨c, k, b, rfl, hb, q⟩ := h
  refine ⟨_, (pss_cons (ps_set (i := 3) sc_law_draw.nd rfl (Or.inl rfl) (pe_tup (pa_cons pe_int (pa_cons pe_int (pa_cons pe_int (pa_cons pe_int (pa_cons pe_int (pa_cons pe_int (pa_cons pe_int (pa_cons pe_int (pa_cons pe_int (pa_cons pe_int (pa_cons pe_int (pa_cons pe_int (pa_cons pe_int (pa_cons pe_int (pa_cons pe_int (pa_cons pe_int pa_nil))))))))))))))))))
      (pss_one (ps_ret (pe_op op_mod (pe_op op_mod (pe_callTy call_int1 (by rfl) D.z_int (by decide +kernel) (pa_cons (pe_op op_add (pe_op op_mul (pv 0) pe_int) (pe_op op_mul (pv 1) pe_int)) pa_nil)) (pe_ix ix_tup (pv 3) (pe_op op_mod (pe_callTy call_int1 (by rfl) D.z_int (by decide +kernel) (pa_cons (pv 1) pa_nil)) pe_int) (fun _ _ => rfl))) (pv 2))))), ?_⟩
  refine ⟨(by show 16 ≤ sizeLine; decide), fun p hp => ?_⟩
  have h0 : 0 ≤ k % 16 := Int.emod_nonneg _ (by decide)
  have h1 : k % 16 < 16 := Int.emod_lt_of_pos _ (by decide)
  obtain ⟨m, e1, e2⟩ := prime_get ⟨(k % 16).toNat, by omega⟩
  have z : atI (primesL.map V.int) (((k % 16).toNat : Nat) : Int) = some (.int m) := atI_nat (by rw [List.getElem?_map, e1] <;> rfl)
  rw [show (((k % 16).toNat : Nat) : Int) = k % 16 by omega] at z
  refine ⟨_, rfl, _, _, rfl, rfl, .inr ⟨by decide, by decide⟩, _, rfl, _, _, rfl, rfl, .inr ⟨by decide, by decide⟩, _, _, rfl, rfl, .inl ⟨_, rfl, ?_⟩⟩
  refine ⟨_, rfl, _, rfl, .inl ⟨_, rfl, _, _, rfl, rfl, (by show (0 : Int) < 16; decide), p, primesL.map V.int, _, .int m, rfl, rfl, SqT.of upd_same, z, _, _, rfl, rfl, e2, _, rfl, _, _, rfl, rfl, hb, ?_⟩⟩
  exact q _ _ (same_new hp _) (Int.emod_nonneg _ (by omega)) (Int.emod_lt_of_pos _ hb)
def spNumber : Sp := fun vs H Q _ => ∃ (c k b : Int), vs = [.int c, .int k, .int b] ∧ 0 < b ∧ 0 ≤ k ∧ k ≤ 100 ∧ ∀ H' (r : Int), Same H H' → 0 ≤ r → r < b → Q (.int r) H'
theorem ok_number (D : Defs K mg) : FnOk P w K mg base CX0 2 D.d_law_number.f D.d_law_number.fd ["cell", "k", "bound"] spNumber := by
  have G := ok_draw (P := P) (w := w) (base := base) D
  refine D.d_law_number.F.ok sc_law_number (fun vs H Q E h => ?_) (fun cdv A outer s H vs Q E hr h => ?_)
  · obtain ⟨c, k, b, rfl, _⟩ := h
    rfl
  obtain ⟨c, k, b, rfl, hb, hk0, hk1, q⟩ := h
  refine ⟨_, (pss_cons (ps_set (i := 3) sc_law_number.nd rfl (Or.inl rfl) pe_int)
      (pss_cons (ps_for PassesOwn.never rfl (pi_range1 rfl D.z_range (pa_cons (pe_op op_mod (pe_callTy call_int1 (by rfl) D.z_int (by decide +kernel) (pa_cons (pv 1) pa_nil)) pe_int) pa_nil)) (pg_name (i := 4) sc_law_number.nd rfl (Or.inl rfl)) (pss_one (ps_set (i := 3) sc_law_number.nd rfl (Or.inl rfl) (pe_op op_mul (pv 3) pe_int))))
      (pss_cons (ps_set (i := 5) sc_law_number.nd rfl (Or.inl rfl) (pe_op op_fdivW (pe_op op_sub (pv 0) (pe_op op_pow pe_int pe_int)) (pv 3)))
      (pss_cons (ps_if (pt_cmpR op_gt (pv 5) pe_int (nomark _)) (pss_one (ps_ret (pe_op op_mod (pe_op op_mod (pe_callTy call_int1 (by rfl) D.z_int (by decide +kernel) (pa_cons (pv 5) pa_nil)) pe_int) (pv 2)))) pss_nil)
      (pss_cons (ps_set (i := 6) sc_law_number.nd rfl (Or.inl rfl) (pe_op op_mod (pe_callTy call_int1 (by rfl) D.z_int (by decide +kernel) (pa_cons (pv 0) pa_nil)) pe_int))
      (pss_one (ps_ret (pe_op op_mod (pe_call G hr rfl D.d_law_draw.m D.d_law_draw.F.kp D.d_law_draw.b .nil pass0 (pa_cons (pe_op op_mul (pe_op op_add (pv 6) (pe_op op_mul pe_int (pv 1))) (pe_op op_add (pe_op op_add (pv 6) (pe_op op_mul pe_int (pv 1))) pe_int)) (pa_cons (pe_op op_add (pe_op op_mod (pe_callTy call_int1 (by rfl) D.z_int (by decide +kernel) (pa_cons (pv 1) pa_nil)) pe_int) pe_int) (pa_cons pe_int pa_nil)))) (pv 2))))))))), ?_⟩
  have h0 : 0 ≤ k % 24 := Int.emod_nonneg _ (by decide)
  have h1 : k % 24 < 24 := Int.emod_lt_of_pos _ (by decide)
  refine ⟨_, rfl, .inl ⟨_, rfl, _, _, rfl, rfl, (by show (0 : Int) < 24; decide), _, rfl, ?_, ?_, for_range (lo := 0) (n := (k % 24).toNat) (fun i σ H2 => H2 = H ∧ ∃ o, σ = [some (.int c), some (.int k), some (.int b), some (.int (1009 ^ i)), o, none, none]) ⟨rfl, none, rfl⟩ ?_ ?_⟩⟩
  · show -(2 ^ 62) ≤ k % 24
    omega
  · show k % 24 < 2 ^ 62
    omega
  · rintro i σ H2 hi ⟨rfl, o, rfl⟩
    exact ⟨_, rfl, _, _, rfl, rfl, .inr ⟨by decide, by decide⟩, rfl, _, by rw [Int.pow_succ]; rfl⟩
  · rintro σ H2 ⟨rfl, o, rfl⟩
    obtain ⟨p0, p1⟩ := pow_small (k % 24).toNat
    refine ⟨_, rfl, _, _, rfl, rfl, ⟨by decide, by decide, by decide⟩, _, _, rfl, rfl, _, rfl, _, _, rfl, rfl, wide_div p0 p1 (by omega) (by omega), ?_⟩
    refine ⟨_, rfl, _, _, rfl, rfl, _, rfl, ?_⟩
    refine ite2 (fun _ => ?_) (fun _ => ?_)
    · refine ⟨_, rfl, .inl ⟨_, rfl, _, _, rfl, rfl, (by show (0 : Int) < 1009; decide), _, rfl, _, _, rfl, rfl, hb, ?_⟩⟩
      exact q _ _ (Same.refl _) (Int.emod_nonneg _ (by omega)) (Int.emod_lt_of_pos _ hb)
    · refine ⟨_, rfl, .inl ⟨_, rfl, _, _, rfl, rfl, (by show (0 : Int) < 1000003; decide), ?_⟩⟩
      have s0 : 0 ≤ c % 1000003 := Int.emod_nonneg _ (by decide)
      have s1 : c % 1000003 < 1000003 := Int.emod_lt_of_pos _ (by decide)
      refine ⟨_, rfl, _, rfl, _, _, rfl, rfl, .inl ⟨by decide, by decide⟩, _, _, rfl, rfl, _, rfl, _, rfl, _, _, rfl, rfl, .inl ⟨by decide, by decide⟩, _, _, rfl, rfl, _, _, rfl, rfl, _, _, rfl, rfl, .inl ⟨?_, ?_⟩, ?_⟩
      · show -(2 ^ 64) < c % 1000003 + 977 * k
        omega
      · show c % 1000003 + 977 * k < 2 ^ 64
        omega
      refine ⟨_, rfl, .inl ⟨_, rfl, _, _, rfl, rfl, (by show (0 : Int) < 9; decide), _, _, rfl, rfl, _, _, _, rfl, (by show (0 : Int) < 999983; decide), fun H3 r g r0 r1 => ⟨_, rfl, _, _, rfl, rfl, hb, ?_⟩⟩⟩
      exact q _ _ g (Int.emod_nonneg _ (by omega)) (Int.emod_lt_of_pos _ hb)
def spNext : Sp := fun vs H Q _ => ∃ (d a : Addr) (b : Int), vs = [.ref d, .int b] ∧ 0 < b ∧ DrawAt H d a ∧ ∀ H' (r : Int), But [d] H H' → DrawAt H' d a → 0 ≤ r → r < b → Q (.int r) H'
theorem ok_next (D : Defs K mg) : FnOk P w K mg base CX0 3 D.d_law_next.f D.d_law_next.fd ["draw", "bound"] spNext := by
  have GC := ok_cell_at (P := P) (w := w) (base := base) D
  have GN := ok_number (P := P) (w := w) (base := base) D
  refine D.d_law_next.F.ok sc_law_next (fun vs H Q E h => ?_) (fun cdv A outer s H vs Q E hr h => ?_)
  · obtain ⟨d, a, b, rfl, _⟩ := h
    rfl
  obtain ⟨d, a, b, rfl, hb, hd, q⟩ := h
  have hr1 : Room 1 _ := hr.mono (by omega)
  refine ⟨_, (pss_cons (ps_asg (pe_op op_add (pe_ix ix_list (pv 0) pe_int (fun _ _ => rfl)) pe_int) (pg_sub (pv 0) pe_int set_list))
      (pss_cons (ps_set (i := 2) sc_law_next.nd rfl (Or.inl rfl) (pe_op op_fdiv (pe_ix ix_list (pv 0) pe_int (fun _ _ => rfl)) pe_int))
      (pss_cons (ps_set (i := 3) sc_law_next.nd rfl (Or.inl rfl) (pe_op op_add (pe_call GC hr1 rfl D.d_law_cell_at.m D.d_law_cell_at.F.kp D.d_law_cell_at.b .nil pass0 (pa_cons (pe_ix ix_list (pv 0) pe_int (fun _ _ => rfl)) (pa_cons (pe_op op_add (pe_ix ix_list (pv 0) pe_int (fun _ _ => rfl)) (pv 2)) pa_nil))) (pe_op op_mul pe_int (pv 2))))
      (pss_one (ps_ret (pe_call GN hr rfl D.d_law_number.m D.d_law_number.F.kp D.d_law_number.b .nil pass0 (pa_cons (pv 3) (pa_cons (pe_op op_add (pe_op op_mod (pe_callTy call_int1 (by rfl) D.z_int (by decide +kernel) (pa_cons (pe_ix ix_list (pv 0) pe_int (fun _ _ => rfl)) pa_nil)) pe_int) pe_int) (pa_cons (pv 1) pa_nil))))))))), ?_⟩
  obtain ⟨ns, n, h1, h2, h3⟩ := hd.ex
  have ne := draw_ne h1 h2
  refine ⟨_, rfl, d, _, _, _, rfl, rfl, SqL.of h1, atI_nat (j := 2) rfl, _, _, rfl, rfl, _, rfl, d, _, _, 2, rfl, rfl, h1, rfl, ?_⟩
  have e1 : upd H d (.lst ([V.ref a, V.int 0, V.int n].set 2 (V.int (n + 1)))) d = some (.lst [.ref a, .int 0, .int (n + 1)]) := upd_same
  have e2 : upd H d (.lst ([V.ref a, V.int 0, V.int n].set 2 (V.int (n + 1)))) a = some (.lst (ns.map V.int)) := by rw [upd_ne ne]; exact h2
  have b1 : But [d] H (upd H d (.lst ([V.ref a, V.int 0, V.int n].set 2 (V.int (n + 1))))) := But.put (by simp)
  refine ⟨_, rfl, d, _, _, _, rfl, rfl, SqL.of e1, atI_nat (j := 2) rfl, _, _, rfl, rfl, ⟨by decide, by decide⟩, ?_⟩
  have p0 : 0 ≤ (n + 1) / 12 := Int.ediv_nonneg (by omega) (by decide)
  refine ⟨_, rfl, d, _, _, _, rfl, rfl, SqL.of e1, atI_nat (j := 0) rfl, _, rfl, d, _, _, _, rfl, rfl, SqL.of e1, atI_nat (j := 1) rfl, _, rfl, _, _, rfl, rfl, a, ns, _, rfl, e2, (by show (0 : Int) ≤ 0 + (n + 1) / 12; omega), fun z => ⟨_, rfl, _, _, rfl, rfl, .inl ⟨by decide, by decide⟩, _, _, rfl, rfl, ?_⟩⟩
  have m0 : 0 ≤ (n + 1) % 12 := Int.emod_nonneg _ (by decide)
  have m1 : (n + 1) % 12 < 12 := Int.emod_lt_of_pos _ (by decide)
  refine ⟨_, rfl, _, rfl, d, _, _, _, rfl, rfl, SqL.of e1, atI_nat (j := 2) rfl, .inl ⟨_, rfl, _, _, rfl, rfl, (by show (0 : Int) < 12; decide), _, _, rfl, rfl, _, rfl, _, _, _, rfl, hb, ?_, ?_, fun H' r g r0 r1 => ?_⟩⟩
  · show 0 ≤ (n + 1) % 12 + 1
    omega
  · show (n + 1) % 12 + 1 ≤ 100
    omega
  exact q H' r (b1.trans (But.of g)) ⟨ns, n + 1, g _ _ e1, g _ _ e2, by omega⟩ r0 r1
def spPick : Sp := fun vs H Q _ => ∃ (d a t : Addr) (xs : List L2.V), vs = [.ref d, .ref t] ∧ DrawAt H d a ∧ H t = some (.lst xs) ∧ t ≠ d ∧ 0 < xs.length ∧ ∀ H' x, x ∈ xs → But [d] H H' → DrawAt H' d a → Q x H'
theorem ok_pick (D : Defs K mg) : FnOk P w K mg base CX0 4 D.d_law_pick.f D.d_law_pick.fd ["draw", "things"] spPick := by
  have G := ok_next (P := P) (w := w) (base := base) D
  refine D.d_law_pick.F.ok sc_law_pick (fun vs H Q E h => ?_) (fun cdv A outer s H vs Q E hr h => ?_)
  · obtain ⟨d, a, t, xs, rfl, _⟩ := h
    rfl
  obtain ⟨d, a, t, xs, rfl, hd, ht, ne, pos, q⟩ := h
  refine ⟨_, (pss_one (ps_ret (pe_ix ix_list (pv 1) (pe_call G hr rfl D.d_law_next.m D.d_law_next.F.kp D.d_law_next.b .nil pass0 (pa_cons (pv 0) (pa_cons (pe_callB call_len_seq (by rfl) D.z_len (by decide +kernel) (pa_cons (pv 1) pa_nil)) pa_nil))) (fun _ _ => rfl)))), ?_⟩
  refine ⟨_, rfl, _, rfl, _, rfl, t, _, rfl, .inl (SqL.of ht), d, a, _, rfl, (by show (0 : Int) < (xs.length : Int); omega), hd, fun H' r b hd' r0 r1 => ?_⟩
  have hr2 : r.toNat < xs.length := by omega
  have er : r = ((r.toNat : Nat) : Int) := by omega
  have z : atI xs ((r.toNat : Nat) : Int) = some xs[r.toNat] := atI_nat (by rw [List.getElem?_eq_getElem hr2])
  rw [← er] at z
  refine ⟨t, xs, r, _, rfl, rfl, SqL.of (b _ _ (by simpa using ne) ht), z, q H' _ (List.getElem_mem hr2) b hd'⟩
end
end K1
namespace K1
open PySem L2
/-! ### data for == -/
theorem letters_strOk {s : Str} (h : letters (cs s) = true) : PyData.strOk s = true := by
  unfold PyData.strOk
  rw [Array.all_eq_true_iff_forall_mem]
  intro x hx
  unfold letters at h
  rw [List.all_eq_true] at h
  have := h x (Array.mem_toList_iff.mpr hx)
  simp only [Bool.and_eq_true, decide_eq_true_eq] at this ⊢
  omega
def strsD (l : List Str) : List PyData := l.map PyData.str
theorem dp_strs {K : PySem.W.Frag} {H : Hp} : ∀ l : List Str, DpAll K H (l.map V.str) (strsD l)
  | [] => .nil
  | x :: l => .cons (.str x) (dp_strs l)
theorem lay_strs : ∀ {l : List Str}, (∀ x ∈ l, PyData.strOk x = true) → PyData.canLayAll0 (strsD l) = true
  | [], _ => rfl
  | x :: l, h => by
    show (PyData.canLay0 (.str x) && PyData.canLayAll0 (strsD l)) = true
    rw [lay_strs fun y hy => h y (List.mem_cons_of_mem _ hy), Bool.and_true]
    exact h x (List.mem_cons_self ..)
theorem depth_strs : ∀ l : List Str, PyData.depthAll (strsD l) = 0
  | [] => rfl
  | x :: l => by
    show max (PyData.depth (.str x)) (PyData.depthAll (strsD l)) = 0
    rw [depth_strs l]
    rfl
theorem shaped_of {d : PyData} (h1 : d.canLay0 = true) (h2 : d.depth ≤ 64) : SeqAt.shaped d = true := by
  unfold SeqAt.shaped
  rw [h1, decide_eq_true h2]
  rfl
/-- a concept as data -/
def conD : Con → PyData
  | .atom s => .str s
  | .ex r c => .tuple [.str "some", .str r, conD c]
  | .and2 a b => .tuple [.str "and", conD a, conD b]
  | .and3 a b c => .tuple [.str "and", conD a, conD b, conD c]
theorem dp_con {K : PySem.W.Frag} {H : Hp} : ∀ {c : Con} {v : V}, ConAt H c v → Dp K H v (conD c)
  | .atom s, v, ⟨h, _⟩ => by subst h; exact .str s
  | .ex r c, v, ⟨p, u, h1, h2, h3, _⟩ => by subst h1; exact .tup (SqT.of h2) (.cons (.str _) (.cons (.str _) (.cons (dp_con h3) .nil)))
  | .and2 a b, v, ⟨p, u1, u2, h1, h2, h3, h4⟩ => by subst h1; exact .tup (SqT.of h2) (.cons (.str _) (.cons (dp_con h3) (.cons (dp_con h4) .nil)))
  | .and3 a b c, v, ⟨p, u1, u2, u3, h1, h2, h3, h4, h5⟩ => by subst h1; exact .tup (SqT.of h2) (.cons (.str _) (.cons (dp_con h3) (.cons (dp_con h4) (.cons (dp_con h5) .nil))))
theorem ok_some_str : PyData.strOk ("some" : Str) = true := by decide +kernel
theorem ok_and_str : PyData.strOk ("and" : Str) = true := by decide +kernel
theorem lay_con : ∀ {c : Con}, Wf c → (conD c).canLay0 = true
  | .atom s, h => letters_strOk h.1
  | .ex r c, h => by simp [conD, PyData.canLay0, PyData.canLayAll0, ok_some_str, letters_strOk h.1.1, lay_con h.2]
  | .and2 a b, h => by simp [conD, PyData.canLay0, PyData.canLayAll0, ok_and_str, lay_con h.1, lay_con h.2]
  | .and3 a b c, h => by simp [conD, PyData.canLay0, PyData.canLayAll0, ok_and_str, lay_con h.1, lay_con h.2.1, lay_con h.2.2]
theorem depth_con : ∀ c : Con, (conD c).depth ≤ nest c
  | .atom s => Nat.le_refl _
  | .ex r c => by have := depth_con c; simp only [conD, PyData.depth, PyData.depthAll, nest]; omega
  | .and2 a b => by have := depth_con a; have := depth_con b; simp only [conD, PyData.depth, PyData.depthAll, nest]; omega
  | .and3 a b c => by have := depth_con a; have := depth_con b; have := depth_con c; simp only [conD, PyData.depth, PyData.depthAll, nest]; omega
theorem dp_cons {K : PySem.W.Frag} {H : Hp} : ∀ {cl : List Con} {ws : List V}, Paired (ConAt H) cl ws → DpAll K H ws (cl.map conD)
  | _, _, .nil => .nil
  | _, _, .cons r t => .cons (dp_con r) (dp_cons t)
theorem lay_cons : ∀ {cl : List Con}, (∀ c ∈ cl, Wf c) → PyData.canLayAll0 (cl.map conD) = true
  | [], _ => rfl
  | c :: cl, h => by
    show ((conD c).canLay0 && PyData.canLayAll0 (cl.map conD)) = true
    rw [lay_con (h c (List.mem_cons_self ..)), lay_cons fun y hy => h y (List.mem_cons_of_mem _ hy)]
    rfl
theorem depth_cons {n : Nat} : ∀ {cl : List Con}, (∀ c ∈ cl, nest c ≤ n) → PyData.depthAll (cl.map conD) ≤ n
  | [], _ => Nat.zero_le _
  | c :: cl, h => by
    show max (conD c).depth (PyData.depthAll (cl.map conD)) ≤ n
    have := depth_con c
    have := h c (List.mem_cons_self ..)
    have := depth_cons (n := n) fun y hy => h y (List.mem_cons_of_mem _ hy)
    omega
def boolsD (l : List Bool) : List PyData := l.map PyData.bool
theorem dp_bools {K : PySem.W.Frag} {H : Hp} : ∀ l : List Bool, DpAll K H (l.map V.bl) (boolsD l)
  | [] => .nil
  | x :: l => .cons (.bl x) (dp_bools l)
theorem lay_bools : ∀ l : List Bool, PyData.canLayAll0 (boolsD l) = true
  | [] => rfl
  | x :: l => by
    show (PyData.canLay0 (.bool x) && PyData.canLayAll0 (boolsD l)) = true
    rw [lay_bools l]
    rfl
theorem depth_bools : ∀ l : List Bool, PyData.depthAll (boolsD l) = 0
  | [] => rfl
  | x :: l => by
    show max (PyData.depth (.bool x)) (PyData.depthAll (boolsD l)) = 0
    rw [depth_bools l]
    rfl
/-- told words as data -/
def toldD (ys zs : List Str) : PyData := .tuple [.tuple (strsD ys), .tuple (strsD zs)]
theorem dp_told {K : PySem.W.Frag} {H : Hp} {p : Addr} {ys zs : List Str} (h : ToldAt H p ys zs) : Dp K H (.ref p) (toldD ys zs) := by
  obtain ⟨t1, t2, h1, h2, h3⟩ := h
  exact .tup (SqT.of h1) (.cons (.tup (SqT.of h2) (dp_strs _)) (.cons (.tup (SqT.of h3) (dp_strs _)) .nil))
theorem shaped_told {ys zs : List Str} (h1 : ∀ x ∈ ys, PyData.strOk x = true) (h2 : ∀ x ∈ zs, PyData.strOk x = true) : SeqAt.shaped (toldD ys zs) = true := by
  refine shaped_of ?_ ?_
  · simp [toldD, PyData.canLay0, PyData.canLayAll0, lay_strs h1, lay_strs h2]
  · simp [toldD, PyData.depth, PyData.depthAll, depth_strs]
theorem word_strOk {s : Str} (h : wordOk s = true) : PyData.strOk s = true := letters_strOk (wd_of h).1
section
variable {X : Cx}
/-- 'z' * 12 -/
theorem op_mul_str : OpR X (binaryOp .Mult) (fun x y H Q => ∃ (s : Str) (n : Int), x = .str s ∧ y = .int n ∧ MulOk s n ∧ Q (.str (PySem.Txt.mul s n)) H) := by
  intro pins s σ H x y v u Q I rx ry h
  obtain ⟨z, n, rfl, rfl, ok, q⟩ := h
  obtain ⟨t, rfl⟩ := rx
  obtain ⟨t', rfl⟩ := ry
  exact SB.mul ok fun tk k => ⟨.str _, H, I.tok k, ⟨_, rfl⟩, q⟩
end
end K1
namespace K1
open PySem L2
def oneS (c : Nat) : Str := ⟨#[c]⟩
theorem joinL_ones : ∀ l : List Nat, TL.joinL [] (l.map fun c => [c]) = l
  | [] => rfl
  | [c] => rfl
  | c :: e :: l => by
    have ih := joinL_ones (e :: l)
    show [c] ++ ([] ++ TL.joinL [] ((e :: l).map fun c => [c])) = c :: e :: l
    rw [ih]
    rfl
theorem join_ones (l : List Nat) : PySem.Txt.join "" (l.map oneS) = sOf l := str_ext (by
  rw [TL.join_eq]
  show TL.tl (Str.join "" (l.map oneS)) = _
  rw [TL.tl_join, cs_sOf]
  show TL.joinL (cs "") ((l.map oneS).map TL.tl) = l
  rw [show cs ("" : Str) = [] by decide +kernel, List.map_map]
  exact joinL_ones l)
theorem az : letters (cs ("abcdefghijklmnopqrstuvwxyz" : Str)) = true := by decide +kernel
theorem az_len : (cs ("abcdefghijklmnopqrstuvwxyz" : Str)).length = 26 := by decide +kernel
theorem sum_ones : ∀ l : List Nat, ((l.map oneS).map (·.length)).sum = l.length
  | [] => rfl
  | c :: l => by simp only [List.map_cons, List.sum_cons, sum_ones l, List.length_cons]; show 1 + l.length = l.length + 1; omega
theorem wordOk_of {l : List Nat} (h1 : 1 ≤ l.length) (h2 : l.length ≤ 12) (h3 : letters l = true) (h4 : sOf l ∉ noWords) : wordOk (sOf l) = true := by
  unfold wordOk
  rw [len_sOf, cs_sOf, decide_eq_true h1, decide_eq_true h2, decide_eq_false h4, h3]
  rfl
theorem wordOk_s {s : Str} (h : s ∈ noWords) : wordOk (s ++ "s") = true := by
  simp only [noWords, List.mem_cons, List.not_mem_nil, or_false] at h
  rcases h with rfl | rfl | rfl <;> decide +kernel
theorem len_no {s : Str} (h : s ∈ noWords) : s.length ≤ 4 := by
  simp only [noWords, List.mem_cons, List.not_mem_nil, or_false] at h
  rcases h with rfl | rfl | rfl <;> decide +kernel
def cand : List Str := ["b", "cd", "e", "fgh", "i", "jk"]
theorem cand_ok : ∀ x ∈ cand, wordOk x = true := by decide +kernel
theorem cand_nd : cand.Nodup := by decide +kernel
theorem cand_free {ws : List Str} (h : ws.length < 6) : cand.filter (fun x => !decide (x ∈ ws)) ≠ [] := fun e => by
  have : ∀ x ∈ cand, x ∈ ws := fun x hx => by
    by_cases c : x ∈ ws
    · exact c
    · have z : x ∈ cand.filter (fun x => !decide (x ∈ ws)) := List.mem_filter.mpr ⟨hx, by simp [c]⟩
      rw [e] at z
      cases z
  have l := nodup_le cand_nd this
  have : cand.length = 6 := rfl
  omega
section
variable {P : Program} {w : World} {K : PySem.W.Frag} {mg : Str → Option Value} {base : Heap}
/-! ### _law_word -/
def spWord : Sp := fun vs H Q _ => ∃ d a : Addr, vs = [.ref d] ∧ DrawAt H d a ∧ ∀ H' s, wordOk s = true → But [d] H H' → DrawAt H' d a → Q (.str s) H'
theorem ok_word (D : Defs K mg) : FnOk P w K mg base CX0 5 D.d_law_word.f D.d_law_word.fd ["draw"] spWord := by
  have GP := ok_pick (P := P) (w := w) (base := base) D
  have GX := ok_next (P := P) (w := w) (base := base) D
  refine D.d_law_word.F.ok sc_law_word (fun vs H Q E h => ?_) (fun cdv A outer s H vs Q E hr h => ?_)
  · obtain ⟨d, a, rfl, _⟩ := h
    rfl
  obtain ⟨d, a, rfl, hd, q⟩ := h
  have hr3 : Room 3 _ := hr.mono (by omega)
  refine ⟨_, (pss_cons (ps_set (i := 1) sc_law_word.nd rfl (Or.inr rfl) pe_str)
      (pss_cons (ps_set (i := 2) sc_law_word.nd rfl (Or.inl rfl) (pe_call GP hr rfl D.d_law_pick.m D.d_law_pick.F.kp D.d_law_pick.b .nil pass0 (pa_cons (pv 0) (pa_cons (pe_lst (pa_cons pe_int (pa_cons pe_int (pa_cons pe_int (pa_cons pe_int (pa_cons pe_int (pa_cons pe_int (pa_cons (pe_op op_add pe_int (pe_call GX hr3 rfl D.d_law_next.m D.d_law_next.F.kp D.d_law_next.b .nil pass0 (pa_cons (pv 0) (pa_cons pe_int pa_nil)))) pa_nil)))))))) pa_nil))))
      (pss_cons (ps_set (i := 3) sc_law_word.nd rfl (Or.inl rfl) (pe_join pe_str (pe_lc (own := [("turn", 4)]) (g := gName 4) rfl sc_law_word.nd (pi_range1 rfl D.z_range (pa_cons (pv 2) pa_nil)) (blkOk_by (N := ["draw", "letters", "many", "word", "turn"]) (sc := defScope s_law_word) (by decide +kernel)) (fun _ _ _ _ _ => pg_name (i := 4) sc_law_word.nd rfl (Or.inl rfl)) (fun _ _ _ _ _ => pts_nil) (fun _ _ _ _ _ => (pe_ix ix_str (pv 1) (pe_call GX hr3 rfl D.d_law_next.m D.d_law_next.F.kp D.d_law_next.b .nil pass0 (pa_cons (pv 0) (pa_cons pe_int pa_nil))) (fun _ _ => rfl))))))
      (pss_one (ps_ret (pe_ifExp (pt_cmpR op_inT (pv 3) (pe_tup (pa_cons pe_str (pa_cons pe_str (pa_cons pe_str pa_nil)))) (by rfl)) (pe_op op_add_str (pv 3) pe_str) (pv 3))))))), ?_⟩
  refine ⟨_, rfl, _, rfl, d, a, 12, rfl, (by decide), hd, fun H1 r1 b1 hd1 r0 r12 => ⟨_, _, rfl, rfl, (by show 7 ≤ sizeLine; decide), fun p hp => ?_⟩⟩
  have hd2 := hd1.same (same_new hp (.lst [.int 1, .int 1, .int 2, .int 3, .int 4, .int 12, .int (1 + r1)]))
  refine ⟨d, a, p, _, rfl, hd2, upd_same, (hd1.new hp).1, (by show 0 < 7; decide), fun H3 x hx b3 hd3 => ?_⟩
  obtain ⟨m, rfl, m1, m2⟩ : ∃ m : Int, x = .int m ∧ 1 ≤ m ∧ m ≤ 12 := by
    simp only [List.mem_cons, List.not_mem_nil, or_false] at hx
    rcases hx with rfl | rfl | rfl | rfl | rfl | rfl | rfl
    · exact ⟨_, rfl, by decide, by decide⟩
    · exact ⟨_, rfl, by decide, by decide⟩
    · exact ⟨_, rfl, by decide, by decide⟩
    · exact ⟨_, rfl, by decide, by decide⟩
    · exact ⟨_, rfl, by decide, by decide⟩
    · exact ⟨_, rfl, by decide, by decide⟩
    · exact ⟨_, rfl, by omega, by omega⟩
  have b03 : But [d] H H3 := (b1.trans (But.new hp)).trans b3
  refine ⟨⟨_, rfl⟩, _, rfl, m, rfl, (by show -(2 ^ 62) ≤ m; omega), (by show m < 2 ^ 62; omega), fun D0 hD => ?_⟩
  obtain ⟨hDd, hDa⟩ := hd3.new hD
  refine lc_range (lo := 0) (n := m.toNat) (fun i H4 => But [D0, d] H3 H4 ∧ DrawAt H4 d a ∧ ∃ l : List Nat, H4 D0 = some (.lst ((l.map oneS).map V.str)) ∧ l.length = i ∧ letters l = true)
    ⟨But.new hD, hd3.same (same_new hD _), [], upd_same, rfl, rfl⟩ ?_ ?_
  · rintro i H4 hi ⟨b4, hd4, l, hl, li, ll⟩
    refine ⟨rfl, _, rfl, _, rfl, d, a, 26, rfl, (by decide), hd4, fun H5 r b5 hd5 r0 r26 => ?_⟩
    have hr2 : r.toNat < (cs ("abcdefghijklmnopqrstuvwxyz" : Str)).length := by rw [az_len]; omega
    have er : r = ((r.toNat : Nat) : Int) := by omega
    have z : atI (cs ("abcdefghijklmnopqrstuvwxyz" : Str)) ((r.toNat : Nat) : Int) = some (cs ("abcdefghijklmnopqrstuvwxyz" : Str))[r.toNat] := atI_nat (by rw [List.getElem?_eq_getElem hr2])
    rw [← er] at z
    have hl5 := b5 _ _ (by simpa using hDd) hl
    have gl := letters_get az (List.getElem?_eq_getElem hr2)
    refine ⟨_, r, _, rfl, rfl, (by decide +kernel), z, _, hl5, ?_, ((b4.trans (b5.mono (by simp))).trans (But.put (by simp))), hd5.upd hDd hDa, l ++ [(cs ("abcdefghijklmnopqrstuvwxyz" : Str))[r.toNat]], ?_, ?_, ?_⟩
    · rw [List.length_map, List.length_map]
      exact small1000 (by omega)
    · rw [upd_same, List.map_append, List.map_append]
      rfl
    · rw [List.length_append, li]
      rfl
    · rw [letters_snoc, ll, decide_eq_true gl.1, decide_eq_true gl.2]
      rfl
  · rintro H4 ⟨b4, hd4, l, hl, li, ll⟩
    have b04 : But [d] H H4 := b03.trans (b4.drop hD)
    refine ⟨_, D0, l.map oneS, rfl, rfl, .inl (SqL.of hl), ?_, ?_⟩
    · rw [sum_ones, List.length_map]
      rw [show ("" : Str).length = 0 from rfl]
      omega
    rw [join_ones]
    refine ⟨_, rfl, (by show 3 ≤ sizeLine; decide), fun p2 hp2 => ⟨sOf l, p2, noWords, rfl, rfl, .inr (SqT.of upd_same), _, rfl, ?_⟩⟩
    have g2 := same_new hp2 (.tup (noWords.map V.str))
    by_cases c : sOf l ∈ noWords
    · rw [decide_eq_true c]
      refine iteT ⟨_, rfl, _, _, rfl, rfl, ?_, ?_⟩
      · have := len_no c
        have : ("s" : Str).length = 1 := rfl
        exact Nat.le_of_lt (small1000 (by omega))
      · exact q _ _ (wordOk_s c) (b04.trans (But.of g2)) (hd4.same g2)
    · rw [decide_eq_false c]
      exact iteF ⟨_, rfl, q _ _ (wordOk_of (by omega) (by omega) ll c) (b04.trans (But.of g2)) (hd4.same g2)⟩
/-! ### _law_vocab -/
def spVocab : Sp := fun vs H Q _ => ∃ (d a : Addr) (m : Int), vs = [.ref d, .int m] ∧ DrawAt H d a ∧ 0 ≤ m ∧ m ≤ 3 ∧ ∀ H' l ws, wsOk ws m → But [d] H H' → DrawAt H' d a → H' l = some (.lst (ws.map V.str)) → H l = none → Q (.ref l) H'
where wsOk (ws : List Str) (m : Int) : Prop := (ws.length : Int) = m ∧ ∀ x ∈ ws, wordOk x = true
theorem ok_vocab (D : Defs K mg) : FnOk P w K mg base CX0 6 D.d_law_vocab.f D.d_law_vocab.fd ["draw", "many"] spVocab := by
  have GW := ok_word (P := P) (w := w) (base := base) D
  refine D.d_law_vocab.F.ok sc_law_vocab (fun vs H Q E h => ?_) (fun cdv A outer s H vs Q E hr h => ?_)
  · obtain ⟨d, a, m, rfl, _⟩ := h
    rfl
  obtain ⟨d, a, m, rfl, hd, m0, m3, q⟩ := h
  refine ⟨_, (pss_cons (ps_set (i := 2) sc_law_vocab.nd rfl (Or.inr rfl) (pe_lst pa_nil))
      (pss_cons (ps_for PassesOwn.never rfl (pi_range1 rfl D.z_range (pa_cons (pv 1) pa_nil)) (pg_name (i := 3) sc_law_vocab.nd rfl (Or.inl rfl)) (pss_cons (ps_set (i := 4) sc_law_vocab.nd rfl (Or.inl rfl) (pe_call GW hr rfl D.d_law_word.m D.d_law_word.F.kp D.d_law_word.b .nil pass0 (pa_cons (pv 0) pa_nil)))
      (pss_cons (ps_setLc (i := 5) (own := [("one", 6)]) (g := gName 6) rfl sc_law_vocab.nd rfl rfl (sw_true rfl rfl rfl (by decide +kernel)) (pi_tup (pe_tup (pa_cons pe_str (pa_cons pe_str (pa_cons pe_str (pa_cons pe_str (pa_cons pe_str (pa_cons pe_str pa_nil)))))))) (blkOk_by (N := ["draw", "many", "found", "turn", "word", "spare", "one"]) (sc := defScope s_law_vocab) (by decide +kernel)) (fun _ _ _ _ _ => pg_name (i := 6) sc_law_vocab.nd rfl (Or.inl rfl)) (fun _ _ _ _ _ => pts_one (pt_cmpR (op_notInTK (K := K) rfl) (pv 6) (pv 2) (by rfl))) (fun _ _ _ _ _ => (pv 6)))
      (pss_one (ps_expr (pe_bm PySem.F.plainAttrs_list PySem.F.slot_list_append PySem.F.type_list_append mt_append (pv 2) (pa_cons (pe_ifExp (pt_cmpR op_inT (pv 4) (pv 2) (by rfl)) (pe_ix ix_list (pv 5) pe_int (fun _ _ => rfl)) (pv 4)) pa_nil)))))))
      (pss_one (ps_ret (pv 2))))), ?_⟩
  refine ⟨(by show 0 ≤ sizeLine; decide), fun l hl => ?_⟩
  obtain ⟨nld, nla⟩ := hd.new hl
  refine ⟨_, rfl, m, rfl, (by show -(2 ^ 62) ≤ m; omega), (by show m < 2 ^ 62; omega), for_range (lo := 0) (n := m.toNat) (fun i σ H2 => But [l, d] (upd H l (.lst [])) H2 ∧ DrawAt H2 d a ∧ (∃ o3 o4 o5 o6, σ = [some (.ref d), some (.int m), some (.ref l), o3, o4, o5, o6]) ∧ ∃ ws : List Str, ws.length = i ∧ (∀ x ∈ ws, wordOk x = true) ∧ H2 l = some (.lst (ws.map V.str)))
    ⟨But.refl _, hd.same (same_new hl _), ⟨none, none, none, none, rfl⟩, [], rfl, (fun x hx => by cases hx), upd_same⟩ ?_ ?_⟩
  · rintro i σ H2 hi ⟨b2, hd2, ⟨o3, o4, o5, o6, rfl⟩, ws, li, ok, hw⟩
    have hi3 : i < 3 := by omega
    refine ⟨_, rfl, d, a, rfl, hd2, fun H3 wd wok b3 hd3 => ?_⟩
    have hw3 := b3 _ _ (by simpa using nld) hw
    refine ⟨(by show 6 ≤ sizeLine; decide), fun t ht => ⟨t, rfl, ⟨_, SqT.of upd_same⟩, fun D0 hD => ?_⟩⟩
    have gt := same_new ht (.tup (cand.map V.str))
    have hdt := hd3.same gt
    obtain ⟨nDd, nDa⟩ := hdt.new hD
    have nlD : l ≠ D0 := ne_of_none (gt _ _ hw3) hD
    have ntD : t ≠ D0 := ne_of_none upd_same hD
    refine lc_tup (K := K) (a := t) (xs := cand.map V.str) (fun j H4 => But [D0] (upd (upd H3 t (.tup (cand.map V.str))) D0 (.lst [])) H4 ∧ H4 D0 = some (.lst (((cand.take j).filter (fun x => !decide (x ∈ ws))).map V.str)))
      ⟨But.refl _, upd_same⟩ (fun j H4 _ hh => SqT.of (hh.1 _ _ (by simpa using ntD) (by rw [upd_ne ntD]; exact upd_same))) ?_ ?_
    · rintro j x H4 hj ⟨b4, h4⟩
      obtain ⟨y, hy, rfl⟩ : ∃ y, cand[j]? = some y ∧ V.str y = x := by
        rw [List.getElem?_map] at hj
        cases e : cand[j]? with
        | none => rw [e] at hj; cases hj
        | some y => rw [e] at hj; exact ⟨y, rfl, Option.some.inj hj⟩
      have hw4 : H4 l = some (.lst (ws.map V.str)) := b4 _ _ (by simpa using nlD) (by rw [upd_ne nlD]; exact gt _ _ hw3)
      refine ⟨rfl, _, rfl, _, rfl, y, l, ws, rfl, rfl, .inl (SqL.of hw4), _, rfl, ?_⟩
      rw [take_more hy, List.filter_append]
      by_cases c : y ∈ ws
      · rw [decide_eq_true c]
        refine iteF ⟨b4, ?_⟩
        rw [h4]
        simp [c]
      · rw [decide_eq_false c]
        refine iteT ⟨_, rfl, _, h4, ?_, b4.trans (But.put (by simp)), ?_⟩
        · rw [List.length_map]
          refine Nat.lt_of_le_of_lt (List.length_filter_le _ _) ?_
          rw [List.length_take]
          exact small1000 (by show min j cand.length ≤ 1000; have : cand.length = 6 := rfl; omega)
        · rw [upd_same]
          simp [c]
    · rintro H4 ⟨b4, h4⟩
      rw [List.length_map, List.take_length] at h4
      have g34 : Same H3 H4 := fun e o z => by
        have z4 := gt _ _ z
        exact b4 e o (by simp only [List.mem_singleton]; exact ne_of_none z4 hD) (by rw [upd_ne (ne_of_none z4 hD)]; exact z4)
      have hw4 := g34 _ _ hw3
      have hd4 := hd3.same g34
      have fr := cand_free (ws := ws) (by omega)
      have hlen : (ws.map V.str).length < sizeLine := by rw [List.length_map]; exact small1000 (by omega)
      have done : ∀ y : Str, wordOk y = true → But [l, d] (upd H l (.lst [])) (upd H4 l (.lst (ws.map V.str ++ [V.str y]))) ∧ DrawAt (upd H4 l (.lst (ws.map V.str ++ [V.str y]))) d a ∧ ∃ ws' : List Str, ws'.length = i + 1 ∧ (∀ x ∈ ws', wordOk x = true) ∧ (upd H4 l (.lst (ws.map V.str ++ [V.str y]))) l = some (.lst (ws'.map V.str)) := fun y hy => by
        refine ⟨((b2.trans (b3.mono (by simp))).trans (But.of g34)).trans (But.put (by simp)), hd4.upd nld nla, ws ++ [y], by rw [List.length_append, li]; rfl, fun x hx => ?_, by rw [upd_same, List.map_append]; rfl⟩
        rcases List.mem_append.mp hx with hx | hx
        · exact ok x hx
        · simp only [List.mem_singleton] at hx; subst hx; exact hy
      refine ⟨_, rfl, .inl ⟨rfl, _, SqL.of hw4⟩, _, rfl, _, rfl, wd, l, ws, rfl, rfl, .inl (SqL.of hw4), _, rfl, ?_⟩
      by_cases c : wd ∈ ws
      · rw [decide_eq_true c]
        cases ef : cand.filter (fun x => !decide (x ∈ ws)) with
        | nil => exact (fr ef).elim
        | cons y r =>
          rw [ef] at h4
          have hy : wordOk y = true := cand_ok y (List.mem_filter.mp (show y ∈ cand.filter (fun x => !decide (x ∈ ws)) by rw [ef]; simp)).1
          obtain ⟨e1, e2, e3⟩ := done y hy
          refine iteT ⟨_, rfl, D0, _, _, _, rfl, rfl, SqL.of h4, atI_nat (j := 0) rfl, l, _, _, rfl, rfl, hw4, hlen, ?_⟩
          exact ⟨e1, e2, ⟨_, _, _, _, rfl⟩, e3⟩
      · rw [decide_eq_false c]
        obtain ⟨e1, e2, e3⟩ := done wd wok
        refine iteF ⟨_, rfl, l, _, _, rfl, rfl, hw4, hlen, ?_⟩
        exact ⟨e1, e2, ⟨_, _, _, _, rfl⟩, e3⟩
  · rintro σ H2 ⟨b2, hd2, ⟨o3, o4, o5, o6, rfl⟩, ws, li, ok, hw⟩
    refine ⟨_, rfl, q H2 l ws ⟨by omega, ok⟩ (((But.new hl).trans b2).drop hl) hd2 hw hl⟩
end
end K1
namespace K1
open PySem L2
/-- nodes of a concept of a depth at most -/
def cap : Nat → Nat
  | 0 => 1
  | n + 1 => 2 + 2 * cap n
theorem cap_pos : ∀ n, 1 ≤ cap n
  | 0 => Nat.le_refl _
  | n + 1 => by unfold cap; omega
theorem cap_mono : ∀ n, cap n ≤ cap (n + 1)
  | 0 => by decide
  | n + 1 => by have := cap_mono n; unfold cap; simp only [cap] at *; omega
/-- two lists of words stand apart from the draws -/
structure Names (H : Hp) (d tn tr : Addr) (N R : List Str) : Prop where
  n : H tn = some (.lst (N.map V.str))
  r : H tr = some (.lst (R.map V.str))
  nd : tn ≠ d
  rd : tr ≠ d
theorem Names.but {H H' : Hp} {d tn tr : Addr} {N R : List Str} (h : Names H d tn tr N R) (b : But [d] H H') : Names H' d tn tr N R :=
  ⟨b _ _ (by simpa using h.nd) h.n, b _ _ (by simpa using h.rd) h.r, h.nd, h.rd⟩
theorem Names.same {H H' : Hp} {d tn tr : Addr} {N R : List Str} (h : Names H d tn tr N R) (b : Same H H') : Names H' d tn tr N R := h.but (But.of b)
structure Voc2 (N R : List Str) : Prop extends Vocab N R where
  pn : 0 < N.length
  pr : 0 < R.length
section
variable {P : Program} {w : World} {K : PySem.W.Frag} {mg : Str → Option Value} {base : Heap}
def spAtom : Sp := fun vs H Q _ => ∃ (d a tn : Addr) (N : List Str), vs = [.ref d, .ref tn] ∧ DrawAt H d a ∧ H tn = some (.lst (N.map V.str)) ∧ tn ≠ d ∧ 0 < N.length ∧ N.length ≤ 10 ∧ (∀ x ∈ N, wordOk x = true) ∧
  ∀ H' (s : Str), (s = "all" ∨ s = "none" ∨ s ∈ N) → But [d] H H' → DrawAt H' d a → Q (.str s) H'
theorem ok_atom (D : Defs K mg) : FnOk P w K mg base CX0 5 D.d_law_atom.f D.d_law_atom.fd ["draw", "names"] spAtom := by
  have GP := ok_pick (P := P) (w := w) (base := base) D
  have GX := ok_next (P := P) (w := w) (base := base) D
  refine D.d_law_atom.F.ok sc_law_atom (fun vs H Q E h => ?_) (fun cdv A outer s H vs Q E hr h => ?_)
  · obtain ⟨d, a, tn, N, rfl, _⟩ := h
    rfl
  obtain ⟨d, a, tn, N, rfl, hd, hn, nd, p0, l10, ok, q⟩ := h
  have hr3 : Room 3 _ := hr.mono (by omega)
  refine ⟨_, (pss_cons (ps_set (i := 2) sc_law_atom.nd rfl (Or.inl rfl) (pe_call GX hr3 rfl D.d_law_next.m D.d_law_next.F.kp D.d_law_next.b .nil pass0 (pa_cons (pv 0) (pa_cons pe_int pa_nil))))
      (pss_cons (ps_if (pt_cmpR op_eq (pv 2) pe_int (nomark _)) (pss_one (ps_ret pe_str)) pss_nil)
      (pss_one (ps_ret (pe_ifExp (PW.pt (pw_or (pt_cmpR op_lt (pv 2) pe_int (nomark _)) (pw_or1 (pt_cmpR (op_eqD hr.units) (pv 1) (pe_lst pa_nil) (nomark _))))) pe_str (pe_call GP hr rfl D.d_law_pick.m D.d_law_pick.F.kp D.d_law_pick.b .nil pass0 (pa_cons (pv 0) (pa_cons (pv 1) pa_nil)))))))), ?_⟩
  refine ⟨_, rfl, d, a, 16, rfl, (by decide), hd, fun H1 r b1 hd1 r0 r16 => ⟨_, rfl, rfl, _, rfl, ?_⟩⟩
  refine ite2 (fun _ => q H1 _ (.inr (.inl rfl)) b1 hd1) (fun _ => ?_)
  refine ⟨_, rfl, _, _, rfl, rfl, _, rfl, ?_⟩
  refine ite2 (fun _ => q H1 _ (.inl rfl) b1 hd1) (fun _ => ?_)
  have hn1 := b1 _ _ (by simpa using nd) hn
  refine ⟨_, rfl, (by show 0 ≤ sizeLine; decide), fun p hp => ?_⟩
  have g := same_new hp (.lst [])
  refine ⟨.list (strsD N), .list [], .lst (SqL.of (g _ _ hn1)) (dp_strs N), .lst (SqL.of upd_same) .nil, ?_, rfl, _, rfl, ?_⟩
  · refine shaped_of ?_ ?_
    · show PyData.canLayAll0 (strsD N) = true
      exact lay_strs fun x hx => word_strOk (ok x hx)
    · show PyData.depthAll (strsD N) + 1 ≤ 64
      rw [depth_strs]
      decide
  have e : PyData.eqv (.list (strsD N)) (.list []) = false := by
    cases N with
    | nil => cases p0
    | cons x r => rfl
  rw [e]
  refine iteF ⟨_, rfl, _, rfl, d, a, tn, _, rfl, hd1.same g, g _ _ hn1, nd, (by rw [List.length_map]; exact p0), fun H' x hx b hd' => ?_⟩
  obtain ⟨y, hy, rfl⟩ := List.mem_map.mp hx
  exact q H' y (.inr (.inr hy)) ((b1.trans (But.of g)).trans b) hd'
/-! ### _law_concept -/
def spLC : Nat → Sp
  | 0 => fun _ _ _ _ => False
  | n + 1 => fun vs H Q _ => ∃ (d a tn tr : Addr) (N R : List Str) (m : Nat), vs = [.ref d, .ref tn, .ref tr, .int (m : Int)] ∧ m ≤ n ∧ DrawAt H d a ∧ Names H d tn tr N R ∧ Voc2 N R ∧
    ∀ H' v c, ConAt H' c v → In N R c → nest c ≤ m → nodes c ≤ cap m → But [d] H H' → DrawAt H' d a → Q v H'
theorem small_word {s : Str} {N : List Str} (ok : ∀ x ∈ N, wordOk x = true) (h : s = "all" ∨ s = "none" ∨ s ∈ N) : s.length ≤ 12 := by
  rcases h with rfl | rfl | h
  · decide +kernel
  · decide +kernel
  · exact word_len (ok s h)
theorem ok_concept (D : Defs K mg) : ∀ n, FnOk P w K mg base CX0 (n + 5) D.d_law_concept.f D.d_law_concept.fd ["draw", "names", "roles", "deep"] (spLC n)
  | 0 => none_left fun _ _ _ _ h => h
  | n + 1 => by
    have G := ok_concept D n
    have GA := ok_atom (P := P) (w := w) (base := base) D
    have GP := ok_pick (P := P) (w := w) (base := base) D
    have GX := ok_next (P := P) (w := w) (base := base) D
    refine D.d_law_concept.F.ok sc_law_concept (fun vs H Q E h => ?_) (fun cdv A outer s H vs Q E hr h => ?_)
    · obtain ⟨d, a, tn, tr, N, R, m, rfl, _⟩ := h
      rfl
    obtain ⟨d, a, tn, tr, N, R, m, rfl, hmn, hd, hN, vo, q⟩ := h
    have hr3 : Room 3 _ := hr.mono (by omega)
    have hr4 : Room 4 _ := hr.mono (by omega)
    have hr5 : Room 5 _ := hr.mono (by omega)
    refine ⟨_, (pss_cons (ps_set (i := 4) sc_law_concept.nd rfl (Or.inl rfl) (pe_call GX hr3 rfl D.d_law_next.m D.d_law_next.F.kp D.d_law_next.b .nil pass0 (pa_cons (pv 0) (pa_cons pe_int pa_nil))))
      (pss_cons (ps_if (PW.pt (pw_or (pt_cmpR op_le (pv 3) pe_int (nomark _)) (pw_or (pt_cmpR op_lt (pv 4) pe_int (nomark _)) (pw_or1 (PW.pt (pw_and (pt_cmpR op_lt (pv 4) pe_int (nomark _)) (pw_and1 (pt_cmpR (op_eqD hr.units) (pv 2) (pe_lst pa_nil) (nomark _)))))))))
          (pss_one (ps_ret (pe_call GA hr5 rfl D.d_law_atom.m D.d_law_atom.F.kp D.d_law_atom.b .nil pass0 (pa_cons (pv 0) (pa_cons (pv 1) pa_nil))))) pss_nil)
      (pss_cons (ps_if (pt_cmpR op_lt (pv 4) pe_int (nomark _)) (pss_one (ps_ret (pe_tup (pa_cons pe_str (pa_cons (pe_call GP hr4 rfl D.d_law_pick.m D.d_law_pick.F.kp D.d_law_pick.b .nil pass0 (pa_cons (pv 0) (pa_cons (pv 2) pa_nil))) (pa_cons (pe_call G hr rfl D.d_law_concept.m D.d_law_concept.F.kp D.d_law_concept.b .nil pass0 (pa_cons (pv 0) (pa_cons (pv 1) (pa_cons (pv 2) (pa_cons (pe_op op_sub (pv 3) pe_int) pa_nil))))) pa_nil)))))) pss_nil)
      (pss_cons (ps_set (i := 5) sc_law_concept.nd rfl (Or.inl rfl) (pe_lst (pa_cons (pe_call GA hr5 rfl D.d_law_atom.m D.d_law_atom.F.kp D.d_law_atom.b .nil pass0 (pa_cons (pv 0) (pa_cons (pv 1) pa_nil))) (pa_cons (pe_call G hr rfl D.d_law_concept.m D.d_law_concept.F.kp D.d_law_concept.b .nil pass0 (pa_cons (pv 0) (pa_cons (pv 1) (pa_cons (pv 2) (pa_cons (pe_op op_sub (pv 3) pe_int) pa_nil))))) pa_nil))))
      (pss_cons (ps_if (pt_cmpR op_eq (pv 4) pe_int (nomark _)) (pss_one (ps_expr (pe_bm PySem.F.plainAttrs_list PySem.F.slot_list_append PySem.F.type_list_append mt_append (pv 5) (pa_cons (pe_call G hr rfl D.d_law_concept.m D.d_law_concept.F.kp D.d_law_concept.b .nil pass0 (pa_cons (pv 0) (pa_cons (pv 1) (pa_cons (pv 2) (pa_cons (pe_op op_sub (pv 3) pe_int) pa_nil))))) pa_nil)))) pss_nil)
      (pss_one (ps_ret (pe_op op_catT (pe_tup (pa_cons pe_str pa_nil)) (pe_callTy call_tuple_of (by rfl) D.z_tuple (by decide +kernel) (pa_cons (pv 5) pa_nil)))))))))), ?_⟩
    refine ⟨_, rfl, d, a, 6, rfl, (by decide), hd, fun H1 r b1 hd1 r0 r6 => ?_⟩
    have hN1 := hN.but b1
    -- an atom
    have atom : ∀ (H2 : Hp) (Q' : L2.V → Hp → Prop), But [d] H H2 → DrawAt H2 d a → (∀ H' v c, ConAt H' c v → In N R c → nest c = 0 → nodes c = 1 → But [d] H H' → DrawAt H' d a → Q' v H') → spAtom ([.ref d, .ref tn] ++ []) H2 Q' E0 := by
      intro H2 Q' b2 hd2 q'
      have hN2 := hN.but b2
      exact ⟨d, a, tn, N, rfl, hd2, hN2.n, hN2.nd, vo.pn, vo.ln, vo.n, fun H' s hs b hd' => q' H' (.str s) (.atom s) ⟨rfl, small_word vo.n hs⟩ hs rfl rfl (b2.trans b) hd'⟩
    have c0 := cap_pos m
    refine ⟨_, rfl, _, _, rfl, rfl, _, rfl, ?_⟩
    refine ite2 (fun _ => ?_) (fun cm => ?_)
    · refine iteT ⟨_, rfl, _, rfl, atom H1 _ b1 hd1 fun H' v c h1 h2 h3 h4 h5 h6 => q H' v c h1 h2 (by omega) (by omega) h5 h6⟩
    have cm' : ¬ ((m : Int) ≤ 0) := of_decide_eq_false (Bool.eq_false_iff.mpr cm)
    refine ⟨_, rfl, _, _, rfl, rfl, _, rfl, ?_⟩
    refine ite2 (fun _ => ?_) (fun _ => ?_)
    · refine iteT ⟨_, rfl, _, rfl, atom H1 _ b1 hd1 fun H' v c h1 h2 h3 h4 h5 h6 => q H' v c h1 h2 (by omega) (by omega) h5 h6⟩
    refine ⟨_, rfl, _, _, rfl, rfl, _, rfl, ?_⟩
    -- the rest, from a heap in which nothing but new things stands
    have em : (m : Int) - 1 = ((m - 1 : Nat) : Int) := by omega
    have emv : ∀ x y z : L2.V, ([x, y, z, L2.V.int ((m : Int) - 1)] ++ []) = [x, y, z, L2.V.int ((m - 1 : Nat) : Int)] := fun x y z => by rw [em]; rfl
    have hcap : cap m = 2 + 2 * cap (m - 1) := by
      cases m with
      | zero => exact absurd (by decide) cm'
      | succ m => rfl
    -- a concept within
    have sub : ∀ (H2 : Hp) (Q' : L2.V → Hp → Prop), But [d] H H2 → DrawAt H2 d a → (∀ H' v c, ConAt H' c v → In N R c → nest c ≤ m - 1 → nodes c ≤ cap (m - 1) → But [d] H2 H' → DrawAt H' d a → Q' v H') →
        spLC n ([.ref d, .ref tn, .ref tr, .int ((m : Int) - 1)] ++ []) H2 Q' E0 := by
      intro H2 Q' b2 hd2 q'
      cases n with
      | zero => omega
      | succ n => exact ⟨d, a, tn, tr, N, R, m - 1, emv _ _ _, by omega, hd2, hN.but b2, vo, q'⟩
    refine ite2 (fun c4 => ?_) (fun c4 => ?_)
    · refine ⟨_, rfl, (by show 0 ≤ sizeLine; decide), fun p hp => ?_⟩
      have g := same_new hp (.lst [])
      refine ⟨.list (strsD R), .list [], .lst (SqL.of (g _ _ hN1.r)) (dp_strs R), .lst (SqL.of upd_same) .nil, ?_, rfl, _, rfl, ?_⟩
      · refine shaped_of ?_ ?_
        · show PyData.canLayAll0 (strsD R) = true
          exact lay_strs fun x hx => word_strOk (vo.r x hx)
        · show PyData.depthAll (strsD R) + 1 ≤ 64
          rw [depth_strs]
          decide
      have e : PyData.eqv (.list (strsD R)) (.list []) = false := by
        have := vo.pr
        cases R with
        | nil => cases this
        | cons x r => rfl
      rw [e]
      have b2 : But [d] H (upd H1 p (.lst [])) := b1.trans (But.of g)
      refine iteF ⟨_, rfl, _, _, rfl, rfl, _, rfl, ite2 (fun _ => ?_) (fun n => absurd c4 n)⟩
      refine ⟨_, rfl, _, rfl, d, a, tr, _, rfl, hd1.same g, g _ _ hN1.r, hN1.rd, (by rw [List.length_map]; exact vo.pr), fun H3 x hx b3 hd3 => ?_⟩
      obtain ⟨y, hy, rfl⟩ := List.mem_map.mp hx
      refine ⟨_, rfl, _, rfl, _, rfl, _, rfl, _, _, rfl, rfl, sub H3 _ (b2.trans b3) hd3 fun H4 v c h1 h2 h3 h4 b4 hd4 => ⟨(by show 3 ≤ sizeLine; decide), fun p2 hp2 => ?_⟩⟩
      have g2 := same_new hp2 (.tup [.str "some", .str y, v])
      exact q _ (.ref p2) (.ex y c) ⟨p2, v, rfl, upd_same, h1.same g2, word_len (vo.r y hy)⟩ ⟨hy, h2⟩ (by simp only [nest]; omega) (by simp only [nodes]; omega) (((b2.trans b3).trans b4).trans (But.of g2)) (hd4.same g2)
    · refine iteF ⟨_, rfl, _, _, rfl, rfl, _, rfl, ite2 (fun n => absurd n c4) (fun _ => ?_)⟩
      refine ⟨_, rfl, _, rfl, d, a, tn, N, rfl, hd1, hN1.n, hN1.nd, vo.pn, vo.ln, vo.n, fun H2 s0 hs0 b12 hd2 => ?_⟩
      have b2 : But [d] H H2 := b1.trans b12
      obtain ⟨v1, c1, ev, k1, i1, n1, o1⟩ : ∃ v1 c1, L2.V.str s0 = v1 ∧ ConAt H2 c1 v1 ∧ In N R c1 ∧ nest c1 = 0 ∧ nodes c1 = 1 := ⟨.str s0, .atom s0, rfl, ⟨rfl, small_word vo.n hs0⟩, hs0, rfl, rfl⟩
      rw [ev]
      refine ⟨_, rfl, _, rfl, _, rfl, _, rfl, _, _, rfl, rfl, sub H2 _ b2 hd2 fun H3 v2 c2 k2 i2 n2 o2 b3 hd3 => ⟨(by show 2 ≤ sizeLine; decide), fun l hl => ?_⟩⟩
      have b03 : But [d] H H3 := b2.trans b3
      have k13 : ConAt H3 c1 v1 := k1.t (b3.t hd2.nt)
      obtain ⟨nld, nla⟩ := hd3.new hl
      have gl := same_new hl (.lst [v1, v2])
      have lno : ∀ (xs : List L2.V), upd H3 l (.lst [v1, v2]) l ≠ some (.tup xs) := fun xs z => by rw [upd_same] at z; cases z
      -- the and of what stands in the list
      refine ⟨_, rfl, rfl, _, rfl, ite2 (fun _ => ?_) (fun _ => ?_)⟩
      · refine ⟨_, rfl, .inl ⟨rfl, _, SqL.of upd_same⟩, _, rfl, _, rfl, _, rfl, _, rfl, _, _, rfl, rfl, sub _ _ (b03.trans (But.of gl)) (hd3.same gl) fun H5 v3 c3 k3 i3 n3 o3 b5 hd5 => ?_⟩
        have hl5 := b5 _ _ (by simpa using nld) (upd_same (H := H3) (a := l) (o := .lst [v1, v2]))
        have t35 : TSame H3 H5 := (Same.t gl).trans (b5.t (hd3.same gl).nt)
        have t56 : TSame H5 (upd H5 l (.lst ([v1, v2] ++ [v3]))) := (But.put (D := [l]) (by simp)).t fun e he xs z => by
          simp only [List.mem_singleton] at he
          subst he
          rw [hl5] at z
          cases z
        have b06 : But [d] H (upd H5 l (.lst ([v1, v2] ++ [v3]))) := by
          have z : But [l, d] H3 (upd H5 l (.lst ([v1, v2] ++ [v3]))) := ((But.of gl).trans (b5.mono (by simp))).trans (But.put (by simp))
          exact b03.trans (z.drop hl)
        have hd6 : DrawAt (upd H5 l (.lst ([v1, v2] ++ [v3]))) d a := hd5.upd nld nla
        refine ⟨l, _, _, rfl, rfl, hl5, (by show 2 < sizeLine; decide), ?_⟩
        refine ⟨(by show 1 ≤ sizeLine; decide), fun t1 ht1 => ⟨_, rfl, l, _, rfl, .inl ⟨SqL.of (same_new ht1 _ _ _ upd_same), fun t2 ht2 => ?_⟩⟩⟩
        have g1 := same_new ht1 (.tup [.str "and"])
        have g2 := same_new ht2 (.tup ([v1, v2] ++ [v3]))
        refine ⟨t1, t2, _, _, rfl, rfl, SqT.of (g2 _ _ upd_same), SqT.of upd_same, (by simp), (by show 1 + 3 ≤ sizeLine; decide), (fun z => nomatch z), fun _ p hp => ?_⟩
        have g3 := same_new hp (.tup ([.str "and"] ++ ([v1, v2] ++ [v3])))
        have g := (g1.trans g2).trans g3
        have tt := t56.trans (Same.t g)
        exact q _ (.ref p) (.and3 c1 c2 c3) ⟨p, v1, v2, v3, rfl, upd_same, (k13.t t35).t tt, (k2.t t35).t tt, k3.t tt⟩ ⟨i1, i2, i3⟩ (by simp only [nest]; omega) (by simp only [nodes]; omega) (b06.trans (But.of g)) (hd6.same g)
      · refine ⟨(by show 1 ≤ sizeLine; decide), fun t1 ht1 => ⟨_, rfl, l, _, rfl, .inl ⟨SqL.of (same_new ht1 _ _ _ upd_same), fun t2 ht2 => ?_⟩⟩⟩
        have g1 := same_new ht1 (.tup [.str "and"])
        have g2 := same_new ht2 (.tup [v1, v2])
        refine ⟨t1, t2, _, _, rfl, rfl, SqT.of (g2 _ _ upd_same), SqT.of upd_same, (by simp), (by show 1 + 2 ≤ sizeLine; decide), (fun z => nomatch z), fun _ p hp => ?_⟩
        have g3 := same_new hp (.tup ([.str "and"] ++ [v1, v2]))
        have g := gl.trans ((g1.trans g2).trans g3)
        exact q _ (.ref p) (.and2 c1 c2) ⟨p, v1, v2, rfl, upd_same, k13.same g, k2.same g⟩ ⟨i1, i2⟩ (by simp only [nest]; omega) (by simp only [nodes]; omega) (b03.trans (But.of g)) (hd3.same g)
end
end K1
namespace K1
open PySem L2
theorem and_and : decide (V.str ("and" : Str) = V.str "and") = true := by decide +kernel
theorem some_and : decide (V.str ("some" : Str) = V.str "and") = false := by decide +kernel
theorem cut1 (x : V) (xs : List V) : cutV (x :: xs) (some 1) none = xs := by simp [cutV, HT.sIx]
theorem cut2 (x y : V) (xs : List V) : cutV (x :: y :: xs) (some 2) none = xs := by simp [cutV, HT.sIx]
theorem no_whole1 {xs : List V} : ¬ (HT.sIx xs.length 0 (some 1) = 0 ∧ HT.sIx xs.length xs.length none = xs.length) ∨ xs = [] := by
  cases xs with
  | nil => exact .inr rfl
  | cons x r => exact .inl (by rintro ⟨z, _⟩; simp [HT.sIx] at z)
/-- a concept that is no text: its tuple, its kids -/
theorem con_kids {H : Hp} {c : Con} {v : V} (h : ConAt H c v) (n : ∀ s, c ≠ .atom s) : ∃ a ws, v = .ref a ∧ Paired (ConAt H) (kids c) ws ∧
    ((isEx c = true ∧ ∃ r u, c = .ex r u ∧ H a = some (.tup (.str "some" :: .str r :: ws)) ∧ r.length ≤ 12) ∨ (isEx c = false ∧ H a = some (.tup (.str "and" :: ws)))) := by
  cases c with
  | atom s => exact (n s rfl).elim
  | ex r c =>
    obtain ⟨p, u, rfl, h1, h2, h3⟩ := h
    exact ⟨p, [u], rfl, .cons h2 .nil, .inl ⟨rfl, r, c, rfl, h1, h3⟩⟩
  | and2 a b =>
    obtain ⟨p, u, u', rfl, h1, h2, h3⟩ := h
    exact ⟨p, [u, u'], rfl, .cons h2 (.cons h3 .nil), .inr ⟨rfl, h1⟩⟩
  | and3 a b c =>
    obtain ⟨p, u, u', u'', rfl, h1, h2, h3, h4⟩ := h
    exact ⟨p, [u, u', u''], rfl, .cons h2 (.cons h3 (.cons h4 .nil)), .inr ⟨rfl, h1⟩⟩
theorem paired_app {α β : Type} {F : α → β → Prop} : ∀ {xs ys : List α} {us ws : List β}, Paired F xs us → Paired F ys ws → Paired F (xs ++ ys) (us ++ ws)
  | [], _, _, _, .nil, h => h
  | _, _, _, _, .cons r t, h => .cons r (paired_app t h)
theorem prtL_len : ∀ l : List Con, ((l.map prt).flatten).length = nodesL l
  | [] => rfl
  | c :: l => by simp [nodesL, prt_len, prtL_len l] at *
section
variable {P : Program} {w : World} {K : PySem.W.Frag} {mg : Str → Option Value} {base : Heap}
/-! ### _law_parts -/
def spLP : Nat → Sp
  | 0 => fun _ _ _ _ => False
  | n + 1 => fun vs H Q _ => ∃ v c, vs = [v] ∧ ConAt H c v ∧ nest c ≤ n ∧ nodes c ≤ 100 ∧ ∀ H' p ws, Same H H' → H' p = some (.lst ws) → H p = none → Paired (ConAt H') (prt c) ws → Q (.ref p) H'
end
end K1
namespace K1
open PySem L2
theorem dep_and {c : Con} (na : ∀ s, c ≠ .atom s) (ex : isEx c = false) (m : Int) (h1 : m ∈ (kids c).map dep) (h2 : ∀ y ∈ (kids c).map dep, y ≤ m) : m = dep c := by
  cases c with
  | atom s => exact (na s rfl).elim
  | ex r c => cases ex
  | and2 a b =>
    simp only [kids, List.map_cons, List.map_nil, List.mem_cons, List.not_mem_nil, or_false] at h1 h2
    have a1 := h2 _ (.inl rfl)
    have a2 := h2 _ (.inr rfl)
    simp only [dep]
    omega
  | and3 a b c =>
    simp only [kids, List.map_cons, List.map_nil, List.mem_cons, List.not_mem_nil, or_false] at h1 h2
    have a1 := h2 _ (.inl rfl)
    have a2 := h2 _ (.inr (.inl rfl))
    have a3 := h2 _ (.inr (.inr rfl))
    simp only [dep]
    omega
theorem kids_pos {c : Con} (na : ∀ s, c ≠ .atom s) : 0 < (kids c).length ∧ (kids c).length ≤ 3 := by
  cases c with
  | atom s => exact (na s rfl).elim
  | ex r c => exact ⟨by simp [kids], by simp [kids]⟩
  | and2 a b => exact ⟨by simp [kids], by simp [kids]⟩
  | and3 a b c => exact ⟨by simp [kids], by simp [kids]⟩
theorem isAnd_of {c : Con} (na : ∀ s, c ≠ .atom s) (ex : isEx c = false) : isAnd c = true := by
  cases c with
  | atom s => exact (na s rfl).elim
  | ex r c => cases ex
  | and2 a b => rfl
  | and3 a b c => rfl
theorem siz_and {c : Con} (na : ∀ s, c ≠ .atom s) (ex : isEx c = false) : ((kids c).map siz).sum = siz c := by
  cases c with
  | atom s => exact (na s rfl).elim
  | ex r c => cases ex
  | and2 a b => simp [kids, siz]
  | and3 a b c => simp [kids, siz]; omega
theorem map_snoc {α β : Type} {f : α → β} {l : List α} {i : Nat} {x : α} (h : l[i]? = some x) : (l.take i).map f ++ [f x] = (l.take (i + 1)).map f := by rw [take_more h, List.map_append]; rfl
section
variable {P : Program} {w : World} {K : PySem.W.Frag} {mg : Str → Option Value} {base : Heap}
/-! ### _law_depth -/
def spLD : Nat → Sp
  | 0 => fun _ _ _ _ => False
  | n + 1 => fun vs H Q _ => ∃ v c, vs = [v] ∧ ConAt H c v ∧ nest c ≤ n ∧ ∀ H', Same H H' → Q (.int (dep c)) H'
/-! ### _law_size -/
def spLS : Nat → Sp
  | 0 => fun _ _ _ _ => False
  | n + 1 => fun vs H Q _ => ∃ v c, vs = [v] ∧ ConAt H c v ∧ nest c ≤ n ∧ ∀ H', Same H H' → Q (.int (siz c)) H'
/-! ### _law_text -/
def spLT : Nat → Sp
  | 0 => fun _ _ _ _ => False
  | n + 1 => fun vs H Q _ => ∃ v c, vs = [v] ∧ ConAt H c v ∧ Wf c ∧ nest c ≤ n ∧ nodes c ≤ 100 ∧ ∀ H', Same H H' → Q (.str (tS c)) H'
end
end K1
namespace K2
open PySem L2 PySem.W PyProof.Rows
section
variable {X : Cx}
/-! own rules: an order of alike data; walks over a list or a tuple; sorted -/
def rLtD (K : PySem.W.Frag) : R2 := fun x y H Q => ∃ d e, Dp K H x d ∧ Dp K H y e ∧ alike d e = true ∧ d ≠ .none ∧ d.depth ≤ 64 ∧ Q (.bl (dataLt d e)) H
theorem op_ltD (hu : X.A.units + 64 < cLine) : OpR X (compareOp .Lt) (rLtD X.K) := by
  intro pins s σ H x y v u Q I rx ry h
  obtain ⟨d, e, hd, he, al, dn, dd, q⟩ := h
  obtain ⟨as, r1⟩ := Dp.reads I d x v hd rx
  obtain ⟨bs, r2⟩ := Dp.reads I e y u he ry
  exact lt_data r1 r2 al dn (by omega) ⟨.bl _, H, I, rfl, q⟩
/-- a list or a tuple is walked -/
def iSq (K : PySem.W.Frag) (tl : TE) : TI := fun σ H R => iList K tl σ H R ∨ iTup K tl σ H R
theorem pi_sq {tg l : Expr} {tl : TE} (hl : PE X l tl) : PI X tg l (iSq X.K tl) := by
  refine ⟨fun pins s σ H R I h => ?_⟩
  rcases h with h | h
  · exact (pi_list hl).run pins s σ H R I h
  · exact (pi_tup hl).run pins s σ H R I h
/-- sorted(xs), xs a list of alike data of any length: a new list, the same values with their data in order -/
def rSortedD (K : PySem.W.Frag) : List V → Hp → VK → Prop := fun vs H Q => ∃ (a : Addr) (xs : List V) (β : Type) (bs : List β) (enc : β → PyData), vs = [V.ref a] ∧ SqL K H a xs ∧ DpAll K H xs (bs.map enc) ∧ AllAlike (bs.map enc) ∧ Sortable (bs.map enc) ∧ (∀ b ∈ bs, (enc b).depth ≤ 32) ∧
  ∀ ys p, ys.Perm xs → DpAll K H ys ((bs.mergeSort (dataLe false enc)).map enc) → H p = none → Q (.ref p) (upd H p (.lst ys))
theorem dpAll_len {K : PySem.W.Frag} {H : Hp} : ∀ {xs : List V} {ds : List PyData}, DpAll K H xs ds → xs.length = ds.length
  | _, _, .nil => rfl
  | _, _, .cons _ h => by rw [List.length_cons, List.length_cons, dpAll_len h]
theorem dpAll_zip {β : Type} {K : PySem.W.Frag} {H : Hp} {enc : β → PyData} : ∀ {xs : List V} {bs : List β}, DpAll K H xs (bs.map enc) → ∀ b ∈ xs.zip bs, Dp K H b.1 (enc b.2)
  | [], _, _, b, hb => by simp at hb
  | x :: xs, [], _, b, hb => by simp at hb
  | x :: xs, c :: bs, h, b, hb => by
    rw [List.map_cons] at h
    cases h with
    | cons h1 h2 =>
      rw [List.zip_cons_cons] at hb
      rcases List.mem_cons.mp hb with e | e
      · rw [e]; exact h1
      · exact dpAll_zip h2 b e
theorem dpAll_of {β : Type} {K : PySem.W.Frag} {H : Hp} {enc : β → PyData} : ∀ {ps : List (V × β)}, (∀ b ∈ ps, Dp K H b.1 (enc b.2)) → DpAll K H (ps.map Prod.fst) ((ps.map Prod.snd).map enc)
  | [], _ => .nil
  | p :: ps, h => .cons (h p List.mem_cons_self) (dpAll_of fun b hb => h b (List.mem_cons_of_mem _ hb))
theorem each_zip {β : Type} : ∀ {xs : List V} {us : List Value} {bs : List β}, Vals xs us → xs.length = bs.length → EachIs (fun v (b : V × β) => RelV b.1 v) us (xs.zip bs)
  | [], _, bs, r, h => by cases r; cases bs <;> exact .nil
  | x :: xs, _, [], r, h => by simp at h
  | x :: xs, _, b :: bs, r, h => by
    cases r with
    | cons r1 r2 => exact .cons r1 (each_zip r2 (by simpa using h))
theorem each_vals {β : Type} : ∀ {us : List Value} {ps : List (V × β)}, EachIs (fun v (b : V × β) => RelV b.1 v) us ps → Vals (ps.map Prod.fst) us
  | _, _, .nil => .nil
  | _, _, .cons h1 h2 => .cons h1 (each_vals h2)
theorem each_reads {β : Type} {pins : List (Addr × Obj)} {σ : L2.St} {H : Hp} {s : Shared} {enc : β → PyData} (I : Inv X pins σ H s) : ∀ {us : List Value} {ps : List (V × β)}, EachIs (fun v (b : V × β) => RelV b.1 v) us ps → (∀ b ∈ ps, Dp X.K H b.1 (enc b.2)) → EachIs (fun v (b : V × β) => ∃ as, Reads s.heap v (enc b.2) as) us ps
  | _, _, .nil, _ => .nil
  | _, _, .cons h1 h2, hd => .cons (Dp.reads I _ _ _ (hd _ List.mem_cons_self) h1) (each_reads I h2 fun b hb => hd b (List.mem_cons_of_mem _ hb))
theorem zip_snd {α β : Type} : ∀ {xs : List α} {bs : List β}, xs.length = bs.length → (xs.zip bs).map Prod.snd = bs
  | [], [], _ => rfl
  | [], _ :: _, h => by simp at h
  | _ :: _, [], h => by simp at h
  | x :: xs, b :: bs, h => by rw [List.zip_cons_cons, List.map_cons, zip_snd (by simpa using h)]
theorem zip_fst {α β : Type} : ∀ {xs : List α} {bs : List β}, xs.length = bs.length → (xs.zip bs).map Prod.fst = xs
  | [], [], _ => rfl
  | [], _ :: _, h => by simp at h
  | _ :: _, [], h => by simp at h
  | x :: xs, b :: bs, h => by rw [List.zip_cons_cons, List.map_cons, zip_fst (by simpa using h)]
theorem cr_sortedD (hu : X.A.units + 64 < cLine) : CallR X (.builtin "sorted") (rSortedD X.K) := by
  intro pins s σ H vs us Q I r h
  obtain ⟨a, xs, β, bs, enc, rfl, hs, hd, al, so, dep, q⟩ := h
  obtain ⟨its, rv, hl, hz⟩ := I.list hs
  obtain ⟨u, rfl, ru⟩ := vals1 r
  obtain rfl : u = Value.ref a := ru
  have hlen : xs.length = bs.length := by rw [dpAll_len hd, List.length_map]
  have hm : (xs.zip bs).map (fun b => enc b.2) = bs.map enc := by
    have := congrArg (List.map enc) (zip_snd hlen)
    rw [List.map_map] at this
    exact this
  have hdp := dpAll_zip hd
  refine sorted_data (R := fun v (b : V × β) => RelV b.1 v) (enc := fun b : V × β => enc b.2) (bs := xs.zip bs) hl.isList (each_zip rv hlen) (each_reads I (each_zip rv hlen) hdp) (by rw [hm]; exact al) (by rw [hm]; exact so) ?_ ?_ ?_
  · rw [List.length_zip]; omega
  · intro b hb
    have := dep b.2 (List.of_mem_zip hb).2
    show X.A.units + 2 + (enc b.2).depth < cLine
    omega
  · intro out _ ho
    obtain ⟨n, hn⟩ := sortedAll_at s.heap its out.toArray
    generalize hp : (xs.zip bs).mergeSort (dataLe false fun b : V × β => enc b.2) = ps at ho
    have pm : ps.Perm (xs.zip bs) := by rw [← hp]; exact List.mergeSort_perm _ _
    have pm1 : (ps.map Prod.fst).Perm xs := by
      have := pm.map Prod.fst
      rwa [zip_fst hlen] at this
    have e2 : ps.map Prod.snd = bs.mergeSort (dataLe false enc) := by
      rw [← hp]; exact (List.map_mergeSort (r := dataLe false fun b : V × β => enc b.2) (s := dataLe false enc) (f := Prod.snd) (l := xs.zip bs) (fun _ _ _ _ => rfl)).trans (by rw [zip_snd hlen])
    have d2 := dpAll_of (enc := enc) (ps := ps) fun b hb => hdp b (pm.mem_iff.mp hb)
    rw [e2] at d2
    have hd : s.heap.objs.size ≤ s.heap.objs.size + 1 := Nat.le_succ _
    refine ⟨.ref (s.heap.objs.size + 1), upd H (s.heap.objs.size + 1) (.lst (ps.map Prod.fst)), I.laid (t' := s.toks) (fun b o e => sortedAll_old e) hd ⟨?_, out, n, each_vals ho, hn⟩, rfl, q _ _ pm1 d2 (I.hok.fresh hd)⟩
    rw [pm1.length_eq]
    exact hz
end
end K2
namespace K2
open PySem L2 PySem.W PyProof.Rows
section
variable {X : Cx} {CX : CXT} {k : Nat} {f C : Addr} {fd : FuncData} {ps : List Str} {sp : Sp} {E : XK}
/-- a def called one call deeper -/
theorem run_in1 {pins : List (Addr × Obj)} {σ : L2.St} {H : Hp} {s : Shared} {Q : VK} {us : List Value} {vs : List V} (F : FnOk X.prog X.w X.K X.mg X.base CX k f fd ps sp) (hr : Room (k + 1) X.A) (hb : Binds X.K fd ps []) (hx : Passes CX X E)
    (I : Inv X pins σ H s) (r : Vals vs us) (h : sp vs H Q E) : wpAny (model X.prog X.w) X.A.in1 (call (.ref f) us) (EP X pins σ Q) X.xe s := by
  have hl : us.length = ps.length := by rw [← r.length]; exact F.len _ _ _ _ h
  have hb' := hb s us I.kIn (by simpa using hl)
  rw [List.append_nil] at hb'
  refine wpAny_call (codeAny_mono (F.run X.A.in1 X.stack s H ⟨us, []⟩ us vs Q E hr.in1 I.env0.in1 hb' r h) fun r s' hq => ?_)
  cases r with
  | error e => exact hx pins σ H s e s' I hq
  | ok fl =>
    cases fl with
    | ret u => exact I.after hq
    | next => exact False.elim hq
    | brk => exact False.elim hq
    | cont => exact False.elim hq
theorem run_0 {pins : List (Addr × Obj)} {σ : L2.St} {H : Hp} {s : Shared} {Q : VK} {us : List Value} {vs : List V} (F : FnOk X.prog X.w X.K X.mg X.base CX k f fd ps sp) (hr : Room k X.A) (hb : Binds X.K fd ps []) (hx : Passes CX X E)
    (I : Inv X pins σ H s) (r : Vals vs us) (h : sp vs H Q E) : wpAny (model X.prog X.w) X.A (call (.ref f) us) (EP X pins σ Q) X.xe s := by
  have h' : sp (vs ++ []) H Q E := by rw [List.append_nil]; exact h
  exact run_fn F hr hb .nil hx I r h'
/-- a == b by the class's own def -/
def rEqO (C : Addr) (sp : Sp) (E : XK) : R2 := fun x y H Q => ∃ a b dx dy fs gs, x = .ref a ∧ y = .ref b ∧ H a = some (.ins C dx fs) ∧ H b = some (.ins C dy gs) ∧ sp [.ref a, .ref b] H (fun v H' => ∃ r, v = .bl r ∧ Q (.bl r) H') E
theorem op_eqO (F : FnOk X.prog X.w X.K X.mg X.base CX k f fd ps sp) (hr : Room k X.A) (hb : Binds X.K fd ps []) (hx : Passes CX X E)
    (hs : findIn X.K (.ref C) "__eq__" = some (some (.ref f))) (hf : isFn X.K (.ref f) = true) : OpR X (compareOp .Eq) (rEqO C sp E) := by
  intro pins s σ H x y v u Q I rx ry d
  obtain ⟨a, b, dx, dy, fs, gs, rfl, rfl, ha, hb', hr'⟩ := d
  cases rx
  cases ry
  obtain ⟨mA, J, _⟩ := ins_get I.hok ha
  obtain ⟨mB, J', _⟩ := ins_get I.hok hb'
  obtain ⟨od, J, _⟩ := J.look
  obtain ⟨od', J', _⟩ := J'.look
  obtain ⟨m, hF⟩ := I.fr
  refine cmp_ofEq (cmp_K (op := .Eq) (tb := .ref C) hr.units0 hF I.ok.mod.kin J J'.type (by simp [notFirst]) hs hf ?_)
  refine wpAny_mono (run_0 F hr hb hx I (vs := [.ref a, .ref b]) (.cons rfl (.cons rfl .nil)) hr') (fun v s' ⟨z, H', I', rz, r, ez, q⟩ => ?_) fun _ _ e => e
  subst ez
  cases rz
  exact ⟨.bl r, H', I', rfl, q⟩
/-- len(a) by the class's own def -/
def rLenO (C : Addr) (sp : Sp) (E : XK) : List V → Hp → VK → Prop := fun vs H Q => ∃ a dx fs, vs = [.ref a] ∧ H a = some (.ins C dx fs) ∧ sp [.ref a] H (fun v H' => ∃ n : Int, v = .int n ∧ 0 ≤ n ∧ n < 2 ^ 63 ∧ Q (.int n) H') E
theorem call_lenO (F : FnOk X.prog X.w X.K X.mg X.base CX k f fd ps sp) (hr : Room (k + 1) X.A) (hb : Binds X.K fd ps []) (hx : Passes CX X E)
    (hs : findIn X.K (.ref C) "__len__" = some (some (.ref f))) (hf : isFn X.K (.ref f) = true) : CallR X (.builtin "len") (rLenO C sp E) := by
  intro pins s σ H vs us Q I r d
  obtain ⟨a, dx, fs, rfl, ha, h⟩ := d
  obtain ⟨u, rfl, ru⟩ := vals1 r
  obtain rfl : u = Value.ref a := ru
  obtain ⟨mA, J, _⟩ := ins_get I.hok ha
  obtain ⟨od, J, _⟩ := J.look
  obtain ⟨m, hF⟩ := I.fr
  refine len_K hF I.ok.mod.kin J hs hf ?_
  refine wpAny_mono (run_in1 F hr hb hx I (vs := [.ref a]) (.cons rfl .nil) h) (fun v s' ⟨z, H', I', rz, n, ez, h0, h1, q⟩ => ?_) fun _ _ e => e
  subst ez
  obtain ⟨t, rfl⟩ := rz
  exact ⟨⟨h0, h1⟩, .int n, H', I'.tok _, ⟨_, rfl⟩, q⟩
/-- v in a, by the class's own def -/
def rInO (C : Addr) (sp : Sp) (E : XK) : R2 := fun x y H Q => ∃ a dx fs, y = .ref a ∧ H a = some (.ins C dx fs) ∧ sp [.ref a, x] H (fun v H' => ∃ r, v = .bl r ∧ Q (.bl r) H') E
theorem op_inO (F : FnOk X.prog X.w X.K X.mg X.base CX k f fd ps sp) (hr : Room k X.A) (hb : Binds X.K fd ps []) (hx : Passes CX X E)
    (hs : findIn X.K (.ref C) "__contains__" = some (some (.ref f))) (hf : isFn X.K (.ref f) = true) : OpR X (compareOp .In) (rInO C sp E) := by
  intro pins s σ H x y v u Q I rx ry d
  obtain ⟨a, dx, fs, rfl, ha, h⟩ := d
  cases ry
  obtain ⟨mA, J, _⟩ := ins_get I.hok ha
  obtain ⟨od, J, _⟩ := J.look
  obtain ⟨m, hF⟩ := I.fr
  refine in_K hF I.ok.mod.kin J hs hf ?_
  refine wpAny_mono (run_0 F hr hb hx I (vs := [.ref a, x]) (.cons rfl (.cons rx .nil)) h) (fun v s' ⟨z, H', I', rz, r, ez, q⟩ => ?_) fun _ _ e => e
  subst ez
  cases rz
  exact wpAny_truthy_bool ⟨.bl r, H', I', rfl, q⟩
end
end K2
namespace K2
open PySem L2 PySem.W PyProof.Rows Builtin
theorem slot_ne : PySem.Slot "object" "__ne__" "object.__ne__" := PySem.F.cmp_object.ne
section
variable {M : Model} {prog : Program} {w : World} {A : Around} {E : Value → Shared → Prop} {s : Shared} {K : Frag} {x C f : Addr} {ox : Obj} {od : Option Obj}
theorem ifBound_ne {args : List Value} {Q : Option Value → Shared → Prop} (X : K.In s.heap) (I : PySem.W.InstAt s.heap x ox C od) (hs : findIn K (.ref C) "__ne__" = some (some (.builtin "object.__ne__")))
    (h : wpAny M A (call (.builtin "object.__ne__") (.ref x :: args)) (fun v => Q (some v)) E s) : wpAny M A (callSpecialIfBound? (.ref x) "__ne__" args) Q E s := by
  simp only [callSpecialIfBound?, bindSpecialIfBound?]
  refine wpAny_holding (wpAny_bind (wpAny_bind (wpAny_bind (I.type.here ((looks_findIn X hs).here ?_)))))
  refine wpAny_bind (wpAny_askSetting (wpAny_ite ?_))
  have fin : wpAny M A (call (.builtin "object.__ne__") ([.ref x] ++ args) >>= fun v => pure (some v)) Q E s := wpAny_bind (wpAny_mono h (fun v s' h' => wpAny_pure h') fun _ _ h' => h')
  rw [slot_ne.bind]
  split
  · exact wpAny_bind (wpAny_pure (wpAny_pure (by exact fin)))
  · exact wpAny_tryCatch (wpAny_bind (wpAny_pure (wpAny_pure (by exact fin))))
theorem objNe_in {b : Value} {Q : Fin → Shared → Prop} (X : K.In s.heap) (I : PySem.W.InstAt s.heap x ox C od) (hs : findIn K (.ref C) "__eq__" = some (some (.ref f))) (hf : isFn K (.ref f) = true) (hu : A.units < cLine)
    (h : wpAny (model prog w) A (call (.ref f) [.ref x, b]) (fun v s' => ∃ r, v = .bool r ∧ Q (.done (.ret (.bool (!r)))) s') E s) : wpAny (model prog w) A (Builtin.«object.__ne__» ⟨[.ref x, b], []⟩) Q E s := by
  unfold Builtin.«object.__ne__»
  repeat (first
    | with_reducible refine wpAny_cRoomFor hu ?_
    | (refine wpAny_bind (m := callSpecialIfBound? (.ref x) (Str.ofString "__eq__") [b])
        (ifBound_K X I hs hf (wpAny_mono h (fun r s' hr => by
          obtain ⟨b, rfl, hq⟩ := hr
          repeat (first | exact hq | exact wpAny_pure hq | exact wpAny_truthy_bool hq | (refine wpAny_bind (m := truthy (.bool _)) (wpAny_truthy_bool ?_)) | wp_step)) fun _ _ e => e)))
    | wp_step)
theorem ne_own {b : Value} {tb : Value} {Q : Value → Shared → Prop} (X : K.In s.heap) (I : PySem.W.InstAt s.heap x ox C od) (hb : Looks (model prog w) s.heap (typeOf b) (.ref C))
    (hn : findIn K (.ref C) "__ne__" = some (some (.builtin "object.__ne__"))) (ho : mroIn K C (.type "object") = some true) (hs : findIn K (.ref C) "__eq__" = some (some (.ref f))) (hf : isFn K (.ref f) = true) (hu : A.units + 1 < cLine)
    (h : wpAny (model prog w) A.in1 (call (.ref f) [.ref x, b]) (fun v s' => ∃ r, v = .bool r ∧ Q (.bool (!r)) s') E s) : wpAny (model prog w) A (compareOp .NotEq (.ref x) b) Q E s := by
  have one : wpAny (model prog w) A (tryCompare (.ref x) "__ne__" b) (fun r s' => ∃ v, r = some v ∧ Q v s') E s := by
    unfold tryCompare
    have inst : Looks (model prog w) s.heap (isInstance (.ref x) (.type "object")) true := I.type.andThen (looks_mroIn X ho)
    refine wpAny_bind (ifBound_ne X I hn (wpAny_call (codeAny_call_builtin slot_ne.plain PySem.F.cmpEntry_ne (@PySem.W.check_slot (model prog w) _ _ _ "object.__ne__" "object" "__ne__" (.ref x) [b] [] _ (by decide +kernel) (by decide +kernel) inst (PySem.F.cmpArgs_ne _ _)
      (objNe_in (A := A.in1) X I hs hf ?_ (wpAny_mono h (fun v s' hv => ?_) fun _ _ e => e))))))
    · exact hu
    · obtain ⟨r, rfl, hq⟩ := hv
      first | exact ⟨r, rfl, wpAny_pure ⟨_, rfl, hq⟩⟩ | exact ⟨r, rfl, wpAny_pure (wpAny_pure ⟨_, rfl, hq⟩)⟩ | exact ⟨r, rfl, _, rfl, hq⟩
  refine cmp_ofNotEq ?_
  unfold richCompare
  simp only [oneThing_ref]
  refine wpAny_holding (wpAny_bind (wpAny_cRoomFor (by omega) ?_))
  refine wpAny_bind (I.type.here (wpAny_bind (hb.here ?_)))
  rw [show (Value.ref C != Value.ref C) = false from by simp]
  refine wpAny_bind (wpAny_pure ?_)
  simp only [Bool.false_eq_true, if_false]
  refine wpAny_bind (wpAny_mono one (fun r s' z => ?_) fun _ _ e => e)
  obtain ⟨v, rfl, hq⟩ := z
  exact wpAny_pure hq
end
section
variable {X : Cx} {CX : CXT} {k : Nat} {f C : Addr} {fd : FuncData} {ps : List Str} {sp : Sp} {E : XK}
/-- a != b by the class's own == -/
def rNeO (C : Addr) (sp : Sp) (E : XK) : R2 := fun x y H Q => ∃ a b dx dy fs gs, x = .ref a ∧ y = .ref b ∧ H a = some (.ins C dx fs) ∧ H b = some (.ins C dy gs) ∧ sp [.ref a, .ref b] H (fun v H' => ∃ r, v = .bl r ∧ Q (.bl (!r)) H') E
theorem op_neO (F : FnOk X.prog X.w X.K X.mg X.base CX k f fd ps sp) (hr : Room (k + 1) X.A) (hb : Binds X.K fd ps []) (hx : Passes CX X E)
    (hn : findIn X.K (.ref C) "__ne__" = some (some (.builtin "object.__ne__"))) (ho : mroIn X.K C (.type "object") = some true) (hs : findIn X.K (.ref C) "__eq__" = some (some (.ref f))) (hf : isFn X.K (.ref f) = true) : OpR X (compareOp .NotEq) (rNeO C sp E) := by
  intro pins s σ H x y v u Q I rx ry d
  obtain ⟨a, b, dx, dy, fs, gs, rfl, rfl, ha, hb', hr'⟩ := d
  cases rx
  cases ry
  obtain ⟨mA, J, _⟩ := ins_get I.hok ha
  obtain ⟨mB, J', _⟩ := ins_get I.hok hb'
  obtain ⟨od, J, _⟩ := J.look
  obtain ⟨od', J', _⟩ := J'.look
  have hu : X.A.units + 1 < cLine := hr.in1.units0
  refine ne_own (tb := .ref C) I.kIn J J'.type hn ho hs hf hu ?_
  refine wpAny_mono (run_in1 F hr hb hx I (vs := [.ref a, .ref b]) (.cons rfl (.cons rfl .nil)) hr') (fun v s' ⟨z, H', I', rz, r, ez, q⟩ => ?_) fun _ _ e => e
  subst ez
  cases rz
  exact ⟨r, rfl, .bl (!r), H', I', rfl, q⟩
end
end K2
namespace K2
open PySem L2 PySem.W PyProof.Rows
section
variable {X : Cx} {CX : CXT} {k : Nat} {f C : Addr} {fd : FuncData} {ps : List Str} {sp : Sp} {E : XK} {tg e : Expr} {te : TE}
/-- the heap, its length made longer by places that hold nothing -/
def padTo (h : Heap) (n : Nat) : Heap := ⟨h.objs ++ Array.replicate (n - h.objs.size) ⟨.none, none, .freed, #[]⟩, h.life⟩
theorem pad_size {h : Heap} {n : Nat} (le : h.objs.size ≤ n) : (padTo h n).objs.size = n := by
  simp [padTo]; omega
theorem pad_get {h : Heap} {n : Nat} (a : Addr) : (padTo h n).get? a = h.get? a := by
  unfold Heap.get? padTo
  dsimp only
  by_cases lt : (show Nat from a) < h.objs.size
  · rw [Array.getElem?_append_left lt]
  · rw [Array.getElem?_append_right (Nat.le_of_not_lt lt), Array.getElem?_eq_none (xs := h.objs) (Nat.le_of_not_lt lt), Array.getElem?_replicate]
    by_cases c : a - h.objs.size < n - h.objs.size
    · rw [if_pos c]
    · rw [if_neg c]
theorem pad_frames {h b : Heap} {n : Nat} : ∀ {l : List Env}, h.FunFrames b l → h.FunFrames (padTo b n) l
  | [], x => x
  | e :: l, x => by
    simp only [Heap.FunFrames] at x ⊢
    obtain ⟨x1, ⟨L, o, x2, x3, x4⟩, x5⟩ := x
    exact ⟨x1, ⟨L, o, x2, by rw [pad_get]; exact x3, x4⟩, pad_frames x5⟩
theorem pad_mod {K : Frag} {mg : Str → Option Value} {b : Heap} {n : Nat} (m : Mod K mg b) : Mod K mg (padTo b n) := by
  have k : ∀ a o, b.get? a = some o → (padTo b n).get? a = some o := fun a o e => by rw [pad_get]; exact e
  obtain ⟨mb, x, y⟩ := m.blt
  exact ⟨m.kin.keeps k, m.glob.keeps k, ⟨mb, x.keeps k, y⟩, m.nolimit.keeps k⟩
theorem pad_env {P : Program} {w : World} {K : Frag} {mg : Str → Option Value} {b : Heap} {A : Around} {outer : List Env} {s : Shared} {H : Hp} (e : Env0 P w K mg b A outer s H) : Env0 P w K mg (padTo b s.heap.objs.size) A outer s H :=
  ⟨e.frames, pad_mod e.mod, fun a o q => e.bs a o (by rw [pad_get] at q; exact q), Nat.le_of_eq (pad_size e.bsz), pad_frames e.funs, e.frf, e.hok, e.bare⟩
/-- an own instance is walked: its __iter__ hands back a new iterator over a list -/
def iOwn (C : Addr) (K : PySem.W.Frag) (sp : Nat → Sp) (E : XK) (te : TE) : TI := fun σ H R => te σ H fun x H1 => ∃ a dx fs, x = .ref a ∧ H1 a = some (.ins C dx fs) ∧
  ∀ n, sp n [.ref a] H1 (fun v H2 => ∃ it l, v = .ref it ∧ n ≤ it ∧ H2 it = some (ItO l it 0) ∧ R (Itl K l) (ItX.dropH H2 it)) E
theorem pi_own {sp : Nat → Sp} (he : PE X e te) (F : ∀ base : Heap, FnOk X.prog X.w X.K X.mg base CX k f fd ps (sp base.objs.size)) (hr : Room k X.A) (hb : Binds X.K fd ps []) (hx : Passes CX X E)
    (hs : findIn X.K (.ref C) "__iter__" = some (some (.ref f))) (hf : isFn X.K (.ref f) = true) : PI X tg e (iOwn C X.K sp E te) := by
  refine ⟨fun pins s σ H R I h => ?_⟩
  refine thn (he.run pins s σ H _ I h) fun u s1 ⟨x, H1, I1, rx, a, dx, fs, ex, ha, q⟩ => ?_
  subst ex
  obtain rfl : u = Value.ref a := rx
  obtain ⟨mA, J, _⟩ := ins_get I1.hok ha
  obtain ⟨od, J, _⟩ := J.look
  obtain ⟨m, hF⟩ := I1.fr
  refine owit_iter hF I1.ok.mod.kin J hs hf ?_
  have r2 : Vals [V.ref a] [Value.ref a] := .cons rfl .nil
  have q := q (padTo X.base s1.heap.objs.size).objs.size
  have F := F (padTo X.base s1.heap.objs.size)
  rw [pad_size (Nat.le_trans I1.ok.bsz I1.sz)] at q F
  have hl : [Value.ref a].length = ps.length := by rw [← r2.length]; exact F.len _ _ _ _ q
  have hb' := hb s1 [.ref a] I1.kIn (by simpa using hl)
  rw [List.append_nil] at hb'
  refine wpAny_call (codeAny_mono (F.run X.A X.stack s1 H1 ⟨[.ref a], []⟩ [.ref a] [.ref a] _ E hr (pad_env I1.env0) hb' r2 q) fun r s' hq => ?_)
  cases r with
  | error e => exact hx pins σ H1 s1 e s' I1 hq
  | ok fl =>
    cases fl with
    | ret u =>
      obtain ⟨v, H2, o1, o2, un, o4, o5, it, l, ev, hn, hi, qq⟩ := hq
      have ce : CE X.stack X.prog X.w H1 s1 (fun x h => x = v ∧ h = H2) u s' := ⟨v, H2, o1, o2, un, o4, o5, rfl, rfl⟩
      obtain ⟨v', H2', I2, rv, e1, e2⟩ := I1.after ce
      subst e1
      subst e2
      subst ev
      obtain rfl : u = Value.ref it := rv
      have eo := itO_get I2 hi
      have hy : X.s_0.heap.objs.size ≤ it := Nat.le_trans I1.sz hn
      have hi' := hi
      unfold ItO at hi'
      have st : s'.heap.IsListIter it l 0 := ⟨_, eo, rfl, rfl⟩
      show OwitIt _ _ _ _ _ _
      unfold OwitIt
      refine wpAny_specialOf (T := "list_iterator") ⟨_, eo, rfl⟩ slot_listiter_next.lookup ?_
      refine ⟨it, [it], _, _, ItX.dropH H2' it, rfl, ItX.inv_drop I2 hi', turn_list l it, st, fun b hb => ?_, qq⟩
      have e : b = it := by simpa using hb
      rw [e]
      exact ItX.inv_fp I2 hi hy
    | next => exact False.elim hq
    | brk => exact False.elim hq
    | cont => exact False.elim hq
/-- iter(xs): the iterator is younger than what was laid ahead of the law's own run -/
def rIterB (K : PySem.W.Frag) (n : Nat) : List V → Hp → VK → Prop := fun xs H Q => ∃ (l : Addr) (zs : List V), xs = [.ref l] ∧ SqL K H l zs ∧ ∀ it, H it = none → n ≤ it → Q (.ref it) (upd H it (ItO l it 0))
theorem call_iterB : CallR X (.builtin "iter") (rIterB X.K X.base.objs.size) := by
  intro pins s σ H xs us Q I r h
  obtain ⟨l, zs, rfl, hq, q⟩ := h
  exact ItX.call_iterN pins s σ H _ us Q I r ⟨l, zs, rfl, hq, fun it h1 h2 => q it h1 (Nat.le_trans I.ok.bsz h2)⟩
end
end K2
namespace K2
open PySem L2 PySem.W PyProof.Rows
/-! {k: True for k in ks}, the keys tuples of ints and texts -/
def keysT (ks : List (List L2.Key)) : List (List L2.Key × V) := ks.foldl (fun acc k => putK acc k (.bl true)) []
theorem keysT_snoc (ks : List (List L2.Key)) (k : List L2.Key) : keysT (ks ++ [k]) = putK (keysT ks) k (.bl true) := by
  unfold keysT; rw [List.foldl_append]; rfl
def entsT (ps : List (List L2.Key × Addr)) : List (List L2.Key × Addr × Value) := ps.foldl (fun acc p => storedH acc p.1 p.2 (.bool true)) []
theorem entsT_snoc (ps : List (List L2.Key × Addr)) (p : List L2.Key × Addr) : entsT (ps ++ [p]) = storedH (entsT ps) p.1 p.2 (.bool true) := by
  unfold entsT; rw [List.foldl_append]; rfl
theorem snoc_ind {α : Type} {P : List α → Prop} (h0 : P []) (h1 : ∀ l x, P l → P (l ++ [x])) (l : List α) : P l := by
  rw [← List.reverse_reverse l]
  induction l.reverse with
  | nil => exact h0
  | cons x r ih => rw [List.reverse_cons]; exact h1 _ _ ih
theorem ents_len (ps : List (List L2.Key × Addr)) : (entsT ps).length ≤ ps.length := by
  refine snoc_ind (P := fun ps => (entsT ps).length ≤ ps.length) (Nat.le_refl _) (fun l x h => ?_) ps
  rw [entsT_snoc, List.length_append]
  exact Nat.le_trans (storedH_length _ _ _ _) (Nat.succ_le_succ h)
theorem keys_len (ks : List (List L2.Key)) : (keysT ks).length ≤ ks.length := by
  refine snoc_ind (P := fun ks => (keysT ks).length ≤ ks.length) (Nat.le_refl _) (fun l x h => ?_) ks
  rw [keysT_snoc, List.length_append]
  exact Nat.le_trans (length_putK _ _ _) (Nat.succ_le_succ h)
theorem keys_kt {H : Hp} (ps : List (List L2.Key × Addr)) (h : ∀ p ∈ ps, H p.2 = some (.tup (p.1.map kV))) : L2.KT H (keysT (ps.map Prod.fst)) (entsT ps) := by
  revert h
  refine snoc_ind (P := fun ps => (∀ p ∈ ps, H p.2 = some (.tup (p.1.map kV))) → L2.KT H (keysT (ps.map Prod.fst)) (entsT ps)) (fun _ => .nil) (fun l x ih h => ?_) ps
  rw [List.map_append, entsT_snoc]
  show L2.KT H (keysT (l.map Prod.fst ++ [x.1])) _
  rw [keysT_snoc]
  exact (ih fun p hp => h p (List.mem_append_left _ hp)).put x.1 (h x (by simp)) rfl
theorem ents_is {P : Program} {w : World} {H : Hp} {h : Heap} (ok : HOk P w H h) : ∀ {kvs : List (List L2.Key × V)} {xs : List (List L2.Key × Addr × Value)}, L2.KT H kvs xs → ∀ x ∈ xs, (tupleKind (mixKind P w)).is h x.1 x.2.1
  | _, _, .nil, x, hx => nomatch hx
  | _, _, .cons hq t, x, hx => by
    rcases List.mem_cons.mp hx with e | hx
    · subst e
      exact key_of ok (by rw [← hq.1]; exact hq.2.1)
    · exact ents_is ok t x hx
/-- the dict's cell holds the entries -/
def CellT (P : Program) (w : World) (h : Heap) (D : Addr) (xs : List (List L2.Key × Addr × Value)) : Prop :=
  ∃ o es ep, h.get? D = some o ∧ o.ExactDict ∧ o.data = .dict es ep ∧ es.toList = xs.map (entryOfKey (tupleKind (mixKind P w))) ∧ (xs.map (·.1)).Nodup
theorem CellT.to {P : Program} {w : World} {H : Hp} {h : Heap} {D : Addr} {kvs : List (List L2.Key × V)} {xs : List (List L2.Key × Addr × Value)} (c : CellT P w h D xs) (ok : HOk P w H h) (r : L2.KT H kvs xs) : h.DictOfH (tupleKind (mixKind P w)) D xs := by
  obtain ⟨o, es, ep, h1, h2, h3, h4, h5⟩ := c
  exact ⟨o, es, ep, h1, h2, h3, h4, ents_is ok r, h5⟩
theorem CellT.of {P : Program} {w : World} {h : Heap} {D : Addr} {xs : List (List L2.Key × Addr × Value)} (c : h.DictOfH (tupleKind (mixKind P w)) D xs) : CellT P w h D xs := by
  obtain ⟨o, es, ep, h1, h2, h3, h4, _, h5⟩ := c
  exact ⟨o, es, ep, h1, h2, h3, h4, h5⟩
theorem CellT.keep {P : Program} {w : World} {h h' : Heap} {D : Addr} {xs : List (List L2.Key × Addr × Value)} (c : CellT P w h D xs) (k : ∀ o, h.get? D = some o → h'.get? D = some o) : CellT P w h' D xs := by
  obtain ⟨o, es, ep, h1, r⟩ := c
  exact ⟨o, es, ep, k _ h1, r⟩
section
variable {X : Cx} {pins : List (Addr × Obj)} {σ : L2.St} {H1 : Hp} {s1 : Shared} {Q : VK} {scope : Scope} {x : Str} {pa pe pc pos : Pos} {u : Nat}
theorem dcT_core {s2 : Shared} {I : Addr} {fp : List Addr} {Y : Nat → Value → Heap → Prop} {St : Nat → Heap → Prop} {ps : List (List L2.Key × Addr)} (hu : X.A.units < cLine)
    (hlx : scope.names.lookup x = some .local) (hkind : scope.kind = .function) (hdeb : (x == ("__debug__" : Str)) = false)
    (hp : ∀ p ∈ ps, H1 p.2 = some (.tup (p.1.map kV))) (hz : ps.length ≤ sizeLine)
    (W : Goes X.prog X.w X.A (.Name x pa) I fp [I] ps.length Y St) (hY : ∀ i v h, Y i v h → ∃ p, ps[i]? = some p ∧ v = .ref p.2) (st : St 0 s2.heap) (hfp : ∀ b ∈ fp, b < s2.heap.objs.size) (hI : s1.heap.objs.size ≤ I) (hI2 : I < s2.heap.objs.size)
    (stK : ∀ i h h', St i h → (∀ b ∈ fp, ∀ o, h.get? b = some o → h'.get? b = some o) → St i h') (old : ∀ b o, s1.heap.get? b = some o → s2.heap.get? b = some o) (I1 : Inv X pins σ H1 s1)
    (eq2 : ∃ h tk, s2 = { s1 with heap := h, toks := tk })
    (q : ∀ D, H1 D = none → Q (.ref D) (upd H1 D (.dT (keysT (ps.map Prod.fst))))) :
    DcGoes X.prog X.w X.A X.xe X.env scope [] (.Name x pa) [] (.Name x pe) (.Constant (.bool true) u pc) none (EP X pins σ Q) (.ref I) s2 := by
  obtain ⟨hs2, tk2, rfl⟩ := eq2
  refine ⟨I, fp, [I], ps.length, Y, St, rfl, W, st, fun D C s₃ hB hD => ?_⟩
  obtain ⟨⟨h₃, tk₃, rfl⟩, old3, nD, nC, hDC, hnm⟩ := hB
  dsimp only at old nD nC hD hnm old3 hfp hI2
  have kx : (compEnvC scope [] C X.env).kindOf x = some .local := lookup_relabel_local hlx
  have hpl : ((compEnvC scope [] C X.env).scope.kind == .class || ((compEnvC scope [] C X.env).scope.kind == .module && (compEnvC scope [] C X.env).locals != (compEnvC scope [] C X.env).globals)) = false := by
    show (scope.kind == .class || (scope.kind == .module && _)) = false
    rw [hkind]; rfl
  have dI : (D : Nat) ≠ I := Nat.ne_of_gt (Nat.lt_of_lt_of_le hI2 nD)
  have cI : (C : Nat) ≠ I := Nat.ne_of_gt (Nat.lt_of_lt_of_le hI2 nC)
  have n2 : ∀ b o, s1.heap.get? b = some o → (b : Nat) < hs2.objs.size := fun b o e => Heap.lt_size (old b o e)
  have bI : ∀ b o, s1.heap.get? b = some o → b ≠ I := fun b o e => Nat.ne_of_lt (Nat.lt_of_lt_of_le (Heap.lt_size e) hI)
  have bC : ∀ b o, s1.heap.get? b = some o → b ≠ C := fun b o e => Nat.ne_of_lt (Nat.lt_of_lt_of_le (n2 b o e) nC)
  have bD : ∀ b o, s1.heap.get? b = some o → b ≠ D := fun b o e => Nat.ne_of_lt (Nat.lt_of_lt_of_le (n2 b o e) nD)
  have hs1 : s1.heap.objs.size ≤ D := Nat.le_trans hI (Nat.le_trans (Nat.le_of_lt hI2) nD)
  have kt := fun i => keys_kt (H := H1) (ps.take i) fun p hpp => hp p (List.mem_of_mem_take hpp)
  refine ⟨fun i s₁ => ∃ h' tk m, s₁ = { s1 with heap := h', toks := tk } ∧ h'.Ns C m ∧ CellT X.prog X.w h' D (entsT (ps.take i)) ∧ ∀ b o, s1.heap.get? b = some o → h'.get? b = some o,
    ⟨h₃, tk₃, _, rfl, hnm, ⟨_, #[], 0, hD, ⟨rfl, rfl, rfl⟩, rfl, rfl, List.nodup_nil⟩, fun b o e => old3 b o (old b o e)⟩, ?_, ?_, ?_⟩
  · rintro i s₁ h' tk ⟨h₄, tk₄, m, rfl, n₄, e₄, k₄⟩ hk' _
    have off : ∀ b : Addr, b ≠ I → b ∉ [I] := fun b hb => by simpa using hb
    exact ⟨h', tk, m, rfl, n₄.at' fun o e => hk' _ o (off _ cI) e, e₄.keep fun o e => hk' _ o (off _ dI) e, fun b o e => hk' b o (off _ (bI b o e)) (k₄ b o e)⟩
  · rintro i v s₁ hi hv st ⟨h₄, tk₄, m, rfl, n₄, e₄, k₄⟩
    obtain ⟨p, hpi, rfl⟩ := hY _ _ _ hv
    refine wpAny_assign_Name (wpAny_storeName_local kx n₄ (fun h₅ n₅ s₅ => ?_) hpl)
    refine wpAny_tests_nil ?_
    show wpAny _ _ _ _ _ _
    rw [eval_Name _ _ _ hdeb]
    refine wpAny_bind (wpAny_standAt (wpAny_loadName_local hkind kx n₅ (v := .ref p.2) (if_pos rfl) ?_))
    have offC : ∀ b : Addr, b < hs2.objs.size → b ≠ C := fun b hb => Nat.ne_of_lt (Nat.lt_of_lt_of_le hb nC)
    have k5 : ∀ b o, s1.heap.get? b = some o → h₅.get? b = some o := fun b o e => s₅.extBut b o (bC b o e) (k₄ b o e)
    have ok5 : HOk X.prog X.w H1 h₅ := I1.hok.kept k5
    have c5 := e₄.keep (h' := h₅) fun o e => s₅.extBut _ o hDC e
    have d5 := c5.to ok5 (kt i)
    have mp : p ∈ ps := List.mem_of_getElem? hpi
    refine wpAny_Constant_bool ?_
    refine wpAny_dictSet_heap (hsz := Nat.le_trans (ents_len _) (Nat.le_trans (by rw [List.length_take]; exact Nat.min_le_right _ _) hz)) (show (tupleKind (mixKind X.prog X.w)).room X.A from hu) (key_of ok5 (hp p mp)) d5 fun h₆ d6 s₆ => ?_
    refine ⟨⟨h₆, _, _, rfl, n₅.at' fun o e => s₆.extBut _ o (Ne.symm hDC) e, ?_, fun b o e => s₆.extBut b o (bD b o e) (k5 b o e)⟩, ?_⟩
    · have e : ps.take (i + 1) = ps.take i ++ [p] := by rw [List.take_add_one, hpi]; rfl
      rw [e, entsT_snoc]
      exact .of d6
    · refine stK _ _ _ st fun b hb o e => ?_
      have lt := hfp b hb
      exact s₆.extBut b o (Nat.ne_of_lt (Nat.lt_of_lt_of_le lt nD)) (s₅.extBut b o (offC b lt) e)
  · rintro s₁ ⟨h₄, tk₄, m, rfl, n₄, e₄, k₄⟩
    rw [List.take_length] at e₄
    refine ⟨m, n₄, fun h' hs' => ?_⟩
    have kk : ∀ b o, s1.heap.get? b = some o → h'.get? b = some o := fun b o e => hs'.extBut b o (bC b o e) (k₄ b o e)
    have c := e₄.keep (h' := h') fun o e => hs'.extBut _ o hDC e
    have hn := I1.hok.fresh hs1
    have kt' := keys_kt (H := H1) ps hp
    refine ⟨.ref D, upd H1 D (.dT (keysT (ps.map Prod.fst))), I1.laid (t' := tk₄) kk hs1 ⟨?_, ?_, entsT ps, kt'.keeps fun b ys e => ?_, c⟩, rfl, q D hn⟩
    · exact Nat.le_trans (keys_len _) (by rw [List.length_map]; exact hz)
    · exact beq_eq_false_iff_ne.mpr (Ne.symm (Nat.ne_of_lt (Nat.lt_of_lt_of_le I1.big hs1)))
    · rw [upd_ne (ne_of_none e hn)]; exact e
/-- the walked list or tuple holds keys -/
def KeysAt (H : Hp) (ps : List (List L2.Key × Addr)) (xs : List V) : Prop := xs = ps.map (fun p => V.ref p.2) ∧ ∀ p ∈ ps, H p.2 = some (.tup (p.1.map kV))
def tDcT (K : PySem.W.Frag) (te : TE) : TE := fun σ H Q => te σ H fun y H1 => ∃ a xs ps, y = .ref a ∧ (SqL K H1 a xs ∨ SqT K H1 a xs) ∧ KeysAt H1 ps xs ∧ ∀ D, H1 D = none → Q (.ref D) (upd H1 D (.dT (keysT (ps.map Prod.fst))))
theorem refs_eq {ps : List (List L2.Key × Addr)} {its : List Value} (r : Vals (ps.map fun p => V.ref p.2) its) : its = ps.map fun p => Value.ref p.2 := by
  induction ps generalizing its with
  | nil => cases r; rfl
  | cons p l ih =>
    cases r with
    | cons h t =>
      rw [List.map_cons, ← ih t]
      rw [show _ = Value.ref p.2 from h]
theorem pe_dcT {iter : Expr} {te : TE} {d0 : Str} (hcalm : X.calm = true) (hu : X.A.units < cLine) (he : PE X iter te) (hnames : scope.names = [(d0, .local), (x, .local)]) (hne : (x == d0) = false) (hkind : scope.kind = .function) (hdeb : (x == ("__debug__" : Str)) = false := by decide)
    (hs : ∀ y, foldedSetIterable iter X.env y = pure y := by intro _; rfl) :
    PE X (.DictComp (.Name x pe) (.Constant (.bool true) u pc) [⟨.Name x pa, iter, [], 0⟩] scope pos) (tDcT X.K te) := by
  refine ⟨fun pins s σ H Q I h => ?_⟩
  have allL : ∀ y ∈ scope.names, y.2 = .local := fun y hy => by
    rw [hnames] at hy
    rcases List.mem_cons.mp hy with e | e
    · rw [e]
    · rw [List.mem_singleton.mp e]
  have hlx : scope.names.lookup x = some .local := by rw [hnames]; simp [List.lookup, hne]
  have hcl : closureFor scope X.env = pure [] := by
    have e := closure_ok (scope := scope) (env := X.env) (fun y hy e => by rw [allL y hy] at e; cases e)
    rw [hnames] at e
    exact e
  refine DictComp_goes hcl (fun y hy => by rw [allL y hy]; intro z; cases z) hkind (fun y hy _ => by
    rw [hnames] at hy
    rcases List.mem_cons.mp hy with e | e
    · rw [e, hnames]; simp
    · rw [List.mem_singleton.mp e]; exact hlx) ?_ hs
  refine thn (he.run pins s σ H _ I h) fun v s1 ⟨y, H1, I1, r1, a, xs, ps, ey, hq, ⟨hx, hp⟩, q⟩ => ?_
  subst ey
  subst hx
  obtain rfl : v = Value.ref a := r1
  have hd := I1.ok.hd hcalm
  rcases hq with hq | hq
  · obtain ⟨its, rv, p, hz⟩ := I1.list hq
    have e := refs_eq rv
    subst e
    have hlt : (a : Nat) < s1.heap.objs.size := by obtain ⟨o, ho, _⟩ := p.isList; exact Heap.lt_size ho
    refine wpAny_pyIter_list p.isList ?_
    have W := Goes.list (prog := X.prog) (w := X.w) (target := .Name x pa) hd s1.heap.objs.size a (Nat.ne_of_lt hlt) (ps.map fun p => Value.ref p.2).toArray
    have e : (ps.map fun p => Value.ref p.2).toArray.size = ps.length := by simp
    rw [e] at W
    refine dcT_core (s1 := s1) (W := W) hu hlx hkind hdeb hp (by simpa using hz) (fun i v _ hv => ?_) ⟨⟨_, Heap.get?_push_size _ rfl, rfl, rfl⟩, p.isList.push _⟩ (fun b hb => ?_) (Nat.le_refl _) ?_ (fun i h h' st k => ⟨st.1.at fun o e => k _ (by simp) o e, st.2.at fun o e => k _ (by simp) o e⟩) (fun b o e => Heap.get?_push_of_some _ e) I1 ⟨_, _, rfl⟩ q
    · simp only [List.getElem?_toArray, List.getElem?_map] at hv
      obtain ⟨p, h1, h2⟩ := Option.map_eq_some_iff.mp hv
      exact ⟨p, h1, h2.symm⟩
    · show b < (s1.heap.push _).objs.size
      rw [Heap.size_push]
      rcases List.mem_cons.mp hb with e | e
      · rw [e]; exact Nat.lt_succ_self _
      · rw [List.mem_singleton.mp e]; exact Nat.lt_succ_of_lt hlt
    · show s1.heap.objs.size < (s1.heap.push _).objs.size
      rw [Heap.size_push]; exact Nat.lt_succ_self _
  · obtain ⟨its, rv, p, hz⟩ := I1.tuple hq
    have e := refs_eq rv
    subst e
    have pt : s1.heap.IsTuple a (ps.map fun p => Value.ref p.2).toArray := p
    have hlt : (a : Nat) < s1.heap.objs.size := by obtain ⟨o, ho, _⟩ := pt; exact Heap.lt_size ho
    refine wpAny_pyIter_tuple pt ?_
    have W := Goes.tuple (prog := X.prog) (w := X.w) (target := .Name x pa) hd s1.heap.objs.size a (Nat.ne_of_lt hlt) (ps.map fun p => Value.ref p.2).toArray
    have e : (ps.map fun p => Value.ref p.2).toArray.size = ps.length := by simp
    rw [e] at W
    refine dcT_core (s1 := s1) (W := W) hu hlx hkind hdeb hp (by simpa using hz) (fun i v _ hv => ?_) ⟨⟨_, Heap.get?_push_size _ rfl, rfl, rfl⟩, pt.at fun o e => Heap.get?_push_of_some _ e⟩ (fun b hb => ?_) (Nat.le_refl _) ?_ (fun i h h' st k => ⟨st.1.at fun o e => k _ (by simp) o e, st.2.at fun o e => k _ (by simp) o e⟩) (fun b o e => Heap.get?_push_of_some _ e) I1 ⟨_, _, rfl⟩ q
    · simp only [List.getElem?_toArray, List.getElem?_map] at hv
      obtain ⟨p, h1, h2⟩ := Option.map_eq_some_iff.mp hv
      exact ⟨p, h1, h2.symm⟩
    · show b < (s1.heap.push _).objs.size
      rw [Heap.size_push]
      rcases List.mem_cons.mp hb with e | e
      · rw [e]; exact Nat.lt_succ_self _
      · rw [List.mem_singleton.mp e]; exact Nat.lt_succ_of_lt hlt
    · show s1.heap.objs.size < (s1.heap.push _).objs.size
      rw [Heap.size_push]; exact Nat.lt_succ_self _
end
end K2
namespace K2
open PySem L2 PySem.W PyProof.Rows
/-! enumerate over a tuple, one argument -/
set_option maxHeartbeats 1000000 in
theorem meets_enum1 {v : Value} {o : Obj} {H : Heap → Prop} (B : Begins v o H) :
    Meets (Builtin.«enumerate.__new__» ⟨[.type "enumerate", v], []⟩) (fun _ R s => H s.heap ∧
      R (.ok (.ret (.ref (s.heap.push o).objs.size))) { s with heap := (s.heap.push o).push { cls := .type "enumerate", data := .fields #[.none, .bool false, .ref s.heap.objs.size, rawInt 0, .none, .none] } }) :=
  .of_wp fun prog w A R s h => by
    obtain ⟨hp, g, d, tk, os⟩ := s; obtain ⟨h1, h⟩ := h
    have hsub := sub_enumerate
    have q1 : ∀ {A' : Around} {E : Value → Shared → Prop} {Q : Value → Shared → Prop}, Q (.ref hp.objs.size) ⟨hp.push o, g, d, tk, os⟩ → wpAny (model prog w) A' (pyIter v) Q E ⟨hp, g, d, tk, os⟩ :=
      fun q => B.iter prog w _ _ ⟨hp, g, d, tk, os⟩ _ h1 q
    wp_walk using q1
    refine wpAny_stack_any fun st => wpAny_pure ?_
    split
    · rename_i c _ _ _ _ _
      cases (c == Value.type "enumerate") <;> (wp_walk using q1; exact ⟨_, rfl, h⟩)
    · wp_walk using q1
      exact ⟨_, rfl, h⟩
theorem enum1 {prog : Program} {w : World} {A : Around} {E : Value → Shared → Prop} {s : Shared} {v : Value} {o : Obj} {H : Heap → Prop} {Q : Value → Shared → Prop} (B : Begins v o H) (h1 : H s.heap)
    (h : ∀ h', IsEnum h' (s.heap.objs.size + 1) s.heap.objs.size 0 .none → h'.get? s.heap.objs.size = some o →
      (∀ b o, s.heap.get? b = some o → h'.get? b = some o) → Q (.ref (s.heap.objs.size + 1)) { s with heap := h' }) :
    wpAny (model prog w) A (call (.type "enumerate") [v]) Q E s := by
  refine callType_new F.called_enumerate (by decide) (F.typeCall_enumerate_1 _) (F.newCall_enumerate_1 _) (fun obj => F.args_object_init_2 obj _) F.entry_enumerate_new (meets_enum1 B) ⟨h1, ?_⟩
  have hz : (s.heap.push o).objs.size = s.heap.objs.size + 1 := Heap.size_push ..
  show _ ∧ _
  rw [hz]
  have he := Heap.get?_push_size (s.heap.push o) (o := { cls := .type "enumerate", data := .fields #[.none, .bool false, .ref s.heap.objs.size, rawInt 0, .none, .none] }) rfl
  rw [hz] at he
  exact ⟨⟨_, he, rfl⟩, h _ he (Heap.get?_push_of_some _ (Heap.get?_push_size _ B.free)) fun b o x => Heap.get?_push_of_some _ (Heap.get?_push_of_some _ x)⟩
/-- the tuple at a, each item in a new pair -/
def IteT (K : PySem.W.Frag) (a : Addr) : It :=
  ⟨fun i H => ∃ (xs : List V) (x : V), SqT K H a xs ∧ xs[i]? = some x, fun i H v H' => ∃ T x, v = .ref T ∧ H T = none ∧ H' = upd H T (.tup [.int (i : Nat), x]) ∧ ∀ xs, SqT K H a xs → xs[i]? = some x, fun i H => ∃ xs : List V, SqT K H a xs ∧ xs.length = i⟩
theorem apart3 {h : Heap} {a e it : Addr} {i : Nat} {c : Int} {old : Value} {its : Array Value} (he : IsEnum h e it c old) (hit : h.IsTupleIter it a i) (ha : h.IsTuple a its) : e ≠ a ∧ a ≠ it := by
  obtain ⟨o, ho, hc, _⟩ := ha
  obtain ⟨o2, ho2, hc2, _⟩ := hit
  refine ⟨fun z => ?_, fun z => ?_⟩
  · have he' : h.get? e = _ := he
    rw [z, ho] at he'
    have e := congrArg Obj.cls (Option.some.inj he')
    rw [hc] at e
    have e2 := Value.type.inj e
    exact absurd e2 (by decide)
  · rw [z, ho2] at ho
    have e := congrArg Obj.cls (Option.some.inj ho)
    have e2 : ("tuple_iterator" : String) = "tuple" := Value.type.inj (hc2.symm.trans (e.trans hc))
    exact absurd e2 (by decide)
theorem turn_enumT {P : Program} {w : World} {K : PySem.W.Frag} {elts : List Expr} {kk : Nat} {tpos : Pos} (a e it : Addr) :
    Turn P w K (.Tuple elts kk tpos) (IteT K a) [e, it] e (fun i h => (∃ old, IsEnum h e it ((i : Nat) : Int) old) ∧ h.IsTupleIter it a i ∧ e ≠ it) where
  mem := by simp
  obj := fun i h st b hb => by
    obtain ⟨⟨old, he⟩, ⟨o, ho, hc, hd⟩, _⟩ := st
    rcases List.mem_cons.mp hb with z | z
    · rw [z]; exact ⟨_, he, fun v q => nomatch q⟩
    · rw [List.mem_singleton.mp z]; exact ⟨o, ho, fun v q => by rw [hd] at q; cases q⟩
  keep := fun i h h' st k => let ⟨⟨old, he⟩, hi, hne⟩ := st; ⟨⟨old, k e (by simp) _ he⟩, hi.at fun o q => k it (by simp) o q, hne⟩
  item := by
    intro X hP hw hK hc i pins s σ H E I hf st hg
    subst hP hw hK
    obtain ⟨⟨old, he⟩, hit, hne⟩ := st
    obtain ⟨xs, x, hq, hx⟩ := hg
    obtain ⟨its, rv, p, hz⟩ := I.tuple hq
    obtain ⟨u, hu, ru⟩ := rv.get hx
    have pt : s.heap.IsTuple a its.toArray := p
    obtain ⟨nea, nai⟩ := apart3 he hit pt
    have D := Draws.tuple (prog := X.prog) (w := X.w) (A := X.A.in1) (I.ok.hd hc) it a nai its.toArray
    have hlt : i < its.toArray.size := by
      have := (List.getElem?_eq_some_iff.mp hu).1
      simpa using this
    refine wpAny_pyNext_enum_itemD D he ⟨hit, pt⟩ hlt hne (by simp [hne, nea]) fun y h' tk hy ho st' hT hsz hk => ?_
    have ey : u = y := by
      have h1 : its[i]? = some y := by simpa using hy
      rw [hu] at h1
      exact Option.some.inj h1
    subst ey
    have hel : e < s.heap.objs.size := Heap.lt_size he
    have hil : it < s.heap.objs.size := by obtain ⟨_, q, _⟩ := hit; exact Heap.lt_size q
    refine ⟨_, rfl, wpAny_letOwnedTupleGo_enum (s := { s with heap := h', toks := tk + 1 }) ho fun h'' he' sb => ?_⟩
    have hT2 := (sb.2 _ (Nat.ne_of_gt hel)).trans hT
    have new : ObjOk X.prog X.w (upd H s.heap.objs.size (.tup [.int (i : Nat), x])) h'' s.heap.objs.size (.tup [.int (i : Nat), x]) :=
      ⟨by show 2 ≤ sizeLine; decide, [.int i tk, u], .cons ⟨_, rfl⟩ (.cons ru .nil), ⟨_, hT2, rfl, _, rfl⟩⟩
    have I1 : Inv X pins σ (upd H s.heap.objs.size (.tup [.int (i : Nat), x])) { s with heap := h'', toks := tk + 1 } :=
      I.turnedNew (ch := [e, it]) (fun b ob hb q => (sb.2 b (fun z => hb (by simp [z]))).trans (hk b ob (fun z => hb (by simp [z])) (fun z => hb (by simp [z])) q)) hf (Nat.le_refl _) new
    refine ⟨.ref s.heap.objs.size, _, I1, rfl, ⟨_, x, rfl, I.hok.fresh (Nat.le_refl _), rfl, fun ys hy => by rw [I.tuple_inj hy hq]; exact hx⟩, ⟨⟨u, ?_⟩, st'.1.at fun o q => (sb.2 it (Ne.symm hne)).trans q, hne⟩, fun b hb => ?_⟩
    · have e1 : ((i + 1 : Nat) : Int) = (i : Int) + 1 := by omega
      rw [e1]; exact he'
    · have hb' : b < s.heap.objs.size := by
        rcases List.mem_cons.mp hb with z | z
        · rw [z]; exact hel
        · rw [List.mem_singleton.mp z]; exact hil
      rw [upd_ne (Nat.ne_of_lt hb')]
      exact (hf b hb).1
  done := by
    intro X hP hw hK hc i pins s σ H E I hf st hg
    subst hP hw hK
    obtain ⟨⟨old, he⟩, hit, hne⟩ := st
    obtain ⟨xs, hq, hx⟩ := hg
    obtain ⟨its, rv, p, hz⟩ := I.tuple hq
    have pt : s.heap.IsTuple a its.toArray := p
    obtain ⟨nea, nai⟩ := apart3 he hit pt
    obtain ⟨f0, f1, f2, f3, f4, f5⟩ := hf it (by simp)
    have hl := rv.length
    have D := Draws.tuple (prog := X.prog) (w := X.w) (A := X.A.in1) (I.ok.hd hc) it a nai its.toArray
    have ei : its.toArray.size = i := by simp; omega
    exact wpAny_pyNext_enum_endD D he (by rw [ei]; exact ⟨hit, pt⟩) fun h' eb => ⟨rfl, I.turned (t' := s.toks) (fun b o hb q => eb b o hb q) f0 f1 f3 f4 f5⟩
  self := fun A i s Q E st h => let ⟨⟨_, he⟩, _⟩ := st; wpAny_pyIter_enum he h
/-- a list or a tuple by enumerate -/
def iEnumT (K : PySem.W.Frag) (ta : TA) : TI := fun σ H R => ta σ H fun vs H1 => ∃ a xs, vs = [.ref a] ∧ SqT K H1 a xs ∧ R (IteT K a) H1
theorem pi_enumT {X : Cx} {e : Expr} {ta : TA} {p pos tpos : Pos} {elts : List Expr} {kk : Nat} (hg : Gl X "enumerate") (hm : X.mg "enumerate" = none) (ha : PA X [e] ta) (hs : starEach [e] X.env = [(false, eval e X.env)] := by rfl) :
    PI X (.Tuple elts kk tpos) (.Call (.Name "enumerate" p) [e] [] pos) (iEnumT X.K ta) := by
  refine ⟨fun pins s σ H R I h => ?_⟩
  refine Call_ (ld_blt I hg hm boot_enumerate (PyProof.Rows.callWith_type1 (thn (ha.run pos pins s σ H _ I h) fun us s1 ⟨vs, H1, I1, r1, q1⟩ => ?_) hs rfl))
  obtain ⟨a, xs, ex, hq, q⟩ := q1
  subst ex
  obtain ⟨u, rfl, ru⟩ := vals1 r1
  obtain rfl : u = Value.ref a := ru
  obtain ⟨its, rv, p', hz⟩ := I1.tuple hq
  have pt : s1.heap.IsTuple a its.toArray := p'
  refine enum1 (begins_tuple a its.toArray) pt fun h' he hit hk => wpAny_pyIter_enum he ?_
  have I2 : Inv X pins σ H1 { s1 with heap := h' } := I1.kept (t' := s1.toks) hk
  refine ⟨s1.heap.objs.size + 1, [s1.heap.objs.size + 1, s1.heap.objs.size], _, _, H1, rfl, I2, turn_enumT a (s1.heap.objs.size + 1) s1.heap.objs.size, ⟨⟨.none, he⟩, ⟨_, hit, rfl, rfl⟩, Nat.succ_ne_self _⟩, fun b hb => ?_, q⟩
  have hle : s1.heap.objs.size ≤ b := by
    rcases List.mem_cons.mp hb with z | z
    · rw [z]; exact Nat.le_succ _
    · rw [List.mem_singleton.mp z]; exact Nat.le_refl _
  exact I1.fpOk hle (I1.hok.fresh hle)
def iEnumS (K : PySem.W.Frag) (ta : TA) : TI := fun σ H R => iEnum K ta σ H R ∨ iEnumT K ta σ H R
theorem pi_enumS {X : Cx} {e : Expr} {ta : TA} {p pos tpos : Pos} {elts : List Expr} {kk : Nat} (hg : Gl X "enumerate") (hm : X.mg "enumerate" = none) (ha : PA X [e] ta) (hs : starEach [e] X.env = [(false, eval e X.env)] := by rfl) :
    PI X (.Tuple elts kk tpos) (.Call (.Name "enumerate" p) [e] [] pos) (iEnumS X.K ta) := by
  refine ⟨fun pins s σ H R I h => ?_⟩
  rcases h with h | h
  · exact (pi_enum hg hm ha hs).run pins s σ H R I h
  · exact (pi_enumT hg hm ha hs).run pins s σ H R I h
theorem walk_enumT {K : PySem.W.Frag} {a : Addr} {xs : List V} : Walk (IteT K a) xs.length (fun H => SqT K H a xs) (YPair (fun i => some (.int (i : Nat))) (fun i => xs[i]?)) := by
  refine ⟨fun i _ hi q => ⟨xs, xs[i], q, by simp [hi]⟩, fun _ q => ⟨xs, q, rfl⟩, fun i H v H' _ q y => ?_⟩
  obtain ⟨T, x, h1, h2, h3, h4⟩ := y
  exact ⟨T, .int (i : Nat), x, h1, h2, h3, rfl, h4 xs q⟩
end K2
namespace K2
open PySem L2 PySem.W PyProof.Rows
section
variable {prog : Program} {w : World} {A : Around} {kx vx t1 it1 t2 it2 : Expr} {scope : Scope} {pos : Pos} {R : Result → Shared → Prop} {s : Shared}
/-- {kx: vx for t1 in it1 for t2 in it2} -/
abbrev DC2 (kx vx t1 it1 t2 it2 : Expr) (scope : Scope) (pos : Pos) : Expr := .DictComp kx vx [⟨t1, it1, [], 0⟩, ⟨t2, it2, [], 0⟩] scope pos
theorem turn2_in (it : Value) (D : Addr) (env : Env) : compTurn (DC2 kx vx t1 it1 t2 it2 scope pos) 1 it (.ref D) env = (do
    standAt it2.pos
    match ← pyNext it with
    | none => pure (.done .next)
    | some v =>
      letOwnedTupleGo t2 it v
      assign t2 env v
      let mut ok := true
      for c in ([] : List Expr) do
        if ok then ok ← isTrue c env (eval c env)
      if ok then
        (do
          let kv ← eval kx env
          let vv ← holding [kv] (eval vx env)
          standAt { kx.pos with endLine := vx.pos.endLine, endCol := vx.pos.endCol }
          holding [kv, vv] (dictSet D kv vv))
      again (.compLoop (DC2 kx vx t1 it1 t2 it2 scope pos) 1 it (.ref D) env)) := by rfl
theorem turn2_out (it acc : Value) (env : Env) : compTurn (DC2 kx vx t1 it1 t2 it2 scope pos) 0 it acc env = (do
    standAt it1.pos
    match ← pyNext it with
    | none => pure (.done .next)
    | some v =>
      letOwnedTupleGo t1 it v
      assign t1 env v
      let mut ok := true
      for c in ([] : List Expr) do
        if ok then ok ← isTrue c env (eval c env)
      if ok then
        let x ← eval it2 env
        standAt it2.pos
        let x ← foldedSetIterable it2 env x
        let _ ← runOwn (.compStart (DC2 kx vx t1 it1 t2 it2 scope pos) 1 (← holding [x] (pyIter x)) acc env) env
      again (.compLoop (DC2 kx vx t1 it1 t2 it2 scope pos) 0 it acc env)) := by rfl
theorem start2_in {it acc : Value} {env : Env}
    (h0 : codeAny (model prog w) A (.compLoop (DC2 kx vx t1 it1 t2 it2 scope pos) 1 it acc env) R s)
    (h : wpAny (model prog w) A (pyIter it) (fun it' s' => codeAny (model prog w) A (.compLoop (DC2 kx vx t1 it1 t2 it2 scope pos) 1 it' acc env) R s') (notedBy (model prog w) A env fun x s' => R (.error x) s') s) :
    codeAny (model prog w) A (.compStart (DC2 kx vx t1 it1 t2 it2 scope pos) 1 it acc env) R s := by
  refine codeAny_of_tree ?_
  show wpAny _ A ((compStart (DC2 kx vx t1 it1 t2 it2 scope pos) 1 it acc env).onRaise (fun x => do noteFrame x env; standAt theWindowsPlace)) _ _ s
  refine wpAny_notedAt ?_
  unfold compStart
  show wpAny _ A (ask >>= _) _ _ s
  refine wpAny_bind (wpAny_askSetting (wpAny_ite ?_))
  split
  · first
      | exact wpAny_bind (wpAny_pure (wpAny_pure (And.intro rfl h0)))
      | exact wpAny_pure (And.intro rfl h0)
  · first
      | exact wpAny_bind (wpAny_rule (wpAny_bind (wpAny_standAt (wpAny_bind (wpAny_mono h (fun it' s' h' => wpAny_pure (And.intro rfl h')) fun _ _ x => x)))))
      | (refine wpAny_bind (wpAny_rule ?_); show wpAny _ _ (standAt it2.pos >>= _) _ _ s; exact wpAny_bind (wpAny_standAt (wpAny_bind (wpAny_mono h (fun it' s' h' => wpAny_pure (And.intro rfl h')) fun _ _ x => x))))
abbrev No : Value → Shared → Prop := fun _ _ => False
/-- the inner loop -/
theorem loop2_in {J D : Addr} {cenv : Env} {fp wr : List Addr} {n : Nat} {Y : Nat → Value → Heap → Prop} {St : Nat → Heap → Prop} {G : Nat → Shared → Prop} (W : Goes prog w A t2 J fp wr n Y St) (st0 : St 0 s.heap) (h0 : G 0 s)
    (keep : ∀ i s₁ h' tk, G i s₁ → (∀ b o, b ∉ wr → s₁.heap.get? b = some o → h'.get? b = some o) → s₁.toks ≤ tk → G i { s₁ with heap := h', toks := tk })
    (turn : ∀ i v s₁, i < n → Y i v s₁.heap → St (i + 1) s₁.heap → G i s₁ → wpAny (model prog w) A (assign t2 cenv v) (fun _ s₂ => wpAny (model prog w) A (eval kx cenv) (fun kv s₃ => wpAny (model prog w) A (eval vx cenv) (fun vv s₄ =>
      wpAny (model prog w) A (dictSet D kv vv) (fun _ s₅ => G (i + 1) s₅ ∧ St (i + 1) s₅.heap) No s₄) No s₃) No s₂) No s₁)
    (done : ∀ s₁, G n s₁ → R (.ok .next) s₁) : codeAny (model prog w) A (.compLoop (DC2 kx vx t1 it1 t2 it2 scope pos) 1 (.ref J) (.ref D) cenv) R s := by
  have no : ∀ {F : Value → Shared → Prop} (e : Value) (s : Shared), No e s → F e s := fun _ _ h => h.elim
  refine codeAny_loop rfl (fun k s' => ∃ i, i ≤ n ∧ k = n + 1 - i ∧ St i s'.heap ∧ G i s') ?_ (n + 1) ⟨0, Nat.zero_le _, rfl, st0, h0⟩
  rintro k s' ⟨i, hi, rfl, st, g⟩
  show wpAny _ A ((compTurn (DC2 kx vx t1 it1 t2 it2 scope pos) 1 (.ref J) (.ref D) cenv).onRaise (fun x => do noteFrame x cenv; theTreesLotGoes x)) _ _ s'
  refine wpAny_noted ?_
  rw [turn2_in]
  refine wpAny_bind (wpAny_standAt ?_)
  by_cases hlt : i < n
  · refine wpAny_bind (wpAny_mono (W.goes i s' (fun v s₁ => wpAny (model prog w) A (assign t2 cenv v) (fun _ s₂ => wpAny (model prog w) A (eval kx cenv) (fun kv s₃ => wpAny (model prog w) A (eval vx cenv) (fun vv s₄ =>
      wpAny (model prog w) A (dictSet D kv vv) (fun _ s₅ => G (i + 1) s₅ ∧ St (i + 1) s₅.heap) No s₄) No s₃) No s₂) No s₁) _ hlt st fun v h' tk hY st' hk htk => turn i v _ hlt hY st' (keep i s' h' tk g hk htk)) (fun r s₁ h₁ => ?_) fun _ _ e => e)
    obtain ⟨v, rfl, h₂⟩ := h₁
    refine wpAny_bind (wpAny_mono h₂ (fun _ s₁' h₁' => ?_) fun _ _ h' => h')
    refine wpAny_bind (wpAny_mono h₁' (fun _ s₂ h₂ => ?_) no)
    refine wpAny_bind (wpAny_pure ?_)
    exact wpAny_bind (wpAny_bind (wpAny_mono h₂ (fun kv s₃ h₃ => wpAny_bind (wpAny_holding (wpAny_mono h₃ (fun vv s₄ h₄ => wpAny_bind (wpAny_standAt (wpAny_holding (wpAny_mono h₄ (fun _ s₅ h₅ =>
      wpAny_pure ⟨rfl, n + 1 - (i + 1), by omega, i + 1, hlt, rfl, h₅.2, h₅.1⟩) no)))) no))) no))
  · have hin : i = n := by omega
    subst hin
    refine wpAny_bind (wpAny_mono (W.stops s' (fun s₁ => R (.ok .next) s₁) _ st fun h' tk hk htk => done _ (keep i s' h' tk g hk htk)) (fun r s₁ h₁ => ?_) fun _ _ e => e)
    obtain ⟨rfl, h₂⟩ := h₁
    exact wpAny_pure h₂
/-- what the inner loop owes where its iterator stands -/
def In2 (prog : Program) (w : World) (A : Around) (cenv : Env) (t2 kx vx : Expr) (D : Addr) (Out : Shared → Prop) (it : Value) (s : Shared) : Prop :=
  ∃ (J : Addr) (fp wr : List Addr) (n : Nat) (Y : Nat → Value → Heap → Prop) (St : Nat → Heap → Prop) (G : Nat → Shared → Prop), it = .ref J ∧ Goes prog w A t2 J fp wr n Y St ∧ St 0 s.heap ∧ G 0 s ∧
    (∀ i s₁ h' tk, G i s₁ → (∀ b o, b ∉ wr → s₁.heap.get? b = some o → h'.get? b = some o) → s₁.toks ≤ tk → G i { s₁ with heap := h', toks := tk }) ∧
    (∀ i v s₁, i < n → Y i v s₁.heap → St (i + 1) s₁.heap → G i s₁ → wpAny (model prog w) A (assign t2 cenv v) (fun _ s₂ => wpAny (model prog w) A (eval kx cenv) (fun kv s₃ => wpAny (model prog w) A (eval vx cenv) (fun vv s₄ =>
      wpAny (model prog w) A (dictSet D kv vv) (fun _ s₅ => G (i + 1) s₅ ∧ St (i + 1) s₅.heap) No s₄) No s₃) No s₂) No s₁) ∧
    ∀ s₁, G n s₁ → Out s₁
/-- the outer loop -/
theorem loop2_out {I D : Addr} {cenv : Env} {fp wr : List Addr} {n : Nat} {Y : Nat → Value → Heap → Prop} {St : Nat → Heap → Prop} {G : Nat → Shared → Prop} (W : Goes prog w A t1 I fp wr n Y St) (st0 : St 0 s.heap) (h0 : G 0 s)
    (hs : ∀ x, foldedSetIterable it2 cenv x = pure x)
    (keep : ∀ i s₁ h' tk, G i s₁ → (∀ b o, b ∉ wr → s₁.heap.get? b = some o → h'.get? b = some o) → s₁.toks ≤ tk → G i { s₁ with heap := h', toks := tk })
    (turn : ∀ i v s₁, i < n → Y i v s₁.heap → St (i + 1) s₁.heap → G i s₁ → wpAny (model prog w) A (assign t1 cenv v) (fun _ s₂ => wpAny (model prog w) A (eval it2 cenv) (fun xv s₃ => wpAny (model prog w) A (pyIter xv)
      (In2 prog w A cenv t2 kx vx D fun s₅ => G (i + 1) s₅ ∧ St (i + 1) s₅.heap) No s₃) No s₂) No s₁)
    (done : ∀ s₁, G n s₁ → R (.ok .next) s₁) : codeAny (model prog w) A (.compLoop (DC2 kx vx t1 it1 t2 it2 scope pos) 0 (.ref I) (.ref D) cenv) R s := by
  have no : ∀ {F : Value → Shared → Prop} (e : Value) (s : Shared), No e s → F e s := fun _ _ h => h.elim
  refine codeAny_loop rfl (fun k s' => ∃ i, i ≤ n ∧ k = n + 1 - i ∧ St i s'.heap ∧ G i s') ?_ (n + 1) ⟨0, Nat.zero_le _, rfl, st0, h0⟩
  rintro k s' ⟨i, hi, rfl, st, g⟩
  show wpAny _ A ((compTurn (DC2 kx vx t1 it1 t2 it2 scope pos) 0 (.ref I) (.ref D) cenv).onRaise (fun x => do noteFrame x cenv; theTreesLotGoes x)) _ _ s'
  refine wpAny_noted ?_
  rw [turn2_out]
  refine wpAny_bind (wpAny_standAt ?_)
  by_cases hlt : i < n
  · refine wpAny_bind (wpAny_mono (W.goes i s' (fun v s₁ => wpAny (model prog w) A (assign t1 cenv v) (fun _ s₂ => wpAny (model prog w) A (eval it2 cenv) (fun xv s₃ => wpAny (model prog w) A (pyIter xv)
      (In2 prog w A cenv t2 kx vx D fun s₅ => G (i + 1) s₅ ∧ St (i + 1) s₅.heap) No s₃) No s₂) No s₁) _ hlt st fun v h' tk hY st' hk htk => turn i v _ hlt hY st' (keep i s' h' tk g hk htk)) (fun r s₁ h₁ => ?_) fun _ _ e => e)
    obtain ⟨v, rfl, h₂⟩ := h₁
    refine wpAny_bind (wpAny_mono h₂ (fun _ s₁' h₁' => ?_) fun _ _ h' => h')
    refine wpAny_bind (wpAny_mono h₁' (fun _ s₂ h₂ => ?_) no)
    refine wpAny_bind (wpAny_pure ?_)
    refine wpAny_bind (wpAny_mono h₂ (fun xv s₃ h₃ => ?_) no)
    refine wpAny_bind (wpAny_standAt (wpAny_bind (wpAny_of_eq (hs xv) ?_)))
    refine wpAny_bind (wpAny_holding (wpAny_mono h₃ (fun it s₄ h₄ => ?_) no))
    obtain ⟨J, fp2, wr2, n2, Y2, St2, G2, rfl, W2, st2, g2, keep2, turn2, done2⟩ := h₄
    refine wpAny_bind (wpAny_runOwn ?_)
    have loop : codeAny (model prog w) A (.compLoop (DC2 kx vx t1 it1 t2 it2 scope pos) 1 (.ref J) (.ref D) cenv)
        (fun r s' => match r with
          | .ok f => wpAny (model prog w) A (again (.compLoop (DC2 kx vx t1 it1 t2 it2 scope pos) 0 (.ref I) (.ref D) cenv)) (fun fin s' => match fin with
              | .done f => R (.ok f) s'
              | .again c' => c' = .compLoop (DC2 kx vx t1 it1 t2 it2 scope pos) 0 (.ref I) (.ref D) cenv ∧ ∃ m, m < n + 1 - i ∧ ∃ i, i ≤ n ∧ m = n + 1 - i ∧ St i s'.heap ∧ G i s') (notedBy (model prog w) A cenv fun e s' => R (.error e) s') s'
          | .error e => cameBackBy (model prog w) A cenv (notedBy (model prog w) A cenv fun e s' => R (.error e) s') e s') s₄ := by
      refine loop2_in W2 st2 g2 keep2 turn2 fun s₅ g5 => ?_
      obtain ⟨g', st'⟩ := done2 s₅ g5
      exact wpAny_pure ⟨rfl, n + 1 - (i + 1), by omega, i + 1, hlt, rfl, st', g'⟩
    exact start2_in loop (W2.self 0 _ _ _ st2 loop)
  · have hin : i = n := by omega
    subst hin
    refine wpAny_bind (wpAny_mono (W.stops s' (fun s₁ => R (.ok .next) s₁) _ st fun h' tk hk htk => done _ (keep i s' h' tk g hk htk)) (fun r s₁ h₁ => ?_) fun _ _ e => e)
    obtain ⟨rfl, h₂⟩ := h₁
    exact wpAny_pure h₂
end
section
variable {prog : Program} {w : World} {A : Around} {E : Value → Shared → Prop} {env : Env} {kx vx t1 it1 t2 it2 : Expr} {scope : Scope} {pos : Pos} {cl : List (Str × Addr)}
theorem block2 {use : Option (Value → Sem Unit)} {Q : Value → Shared → Prop} {I : Addr} {s₂ : Shared} (hcell : ∀ y ∈ scope.names, y.2 ≠ .cell) (hkind : scope.kind = .function)
    (self : ∀ (s : Shared) (Q : Value → Shared → Prop) (E : Value → Shared → Prop), (∀ b o, s₂.heap.get? b = some o → s.heap.get? b = some o) → Q (.ref I) s → wpAny (model prog w) A (pyIter (.ref I)) Q E s)
    (h : ∀ D C s₃, CompBegins s₂ D C s₃ → s₃.heap.get? D = some { cls := .type "dict", dict := none, data := .dict #[] } →
      codeAny (model prog w) A (.compLoop (DC2 kx vx t1 it1 t2 it2 scope pos) 0 (.ref I) (.ref D) (compEnvC scope cl C env)) (compEnds (model prog w) A E use Q (.ref D) (compEnvC scope cl C env)) s₃) :
    wpAny (model prog w) A newDict (fun acc s₃ => wpAny (model prog w) A (newFunctionEnv scope env.globals cl [] env.qual none .none (some env)) (fun cenv s₄ =>
      codeAny (model prog w) A (.compStart (DC2 kx vx t1 it1 t2 it2 scope pos) 0 (.ref I) acc { cenv with scope := relabel scope env }) (compEnds (model prog w) A E use Q acc { cenv with scope := relabel scope env }) s₄) E s₃) E s₂ := by
  refine wpAny_newObj_type (wpAny_newFunctionEnv hcell (by intro y hy; simp at hy) (fun h₁ ns sb => ?_) hkind)
  dsimp only at ns sb ⊢
  have e2 := Heap.get?_push_size s₂.heap (o := { cls := .type "dict", dict := none, data := .dict #[] }) rfl
  have k2 : ∀ b o, s₂.heap.get? b = some o → (s₂.heap.push { cls := .type "dict", dict := none, data := .dict #[] }).get? b = some o := fun b o e => Heap.get?_push_of_some _ e
  have z2 : (s₂.heap.push { cls := .type "dict", dict := none, data := .dict #[] }).objs.size = s₂.heap.objs.size + 1 := Heap.size_push ..
  generalize s₂.heap.push { cls := .type "dict", dict := none, data := .dict #[] } = H2 at ns sb e2 k2 z2 ⊢
  have k3 : ∀ b o, H2.get? b = some o → h₁.get? b = some o := fun b o e => sb.extBut b o (Nat.ne_of_lt (Heap.lt_size e)) (by first | exact e | exact Heap.get?_push_of_some _ e)
  have old : ∀ b o, s₂.heap.get? b = some o → h₁.get? b = some o := fun b o e => k3 b o (k2 b o e)
  have loop := h s₂.heap.objs.size H2.objs.size { s₂ with heap := h₁, toks := s₂.toks + ([] : List (Str × Value)).length } ⟨⟨_, _, rfl⟩, old, Nat.le_refl _, by rw [z2]; exact Nat.le_succ _, by rw [z2]; exact Nat.ne_of_lt (Nat.lt_succ_self _), ns⟩ (k3 _ _ e2)
  exact codeAny_compStart_dict loop (self _ _ _ old loop)
end
end K2
namespace K2
open PySem L2 PySem.W PyProof.Rows
/-! {name: True for row in rows for name in row}, rows a list of tuples of texts -/
def keysS (ss : List Str) : List (L2.Key × V) := ss.foldl (fun acc s => putK acc (Sum.inr s) (.bl true)) []
theorem keysS_snoc (ss : List Str) (k : Str) : keysS (ss ++ [k]) = putK (keysS ss) (Sum.inr k) (.bl true) := by
  unfold keysS; rw [List.foldl_append]; rfl
def entsS (ss : List Str) : List (L2.Key × Value) := ss.foldl (fun acc s => stored acc (Sum.inr s) (.bool true)) []
theorem entsS_snoc (ss : List Str) (k : Str) : entsS (ss ++ [k]) = stored (entsS ss) (Sum.inr k) (.bool true) := by
  unfold entsS; rw [List.foldl_append]; rfl
theorem keysS_kv (ss : List Str) : L2.KV (keysS ss) (entsS ss) := by
  refine snoc_ind (P := fun ss => L2.KV (keysS ss) (entsS ss)) .nil (fun l x ih => ?_) ss
  rw [keysS_snoc, entsS_snoc]
  exact ih.put (Sum.inr x) rfl
theorem keysS_len (ss : List Str) : (keysS ss).length ≤ ss.length := by
  refine snoc_ind (P := fun ss => (keysS ss).length ≤ ss.length) (Nat.le_refl _) (fun l x ih => ?_) ss
  rw [keysS_snoc, List.length_append]
  exact Nat.le_trans (length_putK _ _ _) (Nat.succ_le_succ ih)
theorem entsS_len (ss : List Str) : (entsS ss).length ≤ ss.length := by
  rw [← (keysS_kv ss).length]; exact keysS_len ss
/-- the rows taken so far -/
def flatR (rows : List (Addr × List Str)) : List Str := (rows.map (·.2)).flatten
theorem flatR_snoc (rows : List (Addr × List Str)) (r : Addr × List Str) : flatR (rows ++ [r]) = flatR rows ++ r.2 := by simp [flatR]
theorem flatR_take (rows : List (Addr × List Str)) (i : Nat) (r : Addr × List Str) (h : rows[i]? = some r) : flatR (rows.take (i + 1)) = flatR (rows.take i) ++ r.2 := by
  rw [List.take_add_one, h]; exact flatR_snoc _ _
theorem flatR_le (rows : List (Addr × List Str)) (i : Nat) : (flatR (rows.take i)).length ≤ (flatR rows).length := by
  have : flatR rows = flatR (rows.take i) ++ flatR (rows.drop i) := by
    unfold flatR
    rw [← List.flatten_append, ← List.map_append, List.take_append_drop]
  rw [this, List.length_append]
  exact Nat.le_add_right _ _
theorem refs_eqR : ∀ {rows : List (Addr × List Str)} {its : List Value}, Vals (rows.map fun p => V.ref p.1) its → its = rows.map fun p => Value.ref p.1
  | [], its, r => by cases r; rfl
  | p :: l, its, r => by
    cases r with
    | cons h t =>
      rw [List.map_cons, ← refs_eqR t]
      rw [show _ = Value.ref p.1 from h]
def CellK (P : Program) (w : World) (h : Heap) (D : Addr) (xs : List (L2.Key × Value)) : Prop := h.DictOf (mixKind P w) D xs
theorem CellK.keep {P : Program} {w : World} {h h' : Heap} {D : Addr} {xs : List (L2.Key × Value)} (c : CellK P w h D xs) (k : ∀ o, h.get? D = some o → h'.get? D = some o) : CellK P w h' D xs := by
  obtain ⟨o, es, ep, h1, r⟩ := c
  exact ⟨o, es, ep, k _ h1, r⟩
theorem CellK.lt {P : Program} {w : World} {h : Heap} {D : Addr} {xs : List (L2.Key × Value)} (c : CellK P w h D xs) : (D : Nat) < h.objs.size := by
  obtain ⟨o, es, ep, h1, r⟩ := c
  exact Heap.lt_size h1
theorem paired_at {xs : List V} {us : List Value} (r : Vals xs us) {i : Nat} {u : Value} (h : us[i]? = some u) : ∃ x, xs[i]? = some x ∧ RelV x u := by
  induction r generalizing i with
  | nil => simp at h
  | cons h1 t ih =>
    cases i with
    | zero => exact ⟨_, rfl, by have e := Option.some.inj (by simpa using h); rw [← e]; exact h1⟩
    | succ n => exact ih (by simpa using h)
section
variable {X : Cx} {scope : Scope} {x1 x2 : Str} {pa1 pa2 pi2 pe pc pos : Pos} {u : Nat}
def tDc2 (K : PySem.W.Frag) (te : TE) : TE := fun σ H Q => te σ H fun y H1 => ∃ a rows, y = .ref a ∧ SqL K H1 a (rows.map fun r : Addr × List Str => V.ref r.1) ∧ (∀ r ∈ rows, SqT K H1 r.1 (r.2.map V.str)) ∧ (flatR rows).length < sizeLine ∧
  ∀ D, H1 D = none → Q (.ref D) (upd H1 D (.dK (keysS (flatR rows))))
theorem dc2_core {iter : Expr} {te : TE} {d0 : Str} {use : Option (Value → Sem Unit)} {Qf : Value → Shared → Prop} {pins : List (Addr × Obj)} {s : Shared} {σ : L2.St} {H : Hp} {Q : VK} (hcalm : X.calm = true) (he : PE X iter te) (hnames : scope.names = [(d0, .local), (x1, .local), (x2, .local)]) (hn1 : (x1 == d0) = false) (hn2 : (x2 == d0) = false) (hne : (x2 == x1) = false) (hkind : scope.kind = .function) (hdeb1 : (x1 == ("__debug__" : Str)) = false) (hdeb2 : (x2 == ("__debug__" : Str)) = false)
    (hs : ∀ y, foldedSetIterable iter X.env y = pure y) (I : Inv X pins σ H s) (h : tDc2 X.K te σ H Q)
    (hRR : ∀ D C s' m H', Inv X pins σ H' s' → Q (.ref D) H' → s'.heap.Ns C m → FpOk X pins H' C → compEnds (model X.prog X.w) X.A X.xe use Qf (.ref D) (compEnvC scope [] C X.env) (.ok .next) s') :
    wpAny (model X.prog X.w) X.A (comprehension (DC2 (.Name x2 pe) (.Constant (.bool true) u pc) (.Name x1 pa1) iter (.Name x2 pa2) (.Name x1 pi2) scope pos) scope X.env (firstIterPos [⟨.Name x1 pa1, iter, [], 0⟩, ⟨.Name x2 pa2, .Name x1 pi2, [], 0⟩] pos) newDict false (eval iter X.env) use) Qf X.xe s := by
  have nofree : ∀ y ∈ scope.names, y.2 = .local := fun y hy => by
    rw [hnames] at hy
    rcases List.mem_cons.mp hy with e | e
    · rw [e]
    rcases List.mem_cons.mp e with e | e
    · rw [e]
    · rw [List.mem_singleton.mp e]
  have hcl : closureFor scope X.env = pure [] := by
    have e := closure_ok (scope := scope) (env := X.env) (fun y hy e => by rw [nofree y hy] at e; cases e)
    rw [hnames] at e
    exact e
  have hcell : ∀ y ∈ scope.names, y.2 ≠ .cell := fun y hy => by rw [nofree y hy]; intro z; cases z
  have l1 : scope.names.lookup x1 = some .local := by rw [hnames]; simp [List.lookup, hn1]
  have l2 : scope.names.lookup x2 = some .local := by rw [hnames]; simp [List.lookup, hn2, hne]
  refine comprehension_at (use := use) rfl hs hcl hkind (fun y hy _ => by
    rw [hnames] at hy
    rcases List.mem_cons.mp hy with e | e
    · rw [e, hnames]; simp
    rcases List.mem_cons.mp e with e | e
    · rw [e]; exact l1
    · rw [List.mem_singleton.mp e]; exact l2) ?_
  refine thn (he.run pins s σ H _ I h) fun v s1 ⟨y, H1, I1, r1, a, rows, ey, hq, hr, hz, q⟩ => ?_
  subst ey
  obtain rfl : v = Value.ref a := r1
  have hd := I1.ok.hd hcalm
  obtain ⟨its, rv, p, hzz⟩ := I1.list hq
  have e := refs_eqR rv
  subst e
  have hlt : (a : Nat) < s1.heap.objs.size := by obtain ⟨o, ho, _⟩ := p.isList; exact Heap.lt_size ho
  refine wpAny_pyIter_list p.isList ?_
  have W := Goes.list (prog := X.prog) (w := X.w) (target := .Name x1 pa1) hd s1.heap.objs.size a (Nat.ne_of_lt hlt) (rows.map fun p => Value.ref p.1).toArray
  have esz : (rows.map fun p => Value.ref p.1).toArray.size = rows.length := by simp
  rw [esz] at W
  have pl : s1.heap.IsList a (rows.map fun p => Value.ref p.1).toArray := p.isList
  refine block2 hcell hkind (fun s Q E k hQ => W.self 0 s Q E ⟨⟨_, k _ _ (Heap.get?_push_size _ rfl), rfl, rfl⟩, pl.at fun o e => k _ _ (Heap.get?_push_of_some _ e)⟩ hQ) fun D C s₃ hB hD => ?_
  obtain ⟨⟨h₃, tk₃, rfl⟩, old3, nD, nC, hDC, hnm⟩ := hB
  dsimp only at nD nC hD hnm old3
  have ez : (s1.heap.push { cls := .type "list_iterator", data := .fields #[.ref a, .int 0 0] }).objs.size = s1.heap.objs.size + 1 := Heap.size_push ..
  rw [ez] at nD nC
  have kxy : ∀ {y : Str}, scope.names.lookup y = some .local → (compEnvC scope [] C X.env).kindOf y = some .local := fun hy => lookup_relabel_local hy
  have hpl : ((compEnvC scope [] C X.env).scope.kind == .class || ((compEnvC scope [] C X.env).scope.kind == .module && (compEnvC scope [] C X.env).locals != (compEnvC scope [] C X.env).globals)) = false := by
    show (scope.kind == .class || (scope.kind == .module && _)) = false
    rw [hkind]; rfl
  have hs1 : (s1.heap.objs.size : Nat) ≤ D := Nat.le_of_succ_le nD
  have ltI : ∀ b o, s1.heap.get? b = some o → (b : Nat) < s1.heap.objs.size := fun b o e => Heap.lt_size e
  have bC : ∀ b o, s1.heap.get? b = some o → b ≠ C := fun b o e => Nat.ne_of_lt (Nat.lt_of_lt_of_le (ltI b o e) (Nat.le_of_succ_le nC))
  have bD : ∀ b o, s1.heap.get? b = some o → b ≠ D := fun b o e => Nat.ne_of_lt (Nat.lt_of_lt_of_le (ltI b o e) hs1)
  have bI : ∀ b o, s1.heap.get? b = some o → b ≠ s1.heap.objs.size := fun b o e => Nat.ne_of_lt (ltI b o e)
  have dI : D ≠ s1.heap.objs.size := Nat.ne_of_gt nD
  have cI : C ≠ s1.heap.objs.size := Nat.ne_of_gt nC
  have st3 : h₃.IsListIter s1.heap.objs.size a 0 ∧ h₃.IsList a (rows.map fun p => Value.ref p.1).toArray :=
    ⟨⟨_, old3 _ _ (Heap.get?_push_size _ rfl), rfl, rfl⟩, pl.at fun o e => old3 _ _ (Heap.get?_push_of_some _ e)⟩
  refine loop2_out (G := fun i s => ∃ h' tk m, s = { s1 with heap := h', toks := tk } ∧ h'.Ns C m ∧ CellK X.prog X.w h' D (entsS (flatR (rows.take i))) ∧ ∀ b o, s1.heap.get? b = some o → h'.get? b = some o) W st3
    ⟨h₃, tk₃, _, rfl, hnm, ⟨_, #[], 0, hD, ⟨rfl, rfl, rfl⟩, rfl, fun _ he => by simp at he, .nil, List.nodup_nil⟩, fun b o e => old3 b o (Heap.get?_push_of_some _ e)⟩ (fun _ => rfl) ?_ ?_ ?_
  · rintro i s₁ h' tk ⟨h₄, tk₄, m, rfl, n₄, e₄, k₄⟩ hk' _
    have off : ∀ b : Addr, b ≠ s1.heap.objs.size → b ∉ [s1.heap.objs.size] := fun b hb => by simpa using hb
    exact ⟨h', tk, m, rfl, n₄.at' fun o e => hk' _ o (off _ cI) e, e₄.keep fun o e => hk' _ o (off _ dI) e, fun b o e => hk' b o (off _ (bI b o e)) (k₄ b o e)⟩
  · rintro i v s₁ hi hv st ⟨h₄, tk₄, m, rfl, n₄, e₄, k₄⟩
    obtain ⟨r, hri, rfl⟩ : ∃ r, rows[i]? = some r ∧ v = .ref r.1 := by
      simp only [List.getElem?_toArray, List.getElem?_map] at hv
      obtain ⟨p, h1, h2⟩ := Option.map_eq_some_iff.mp hv
      exact ⟨p, h1, h2.symm⟩
    obtain ⟨its2, rv2, p2, z2⟩ := I1.tuple (hr r (List.mem_of_getElem? hri))
    have pt1 : s1.heap.IsTuple r.1 its2.toArray := p2
    refine wpAny_assign_Name (wpAny_storeName_local (kxy l1) n₄ (fun h₅ n₅ s₅ => ?_) hpl)
    rw [eval_Name _ _ _ hdeb1]
    refine wpAny_bind (wpAny_standAt (wpAny_loadName_local hkind (kxy l1) n₅ (v := .ref r.1) (if_pos rfl) ?_))
    have k5 : ∀ b o, s1.heap.get? b = some o → h₅.get? b = some o := fun b o e => s₅.extBut b o (bC b o e) (k₄ b o e)
    have c5 := e₄.keep (h' := h₅) fun o e => s₅.extBut _ o hDC e
    have pt5 : h₅.IsTuple r.1 its2.toArray := pt1.at fun o e => k5 _ o e
    have st5 : h₅.IsListIter s1.heap.objs.size a (i + 1) ∧ h₅.IsList a (rows.map fun p => Value.ref p.1).toArray :=
      ⟨st.1.at fun o e => s₅.extBut _ o (Ne.symm cI) e, pl.at fun o e => k5 _ o e⟩
    have ltC : (C : Nat) < h₅.objs.size := n₅.lt
    have ltD : (D : Nat) < h₅.objs.size := c5.lt
    have ltI5 : (s1.heap.objs.size : Nat) < h₅.objs.size := by obtain ⟨o, ho, _⟩ := st5.1; exact Heap.lt_size ho
    have ltR : (r.1 : Nat) < h₅.objs.size := by obtain ⟨o, ho, _⟩ := pt5; exact Heap.lt_size ho
    refine wpAny_pyIter_tuple pt5 ?_
    have W2 := Goes.tuple (prog := X.prog) (w := X.w) (target := .Name x2 pa2) hd h₅.objs.size r.1 (Nat.ne_of_lt ltR) its2.toArray
    have esz2 : its2.toArray.size = r.2.length := by
      have := rv2.length
      rw [List.length_map] at this
      simp [this]
    rw [esz2] at W2
    have pk : ∀ b o, h₅.get? b = some o → (h₅.push { cls := .type "tuple_iterator", data := .fields #[.ref r.1, .int 0 0] }).get? b = some o := fun b o e => Heap.get?_push_of_some _ e
    refine ⟨_, _, _, _, _, _, fun j s => ∃ h' tk m, s = { s1 with heap := h', toks := tk } ∧ h'.Ns C m ∧ CellK X.prog X.w h' D (entsS (flatR (rows.take i) ++ r.2.take j)) ∧ (∀ b o, s1.heap.get? b = some o → h'.get? b = some o) ∧ h'.IsListIter s1.heap.objs.size a (i + 1),
      rfl, W2, ⟨⟨_, Heap.get?_push_size _ rfl, rfl, rfl⟩, pt5.at fun o e => pk _ o e⟩, ⟨_, _, _, rfl, n₅.at' fun o e => pk _ o e, by rw [List.take_zero, List.append_nil]; exact c5.keep fun o e => pk _ o e, fun b o e => pk b o (k5 b o e), st5.1.at fun o e => pk _ o e⟩, ?_, ?_, ?_⟩
    · rintro j s₁ h' tk ⟨h₆, tk₆, m, rfl, n₆, e₆, k₆, st6⟩ hk' _
      have off : ∀ b : Addr, b < h₅.objs.size → b ∉ [h₅.objs.size] := fun b hb => by
        intro z
        rw [List.mem_singleton.mp z] at hb
        exact absurd hb (Nat.lt_irrefl _)
      exact ⟨h', tk, m, rfl, n₆.at' fun o e => hk' _ o (off _ ltC) e, e₆.keep fun o e => hk' _ o (off _ ltD) e, fun b o e => hk' b o (off _ (Heap.lt_size (k5 b o e))) (k₆ b o e), st6.at fun o e => hk' _ o (off _ ltI5) e⟩
    · rintro j v s₁ hj hv st2 ⟨h₆, tk₆, m, rfl, n₆, e₆, k₆, st6⟩
      obtain ⟨z, tz, hzj, rfl⟩ : ∃ z tz, r.2[j]? = some z ∧ v = .str z tz := by
        have hv' : its2[j]? = some v := by simpa using hv
        obtain ⟨w0, hw0, rw0⟩ := paired_at rv2 hv'
        rw [List.getElem?_map] at hw0
        obtain ⟨z, h1, h2⟩ := Option.map_eq_some_iff.mp hw0
        subst h2
        obtain ⟨tz, rfl⟩ := (show ∃ t, v = Value.str z t from rw0)
        exact ⟨z, tz, h1, rfl⟩
      refine wpAny_assign_Name (wpAny_storeName_local (kxy l2) n₆ (fun h₇ n₇ s₇ => ?_) hpl)
      rw [eval_Name _ _ _ hdeb2]
      refine wpAny_bind (wpAny_standAt (wpAny_loadName_local hkind (kxy l2) n₇ (v := .str z tz) (if_pos rfl) ?_))
      refine wpAny_Constant_bool ?_
      have k7 : ∀ b o, s1.heap.get? b = some o → h₇.get? b = some o := fun b o e => s₇.extBut b o (bC b o e) (k₆ b o e)
      have c7 : h₇.DictOf (mixKind X.prog X.w) D _ := e₆.keep (h' := h₇) fun o e => s₇.extBut _ o hDC e
      have hl : (entsS (flatR (rows.take i) ++ r.2.take j)).length ≤ sizeLine := by
        refine Nat.le_trans (entsS_len _) (Nat.le_trans ?_ (Nat.le_of_lt hz))
        have h1 := flatR_le rows (i + 1)
        rw [flatR_take rows i r hri] at h1
        rw [List.length_append] at h1 ⊢
        rw [List.length_take]
        omega
      refine wpAny_dictSet_pairs (hsz := hl) (kV_is (k := Sum.inr z) ⟨tz, rfl⟩) c7 fun h₈ d8 s₈ => ?_
      refine ⟨⟨h₈, _, _, rfl, n₇.at' fun o e => s₈.extBut _ o (Ne.symm hDC) e, ?_, fun b o e => s₈.extBut b o (bD b o e) (k7 b o e), ?_⟩, ?_, ?_⟩
      · have e : r.2.take (j + 1) = r.2.take j ++ [z] := by rw [List.take_add_one, hzj]; rfl
        rw [e, ← List.append_assoc, entsS_snoc]
        exact d8
      · exact st6.at fun o e => s₈.extBut _ o (Ne.symm dI) (s₇.extBut _ o (Ne.symm cI) e)
      · have nJC : (h₅.objs.size : Addr) ≠ C := Nat.ne_of_gt ltC
        have nJD : (h₅.objs.size : Addr) ≠ D := Nat.ne_of_gt ltD
        exact st2.1.at fun o e => s₈.extBut _ o nJD (s₇.extBut _ o nJC e)
      · exact pt1.at fun o e => s₈.extBut _ o (bD _ o e) (k7 _ o e)
    · rintro s₁ ⟨h₆, tk₆, m, rfl, n₆, e₆, k₆, st6⟩
      refine ⟨⟨h₆, tk₆, m, rfl, n₆, ?_, k₆⟩, st6, pl.at fun o e => k₆ _ o e⟩
      rw [flatR_take rows i r hri]
      rw [List.take_length] at e₆
      exact e₆
  · rintro s₁ ⟨h₄, tk₄, m, rfl, n₄, e₄, k₄⟩
    rw [List.take_length] at e₄
    have hn := I1.hok.fresh hs1
    have hC1 : (s1.heap.objs.size : Nat) ≤ C := Nat.le_of_succ_le nC
    have I9 : Inv X pins σ (upd H1 D (.dK (keysS (flatR rows)))) { s1 with heap := h₄, toks := tk₄ } := I1.laid (t' := tk₄) k₄ hs1 ⟨Nat.le_trans (keysS_len _) (Nat.le_of_lt hz), beq_eq_false_iff_ne.mpr (Ne.symm (Nat.ne_of_lt (Nat.lt_of_lt_of_le I1.big hs1))), entsS (flatR rows), keysS_kv _, e₄⟩
    exact hRR D C _ m _ I9 (q D hn) n₄ (I1.fpOk hC1 (by rw [upd_ne (Ne.symm hDC)]; exact I1.hok.fresh hC1))
theorem pe_dc2 {iter : Expr} {te : TE} {d0 : Str} (hcalm : X.calm = true) (he : PE X iter te) (hnames : scope.names = [(d0, .local), (x1, .local), (x2, .local)]) (hn1 : (x1 == d0) = false) (hn2 : (x2 == d0) = false) (hne : (x2 == x1) = false) (hkind : scope.kind = .function) (hdeb1 : (x1 == ("__debug__" : Str)) = false := by decide) (hdeb2 : (x2 == ("__debug__" : Str)) = false := by decide)
    (hs : ∀ y, foldedSetIterable iter X.env y = pure y := by intro _; rfl) :
    PE X (.DictComp (.Name x2 pe) (.Constant (.bool true) u pc) [⟨.Name x1 pa1, iter, [], 0⟩, ⟨.Name x2 pa2, .Name x1 pi2, [], 0⟩] scope pos) (tDc2 X.K te) := by
  refine ⟨fun pins s σ H Q I h => ?_⟩
  rw [arm_eval_DictComp]
  refine dc2_core (use := none) hcalm he hnames hn1 hn2 hne hkind hdeb1 hdeb2 hs I h fun D C s' m H' I' q hn f => ⟨m, hn, fun h'' sb => ?_⟩
  obtain ⟨f0, f1, f2, f3, f4, f5⟩ := f
  exact ⟨.ref D, H', I'.turned (t' := s'.toks) (fun b o hb e => (sb.2 b hb).trans e) f0 f1 f3 f4 f5, rfl, q⟩
theorem swD_true {kx vx : Expr} {gs : List Comprehension} {pos py : Pos} {y : Str} {l : Nat} {env : Env} (hk : env.scope.kind = .function) (hy : env.scope.names.lookup y = some .local) (hl : (py.line == pos.line) = true)
    (ha : (scope.names.any fun (n, k) => n == y && (k == .local || k == .cell)) = false) : swapsWith (.DictComp kx vx gs scope pos) (some (.Name y py)) l env = pure true := by
  have ky : env.kindOf y = some .local := hy
  have hb : env.blockKind = .function := by unfold Env.blockKind; rw [hk]; rfl
  unfold swapsWith
  simp only [hb, ky, ha, Expr.pos, hl]
  rfl
/-- y = {..} by such a comprehension, y a local -/
theorem ps_setDc2 {i : Nat} {y : Str} {py spos : Pos} {iter : Expr} {te : TE} {d0 : Str} (hcalm : X.calm = true) (hN : X.N.Nodup) (hy : X.N[i]? = some y) (hyl : X.env.scope.names.lookup y = some .local)
    (hsw : swapsWith (.DictComp (.Name x2 pe) (.Constant (.bool true) u pc) [⟨.Name x1 pa1, iter, [], 0⟩, ⟨.Name x2 pa2, .Name x1 pi2, [], 0⟩] scope pos) (some (.Name y py)) spos.line X.env = pure true)
    (he : PE X iter te) (hnames : scope.names = [(d0, .local), (x1, .local), (x2, .local)]) (hn1 : (x1 == d0) = false) (hn2 : (x2 == d0) = false) (hne : (x2 == x1) = false) (hkind : scope.kind = .function) (hdeb1 : (x1 == ("__debug__" : Str)) = false := by decide) (hdeb2 : (x2 == ("__debug__" : Str)) = false := by decide)
    (hs : ∀ y, foldedSetIterable iter X.env y = pure y := by intro _; rfl) :
    PS X (.Assign [.Name y py] (.DictComp (.Name x2 pe) (.Constant (.bool true) u pc) [⟨.Name x1 pa1, iter, [], 0⟩, ⟨.Name x2 pa2, .Name x1 pi2, [], 0⟩] scope pos) spos) (tAsg (tDc2 X.K te) (gName i)) := by
  refine ⟨fun pins s σ H D I h => ?_⟩
  rw [exec_Assign_Name_used _ _ _ _ hsw]
  refine wpAny_bind (wpAny_standAt (wpAny_bind ?_))
  show wpAny _ X.A (do let _ ← comprehension (.DictComp (.Name x2 pe) (.Constant (.bool true) u pc) [⟨.Name x1 pa1, iter, [], 0⟩, ⟨.Name x2 pa2, .Name x1 pi2, [], 0⟩] scope pos) scope X.env (firstIterPos [⟨.Name x1 pa1, iter, [], 0⟩, ⟨.Name x2 pa2, .Name x1 pi2, [], 0⟩] pos) newDict false (eval iter X.env) (some (assign (.Name y py) X.env))) _ _ s
  have h : tDc2 X.K te σ H (fun x H1 => gName i x σ H1 D.nx) := h
  refine wpAny_bind (thn (dc2_core (Qf := fun _ s' => SP X pins D .next s') hcalm he hnames hn1 hn2 hne hkind hdeb1 hdeb2 hs I h fun L C s' m H' I' q hn f => ?_) fun _ s' hq => wpAny_pure (wpAny_pure hq))
  show wpAny _ _ (assign (.Name y py) X.env (.ref L)) _ _ _
  refine wpAny_assign_Name (store_ok2 (v := V.ref L) I' hN hy (.inl hyl) rfl (fun s2 I2 ⟨a, sb, ha⟩ => ?_) (.inr hyl))
  obtain ⟨f0, f1, f2, f3, f4, f5⟩ := f
  have haC : C ≠ a := by
    rcases ha with z | z
    · rw [z]; exact f1
    · exact fun e => f4 y a z e.symm
  refine ⟨m, hn.sameBut sb haC, fun h3 sb3 => ?_⟩
  exact ⟨_, H', I2.turned (t' := s2.toks) (fun b o hb e => (sb3.2 b hb).trans e) f0 f1 f3 f4 f5, q⟩
/-- y = {k: v for ..}, y a local -/
theorem ps_setDc {i : Nat} {y : Str} {py spos : Pos} {kx vx tg iter : Expr} {ifs : List Expr} {own : List (Str × Nat)} {wi : TI} {g : TG} {tt : TT} {tk tv : TE} (hc : X.calm = true) (hN : X.N.Nodup) (hy : X.N[i]? = some y) (hyl : X.env.scope.names.lookup y = some .local)
    (hsw : swapsWith (.DictComp kx vx [⟨tg, iter, ifs, 0⟩] scope pos) (some (.Name y py)) spos.line X.env = pure true) (hi : PI X tg iter wi) (ok : BlkOk X.N X.env.scope scope own)
    (hg : ∀ (s : Shared) (H : Hp) (C : Addr) (cl : List (Str × Addr)) (fp : List Addr), PG (X.blk s H scope (compEnvC scope cl C X.env) fp) tg g) (ht : ∀ (s : Shared) (H : Hp) (C : Addr) (cl : List (Str × Addr)) (fp : List Addr), PTs (X.blk s H scope (compEnvC scope cl C X.env) fp) ifs tt)
    (hk : ∀ (s : Shared) (H : Hp) (C : Addr) (cl : List (Str × Addr)) (fp : List Addr), PE (X.blk s H scope (compEnvC scope cl C X.env) fp) kx tk)
    (he : ∀ (s : Shared) (H : Hp) (C : Addr) (cl : List (Str × Addr)) (fp : List Addr), PE (X.blk s H scope (compEnvC scope cl C X.env) fp) vx tv) (hs : ∀ x, foldedSetIterable iter X.env x = pure x := by intro _; rfl) :
    PS X (.Assign [.Name y py] (.DictComp kx vx [⟨tg, iter, ifs, 0⟩] scope pos) spos) (tAsg (tDc wi g tt tk tv (own.map (·.2))) (gName i)) := by
  refine ⟨fun pins s σ H D I h => ?_⟩
  rw [exec_Assign_Name_used _ _ _ _ hsw]
  refine wpAny_bind (wpAny_standAt (wpAny_bind ?_))
  show wpAny _ X.A (do let _ ← comprehension (.DictComp kx vx [⟨tg, iter, ifs, 0⟩] scope pos) scope X.env (firstIterPos [⟨tg, iter, ifs, 0⟩] pos) newDict false (eval iter X.env) (some (assign (.Name y py) X.env))) _ _ s
  have h : tDc wi g tt tk tv (own.map (·.2)) σ H (fun x H1 => gName i x σ H1 D.nx) := h
  refine wpAny_bind (thn (dc_core (Qf := fun _ s' => SP X pins D .next s') hc hN I hi ok hg ht hk he hs h fun L C s' m H' I' q hn f => ?_) fun _ s' hq => wpAny_pure (wpAny_pure hq))
  show wpAny _ _ (assign (.Name y py) X.env (.ref L)) _ _ _
  refine wpAny_assign_Name (store_ok2 (v := V.ref L) I' hN hy (.inl hyl) rfl (fun s2 I2 ⟨a, sb, ha⟩ => ?_) (.inr hyl))
  obtain ⟨f0, f1, f2, f3, f4, f5⟩ := f
  have haC : C ≠ a := by
    rcases ha with z | z
    · rw [z]; exact f1
    · exact fun e => f4 y a z e.symm
  refine ⟨m, hn.sameBut sb haC, fun h3 sb3 => ?_⟩
  exact ⟨_, H', I2.turned (t' := s2.toks) (fun b o hb e => (sb3.2 b hb).trans e) f0 f1 f3 f4 f5, q⟩
end
end K2
namespace K2
open PySem L2 PySem.W PyProof.Rows
section
variable {X : Cx}
/-- what an expression hands back is frozen from then on -/
def tFrzE (te : TE) : TE := fun σ H Q => te σ H fun x H1 => ∃ d u, x = .ref d ∧ H1 d = some u ∧ L2.Mut (some u) ∧ ∀ od, Q (.ref d) (upd H1 d (.frz od u))
theorem pe_frz {e : Expr} {te : TE} (he : PE X e te) : PE X e (tFrzE te) := by
  refine ⟨fun pins s σ H Q I h => ?_⟩
  refine thn (he.run pins s σ H _ I h) fun v s1 ⟨x, H1, I1, r1, d, u, ex, hd, mu, q⟩ => ?_
  subst ex
  obtain ⟨od, I2⟩ := I1.lock hd mu
  exact ⟨.ref d, _, I2, r1, q od⟩
/-- or it is frozen already -/
def tFrzO (te : TE) : TE := fun σ H Q => te σ H fun x H1 => ∃ d, x = .ref d ∧ (Q (.ref d) H1 ∨ ∃ u, H1 d = some u ∧ L2.Mut (some u) ∧ ∀ od, Q (.ref d) (upd H1 d (.frz od u)))
theorem pe_frzO {e : Expr} {te : TE} (he : PE X e te) : PE X e (tFrzO te) := by
  refine ⟨fun pins s σ H Q I h => ?_⟩
  refine thn (he.run pins s σ H _ I h) fun v s1 ⟨x, H1, I1, r1, d, ex, q⟩ => ?_
  subst ex
  rcases q with q | ⟨u, hd, mu, q⟩
  · exact ⟨.ref d, _, I1, r1, q⟩
  · obtain ⟨od, I2⟩ := I1.lock hd mu
    exact ⟨.ref d, _, I2, r1, q od⟩
/-- cells that are frozen, one after the other -/
inductive FrzL : List Addr → Hp → Hp → Prop
  | nil {H : Hp} : FrzL [] H H
  | cons {d : Addr} {ds : List Addr} {H H' : Hp} {u : HO} (od : Obj) : H d = some u → FrzL ds (upd H d (.frz od u)) H' → FrzL (d :: ds) H H'
/-- .. each of them may be -/
def CanFrz : List Addr → Hp → Prop
  | [], _ => True
  | d :: ds, H => ∃ u, H d = some u ∧ L2.Mut (some u) ∧ ∀ od, CanFrz ds (upd H d (.frz od u))
theorem frz_all {pins : List (Addr × Obj)} {σ : L2.St} {s : Shared} : ∀ {ds : List Addr} {H : Hp}, Inv X pins σ H s → CanFrz ds H → ∃ H', FrzL ds H H' ∧ Inv X pins σ H' s
  | [], H, I, _ => ⟨H, .nil, I⟩
  | d :: ds, H, I, ⟨u, hd, mu, k⟩ => by
    obtain ⟨od, I2⟩ := I.lock hd mu
    obtain ⟨H', f, I3⟩ := frz_all I2 (k od)
    exact ⟨H', .cons od hd f, I3⟩
theorem FrzL.other {ds : List Addr} {H H' : Hp} (f : FrzL ds H H') : ∀ b, b ∉ ds → H' b = H b := by
  induction f with
  | nil => exact fun _ _ => rfl
  | @cons d ds H H' u od hd f ih =>
    intro b hb
    rw [ih b fun z => hb (List.mem_cons_of_mem _ z), upd_ne fun z => hb (by rw [z]; exact List.mem_cons_self)]
theorem FrzL.at_ {ds : List Addr} {H H' : Hp} (f : FrzL ds H H') (nd : ds.Nodup) : ∀ d ∈ ds, ∃ od u, H d = some u ∧ H' d = some (.frz od u) := by
  induction f with
  | nil => intro d hd; simp at hd
  | @cons d ds H H' u od hd f ih =>
    intro b hb
    rw [List.nodup_cons] at nd
    rcases List.mem_cons.mp hb with e | e
    · rw [e, f.other d nd.1, upd_same]
      exact ⟨od, u, hd, rfl⟩
    · obtain ⟨od', u', h1, h2⟩ := ih nd.2 b e
      rw [upd_ne fun z => nd.1 (by rw [← z]; exact e)] at h1
      exact ⟨od', u', h1, h2⟩
theorem canFrz {ds : List Addr} : ∀ {H : Hp}, ds.Nodup → (∀ d ∈ ds, ∃ u, H d = some u ∧ L2.Mut (some u)) → CanFrz ds H := by
  induction ds with
  | nil => exact fun _ _ => trivial
  | cons d ds ih =>
    intro H nd h
    rw [List.nodup_cons] at nd
    obtain ⟨u, h1, h2⟩ := h d List.mem_cons_self
    refine ⟨u, h1, h2, fun od => ih nd.2 fun b hb => ?_⟩
    obtain ⟨u', h3, h4⟩ := h b (List.mem_cons_of_mem _ hb)
    exact ⟨u', by rw [upd_ne fun z => nd.1 (by rw [← z]; exact hb)]; exact h3, h4⟩
/-- behind a statement (one that ends plainly) cells are frozen -/
def tFrzS (t : TS) : TS := fun D σ H => t { D with nx := fun σ' H' => ∃ ds, CanFrz ds H' ∧ ∀ H'', FrzL ds H' H'' → D.nx σ' H'' } σ H
theorem ps_frz {st : Stmt} {t : TS} (h : PS X st t) : PS X st (tFrzS t) := by
  refine ⟨fun pins s σ H D I hw => ?_⟩
  refine thn (h.run pins s σ H _ I hw) fun f s1 q => ?_
  cases f with
  | next =>
    obtain ⟨σ', H', I2, ds, c, q⟩ := q
    obtain ⟨H'', f, I3⟩ := frz_all I2 c
    exact ⟨σ', H'', I3, q H'' f⟩
  | brk => exact q
  | cont => exact q
  | ret v => exact q
end
end K2
namespace K1
open PySem L2
section
variable {P : Program} {w : World} {K : PySem.W.Frag} {mg : Str → Option Value} {base : Heap}
/-! ### ascending -/
def AscD (ds : List PyData) : Prop := ∀ i d e, ds[i]? = some d → ds[i + 1]? = some e → PySem.W.alike d e = true ∧ d ≠ .none ∧ d.depth ≤ 64 ∧ PySem.W.dataLt d e = true
def spAsc (K : PySem.W.Frag) : Sp := fun vs H Q _ => ∃ (a : Addr) (xs : List V) (ds : List PyData), vs = [.ref a] ∧ (SqL K H a xs ∨ SqT K H a xs) ∧ DpAll K H xs ds ∧ AscD ds ∧ xs.length ≤ 1000 ∧ Q (.bl true) H
theorem dpAll_get {K : PySem.W.Frag} {H : Hp} : ∀ {xs : List V} {ds : List PyData} {i : Nat} {x : V}, DpAll K H xs ds → xs[i]? = some x → ∃ d, ds[i]? = some d ∧ Dp K H x d
  | _, _, i, x, .nil, h => by simp at h
  | _, _, 0, x, .cons h1 _, h => by
    have e := Option.some.inj (by simpa using h)
    exact ⟨_, rfl, by rw [← e]; exact h1⟩
  | v :: vs, d :: ds, i + 1, x, .cons _ h2, h => by
    have h' : vs[i]? = some x := by simpa using h
    obtain ⟨e, h3, h4⟩ := dpAll_get h2 h'
    exact ⟨e, by simpa using h3, h4⟩
theorem ok_asc (D : Defs K mg) : FnOk P w K mg base CX0 1 D.d_is_ascending.f D.d_is_ascending.fd ["things"] (spAsc K) := by
  refine D.d_is_ascending.F.ok sc_is_ascending (fun vs H Q E h => ?_) (fun cdv A outer s H vs Q E hr h => ?_)
  · obtain ⟨a, xs, ds, rfl, _⟩ := h
    rfl
  obtain ⟨a, xs, ds, rfl, hq, hd, hasc, hlen, q⟩ := h
  refine ⟨_, (pss_cons (ps_for PassesOwn.never rfl (pi_range2 rfl D.z_range (pa_cons pe_int (pa_cons (pe_callB call_len_seq (by rfl) D.z_len (by decide +kernel) (pa_cons (pv 0) pa_nil)) pa_nil))) (pg_name (i := 1) sc_is_ascending.nd rfl (Or.inl rfl)) (pss_one (ps_if (pt_not (pt_cmpR (K2.op_ltD hr.units) (pe_ix ix_seq (pv 0) (pe_op op_sub (pv 1) pe_int) (fun _ _ => rfl)) (pe_ix ix_seq (pv 0) (pv 1) (fun _ _ => rfl)) (nomark _))) (pss_one (ps_ret pe_bl)) pss_nil)))
      (pss_one (ps_ret pe_bl))), ?_⟩
  have ixr : ∀ {i : Nat} {z : Int} {x : V} {H : Hp} {R : VK}, z = ((i : Nat) : Int) → (SqL K H a xs ∨ SqT K H a xs) → xs[i]? = some x → R x H → rIx K (.ref a) (.int z) H R := fun hz hh hx hr => by
    rw [hz]
    rcases hh with hh | hh
    · exact .inl ⟨a, xs, _, _, rfl, rfl, hh, atI_nat hx, hr⟩
    · exact .inr (.inl ⟨a, xs, _, _, rfl, rfl, hh, atI_nat hx, hr⟩)
  refine ⟨_, rfl, a, xs, rfl, hq, _, _, rfl, ⟨by decide, by decide, ?_, ?_⟩, for_range (lo := 1) (n := ((xs.length : Int) - 1).toNat) (fun i σ H2 => H2 = H ∧ ∃ o, σ = [some (.ref a), o]) ⟨rfl, none, rfl⟩ ?_ ?_⟩
  · show -(2 ^ 62) ≤ (xs.length : Int)
    omega
  · show (xs.length : Int) < 2 ^ 62
    omega
  · rintro i σ H2 hi ⟨rfl, o, rfl⟩
    have h1 : i + 1 < xs.length := by omega
    have h0 : i < xs.length := by omega
    have g0 : xs[i]? = some xs[i] := List.getElem?_eq_getElem h0
    have g1 : xs[i + 1]? = some xs[i + 1] := List.getElem?_eq_getElem h1
    obtain ⟨d0, e0, p0⟩ := dpAll_get hd g0
    obtain ⟨d1, e1, p1⟩ := dpAll_get hd g1
    obtain ⟨q1, q2, q3, q4⟩ := hasc i d0 d1 e0 e1
    have i0 : (1 + (i : Nat) : Int) - 1 = ((i : Nat) : Int) := by omega
    have i1 : (1 + (i : Nat) : Int) = ((i + 1 : Nat) : Int) := by omega
    refine ⟨_, rfl, _, rfl, _, _, rfl, rfl, ?_⟩
    refine ixr i0 hq g0 ⟨_, rfl, _, rfl, ?_⟩
    refine ixr i1 hq g1 ⟨d0, d1, p0, p1, q1, q2, q3, _, rfl, ?_⟩
    rw [q4]
    exact iteF ⟨rfl, _, rfl⟩
  · rintro σ H2 ⟨rfl, o, rfl⟩
    exact q
end
end K1
namespace K2
open PySem
/-! sets of numbers as the bits of a number -/
def ones (m n : Nat) : List Nat := (List.range n).filter fun i => m.testBit i
theorem ones_succ (m n : Nat) : ones m (n + 1) = ones m n ++ (if m.testBit n then [n] else []) := by
  unfold ones
  rw [List.range_succ, List.filter_append]
  cases h : m.testBit n <;> simp [h]
theorem mem_ones {m n i : Nat} : i ∈ ones m n ↔ i < n ∧ m.testBit i = true := by simp [ones]
theorem ones_skip (m k : Nat) : ∀ d, (∀ i, k ≤ i → i < k + d → m.testBit i = false) → ones m (k + d) = ones m k
  | 0, _ => rfl
  | d + 1, h => by
    rw [← Nat.add_assoc, ones_succ, h (k + d) (by omega) (by omega), ones_skip m k d fun i h1 h2 => h i h1 (by omega)]
    simp
theorem ones_to (m k t : Nat) (h : ∀ i, k ≤ i → i < k + t → m.testBit i = false) (hj : m.testBit (k + t) = true) : ones m (k + t + 1) = ones m k ++ [k + t] := by
  rw [ones_succ, ones_skip m k t h, hj]; rfl
theorem odd_part : ∀ (N : Nat), N ≠ 0 → ∃ t a, N = 2 ^ t * (2 * a + 1) := by
  intro N
  induction N using Nat.strongRecOn with
  | ind N ih =>
    intro h
    by_cases e : N % 2 = 1
    · exact ⟨0, N / 2, by simp; omega⟩
    · obtain ⟨t, a, q⟩ := ih (N / 2) (by omega) (by omega)
      refine ⟨t + 1, a, ?_⟩
      have : N = 2 * (N / 2) := by omega
      rw [this, q, Nat.pow_succ]
      rw [Nat.mul_comm (2 ^ t) 2, Nat.mul_assoc]
/-- the next bit of what is left behind k -/
theorem next_bit {m k : Nat} (h : m / 2 ^ k ≠ 0) : ∃ t a, m / 2 ^ k * 2 ^ k = 2 ^ (k + t) * (2 * a + 1) ∧ m / 2 ^ (k + t + 1) = a ∧ (∀ i, k ≤ i → i < k + t → m.testBit i = false) ∧ m.testBit (k + t) = true := by
  obtain ⟨t, a, e⟩ := odd_part _ h
  have tb : ∀ i, m.testBit (i + k) = (decide (i ≥ t) && (2 * a + 1).testBit (i - t)) := fun i => by
    rw [← Nat.testBit_div_two_pow, e, Nat.testBit_two_pow_mul]
  refine ⟨t, a, ?_, ?_, fun i h1 h2 => ?_, ?_⟩
  · rw [e, Nat.pow_add, Nat.mul_comm (2 ^ k) (2 ^ t), Nat.mul_assoc, Nat.mul_assoc, Nat.mul_comm (2 ^ k)]
  · rw [Nat.add_assoc, Nat.pow_add, ← Nat.div_div_eq_div_mul, e, Nat.pow_succ, ← Nat.div_div_eq_div_mul, Nat.mul_div_cancel_left _ (Nat.two_pow_pos t)]
    omega
  · have := tb (i - k)
    rw [Nat.sub_add_cancel h1, decide_eq_false (show ¬ (i - k ≥ t) by omega), Bool.false_and] at this
    exact this
  · have := tb t
    rw [Nat.add_comm t k, decide_eq_true (Nat.le_refl t), Bool.true_and, Nat.sub_self] at this
    rw [this, Nat.testBit_zero]
    simp
theorem bits_two (j : Nat) : Builtin.Int.intBits ((2 : Int) ^ j) = j + 1 := by
  have e : ((2 : Int) ^ j).natAbs = 2 ^ j := by rw [Int.natAbs_pow]; rfl
  have h1 : Builtin.Int.intBits ((2 : Int) ^ j) ≤ j + 1 := intBits_le_iff.mpr (by rw [e]; exact Nat.pow_lt_pow_succ (by decide))
  have h2 : ¬ Builtin.Int.intBits ((2 : Int) ^ j) ≤ j := fun z => by
    have := intBits_le_iff.mp z
    rw [e] at this
    exact Nat.lt_irrefl _ this
  omega
/-- what one turn does: the lowest bit, and the rest -/
theorem low_bit {m k t a : Nat} (h : m / 2 ^ k * 2 ^ k = 2 ^ (k + t) * (2 * a + 1)) (ha : m / 2 ^ (k + t + 1) = a) :
    Builtin.bitAnd ((m / 2 ^ k * 2 ^ k : Nat) : Int) (-((m / 2 ^ k * 2 ^ k : Nat) : Int)) = (2 : Int) ^ (k + t) ∧
    Builtin.bitXor ((m / 2 ^ k * 2 ^ k : Nat) : Int) ((2 : Int) ^ (k + t)) = ((m / 2 ^ (k + t + 1) * 2 ^ (k + t + 1) : Nat) : Int) := by
  have e : ((m / 2 ^ k * 2 ^ k : Nat) : Int) = (2 : Int) ^ (k + t) * (2 * (a : Int) + 1) := by rw [h]; push_cast; rfl
  rw [e]
  have p : (0 : Int) < 2 ^ (k + t) := Int.pow_pos (by decide)
  refine ⟨PySem.W.kbt_low _ _, ?_⟩
  rw [PyProof.Rows.bitXor_and, PySem.W.kbt_bit, Int.mul_ediv_cancel_left _ (by omega), ha, Nat.pow_succ]
  have e2 : (2 * (a : Int) + 1) % 2 = 1 := by omega
  rw [e2]
  push_cast
  generalize (2 : Int) ^ (k + t) = z
  rw [Int.mul_add, Int.one_mul, Int.mul_one, Int.mul_comm (a : Int), Int.mul_assoc]
  have : z * (2 * (a : Int)) = z * (2 * ↑a) := rfl
  omega
end K2
namespace K1
open PySem L2
section
variable {P : Program} {w : World} {K : PySem.W.Frag} {mg : Str → Option Value} {base : Heap}
/-! ### words of a row -/
theorem ltc_dec : ∀ a b : List Nat, PySem.Spec.ltCps a b = decide (a < b)
  | [], [] => by simp [PySem.Spec.ltCps]
  | [], b :: bs => by simp [PySem.Spec.ltCps]
  | a :: as, [] => by simp [PySem.Spec.ltCps]
  | a :: as, b :: bs => by
    simp only [PySem.Spec.ltCps, ltc_dec as bs, List.cons_lt_cons_iff]
    by_cases h : a < b
    · simp [h]
    · by_cases e : a = b
      · subst e; simp
      · simp [h, e]
def strsA (l : List Str) : List PyData := l.map PyData.str
theorem dpA_strs {K : PySem.W.Frag} {H : Hp} : ∀ l : List Str, DpAll K H (l.map V.str) (strsA l)
  | [] => .nil
  | s :: l => .cons (.str s) (dpA_strs l)
theorem asc_strs {l : List Str} (h : Asc l) : AscD (strsA l) := by
  intro i d e hd he
  unfold strsA at hd he
  rw [List.getElem?_map] at hd he
  obtain ⟨x, h1, rfl⟩ := Option.map_eq_some_iff.mp hd
  obtain ⟨y, h2, rfl⟩ := Option.map_eq_some_iff.mp he
  refine ⟨by simp [PySem.W.alike], by simp, by simp [PyData.depth], ?_⟩
  rw [PySem.W.dataLt_str]
  obtain ⟨i1, e1⟩ := List.getElem?_eq_some_iff.mp h1
  obtain ⟨i2, e2⟩ := List.getElem?_eq_some_iff.mp h2
  have := List.pairwise_iff_getElem.mp h i (i + 1) i1 i2 (Nat.lt_succ_self _)
  rw [e1, e2] at this
  rw [← ltc_dec]
  exact this
/-- a row of names -/
def RowOk (l : List Str) : Prop := (∀ x ∈ l, wordOk x = true) ∧ Asc l ∧ l.length ≤ 1000
def spWords : Sp := fun vs H Q _ => ∃ (a : Addr) (l : List Str), vs = [.ref a] ∧ H a = some (.tup (l.map V.str)) ∧ RowOk l ∧ Q (.bl true) H
theorem ok_words (D : Defs K mg) : FnOk P w K mg base CX0 2 D.d_are_words.f D.d_are_words.fd ["thing"] spWords := by
  have GW := ok_is_word (P := P) (w := w) (base := base) D
  have GA := ok_asc (P := P) (w := w) (base := base) D
  refine D.d_are_words.F.ok sc_are_words (fun vs H Q E h => ?_) (fun cdv A outer s H vs Q E hr h => ?_)
  · obtain ⟨a, l, rfl, _⟩ := h
    rfl
  obtain ⟨a, l, rfl, ha, ⟨hw, hasc, hl⟩, q⟩ := h
  refine ⟨_, (pss_cons (ps_if (pt_not (pt_val (pe_callB call_isi (by rfl) D.z_isinstance (by decide +kernel) (pa_cons (pv 0) (pa_cons (pe_bltn (v := .ty "tuple") (by rfl) D.z_tuple (by decide +kernel) rfl) pa_nil))))) (pss_one (ps_ret pe_bl)) pss_nil)
      (pss_cons (ps_for PassesOwn.never rfl (pi_tup (pv 0)) (pg_name (i := 1) sc_are_words.nd rfl (Or.inl rfl)) (pss_one (ps_if (pt_not (pt_val (pe_call GW hr rfl D.d_is_word.m D.d_is_word.F.kp D.d_is_word.b .nil pass0 (pa_cons (pv 1) pa_nil)))) (pss_one (ps_ret pe_bl)) pss_nil)))
      (pss_one (ps_ret (pe_call GA hr rfl D.d_is_ascending.m D.d_is_ascending.F.kp D.d_is_ascending.b .nil pass0 (pa_cons (pv 0) pa_nil)))))), ?_⟩
  refine ⟨_, rfl, _, _, _, _, _, rfl, .ty _, .base (.tup ha), kit_ty kbt6, _, rfl, iteF ?_⟩
  refine ⟨_, rfl, a, rfl, ⟨_, SqT.of ha⟩, for_tup (K := K) (a := a) (xs := l.map V.str) (fun i σ H2 => H2 = H ∧ ∃ o, σ = [some (.ref a), o]) ⟨rfl, none, rfl⟩ (fun i σ H2 _ hh => by rw [hh.1]; exact SqT.of ha) ?_ ?_⟩
  · rintro i x σ H2 hx ⟨rfl, o, rfl⟩
    rw [List.getElem?_map] at hx
    obtain ⟨z, h1, rfl⟩ := Option.map_eq_some_iff.mp hx
    have wz := hw z (List.mem_of_getElem? h1)
    refine ⟨_, rfl, .str z, rfl, ?_, _, rfl, ?_⟩
    · have := (wd_of wz).2
      show z.length ≤ 1000
      unfold wordOk at wz
      simp only [Bool.and_eq_true, decide_eq_true_eq] at wz
      omega
    · rw [show isWordV (.str z) = true from wz]
      exact iteF ⟨rfl, _, rfl⟩
  · rintro σ H2 ⟨rfl, o, rfl⟩
    refine ⟨_, rfl, a, l.map V.str, strsA l, rfl, .inr (SqT.of ha), dpA_strs l, asc_strs hasc, by simpa using hl, q⟩
/-! ### bits -/
def spBits : Sp := fun vs H Q _ => ∃ (m n : Nat), vs = [.int (m : Int)] ∧ m < 2 ^ n ∧ n ≤ 1000 ∧ ∀ H' p, Same H H' → H p = none → H' p = some (.lst ((K2.ones m n).map fun i => V.int (i : Nat))) → Q (.ref p) H'
theorem ok_bits (D : Defs K mg) : FnOk P w K mg base CX0 1 D.d_bits.f D.d_bits.fd ["mask"] spBits := by
  refine D.d_bits.F.ok sc_bits (fun vs H Q E h => ?_) (fun cdv A outer s H vs Q E hr h => ?_)
  · obtain ⟨m, n, rfl, _⟩ := h
    rfl
  obtain ⟨m, n, rfl, hm, hn, q⟩ := h
  refine ⟨_, (pss_cons (ps_set (i := 1) sc_bits.nd rfl (Or.inl rfl) (pe_lst pa_nil))
      (pss_cons (ps_while PassesOwn.never (pt_truth (pv 0) (by intro _; rfl)) (pss_cons (ps_set (i := 2) sc_bits.nd rfl (Or.inl rfl) (pe_op op_and (pv 0) (pe_un un_neg (pv 0))))
      (pss_cons (ps_expr (pe_bm PySem.F.plainAttrs_list PySem.F.slot_list_append PySem.F.type_list_append mt_append (pv 1) (pa_cons (pe_op op_sub (pe_bits (pv 2)) pe_int) pa_nil)))
      (pss_one (ps_set (i := 0) sc_bits.nd rfl (Or.inl rfl) (pe_op op_xor (pv 0) (pv 2)))))))
      (pss_one (ps_ret (pv 1))))), ?_⟩
  refine ⟨(by show 0 ≤ sizeLine; decide), fun p hp => ?_⟩
  have g0 := same_new hp (.lst [])
  unfold gName tSeq
  dsimp only
  refine while_by (fun σ H2 => ∃ k o, k ≤ n ∧ σ = [some (.int ((m / 2 ^ k * 2 ^ k : Nat) : Int)), some (.ref p), o] ∧ H2 = upd H p (.lst ((K2.ones m k).map fun i => V.int (i : Nat)))) (fun σ H2 => match σ with
    | [some (.int z), _, _] => z.toNat
    | _ => 0) ⟨0, none, Nat.zero_le _, by simp; rfl, rfl⟩ ?_ ?_
  · rintro σ H2 ⟨k, o, hk, rfl, rfl⟩
    have tz : TruV K (.int ((m / 2 ^ k * 2 ^ k : Nat) : Int)) (upd H p (.lst ((K2.ones m k).map fun i => V.int (i : Nat)))) (!decide (m / 2 ^ k = 0)) := by
      show (!decide (m / 2 ^ k = 0)) = (((m / 2 ^ k * 2 ^ k : Nat) : Int) != 0)
      by_cases z : m / 2 ^ k = 0
      · rw [z]; simp
      · have : m / 2 ^ k * 2 ^ k ≠ 0 := Nat.mul_ne_zero z (Nat.ne_of_gt (Nat.two_pow_pos k))
        have : ((m / 2 ^ k * 2 ^ k : Nat) : Int) ≠ 0 := by exact_mod_cast this
        simp only [z, decide_false, Bool.not_false]
        simp only [bne, beq_eq_false_iff_ne.mpr this, Bool.not_false]
    refine ⟨_, rfl, _, tz, ?_⟩
    by_cases z : m / 2 ^ k = 0
    · rw [decide_eq_true z]
      refine iteF ⟨_, rfl, q _ p (same_new hp _) hp ?_⟩
      rw [upd_same]
      have e : K2.ones m n = K2.ones m k := by
        have h1 := K2.ones_skip m k (n - k) fun i h1 h2 => by
          have h3 : m < 2 ^ k := Nat.lt_of_div_eq_zero (Nat.two_pow_pos k) z
          exact Nat.testBit_lt_two_pow (Nat.lt_of_lt_of_le h3 (Nat.pow_le_pow_right (by decide) h1))
        rwa [show k + (n - k) = n by omega] at h1
      rw [e]
    · rw [decide_eq_false z]
      refine iteT ?_
      obtain ⟨t, a, e1, e2, e3, e4⟩ := K2.next_bit z
      obtain ⟨l1, l2⟩ := K2.low_bit e1 e2
      have lt : k + t < n := by
        rcases Nat.lt_or_ge (k + t) n with h | h
        · exact h
        · have := Nat.testBit_lt_two_pow (Nat.lt_of_lt_of_le hm (Nat.pow_le_pow_right (by decide) h))
          rw [this] at e4
          cases e4
      have ap : ∀ z : Int, z = ((k + t : Nat) : Int) → upd (upd H p (.lst ((K2.ones m k).map fun i => V.int (i : Nat)))) p (.lst ((K2.ones m k).map (fun i => V.int ((i : Nat) : Int)) ++ [V.int z])) = upd H p (.lst ((K2.ones m (k + t + 1)).map fun i => V.int (i : Nat))) := fun z hz => by
        rw [upd_upd, K2.ones_to m k t e3 e4, hz, List.map_append]
        rfl
      refine ⟨_, rfl, _, rfl, _, rfl, _, _, rfl, rfl, ?_⟩
      refine ⟨_, rfl, .inl ⟨rfl, _, SqL.of upd_same⟩, _, rfl, _, rfl, _, _, rfl, rfl, p, _, _, rfl, rfl, upd_same, ?_, ?_⟩
      · have : (K2.ones m k).length ≤ k := by unfold K2.ones; exact Nat.le_trans (List.length_filter_le _ _) (by simp)
        rw [List.length_map]
        exact small1000 (by omega)
      · refine ⟨_, rfl, _, rfl, _, _, rfl, rfl, ⟨k + t + 1, some (.int ((2 : Int) ^ (k + t))), by omega, ?_, ap _ (by rw [l1, K2.bits_two]; push_cast; omega)⟩, ?_⟩
        · show [some (V.int (Builtin.bitXor _ (Builtin.bitAnd _ _))), some (V.ref p), some (V.int (Builtin.bitAnd _ _))] = _
          rw [l1, l2]
        · show (Builtin.bitXor _ (Builtin.bitAnd ((m / 2 ^ k * 2 ^ k : Nat) : Int) _)).toNat < ((m / 2 ^ k * 2 ^ k : Nat) : Int).toNat
          rw [l1, l2, Int.toNat_natCast, Int.toNat_natCast, e1, e2, Nat.pow_succ]
          have := Nat.two_pow_pos (k + t)
          rw [Nat.mul_comm a, Nat.mul_assoc]
          exact Nat.mul_lt_mul_of_pos_left (by omega) this
  · intro σ H2 R R' hi h
    obtain ⟨v, h1, k, h2, h3⟩ := h
    exact ⟨v, h1, k, h2, hi _ _ h3⟩
end
end K1
namespace K1
open PySem L2
theorem kbi1 : kitB "int" "int" = some true := by decide +kernel
theorem kbi2 : kitB "int" "bool" = some false := by decide +kernel
theorem kbl1 : kitB "list" "list" = some true := by decide +kernel
theorem kbl2 : kitB "tuple" "list" = some false := by decide +kernel
/-- an edge -/
structure Edge where
  a : Nat
  r : Str
  b : Nat
  deriving DecidableEq
def edgeV (e : Edge) : List V := [.int (e.a : Nat), .str e.r, .int (e.b : Nat)]
def EdgeOk (n : Nat) (e : Edge) : Prop := e.a < n ∧ e.b < n ∧ wordOk e.r = true
/-- the items of a list or of a tuple that stands by itself -/
def InSq (H : Hp) (p : Addr) (xs : List V) : Prop := H p = some (.lst xs) ∨ H p = some (.tup xs)
theorem InSq.sq {K : PySem.W.Frag} {H : Hp} {p : Addr} {xs : List V} (h : InSq H p xs) : SqL K H p xs ∨ SqT K H p xs := h.imp SqL.of SqT.of
theorem InSq.same {H H' : Hp} {p : Addr} {xs : List V} (h : InSq H p xs) (e : Same H H') : InSq H' p xs := h.imp (e _ _) (e _ _)
theorem InSq.ty {K : PySem.W.Frag} {H : Hp} {p : Addr} {xs : List V} (h : InSq H p xs) : ∃ t, TyX K H (.ref p) t ∧ PySem.W.kitAny K t [.type "list", .type "tuple"] = some true := by
  rcases h with h | h
  · exact ⟨_, .base (.lst h), kitAny_cons (kit_ty kbl1) (fun z => by cases z) (fun _ => rfl)⟩
  · exact ⟨_, .base (.tup h), kitAny_cons (kit_ty kbl2) (fun _ => kitAny_cons (kit_ty kbt6) (fun z => by cases z) (fun _ => rfl)) (fun z => by cases z)⟩
theorem InSq.tru {K : PySem.W.Frag} {H : Hp} {p : Addr} {xs : List V} (h : InSq H p xs) : TruV K (.ref p) H (!xs.isEmpty) := by
  rcases h with h | h
  · exact .inl ⟨xs, SqL.of h, rfl⟩
  · exact .inr (.inl ⟨xs, SqT.of h, rfl⟩)
section
variable {P : Program} {w : World} {K : PySem.W.Frag} {mg : Str → Option Value} {base : Heap}
def spNum : Sp := fun vs H Q _ => ∃ i : Int, vs = [.int i] ∧ Q (.bl true) H
theorem ok_num (D : Defs K mg) : FnOk P w K mg base CX0 1 D.d_is_number.f D.d_is_number.fd ["thing"] spNum := by
  refine D.d_is_number.F.ok sc_is_number (fun vs H Q E h => ?_) (fun cdv A outer s H vs Q E hr h => ?_)
  · obtain ⟨i, rfl, _⟩ := h
    rfl
  obtain ⟨i, rfl, q⟩ := h
  refine ⟨_, (pss_one (ps_ret (pe_and (pe_callB call_isi (by rfl) D.z_isinstance (by decide +kernel) (pa_cons (pv 0) (pa_cons (pe_bltn (v := .ty "int") (by rfl) D.z_int (by decide +kernel) rfl) pa_nil))) (pe_one (pe_not (pe_callB call_isi (by rfl) D.z_isinstance (by decide +kernel) (pa_cons (pv 0) (pa_cons (pe_bltn (v := .ty "bool") (by rfl) D.z_bool (by decide +kernel) rfl) pa_nil)))))))), ?_⟩
  exact ⟨_, rfl, _, _, _, _, _, rfl, .ty _, .base (.int i), kit_ty kbi1, _, rfl, iteT ⟨_, rfl, _, _, _, _, _, rfl, .ty _, .base (.int i), kit_ty kbi2, _, rfl, q⟩⟩
def spThing : Sp := fun vs H Q _ => ∃ i n : Int, vs = [.int i, .int n] ∧ 0 ≤ i ∧ i < n ∧ Q (.bl true) H
theorem ok_thing (D : Defs K mg) : FnOk P w K mg base CX0 2 D.d_is_thing.f D.d_is_thing.fd ["thing", "many"] spThing := by
  have GN := ok_num (P := P) (w := w) (base := base) D
  refine D.d_is_thing.F.ok sc_is_thing (fun vs H Q E h => ?_) (fun cdv A outer s H vs Q E hr h => ?_)
  · obtain ⟨i, n, rfl, _⟩ := h
    rfl
  obtain ⟨i, n, rfl, h0, h1, q⟩ := h
  refine ⟨_, (pss_one (ps_ret (pe_and (pe_call GN hr rfl D.d_is_number.m D.d_is_number.F.kp D.d_is_number.b .nil pass0 (pa_cons (pv 0) pa_nil)) (pe_one (pe_chain op_le op_lt pe_int (pv 0) (pv 1)))))), ?_⟩
  refine ⟨_, rfl, i, rfl, _, rfl, iteT ?_⟩
  refine ⟨_, rfl, _, _, rfl, rfl, _, rfl, ?_⟩
  rw [decide_eq_true h0]
  refine iteT ⟨_, rfl, _, _, rfl, rfl, ?_⟩
  show Q (.bl (decide (i < n))) H
  rw [decide_eq_true h1]
  exact q
def spEdge : Sp := fun vs H Q _ => ∃ (t : Addr) (n : Nat) (e : Edge), vs = [.ref t, .int (n : Nat)] ∧ H t = some (.tup (edgeV e)) ∧ EdgeOk n e ∧ Q (.bl true) H
theorem ok_edge (D : Defs K mg) : FnOk P w K mg base CX0 3 D.d_is_edge.f D.d_is_edge.fd ["thing", "many"] spEdge := by
  have GT := ok_thing (P := P) (w := w) (base := base) D
  have GW := ok_is_word (P := P) (w := w) (base := base) D
  refine D.d_is_edge.F.ok sc_is_edge (fun vs H Q E h => ?_) (fun cdv A outer s H vs Q E hr h => ?_)
  · obtain ⟨t, n, e, rfl, _⟩ := h
    rfl
  obtain ⟨t, n, e, rfl, ht, ⟨h1, h2, h3⟩, q⟩ := h
  have hr1 : Room 1 _ := hr.mono (by omega)
  refine ⟨_, (pss_cons (ps_if (PW.pt (pw_or (pt_not (pt_val (pe_callB call_isi (by rfl) D.z_isinstance (by decide +kernel) (pa_cons (pv 0) (pa_cons (pe_bltn (v := .ty "tuple") (by rfl) D.z_tuple (by decide +kernel) rfl) pa_nil))))) (pw_or1 (pt_cmpR op_ne (pe_callB call_len_seq (by rfl) D.z_len (by decide +kernel) (pa_cons (pv 0) pa_nil)) pe_int (nomark _))))) (pss_one (ps_ret pe_bl)) pss_nil)
      (pss_one (ps_ret (pe_and (pe_call GT hr rfl D.d_is_thing.m D.d_is_thing.F.kp D.d_is_thing.b .nil pass0 (pa_cons (pe_ix ix_tup (pv 0) pe_int (fun _ _ => rfl)) (pa_cons (pv 1) pa_nil))) (pe_and (pe_call GW hr1 rfl D.d_is_word.m D.d_is_word.F.kp D.d_is_word.b .nil pass0 (pa_cons (pe_ix ix_tup (pv 0) pe_int (fun _ _ => rfl)) pa_nil)) (pe_one (pe_call GT hr rfl D.d_is_thing.m D.d_is_thing.F.kp D.d_is_thing.b .nil pass0 (pa_cons (pe_ix ix_tup (pv 0) pe_int (fun _ _ => rfl)) (pa_cons (pv 1) pa_nil))))))))), ?_⟩
  refine ⟨_, rfl, _, _, _, _, _, rfl, .ty _, .base (.tup ht), kit_ty kbt6, _, rfl, iteF ?_⟩
  refine ⟨_, rfl, t, edgeV e, rfl, .inr (SqT.of ht), rfl, _, rfl, iteF ?_⟩
  refine ⟨_, rfl, t, _, _, _, rfl, rfl, SqT.of ht, atI_nat (j := 0) rfl, _, rfl, _, _, rfl, (by omega), (by omega), _, rfl, iteT ?_⟩
  refine ⟨_, rfl, t, _, _, _, rfl, rfl, SqT.of ht, atI_nat (j := 1) rfl, _, rfl, ?_, _, rfl, ?_⟩
  · show e.r.length ≤ 1000
    unfold wordOk at h3
    simp only [Bool.and_eq_true, decide_eq_true_eq] at h3
    omega
  rw [show isWordV (.str e.r) = true from h3]
  refine iteT ?_
  exact ⟨_, rfl, t, _, _, _, rfl, rfl, SqT.of ht, atI_nat (j := 2) rfl, _, rfl, _, _, rfl, (by omega), (by omega), q⟩
/-- a for over a list or a tuple -/
theorem sq_for {j : Nat} {p : Addr} {xs : List V} {g : TG} {tb : TS} {D : Ends} {σ : St} {H : Hp} (hσ : σ[j]? = some (some (.ref p))) (hp : InSq H p xs) (Pv : Nat → St → Hp → Prop) (h0 : Pv 0 σ H) (hl : ∀ i σ' H', Pv i σ' H' → H' p = H p)
    (hs : ∀ i x σ' H', xs[i]? = some x → Pv i σ' H' → g x σ' H' fun σ2 H2 => tb { D with nx := Pv (i + 1), ct := Pv (i + 1), bk := D.nx } σ2 H2) (hd : ∀ σ' H', Pv xs.length σ' H' → D.nx σ' H') :
    K2.iSq K (tVar j) σ H fun J H1 => ∃ W : Nat → Nat → St → Hp → Prop, (∃ m, W 0 m σ H1) ∧ ∀ i m σ' H', W i m σ' H' →
      (J.stop i H' ∧ D.nx σ' H') ∨ (J.go i H' ∧ ∃ N : St → Hp → Prop, (∀ σ2 H2, N σ2 H2 → ∃ m', m' < m ∧ W (i + 1) m' σ2 H2) ∧ ∀ x H2, J.yld i H' x H2 → g x σ' H2 fun σ2 H2 => tb { D with nx := N, ct := N, bk := D.nx } σ2 H2) := by
  rcases hp with hp | hp
  · exact .inl ⟨_, hσ, p, rfl, ⟨xs, SqL.of hp⟩, for_list (K := K) (a := p) (xs := xs) Pv h0 (fun i σ' H' _ h => SqL.of (by rw [hl i σ' H' h]; exact hp)) hs hd⟩
  · exact .inr ⟨_, hσ, p, rfl, ⟨xs, SqT.of hp⟩, for_tup (K := K) (a := p) (xs := xs) Pv h0 (fun i σ' H' _ h => SqT.of (by rw [hl i σ' H' h]; exact hp)) hs hd⟩
/-! ### names and edges of a world -/
def RowsAt (H : Hp) (rows : List (Addr × List Str)) : Prop := ∀ r ∈ rows, H r.1 = some (.tup (r.2.map V.str))
def rowsV (rows : List (Addr × List Str)) : List V := rows.map fun r => V.ref r.1
def spANames : Sp := fun vs H Q _ => ∃ (p : Addr) (rows : List (Addr × List Str)), vs = [.ref p] ∧ InSq H p (rowsV rows) ∧ RowsAt H rows ∧ (∀ r ∈ rows, RowOk r.2) ∧ rows ≠ [] ∧ ∀ H', Same H H' → Q (.bl true) H'
theorem ok_anames (D : Defs K mg) : FnOk P w K mg base CX0 3 D.d_are_names.f D.d_are_names.fd ["names"] spANames := by
  have GW := ok_words (P := P) (w := w) (base := base) D
  refine D.d_are_names.F.ok sc_are_names (fun vs H Q E h => ?_) (fun cdv A outer s H vs Q E hr h => ?_)
  · obtain ⟨p, rows, rfl, _⟩ := h
    rfl
  obtain ⟨p, rows, rfl, hp, hrow, hok, hne, q⟩ := h
  refine ⟨_, (pss_cons (ps_if (PW.pt (pw_or (pt_not (pt_val (pe_callB call_isiT (by rfl) D.z_isinstance (by decide +kernel) (pa_cons (pv 0) (pa_cons (pe_tup (pa_cons (pe_bltn (v := .ty "list") (by rfl) D.z_list (by decide +kernel) rfl) (pa_cons (pe_bltn (v := .ty "tuple") (by rfl) D.z_tuple (by decide +kernel) rfl) pa_nil))) pa_nil))))) (pw_or1 (pt_not (pt_truth (pv 0) (by intro _; rfl)))))) (pss_one (ps_ret pe_bl)) pss_nil)
      (pss_cons (ps_for PassesOwn.never rfl (K2.pi_sq (pv 0)) (pg_name (i := 1) sc_are_names.nd rfl (Or.inl rfl)) (pss_one (ps_if (pt_not (pt_val (pe_call GW hr rfl D.d_are_words.m D.d_are_words.F.kp D.d_are_words.b .nil pass0 (pa_cons (pv 1) pa_nil)))) (pss_one (ps_ret pe_bl)) pss_nil)))
      (pss_one (ps_ret pe_bl)))), ?_⟩
  refine ⟨_, rfl, (by show 2 ≤ sizeLine; decide), fun t ht => ?_⟩
  have g := same_new ht (.tup [.ty "list", .ty "tuple"])
  have hp1 := hp.same g
  obtain ⟨ty, hty, hk⟩ := hp1.ty (K := K)
  refine ⟨_, t, _, ty, _, _, rfl, upd_same, .cons (.ty _) (.cons (.ty _) .nil), hty, hk, _, rfl, iteF ?_⟩
  refine ⟨_, rfl, _, hp1.tru, ?_⟩
  have e0 : (rowsV rows).isEmpty = false := by
    cases rows with
    | nil => exact absurd rfl hne
    | cons r l => rfl
  rw [e0]
  refine iteF ?_
  refine sq_for (j := 0) (xs := rowsV rows) rfl hp1 (fun i σ H2 => H2 = upd H t (.tup [.ty "list", .ty "tuple"]) ∧ ∃ o, σ = [some (.ref p), o]) ⟨rfl, none, rfl⟩ (fun i σ H2 h => by rw [h.1]) ?_ ?_
  · rintro i x σ H2 hx ⟨rfl, o, rfl⟩
    unfold rowsV at hx
    rw [List.getElem?_map] at hx
    obtain ⟨r, h1, rfl⟩ := Option.map_eq_some_iff.mp hx
    have mr := List.mem_of_getElem? h1
    exact ⟨_, rfl, r.1, r.2, rfl, g _ _ (hrow r mr), hok r mr, _, rfl, iteF ⟨rfl, _, rfl⟩⟩
  · rintro σ H2 ⟨rfl, o, rfl⟩
    exact q _ g
def edsV (eds : List (Addr × Edge)) : List V := eds.map fun e => V.ref e.1
def EdsAt (H : Hp) (eds : List (Addr × Edge)) : Prop := ∀ e ∈ eds, H e.1 = some (.tup (edgeV e.2))
def edgeD (e : Edge) : PyData := .tuple [.int (e.a : Nat), .str e.r, .int (e.b : Nat)]
theorem dp_edge {K : PySem.W.Frag} {H : Hp} {t : Addr} {e : Edge} (h : H t = some (.tup (edgeV e))) : Dp K H (.ref t) (edgeD e) :=
  .tup (SqT.of h) (.cons (.int _) (.cons (.str _) (.cons (.int _) .nil)))
theorem dp_edges {K : PySem.W.Frag} {H : Hp} : ∀ {eds : List (Addr × Edge)}, EdsAt H eds → DpAll K H (edsV eds) (eds.map fun e => edgeD e.2)
  | [], _ => .nil
  | e :: l, h => .cons (dp_edge (h e List.mem_cons_self)) (dp_edges fun x hx => h x (List.mem_cons_of_mem _ hx))
/-- an edge comes ahead of another one -/
def ltE (e f : Edge) : Bool := PySem.W.dataLt (edgeD e) (edgeD f)
def AscE (l : List Edge) : Prop := l.Pairwise fun e f => ltE e f = true
theorem asc_edges {eds : List (Addr × Edge)} (h : AscE (eds.map (·.2))) : AscD (eds.map fun e => edgeD e.2) := by
  intro i d e hd he
  rw [List.getElem?_map] at hd he
  obtain ⟨x, h1, rfl⟩ := Option.map_eq_some_iff.mp hd
  obtain ⟨y, h2, rfl⟩ := Option.map_eq_some_iff.mp he
  refine ⟨by simp [edgeD, PySem.W.alike, PySem.W.alikeAll], by simp [edgeD], by simp [edgeD, PyData.depth, PyData.depthAll], ?_⟩
  obtain ⟨i1, e1⟩ := List.getElem?_eq_some_iff.mp h1
  obtain ⟨i2, e2⟩ := List.getElem?_eq_some_iff.mp h2
  have := List.pairwise_iff_getElem.mp h i (i + 1) (by simpa using i1) (by simpa using i2) (Nat.lt_succ_self _)
  rw [List.getElem_map, List.getElem_map, e1, e2] at this
  exact this
def spAEdges : Sp := fun vs H Q _ => ∃ (p : Addr) (n : Nat) (eds : List (Addr × Edge)), vs = [.ref p, .int (n : Nat)] ∧ InSq H p (edsV eds) ∧ EdsAt H eds ∧ (∀ e ∈ eds, EdgeOk n e.2) ∧ AscE (eds.map (·.2)) ∧ eds.length ≤ 1000 ∧ ∀ H', Same H H' → Q (.bl true) H'
theorem ok_aedges (D : Defs K mg) : FnOk P w K mg base CX0 4 D.d_are_edges.f D.d_are_edges.fd ["edges", "many"] spAEdges := by
  have GE := ok_edge (P := P) (w := w) (base := base) D
  have GA := ok_asc (P := P) (w := w) (base := base) D
  refine D.d_are_edges.F.ok sc_are_edges (fun vs H Q E h => ?_) (fun cdv A outer s H vs Q E hr h => ?_)
  · obtain ⟨p, n, eds, rfl, _⟩ := h
    rfl
  obtain ⟨p, n, eds, rfl, hp, hat, hok, hasc, hlen, q⟩ := h
  have hr1 : Room 1 _ := hr.mono (by omega)
  refine ⟨_, (pss_cons (ps_if (pt_not (pt_val (pe_callB call_isiT (by rfl) D.z_isinstance (by decide +kernel) (pa_cons (pv 0) (pa_cons (pe_tup (pa_cons (pe_bltn (v := .ty "list") (by rfl) D.z_list (by decide +kernel) rfl) (pa_cons (pe_bltn (v := .ty "tuple") (by rfl) D.z_tuple (by decide +kernel) rfl) pa_nil))) pa_nil))))) (pss_one (ps_ret pe_bl)) pss_nil)
      (pss_cons (ps_for PassesOwn.never rfl (K2.pi_sq (pv 0)) (pg_name (i := 2) sc_are_edges.nd rfl (Or.inl rfl)) (pss_one (ps_if (pt_not (pt_val (pe_call GE hr rfl D.d_is_edge.m D.d_is_edge.F.kp D.d_is_edge.b .nil pass0 (pa_cons (pv 2) (pa_cons (pv 1) pa_nil))))) (pss_one (ps_ret pe_bl)) pss_nil)))
      (pss_one (ps_ret (pe_call GA hr1 rfl D.d_is_ascending.m D.d_is_ascending.F.kp D.d_is_ascending.b .nil pass0 (pa_cons (pv 0) pa_nil)))))), ?_⟩
  refine ⟨_, rfl, (by show 2 ≤ sizeLine; decide), fun t ht => ?_⟩
  have g := same_new ht (.tup [.ty "list", .ty "tuple"])
  have hp1 := hp.same g
  have hat1 : EdsAt (upd H t (.tup [.ty "list", .ty "tuple"])) eds := fun e he => g _ _ (hat e he)
  obtain ⟨ty, hty, hk⟩ := hp1.ty (K := K)
  refine ⟨_, t, _, ty, _, _, rfl, upd_same, .cons (.ty _) (.cons (.ty _) .nil), hty, hk, _, rfl, iteF ?_⟩
  refine sq_for (j := 0) (xs := edsV eds) rfl hp1 (fun i σ H2 => H2 = upd H t (.tup [.ty "list", .ty "tuple"]) ∧ ∃ o, σ = [some (.ref p), some (.int (n : Nat)), o]) ⟨rfl, none, rfl⟩ (fun i σ H2 h => by rw [h.1]) ?_ ?_
  · rintro i x σ H2 hx ⟨rfl, o, rfl⟩
    unfold edsV at hx
    rw [List.getElem?_map] at hx
    obtain ⟨e, h1, rfl⟩ := Option.map_eq_some_iff.mp hx
    have mr := List.mem_of_getElem? h1
    exact ⟨_, rfl, _, rfl, e.1, n, e.2, rfl, hat1 e mr, hok e mr, _, rfl, iteF ⟨rfl, _, rfl⟩⟩
  · rintro σ H2 ⟨rfl, o, rfl⟩
    exact ⟨_, rfl, p, edsV eds, _, rfl, hp1.sq, dp_edges hat1, asc_edges hasc, by unfold edsV; simpa using hlen, q _ g⟩
end
end K1
namespace K1
open PySem L2
/-! a graph's dicts -/
theorem bor_nat (a b : Nat) : Builtin.bitOr (a : Int) (b : Int) = ((a ||| b : Nat) : Int) := by
  have h1 : ¬ (0 ≤ -(a : Int) - 1) := by omega
  have h2 : ¬ (0 ≤ -(b : Int) - 1) := by omega
  have e1 : (-(-(a : Int) - 1) - 1).toNat = a := by omega
  have e2 : (-(-(b : Int) - 1) - 1).toNat = b := by omega
  unfold Builtin.bitOr Builtin.bitAnd Builtin.bitNot
  have d1 : decide (0 ≤ -(a : Int) - 1) = false := decide_eq_false h1
  have d2 : decide (0 ≤ -(b : Int) - 1) = false := decide_eq_false h2
  rw [d1, d2]
  dsimp only
  rw [e1, e2]
  omega
theorem nd_put {κ : Type} [DecidableEq κ] {kvs : List (κ × V)} (k : κ) (v : V) (h : (kvs.map (·.1)).Nodup) : ((putK kvs k v).map (·.1)).Nodup := by
  cases e : valV kvs k with
  | none => exact nd_putK _ h e
  | some u =>
    have h2 : (kvs.any fun kv => decide (kv.1 = k)) = true := by rw [valV_any, e]; rfl
    unfold putK
    rw [if_pos h2, List.map_map]
    have : ((fun kv : κ × V => kv.1) ∘ fun kv => if kv.1 = k then (kv.1, v) else kv) = fun kv => kv.1 := by
      funext kv
      show (if kv.1 = k then (kv.1, v) else kv).1 = kv.1
      split <;> rfl
    rw [this]
    exact h
/-- the bits of a value: what is at a key, 0 where nothing is -/
def BitsOf (o : Option V) (f : Nat → Bool) : Prop := ∃ m : Nat, o.getD (.int 0) = .int (m : Int) ∧ ∀ b, m.testBit b = f b
theorem BitsOf.none_ : BitsOf none fun _ => false := ⟨0, rfl, fun b => Nat.zero_testBit b⟩
theorem BitsOf.or {o : Option V} {f : Nat → Bool} (h : BitsOf o f) (j : Nat) : ∃ m : Nat, o.getD (.int 0) = .int (m : Int) ∧ BitsOf (some (.int (Builtin.bitOr (m : Int) (1 * 2 ^ ((j : Nat) : Int).toNat)))) fun b => f b || decide (b = j) := by
  obtain ⟨m, h1, h2⟩ := h
  refine ⟨m, h1, m ||| 2 ^ j, ?_, fun b => ?_⟩
  · have e : (1 : Int) * 2 ^ ((j : Nat) : Int).toNat = ((2 ^ j : Nat) : Int) := by rw [Int.toNat_natCast, Int.one_mul]; push_cast; rfl
    show V.int _ = V.int _
    rw [e, bor_nat]
  · rw [Nat.testBit_or, h2, Nat.testBit_two_pow]
    congr 1
    by_cases e : j = b
    · subst e; simp
    · simp [e, Ne.symm e]
/-- things by a name: the bits at each name -/
def NamedIs (kvs : List (Key × V)) (f : Str → Nat → Bool) : Prop := ∀ x, BitsOf (valV kvs (Sum.inr x : Key)) (f x)
theorem NamedIs.nil : NamedIs [] fun _ _ => false := fun _ => BitsOf.none_
theorem NamedIs.put {kvs : List (Key × V)} {f g : Str → Nat → Bool} {x : Str} {j : Nat} {z : Int} (h : NamedIs kvs f) (hz : BitsOf (some (.int z)) fun b => f x b || decide (b = j)) (hg : ∀ y b, g y b = (f y b || (decide (y = x) && decide (b = j)))) :
    NamedIs (putK kvs (Sum.inr x : Key) (.int z)) g := fun y => by
  rw [valV_put]
  by_cases e : y = x
  · subst e
    rw [if_pos rfl]
    obtain ⟨m, h1, h2⟩ := hz
    exact ⟨m, h1, fun b => by rw [h2, hg, decide_eq_true rfl, Bool.true_and]⟩
  · rw [if_neg fun z => e (Sum.inr.inj z)]
    obtain ⟨m, h1, h2⟩ := h y
    exact ⟨m, h1, fun b => by rw [h2, hg, decide_eq_false e, Bool.false_and, Bool.or_false]⟩
/-- the targets of one role: at each thing the bits -/
structure Inn (kvs : List (Key × V)) (f : Nat → Nat → Bool) : Prop where
  at_ : ∀ k v, valV kvs k = some v → ∃ i m : Nat, k = Sum.inl (i : Int) ∧ v = .int (m : Int) ∧ ∀ b, m.testBit b = f i b
  no : ∀ i : Nat, valV kvs (Sum.inl (i : Int) : Key) = none → ∀ b, f i b = false
  nd : (kvs.map (·.1)).Nodup
theorem Inn.nil : Inn [] fun _ _ => false := ⟨fun k v h => by simp [valV] at h, fun _ _ _ => rfl, List.nodup_nil⟩
theorem Inn.bits {kvs : List (Key × V)} {f : Nat → Nat → Bool} (h : Inn kvs f) (i : Nat) : BitsOf (valV kvs (Sum.inl (i : Int) : Key)) (f i) := by
  cases e : valV kvs (Sum.inl (i : Int) : Key) with
  | none => exact ⟨0, rfl, fun b => by rw [Nat.zero_testBit, h.no i e]⟩
  | some v =>
    obtain ⟨i', m, h1, h2, h3⟩ := h.at_ _ _ e
    have : i = i' := by have := Sum.inl.inj h1; omega
    subst this
    exact ⟨m, h2, h3⟩
theorem Inn.put {kvs : List (Key × V)} {f g : Nat → Nat → Bool} {i j : Nat} {z : Int} (h : Inn kvs f) (hz : BitsOf (some (.int z)) fun b => f i b || decide (b = j)) (hg : ∀ y b, g y b = (f y b || (decide (y = i) && decide (b = j)))) :
    Inn (putK kvs (Sum.inl (i : Int) : Key) (.int z)) g := by
  have same : ∀ y : Nat, y ≠ i → ∀ b, g y b = f y b := fun y e b => by rw [hg, decide_eq_false e, Bool.false_and, Bool.or_false]
  refine ⟨fun k v e => ?_, fun y e b => ?_, nd_put _ _ h.nd⟩
  · rw [valV_put] at e
    by_cases c : k = Sum.inl (i : Int)
    · rw [if_pos c] at e
      obtain ⟨m, h1, h2⟩ := hz
      refine ⟨i, m, c, ?_, fun b => by rw [h2, hg, decide_eq_true rfl, Bool.true_and]⟩
      rw [← Option.some.inj e]; exact h1
    · rw [if_neg c] at e
      obtain ⟨i', m, h1, h2, h3⟩ := h.at_ _ _ e
      refine ⟨i', m, h1, h2, fun b => ?_⟩
      rw [h3, same i' (fun z => c (by rw [h1, z]))]
  · rw [valV_put] at e
    by_cases c : (Sum.inl (y : Int) : Key) = Sum.inl (i : Int)
    · rw [if_pos c] at e; cases e
    · rw [if_neg c] at e
      rw [same y (fun z => c (by rw [z]))]
      exact h.no y e b
end K1
namespace K1
open PySem L2
/-- what stood is kept, but for the thing at g -/
def Keep (H0 : Hp) (g : Addr) (H : Hp) : Prop := ∀ b o, H0 b = some o → b ≠ g → H b = some o
theorem Keep.refl (H : Hp) (g : Addr) : Keep H g H := fun _ _ h _ => h
theorem Keep.new {H0 H : Hp} {g p : Addr} {o : HO} (k : Keep H0 g H) (h : H0 p = none) : Keep H0 g (upd H p o) := fun b u e n => by rw [upd_ne (ne_of_none e h)]; exact k b u e n
theorem Keep.own {H0 H : Hp} {g : Addr} {o : HO} (k : Keep H0 g H) : Keep H0 g (upd H g o) := fun b u e n => by rw [upd_ne n]; exact k b u e n
theorem Keep.none {H0 H : Hp} {g p : Addr} (k : Keep H0 g H) (hg : H g ≠ Option.none) (h : H p = Option.none) : H0 p = Option.none := by
  cases e : H0 p with
  | none => rfl
  | some o =>
    by_cases c : p = g
    · rw [c] at h; exact absurd h hg
    · rw [k p o e c] at h; cases h
/-- the roles: each with a dict of its own -/
structure Ahd (H : Hp) (kvs : List (Key × V)) (as : List Addr) (F : Str → Nat → Nat → Bool) (N : Nat) : Prop where
  at_ : ∀ k v, valV kvs k = some v → ∃ r a inner, k = Sum.inr r ∧ v = .ref a ∧ a ∈ as ∧ H a = some (.dK inner) ∧ Inn inner (F r) ∧ inner.length ≤ N
  no : ∀ r, valV kvs (Sum.inr r : Key) = none → ∀ i b, F r i b = false
  nd : (kvs.map (·.1)).Nodup
  inj : ∀ k k' a, valV kvs k = some (.ref a) → valV kvs k' = some (.ref a) → k = k'
  an : as.Nodup
  dk : ∀ a ∈ as, ∃ inner, H a = some (.dK inner)
theorem Ahd.nil {H : Hp} {N : Nat} : Ahd H [] [] (fun _ _ _ => false) N := ⟨fun k v h => by simp [valV] at h, fun _ _ _ _ => rfl, List.nodup_nil, fun k k' a h => by simp [valV] at h, List.nodup_nil, fun a h => by simp at h⟩
theorem Ahd.keep {H H' : Hp} {kvs : List (Key × V)} {as : List Addr} {F : Str → Nat → Nat → Bool} {N : Nat} (h : Ahd H kvs as F N) (e : ∀ a ∈ as, H' a = H a) : Ahd H' kvs as F N :=
  ⟨fun k v q => let ⟨r, a, inner, h1, h2, h3, h4, h5⟩ := h.at_ k v q; ⟨r, a, inner, h1, h2, h3, by rw [e a h3]; exact h4, h5⟩, h.no, h.nd, h.inj, h.an, fun a q => by rw [e a q]; exact h.dk a q⟩
/-- one more edge -/
def addF (F : Str → Nat → Nat → Bool) (r : Str) (i j : Nat) : Str → Nat → Nat → Bool := fun s x b => F s x b || (decide (s = r) && (decide (x = i) && decide (b = j)))
theorem addF_other {F : Str → Nat → Nat → Bool} {r s : Str} {i j : Nat} (h : s ≠ r) : addF F r i j s = F s := by
  funext x b
  simp [addF, h]
/-- the role stands already -/
theorem Ahd.old {H : Hp} {kvs : List (Key × V)} {as : List Addr} {F : Str → Nat → Nat → Bool} {N : Nat} (h : Ahd H kvs as F N) {r : Str} {i j : Nat} {a : Addr} {inner : List (Key × V)} {z : Int} (hv : valV kvs (Sum.inr r : Key) = some (.ref a)) (ha : H a = some (.dK inner)) (hm : a ∈ as)
    (hi : Inn inner (F r)) (hl : inner.length ≤ N) (hz : BitsOf (some (.int z)) fun b => F r i b || decide (b = j)) : Ahd (upd H a (.dK (putK inner (Sum.inl (i : Int) : Key) (.int z)))) kvs as (addF F r i j) (N + 1) := by
  refine ⟨fun k v q => ?_, fun s q x b => ?_, h.nd, h.inj, h.an, fun b hb => ?_⟩
  · obtain ⟨s, a', inner', h1, h2, h3, h4, h5, h6⟩ := h.at_ k v q
    by_cases c : s = r
    · subst c
      rw [h1, hv] at q
      have : a = a' := by rw [h2] at q; exact V.ref.inj (Option.some.inj q)
      subst this
      refine ⟨s, a, _, h1, h2, h3, upd_same, hi.put hz fun y b => by simp [addF], ?_⟩
      exact Nat.le_trans (length_putK _ _ _) (Nat.succ_le_succ hl)
    · have na : a' ≠ a := fun e => by
        rw [h2, e] at q
        have := h.inj _ _ _ q hv
        rw [h1] at this
        exact c (Sum.inr.inj this)
      refine ⟨s, a', inner', h1, h2, h3, by rw [upd_ne na]; exact h4, by rw [addF_other c]; exact h5, Nat.le_succ_of_le h6⟩
  · have c : s ≠ r := fun e => by rw [e, hv] at q; cases q
    rw [addF_other c]
    exact h.no s q x b
  · by_cases c : b = a
    · rw [c]; exact ⟨_, upd_same⟩
    · rw [upd_ne c]; exact h.dk b hb
/-- a new role -/
theorem Ahd.fresh {H : Hp} {kvs : List (Key × V)} {as : List Addr} {F : Str → Nat → Nat → Bool} {N : Nat} (h : Ahd H kvs as F N) {r : Str} {i j : Nat} {p : Addr} {z : Int} (hv : valV kvs (Sum.inr r : Key) = none) (hp : p ∉ as) (np : ∀ k, valV kvs k ≠ some (.ref p))
    (hz : BitsOf (some (.int z)) fun b => F r i b || decide (b = j)) : Ahd (upd H p (.dK (putK [] (Sum.inl (i : Int) : Key) (.int z)))) (putK kvs (Sum.inr r : Key) (.ref p)) (as ++ [p]) (addF F r i j) (N + 1) := by
  have f0 : ∀ x b, F r x b = false := h.no r hv
  refine ⟨fun k v q => ?_, fun s q x b => ?_, nd_put _ _ h.nd, fun k k' a q q' => ?_, ?_, fun b hb => ?_⟩
  · rw [valV_put] at q
    by_cases c : k = Sum.inr r
    · rw [if_pos c] at q
      refine ⟨r, p, _, c, (Option.some.inj q).symm, by simp, upd_same, ?_, Nat.le_trans (length_putK _ _ _) (Nat.succ_le_succ (Nat.zero_le _))⟩
      have hz' : BitsOf (some (.int z)) fun b => (fun _ _ => false : Nat → Nat → Bool) i b || decide (b = j) := by
        obtain ⟨m, h1, h2⟩ := hz
        exact ⟨m, h1, fun b => by rw [h2]; show (F r i b || decide (b = j)) = (false || decide (b = j)); rw [f0]⟩
      exact Inn.nil.put hz' fun y b => by simp [addF, f0]
    · rw [if_neg c] at q
      obtain ⟨s, a', inner', h1, h2, h3, h4, h5, h6⟩ := h.at_ k v q
      have cs : s ≠ r := fun e => c (by rw [h1, e])
      have na : a' ≠ p := fun e => hp (by rw [← e]; exact h3)
      exact ⟨s, a', inner', h1, h2, by simp [h3], by rw [upd_ne na]; exact h4, by rw [addF_other cs]; exact h5, Nat.le_succ_of_le h6⟩
  · rw [valV_put] at q
    by_cases c : (Sum.inr s : Key) = Sum.inr r
    · rw [if_pos c] at q; cases q
    · rw [if_neg c] at q
      rw [addF_other fun e => c (by rw [e])]
      exact h.no s q x b
  · rw [valV_put] at q q'
    by_cases c : k = Sum.inr r
    · by_cases c' : k' = Sum.inr r
      · rw [c, c']
      · rw [if_pos c] at q
        rw [if_neg c'] at q'
        rw [← Option.some.inj q] at q'
        exact absurd q' (np k')
    · by_cases c' : k' = Sum.inr r
      · rw [if_neg c] at q
        rw [if_pos c'] at q'
        rw [← Option.some.inj q'] at q
        exact absurd q (np k)
      · rw [if_neg c] at q
        rw [if_neg c'] at q'
        exact h.inj k k' a q q'
  · rw [List.nodup_append]
    exact ⟨h.an, by simp, fun x hx y hy e => by rw [List.mem_singleton.mp hy] at e; exact hp (by rw [← e]; exact hx)⟩
  · rcases List.mem_append.mp hb with q | q
    · have : b ≠ p := fun e => hp (by rw [← e]; exact q)
      rw [upd_ne this]; exact h.dk b q
    · rw [List.mem_singleton.mp q]; exact ⟨_, upd_same⟩
end K1
namespace K1
open PySem L2
section
variable {P : Program} {w : World} {K : PySem.W.Frag} {mg : Str → Option Value} {base : Heap}
/-- a for over enumerate of a list or a tuple -/
theorem enum_for {j : Nat} {p : Addr} {xs : List V} {g : TG} {tb : TS} {D : Ends} {σ : St} {H : Hp} (hσ : σ[j]? = some (some (.ref p))) (hp : InSq H p xs) (Pv : Nat → St → Hp → Prop) (h0 : Pv 0 σ H) (hl : ∀ i σ' H', Pv i σ' H' → H' p = H p)
    (hs : ∀ i x σ' H' T, xs[i]? = some x → Pv i σ' H' → H' T = none → g (.ref T) σ' (upd H' T (.tup [.int (i : Nat), x])) fun σ2 H2 => tb { D with nx := Pv (i + 1), ct := Pv (i + 1), bk := D.nx } σ2 H2) (hd : ∀ σ' H', Pv xs.length σ' H' → D.nx σ' H') :
    K2.iEnumS K (tCons (tVar j) tNil) σ H fun J H1 => ∃ W : Nat → Nat → St → Hp → Prop, (∃ m, W 0 m σ H1) ∧ ∀ i m σ' H', W i m σ' H' →
      (J.stop i H' ∧ D.nx σ' H') ∨ (J.go i H' ∧ ∃ N : St → Hp → Prop, (∀ σ2 H2, N σ2 H2 → ∃ m', m' < m ∧ W (i + 1) m' σ2 H2) ∧ ∀ x H2, J.yld i H' x H2 → g x σ' H2 fun σ2 H2 => tb { D with nx := N, ct := N, bk := D.nx } σ2 H2) := by
  have step : ∀ i x σ' H' H2, i < xs.length → Pv i σ' H' → YPair (fun i => some (.int (i : Nat))) (fun i => xs[i]?) i H' x H2 → g x σ' H2 fun σ2 H2 => tb { D with nx := Pv (i + 1), ct := Pv (i + 1), bk := D.nx } σ2 H2 := by
    rintro i x σ' H' H2 hi pv ⟨T, x1, x2, rfl, hT, rfl, e1, e2⟩
    cases e1
    exact hs i x2 σ' H' T e2 pv hT
  rcases hp with hp | hp
  · exact .inl ⟨_, hσ, p, xs, rfl, SqL.of hp, for_it walk_enum Pv h0 (fun i σ' H' _ h => SqL.of (by rw [hl i σ' H' h]; exact hp)) step hd⟩
  · exact .inr ⟨_, hσ, p, xs, rfl, SqT.of hp, for_it K2.walk_enumT Pv h0 (fun i σ' H' _ h => SqT.of (by rw [hl i σ' H' h]; exact hp)) step hd⟩
def gflds (n : Nat) (dn da ds : Addr) : List (Str × V) := putF "_sources" (.ref ds) (putF "ahead" (.ref da) (putF "named" (.ref dn) (putF "everything" (.int (1 * 2 ^ ((n : Nat) : Int).toNat - 1)) [])))
theorem gk1 : ¬ (("everything" : Str) = "named") := by decide +kernel
theorem gk2 : ¬ (("everything" : Str) = "ahead") := by decide +kernel
theorem gk3 : ¬ (("named" : Str) = "ahead") := by decide +kernel
theorem gk4 : ¬ (("everything" : Str) = "_sources") := by decide +kernel
theorem gk5 : ¬ (("named" : Str) = "_sources") := by decide +kernel
theorem gk6 : ¬ (("ahead" : Str) = "_sources") := by decide +kernel
theorem gf_e {n : Nat} {dn da ds : Addr} : (gflds n dn da ds).lookup ("everything" : Str) = some (.int (1 * 2 ^ ((n : Nat) : Int).toNat - 1)) := by
  unfold gflds; rw [lookup_putF, if_neg gk4, lookup_putF, if_neg gk2, lookup_putF, if_neg gk1, lookup_putF, if_pos rfl]
theorem gf_n {n : Nat} {dn da ds : Addr} : (gflds n dn da ds).lookup ("named" : Str) = some (.ref dn) := by
  unfold gflds; rw [lookup_putF, if_neg gk5, lookup_putF, if_neg gk3, lookup_putF, if_pos rfl]
theorem gf_a {n : Nat} {dn da ds : Addr} : (gflds n dn da ds).lookup ("ahead" : Str) = some (.ref da) := by
  unfold gflds; rw [lookup_putF, if_neg gk6, lookup_putF, if_pos rfl]
theorem gf_s {n : Nat} {dn da ds : Addr} : (gflds n dn da ds).lookup ("_sources" : Str) = some (.ref ds) := by
  unfold gflds; rw [lookup_putF, if_pos rfl]
theorem gf_no {n : Nat} {dn da ds : Addr} {m : Str} (h1 : ¬ m = "everything") (h2 : ¬ m = "named") (h3 : ¬ m = "ahead") (h4 : ¬ m = "_sources") : (gflds n dn da ds).lookup m = none := by
  unfold gflds; rw [lookup_putF, if_neg h4, lookup_putF, if_neg h3, lookup_putF, if_neg h2, lookup_putF, if_neg h1]; rfl
def gheap3 (C : Addr) (H : Hp) (g dx dn da : Addr) (n : Nat) : Hp := upd (upd (upd (upd (upd H g (.ins C dx (putF "everything" (.int (1 * 2 ^ ((n : Nat) : Int).toNat - 1)) []))) dn (.dK [])) g (.ins C dx (putF "named" (.ref dn) (putF "everything" (.int (1 * 2 ^ ((n : Nat) : Int).toNat - 1)) [])))) da (.dK [])) g (.ins C dx (putF "ahead" (.ref da) (putF "named" (.ref dn) (putF "everything" (.int (1 * 2 ^ ((n : Nat) : Int).toNat - 1)) []))))
def gheap (C : Addr) (H : Hp) (g dx dn da ds : Addr) (n : Nat) : Hp := upd (upd (gheap3 C H g dx dn da n) ds (.dK [])) g (.ins C dx (gflds n dn da ds))
/-- names of things, as a question -/
def inRow (rows : List (Addr × List Str)) (x : Str) (i : Nat) : Bool := match rows[i]? with
  | some r => decide (x ∈ r.2)
  | none => false
def hasE (l : List Edge) (r : Str) (i j : Nat) : Bool := decide (Edge.mk i r j ∈ l)
def spPut (C : Addr) : Sp := fun vs H Q _ => ∃ (g dx dn da ds : Addr) (n i j N : Nat) (r : Str) (ka : List (Key × V)) (as : List Addr) (F : Str → Nat → Nat → Bool), vs = [.ref g, .int (i : Nat), .str r, .int (1 * 2 ^ ((j : Nat) : Int).toNat)] ∧ H g = some (.ins C dx (gflds n dn da ds)) ∧ H da = some (.dK ka) ∧ Ahd H ka as F N ∧ ka.length ≤ 900 ∧ N ≤ 900 ∧ da ∉ as ∧
  ∀ (H' : Hp) (ka' : List (Key × V)) (as' : List Addr), But (da :: as) H H' → H' da = some (.dK ka') → Ahd H' ka' as' (addF F r i j) (N + 1) → ka'.length ≤ ka.length + 1 → (∀ a ∈ as', a ∈ as ∨ H a = none) → Q .non H'
theorem ok_put (D : Defs K mg) : FnOk P w K mg base CX0 1 D.d_g_put_edges.f D.d_g_put_edges.fd ["self", "thing", "role", "ends"] (spPut D.gC) := by
  refine D.d_g_put_edges.F.ok sc_g_put_edges (fun vs H Q E h => ?_) (fun cdv A outer s H vs Q E hr h => ?_)
  · obtain ⟨g, dx, dn, da, ds, n, i, j, N, r, ka, as, F, rfl, _⟩ := h
    rfl
  obtain ⟨g, dx, dn, da, ds, n, i, j, N, r, ka, as, F, rfl, eg5, eda5, ah5, l900, N900, das, q⟩ := h
  have hu := hu_of hr
  refine ⟨_, (pss_cons (ps_set (i := 4) sc_g_put_edges.nd rfl (Or.inl rfl) (pe_dsetd (pe_fld (pv 0) rfl) (pv 2) pe_dnewK ⟨rfl, rfl, rfl, rfl⟩))
      (pss_one (ps_dput hu (pv 4) (pv 1) (pe_op op_or (pe_dget2 hu (pv 4) (pv 1) pe_int ⟨rfl, rfl, rfl, rfl⟩) (pv 3)) rfl))), ?_⟩
  refine ⟨_, rfl, g, D.gC, dx, _, _, rfl, eg5, D.gC_cl, D.gC_nahead, gf_a, da, rfl, .inl ⟨ka, .inl eda5⟩, _, rfl, fun p hp => ?_⟩
  have dap : da ≠ p := ne_of_none eda5 hp
  have pas : p ∉ as := fun z => by
    obtain ⟨inner, hi⟩ := ah5.dk p z
    rw [hp] at hi; cases hi
  refine ⟨ka, Sum.inr r, by rw [upd_ne dap]; exact eda5, rfl, small1000 (by omega), fun v hv => ?_, fun hnv => ?_⟩
  · obtain ⟨r', a, inner, h1, rfl, ha, hia, hin, hil⟩ := ah5.at_ _ _ hv
    obtain rfl : r = r' := Sum.inr.inj h1
    have ap : a ≠ p := fun z => pas (by rw [← z]; exact ha)
    have hia6 : upd H p (.dK []) a = some (.dK inner) := by rw [upd_ne ap]; exact hia
    have daa : da ≠ a := fun z => das (by rw [z]; exact ha)
    obtain ⟨m, h2, h3⟩ := (hin.bits i).or j
    refine ⟨_, rfl, a, rfl, .inl ⟨inner, .inl hia6⟩, _, rfl, _, DGet.k (k := Sum.inl ((i : Nat) : Int)) hia6, _, rfl, (m : Int), _, h2, rfl, _, rfl, _, rfl, a, _, rfl, DPut.k (k := Sum.inl ((i : Nat) : Int)) hia6 (small1000 (by omega)), ?_⟩
    refine q _ ka as ?_ ?_ ((ah5.keep (H' := upd H p (.dK [])) fun b hb => upd_ne fun z => pas (by rw [← z]; exact hb)).old hv hia6 ha hin hil h3) (Nat.le_succ _) fun b hb => .inl hb
    · exact (But.new hp).trans (But.put (by simp [ha]))
    · rw [upd_ne daa, upd_ne dap]; exact eda5
  · have hp7 : upd (upd H p (.dK [])) da (.dK (putK ka (Sum.inr r : Key) (.ref p))) p = some (.dK []) := by rw [upd_ne dap.symm]; exact upd_same
    have b0 : BitsOf (valV [] (Sum.inl ((i : Nat) : Int) : Key)) (F r i) := ⟨0, rfl, fun b => by rw [Nat.zero_testBit, ah5.no _ hnv]⟩
    obtain ⟨m, h2, h3⟩ := b0.or j
    refine ⟨_, rfl, p, rfl, .inl ⟨[], .inl hp7⟩, _, rfl, _, DGet.k (k := Sum.inl ((i : Nat) : Int)) hp7, _, rfl, (m : Int), _, h2, rfl, _, rfl, _, rfl, p, _, rfl, DPut.k (k := Sum.inl ((i : Nat) : Int)) hp7 (by show 0 < sizeLine; decide), ?_⟩
    refine q _ _ (as ++ [p]) ?_ (by rw [upd_ne dap, upd_same]) ?_ (length_putK _ _ _) fun b hb => ?_
    · intro b o nb z
      have bp := ne_of_none z hp
      rw [upd_ne bp, upd_ne fun e => nb (by simp [e]), upd_ne bp]
      exact z
    · refine (ah5.keep (H' := upd (upd H p (.dK [])) da (.dK (putK ka (Sum.inr r : Key) (.ref p)))) fun b hb => ?_).fresh hnv pas (fun k z => ?_) h3
      · rw [upd_ne (fun z => das (by rw [← z]; exact hb)), upd_ne fun z => pas (by rw [← z]; exact hb)]
      · obtain ⟨_, a, _, _, e2, ha, _⟩ := ah5.at_ _ _ z
        rw [V.ref.inj e2] at pas
        exact pas ha
    · rcases List.mem_append.mp hb with z | z
      · exact .inl z
      · rw [List.mem_singleton.mp z]; exact .inr hp
def spGInit (C : Addr) : Sp := fun vs H Q _ => ∃ (g dx pn pe : Addr) (rows : List (Addr × List Str)) (eds : List (Addr × Edge)), vs = [.ref g, .ref pn, .ref pe] ∧ H g = some (.ins C dx []) ∧ InSq H pn (rowsV rows) ∧ RowsAt H rows ∧ InSq H pe (edsV eds) ∧ EdsAt H eds ∧
  rows.length ≤ 1000 ∧ (K2.flatR rows).length ≤ 1000 ∧ eds.length ≤ 900 ∧ (∀ e ∈ eds, EdgeOk rows.length e.2) ∧ pn ≠ g ∧ pe ≠ g ∧ (∀ r ∈ rows, r.1 ≠ g) ∧ (∀ e ∈ eds, e.1 ≠ g) ∧
  ∀ H' dn da ds kn ka as on oa, Keep H g H' → H dn = none → H da = none → H ds = none → (∀ a ∈ as, H a = none) → H' g = some (.ins C dx (gflds rows.length dn da ds)) → H' dn = some (.frz on (.dK kn)) → NamedIs kn (inRow rows) → H' da = some (.frz oa (.dK ka)) → H' ds = some (.dK []) →
    Ahd (fun a => match H' a with | some (.frz _ u) => some u | o => o) ka as (hasE (eds.map (·.2))) eds.length → (∀ a ∈ as, ∃ oi inner, H' a = some (.frz oi (.dK inner))) → ka.length ≤ eds.length → Q .non H'
theorem ok_ginit (D : Defs K mg) : FnOk P w K mg base CX0 2 D.d_g_init.f D.d_g_init.fd ["self", "names", "edges"] (spGInit D.gC) := by
  have GP := ok_put (P := P) (w := w) (base := base) D
  refine D.d_g_init.F.ok sc_g_init (fun vs H Q E h => ?_) (fun cdv A outer s H vs Q E hr h => ?_)
  · obtain ⟨g, dx, pn, pe, rows, eds, rfl, _⟩ := h
    rfl
  obtain ⟨g, dx, pn, pe, rows, eds, rfl, hg, hpn, hrow, hpe, heds, l1, l2, l3, hok, n1, n2, n3, n4, q⟩ := h
  have hu := hu_of hr
  refine ⟨_, (pss_cons (ps_fld (pv 0) (pe_op op_sub (pe_op op_shl pe_int (pe_callB call_len_seq (by rfl) D.z_len (by decide +kernel) (pa_cons (pv 1) pa_nil))) pe_int) rfl)
      (pss_cons (ps_fld (pv 0) pe_dnewK rfl)
      (pss_cons (ps_fld (pv 0) pe_dnewK rfl)
      (pss_cons (ps_fld (pv 0) pe_dnewK rfl)
      (pss_cons (ps_for PassesOwn.never rfl (K2.pi_enumS (by rfl) D.z_enumerate (pa_cons (pv 1) pa_nil)) (pg_tup rfl (pgs_cons (pg_name (i := 3) sc_g_init.nd rfl (Or.inl rfl)) (pgs_cons (pg_name (i := 4) sc_g_init.nd rfl (Or.inl rfl)) pgs_nil)))
        (pss_one (ps_for PassesOwn.never rfl (pi_tup (pv 4)) (pg_name (i := 5) sc_g_init.nd rfl (Or.inl rfl)) (pss_one (ps_dput hu (pe_fld (pv 0) rfl) (pv 5) (pe_op op_or (pe_dget2 hu (pe_fld (pv 0) rfl) (pv 5) pe_int ⟨rfl, rfl, rfl, rfl⟩) (pe_op op_shl pe_int (pv 3))) rfl)))))
      (pss_one (K2.ps_frz (ps_for PassesOwn.never rfl (K2.pi_sq (pv 2)) (pg_tup rfl (pgs_cons (pg_name (i := 3) sc_g_init.nd rfl (Or.inl rfl)) (pgs_cons (pg_name (i := 6) sc_g_init.nd rfl (Or.inl rfl)) (pgs_cons (pg_name (i := 7) sc_g_init.nd rfl (Or.inl rfl)) pgs_nil))))
        (pss_one (ps_expr (pe_meth (pv 0) D.gC_cl D.d_g_put_edges.me GP hr D.d_g_put_edges.b .nil pass0 (pa_cons (pv 3) (pa_cons (pv 6) (pa_cons (pe_op op_shl pe_int (pv 7)) pa_nil)))))))))))))), ?_⟩
  have el : (rowsV rows).length = rows.length := by simp [rowsV]
  have k0 := Keep.refl H g
  refine ⟨_, rfl, pn, rowsV rows, rfl, hpn.sq, _, _, rfl, rfl, ⟨by omega, by omega, by decide⟩, _, _, rfl, rfl, _, rfl, g, D.gC, dx, _, rfl, hg, D.gC_cl, D.gC_neverything, (by show 0 < 1000; decide), ?_⟩
  intro dn hdn
  have gdn : g ≠ dn := ne_of_none upd_same hdn
  refine ⟨_, rfl, g, D.gC, dx, _, rfl, (by rw [upd_ne gdn]; exact upd_same), D.gC_cl, D.gC_nnamed, (by show 1 < 1000; decide), ?_⟩
  intro da hda
  have gda : g ≠ da := ne_of_none upd_same hda
  have dnda : dn ≠ da := ne_of_none (by rw [upd_ne gdn.symm]; exact upd_same) hda
  refine ⟨_, rfl, g, D.gC, dx, _, rfl, (by rw [upd_ne gda]; exact upd_same), D.gC_cl, D.gC_nahead, (by show 2 < 1000; decide), ?_⟩
  intro ds hds
  have gds : g ≠ ds := ne_of_none upd_same hds
  have dads : da ≠ ds := ne_of_none (by rw [upd_ne gda.symm]; exact upd_same) hds
  have dnds : dn ≠ ds := ne_of_none (by rw [upd_ne gdn.symm, upd_ne dnda, upd_ne gdn.symm]; exact upd_same) hds
  refine ⟨_, rfl, g, D.gC, dx, _, rfl, (by rw [upd_ne gds]; exact upd_same), D.gC_cl, D.gC_n_sources, (by show 3 < 1000; decide), ?_⟩
  rw [el]
  have hdn0 : H dn = none := by rw [upd_ne gdn.symm] at hdn; exact hdn
  have hda0 : H da = none := by rw [upd_ne gda.symm, upd_ne dnda.symm, upd_ne gda.symm] at hda; exact hda
  have hds0 : H ds = none := by rw [upd_ne gds.symm, upd_ne dads.symm, upd_ne gds.symm, upd_ne dnds.symm, upd_ne gds.symm] at hds; exact hds
  -- the heap behind the four stores
  have k3 : Keep H g (gheap D.gC H g dx dn da ds rows.length) := ((((((k0.own).new hdn0).own).new hda0).own).new hds0).own
  have eg : (gheap D.gC H g dx dn da ds rows.length) g = some (.ins D.gC dx (gflds rows.length dn da ds)) := upd_same
  have edn : (gheap D.gC H g dx dn da ds rows.length) dn = some (.dK []) := by
    unfold gheap gheap3
    rw [upd_ne gdn.symm, upd_ne dnds, upd_ne gdn.symm, upd_ne dnda, upd_ne gdn.symm, upd_same]
  have eda : (gheap D.gC H g dx dn da ds rows.length) da = some (.dK []) := by
    unfold gheap gheap3
    rw [upd_ne gda.symm, upd_ne dads, upd_ne gda.symm, upd_same]
  have eds_ : (gheap D.gC H g dx dn da ds rows.length) ds = some (.dK []) := by
    unfold gheap
    rw [upd_ne gds.symm, upd_same]
  have pn3 : gheap D.gC H g dx dn da ds rows.length pn = H pn := by
    rcases hpn with h | h
    · rw [h]; exact k3 _ _ h n1
    · rw [h]; exact k3 _ _ h n1
  have hpn3 : InSq (gheap D.gC H g dx dn da ds rows.length) pn (rowsV rows) := by rcases hpn with h | h; exact .inl (by rw [pn3]; exact h); exact .inr (by rw [pn3]; exact h)
  refine enum_for (j := 1) (xs := rowsV rows) (H := gheap D.gC H g dx dn da ds rows.length) rfl hpn3 (fun i σ H4 => ∃ o3 o4 o5 kn, σ = [some (.ref g), some (.ref pn), some (.ref pe), o3, o4, o5, none, none] ∧ Keep H g H4 ∧ H4 g = some (.ins D.gC dx (gflds rows.length dn da ds)) ∧ H4 dn = some (.dK kn) ∧ H4 da = some (.dK []) ∧ H4 ds = some (.dK []) ∧
    kn.length ≤ (K2.flatR (rows.take i)).length ∧ NamedIs kn fun x k => decide (k < i) && inRow rows x k) ⟨none, none, none, [], rfl, k3, eg, edn, eda, eds_, Nat.zero_le _, NamedIs.nil⟩ ?_ ?_ ?_
  · rintro i σ H4 ⟨o3, o4, o5, kn, rfl, k4, _⟩
    rw [pn3]
    rcases hpn with h | h
    · rw [h]; exact k4 _ _ h n1
    · rw [h]; exact k4 _ _ h n1
  · rintro i x σ H4 T hx ⟨o3, o4, o5, kn, rfl, k4, eg4, edn4, eda4, es4, hl4, hn4⟩ hT
    unfold rowsV at hx
    rw [List.getElem?_map] at hx
    obtain ⟨r, hri, rfl⟩ := Option.map_eq_some_iff.mp hx
    have mr := List.mem_of_getElem? hri
    have hr4 : H4 r.1 = some (.tup (r.2.map V.str)) := k4 _ _ (hrow r mr) (n3 r mr)
    have gT : g ≠ T := ne_of_none eg4 hT
    have dnT : dn ≠ T := ne_of_none edn4 hT
    have daT : da ≠ T := ne_of_none eda4 hT
    have rT : r.1 ≠ T := ne_of_none hr4 hT
    have hT0 : H T = none := k4.none (by rw [eg4]; simp) hT
    have il : i < rows.length := (List.getElem?_eq_some_iff.mp hri).1
    have fl := K2.flatR_le rows (i + 1)
    rw [K2.flatR_take rows i r hri, List.length_append] at fl
    refine ⟨T, _, rfl, SqT.of upd_same, rfl, _, _, rfl, _, _, rfl, rfl, _, rfl, r.1, rfl, ⟨_, SqT.of (by rw [upd_ne rT]; exact hr4)⟩, for_tup (K := K) (a := r.1) (xs := r.2.map V.str)
      (fun j σ H5 => ∃ o5 kn, σ = [some (.ref g), some (.ref pn), some (.ref pe), some (.int (i : Nat)), some (.ref r.1), o5, none, none] ∧ Keep H g H5 ∧ H5 g = some (.ins D.gC dx (gflds rows.length dn da ds)) ∧ H5 dn = some (.dK kn) ∧ H5 da = some (.dK []) ∧ H5 ds = some (.dK []) ∧
        kn.length ≤ (K2.flatR (rows.take i)).length + j ∧ NamedIs kn fun x k => (decide (k < i) && inRow rows x k) || (decide (k = i) && decide (x ∈ r.2.take j)))
      ⟨o5, kn, rfl, k4.new hT0, by rw [upd_ne gT]; exact eg4, by rw [upd_ne dnT]; exact edn4, by rw [upd_ne daT]; exact eda4, by rw [upd_ne (ne_of_none es4 hT)]; exact es4, hl4, fun x => ?_⟩ (fun j σ H5 _ h => ?_) ?_ ?_⟩
    · obtain ⟨m, h1, h2⟩ := hn4 x
      exact ⟨m, h1, fun b => by rw [h2]; simp⟩
    · obtain ⟨_, _, _, k5, _⟩ := h
      exact SqT.of (k5 _ _ (hrow r mr) (n3 r mr))
    · rintro j y σ H5 hy ⟨o5, kn, rfl, k5, eg5, edn5, eda5, es5, hl5, hn5⟩
      rw [List.getElem?_map] at hy
      obtain ⟨z, hz, rfl⟩ := Option.map_eq_some_iff.mp hy
      have jl : j < r.2.length := (List.getElem?_eq_some_iff.mp hz).1
      obtain ⟨m, h1, h2⟩ := (hn5 z).or i
      refine ⟨_, rfl, g, D.gC, dx, _, _, rfl, eg5, D.gC_cl, D.gC_nnamed, gf_n, dn, rfl, .inl ⟨kn, .inl edn5⟩, _, rfl, _, DGet.k (k := Sum.inr z) edn5, _, rfl, _, _, rfl, rfl, ⟨by omega, by omega, by decide⟩, (m : Int), _, h1, rfl,
        _, rfl, g, D.gC, dx, _, _, rfl, eg5, D.gC_cl, D.gC_nnamed, gf_n, _, rfl, dn, _, rfl, DPut.k (k := Sum.inr z) edn5 (small1000 (by omega)), ?_⟩
      refine ⟨_, _, rfl, k5.new hdn0, by rw [upd_ne gdn]; exact eg5, upd_same, by rw [upd_ne dnda.symm]; exact eda5, by rw [upd_ne dnds.symm]; exact es5, ?_, hn5.put h2 fun y b => ?_⟩
      · exact Nat.le_trans (length_putK _ _ _) (by omega)
      · rw [List.take_add_one, hz]
        by_cases e : b = i
        · subst e
          simp
        · simp [e]
    · rintro σ H5 ⟨o5, kn, rfl, k5, eg5, edn5, eda5, es5, hl5, hn5⟩
      refine ⟨_, _, _, kn, rfl, k5, eg5, edn5, eda5, es5, ?_, fun x => ?_⟩
      · rw [K2.flatR_take rows i r hri, List.length_append]
        rw [List.length_map] at hl5
        exact hl5
      · obtain ⟨m, h1, h2⟩ := hn5 x
        refine ⟨m, h1, fun b => ?_⟩
        rw [h2, List.length_map, List.take_length]
        by_cases e : b = i
        · subst e
          simp [inRow, hri]
        · by_cases e2 : b < i
          · have : b < i + 1 := by omega
            simp [e, e2, this]
          · have : ¬ b < i + 1 := by omega
            simp [e, e2, this]
  · rintro σ H4 ⟨o3, o4, o5, kn, rfl, k4, eg4, edn4, eda4, es4, hl4, hn4⟩
    have al4 : NamedIs kn (inRow rows) := fun x => by
      obtain ⟨m, h1, h2⟩ := hn4 x
      refine ⟨m, h1, fun b => ?_⟩
      rw [h2]
      by_cases e : b < (rowsV rows).length
      · simp [e]
      · have : rows[b]? = none := List.getElem?_eq_none (by rw [el] at e; omega)
        simp [e, inRow, this]
    have hpe4 : InSq H4 pe (edsV eds) := by
      rcases hpe with h | h
      · exact .inl (k4 _ _ h n2)
      · exact .inr (k4 _ _ h n2)
    have pe4 : ∀ {H5 : Hp}, Keep H g H5 → H5 pe = H4 pe := fun {H5} k5 => by
      rcases hpe with h | h
      · rw [k4 _ _ h n2, k5 _ _ h n2]
      · rw [k4 _ _ h n2, k5 _ _ h n2]
    refine sq_for (j := 2) (xs := edsV eds) (H := H4) rfl hpe4 (fun i σ H5 => ∃ o3 o4 o5 o6 o7 ka as, σ = [some (.ref g), some (.ref pn), some (.ref pe), o3, o4, o5, o6, o7] ∧ Keep H g H5 ∧ H5 g = some (.ins D.gC dx (gflds rows.length dn da ds)) ∧ H5 dn = some (.dK kn) ∧ H5 da = some (.dK ka) ∧ H5 ds = some (.dK []) ∧
      Ahd H5 ka as (hasE ((eds.take i).map (·.2))) i ∧ ka.length ≤ i ∧ ∀ a ∈ as, H a = none ∧ a ≠ g ∧ a ≠ dn ∧ a ≠ da ∧ a ≠ ds)
      ⟨o3, o4, o5, none, none, [], [], rfl, k4, eg4, edn4, eda4, es4, Ahd.nil, Nat.le_refl _, fun a h => by simp at h⟩ (fun i σ H5 h => ?_) ?_ ?_
    · obtain ⟨_, _, _, _, _, _, _, _, k5, _⟩ := h
      exact pe4 k5
    · rintro i x σ H5 hx ⟨o3, o4, o5, o6, o7, ka, as, rfl, k5, eg5, edn5, eda5, es5, ah5, hl5, has⟩
      unfold edsV at hx
      rw [List.getElem?_map] at hx
      obtain ⟨e, hei, rfl⟩ := Option.map_eq_some_iff.mp hx
      have me := List.mem_of_getElem? hei
      have il : i < eds.length := (List.getElem?_eq_some_iff.mp hei).1
      have he5 := k5 _ _ (heds e me) (n4 e me)
      have hF : hasE ((eds.take (i + 1)).map (·.2)) = addF (hasE ((eds.take i).map (·.2))) e.2.r e.2.a e.2.b := by
        funext s x b
        rw [List.take_add_one, hei]
        unfold hasE addF
        rw [List.map_append]
        have q1 : (Edge.mk x s b ∈ (eds.take i).map (·.2) ++ (Option.some e).toList.map (·.2)) ↔ (Edge.mk x s b ∈ (eds.take i).map (·.2) ∨ (s = e.2.r ∧ x = e.2.a ∧ b = e.2.b)) := by
          rw [List.mem_append]
          refine or_congr Iff.rfl ?_
          constructor
          · intro z
            have : Edge.mk x s b = e.2 := by simpa using z
            rw [← this]
            exact ⟨rfl, rfl, rfl⟩
          · rintro ⟨rfl, rfl, rfl⟩
            simp
        rw [Bool.eq_iff_iff]
        simp only [decide_eq_true_eq, Bool.or_eq_true, Bool.and_eq_true]
        exact q1
      have das : da ∉ as := fun z => (has da z).2.2.2.1 rfl
      refine ⟨e.1, edgeV e.2, rfl, SqT.of he5, rfl, _, _, rfl, _, _, rfl, _, _, rfl, rfl, _, rfl, g, dx, _, rfl, eg5, gf_no (by decide +kernel) (by decide +kernel) (by decide +kernel) (by decide +kernel), _, rfl, _, rfl, _, rfl, _, _, rfl, rfl, ⟨by omega, ?_, by decide⟩, ?_⟩
      · have := (hok e me).2.1
        show ((e.2.b : Nat) : Int) ≤ 1000000
        omega
      refine ⟨g, dx, dn, da, ds, rows.length, e.2.a, e.2.b, i, e.2.r, ka, as, _, rfl, eg5, eda5, ah5, by omega, by omega, das, fun H6 ka6 as6 b6 eda6 ah6 hl6 has6 => ?_⟩
      have nin : ∀ b o, H5 b = some o → b ≠ da → (∀ a ∈ as, b ≠ a) → H6 b = some o := fun b o hb h1 h2 => b6 b o (fun z => by
        rcases List.mem_cons.mp z with z | z
        · exact h1 z
        · exact h2 b z rfl) hb
      refine ⟨_, _, _, _, _, ka6, as6, rfl, fun b o hb hn => nin b o (k5 b o hb hn) (fun z => by rw [z, hda0] at hb; cases hb) (fun a ha z => by rw [z, (has a ha).1] at hb; cases hb), nin _ _ eg5 gda (fun a ha => (has a ha).2.1.symm), nin _ _ edn5 dnda (fun a ha => (has a ha).2.2.1.symm), eda6, nin _ _ es5 dads.symm (fun a ha => (has a ha).2.2.2.2.symm), by rw [hF]; exact ah6, by omega, fun a ha => ?_⟩
      rcases has6 a ha with z | z
      · exact has a z
      · exact ⟨k5.none (by rw [eg5]; simp) z, (fun q1 => by rw [q1, eg5] at z; cases z), (fun q1 => by rw [q1, edn5] at z; cases z), (fun q1 => by rw [q1, eda5] at z; cases z), (fun q1 => by rw [q1, es5] at z; cases z)⟩
    · rintro σ H5 ⟨o3, o4, o5, o6, o7, ka, as, rfl, k5, eg5, edn5, eda5, es5, ah5, hl5, has⟩
      have nd : (dn :: da :: as).Nodup := by
        rw [List.nodup_cons, List.nodup_cons]
        refine ⟨fun z => ?_, fun z => (has da z).2.2.2.1 rfl, ah5.an⟩
        rcases List.mem_cons.mp z with z | z
        · exact dnda z
        · exact (has dn z).2.2.1 rfl
      refine ⟨dn :: da :: as, K2.canFrz nd fun b hb => ?_, fun H6 f => ?_⟩
      · rcases List.mem_cons.mp hb with z | z
        · rw [z]; exact ⟨_, edn5, trivial⟩
        rcases List.mem_cons.mp z with z | z
        · rw [z]; exact ⟨_, eda5, trivial⟩
        · obtain ⟨inner, hi⟩ := ah5.dk b z
          exact ⟨_, hi, trivial⟩
      have fat := f.at_ nd
      obtain ⟨on, u1, h1, h2⟩ := fat dn List.mem_cons_self
      rw [edn5] at h1
      obtain ⟨oa, u2, h3, h4⟩ := fat da (List.mem_cons_of_mem _ List.mem_cons_self)
      rw [eda5] at h3
      have e1 := Option.some.inj h1
      have e2 := Option.some.inj h3
      subst e1
      subst e2
      have out : ∀ b, H b ≠ none → H6 b = H5 b := fun b hb => f.other b fun z => by
        rcases List.mem_cons.mp z with z | z
        · rw [z] at hb; exact hb hdn0
        rcases List.mem_cons.mp z with z | z
        · rw [z] at hb; exact hb hda0
        · exact hb (has b z).1
      rw [show (edsV eds).length = eds.length by simp [edsV], List.take_length] at ah5
      refine q H6 dn da ds kn ka as on oa (fun b o hb hn => ?_) hdn0 hda0 hds0 (fun a ha => (has a ha).1) ?_ h2 al4 h4 ?_ (ah5.keep fun a ha => ?_) (fun a ha => ?_) (by simpa [edsV] using hl5)
      · rw [out b (by rw [hb]; simp)]; exact k5 b o hb hn
      · rw [out g (by rw [hg]; simp)]; exact eg5
      · rw [f.other ds fun z => ?_]
        · exact es5
        · rcases List.mem_cons.mp z with z | z
          · exact dnds z.symm
          rcases List.mem_cons.mp z with z | z
          · exact dads z.symm
          · exact (has ds z).2.2.2.2 rfl
      · obtain ⟨oi, u, h5, h6⟩ := fat a (by simp [ha])
        show (match H6 a with | some (.frz _ u) => some u | o => o) = H5 a
        rw [h6, h5]
      · obtain ⟨oi, u, h5, h6⟩ := fat a (by simp [ha])
        obtain ⟨inner, hi⟩ := ah5.dk a ha
        rw [hi] at h5
        exact ⟨oi, inner, by rw [h6, ← Option.some.inj h5]⟩
end
end K1
namespace K1
open PySem L2
/-! ### a graph that stands -/
def inR (nm : List (List Str)) (x : Str) (i : Nat) : Bool := match nm[i]? with
  | some l => decide (x ∈ l)
  | none => false
theorem inRow_eq (rows : List (Addr × List Str)) (x : Str) (i : Nat) : inRow rows x i = inR (rows.map (·.2)) x i := by
  unfold inRow inR
  rw [List.getElem?_map]
  cases rows[i]? <;> rfl
structure GAt (C : Addr) (H : Hp) (g : Addr) (nm : List (List Str)) (ed : List Edge) : Prop where
  ex : ∃ dx dn da ds kn ka on oa, H g = some (.ins C dx (gflds nm.length dn da ds)) ∧ H dn = some (.frz on (.dK kn)) ∧ NamedIs kn (inR nm) ∧ H da = some (.frz oa (.dK ka)) ∧
    (∀ k v, valV ka k = some v → ∃ r a inner oi, k = Sum.inr r ∧ v = .ref a ∧ H a = some (.frz oi (.dK inner)) ∧ Inn inner (hasE ed r) ∧ inner.length ≤ 1000) ∧
    (∀ r, valV ka (Sum.inr r : Key) = none → ∀ i b, hasE ed r i b = false) ∧ (ka.map (·.1)).Nodup ∧ ka.length ≤ 1000
theorem GAt.same {C : Addr} {H H' : Hp} {g : Addr} {nm : List (List Str)} {ed : List Edge} (h : GAt C H g nm ed) (e : Same H H') : GAt C H' g nm ed := by
  obtain ⟨dx, dn, da, ds, kn, ka, on, oa, h1, h2, h3, h4, h5, h6⟩ := h.ex
  refine ⟨dx, dn, da, ds, kn, ka, on, oa, e _ _ h1, e _ _ h2, h3, e _ _ h4, fun k v q => ?_, h6⟩
  obtain ⟨r, a, inner, oi, q1, q2, q3, q4⟩ := h5 k v q
  exact ⟨r, a, inner, oi, q1, q2, e _ _ q3, q4⟩
theorem mem_valV {κ : Type} [DecidableEq κ] : ∀ {kvs : List (κ × V)} {k : κ} {v : V}, (kvs.map (·.1)).Nodup → (k, v) ∈ kvs → valV kvs k = some v
  | [], _, _, _, h => by simp at h
  | p :: r, k, v, nd, h => by
    rw [List.map_cons, List.nodup_cons] at nd
    rcases List.mem_cons.mp h with e | e
    · rw [← e]; exact valV_pos rfl
    · have : ¬ p.1 = k := fun z => nd.1 (by rw [z]; exact List.mem_map.mpr ⟨_, e, rfl⟩)
      rw [valV_neg this]
      exact mem_valV nd.2 e
theorem valV_mem {κ : Type} [DecidableEq κ] : ∀ {kvs : List (κ × V)} {k : κ} {v : V}, valV kvs k = some v → (k, v) ∈ kvs
  | [], _, _, h => by simp [valV] at h
  | p :: r, k, v, h => by
    by_cases e : p.1 = k
    · rw [valV_pos e] at h
      have := Option.some.inj h
      rw [← e, ← this]
      exact List.mem_cons_self
    · rw [valV_neg e] at h
      exact List.mem_cons_of_mem _ (valV_mem h)
/-- behind a set of things -/
def behE (ed : List Edge) (r : Str) (p : Nat → Bool) (i : Nat) : Bool := ed.any fun e => decide (e.r = r) && (decide (e.a = i) && p e.b)
theorem behE_iff {ed : List Edge} {r : Str} {p : Nat → Bool} {i : Nat} : behE ed r p i = true ↔ ∃ b, hasE ed r i b = true ∧ p b = true := by
  unfold behE hasE
  simp only [List.any_eq_true, Bool.and_eq_true, decide_eq_true_eq]
  constructor
  · rintro ⟨⟨a, s, b⟩, h1, rfl, rfl, h2⟩
    exact ⟨b, h1, h2⟩
  · rintro ⟨b, h1, h2⟩
    exact ⟨⟨i, r, b⟩, h1, rfl, rfl, h2⟩
theorem nat_and_ne {a b : Nat} : a &&& b ≠ 0 ↔ ∃ i, a.testBit i = true ∧ b.testBit i = true := by
  constructor
  · intro h
    obtain ⟨i, hi⟩ := Nat.exists_testBit_of_ne_zero h
    rw [Nat.testBit_and, Bool.and_eq_true] at hi
    exact ⟨i, hi⟩
  · rintro ⟨i, h1, h2⟩ e
    have : (a &&& b).testBit i = true := by rw [Nat.testBit_and, h1, h2]; rfl
    rw [e, Nat.zero_testBit] at this
    cases this
/-- frozen from here on, or already: what holds of the heap then is said once -/
def tFrzP (te : TE) : TE := fun σ H Q => te σ H fun x H1 => ∃ (d : Addr) (Pf : Hp → Prop), x = .ref d ∧ (Pf H1 ∨ ∃ u, H1 d = some u ∧ L2.Mut (some u) ∧ ∀ od, Pf (upd H1 d (.frz od u))) ∧ ∀ H2, Pf H2 → Q (.ref d) H2
theorem pe_frzP {X : Cx} {e : Expr} {te : TE} (he : PE X e te) : PE X e (tFrzP te) := by
  refine ⟨fun pins s σ H Q I h => ?_⟩
  refine thn (he.run pins s σ H _ I h) fun v s1 ⟨x, H1, I1, r1, d, Pf, ex, q, k⟩ => ?_
  subst ex
  rcases q with q | ⟨u, hd, mu, q⟩
  · exact ⟨.ref d, _, I1, r1, k _ q⟩
  · obtain ⟨od, I2⟩ := I1.lock hd mu
    exact ⟨.ref d, _, I2, r1, k _ (q od)⟩
theorem nodup_leB {α : Type} [DecidableEq α] : ∀ {l m : List α}, l.Nodup → (∀ x ∈ l, x ∈ m) → l.length ≤ m.length
  | [], _, _, _ => Nat.zero_le _
  | x :: l, m, nd, h => by
    rw [List.nodup_cons] at nd
    have hx : x ∈ m := h x List.mem_cons_self
    have := nodup_leB (l := l) (m := m.erase x) nd.2 fun y hy => (List.mem_erase_of_ne (fun e => nd.1 (by rw [← e]; exact hy))).mpr (h y (List.mem_cons_of_mem _ hy))
    rw [List.length_erase_of_mem hx] at this
    have : 0 < m.length := List.length_pos_of_mem hx
    simp only [List.length_cons]
    omega
/-- the keys are things below n -/
def KLt (n : Nat) (kvs : List (Key × V)) : Prop := ∀ k v, valV kvs k = some v → ∃ i : Nat, i < n ∧ k = Sum.inl (i : Int)
theorem KLt.nil {n : Nat} : KLt n [] := fun k v h => by simp [valV] at h
theorem KLt.put {n i : Nat} {kvs : List (Key × V)} {v : V} (h : KLt n kvs) (hi : i < n) : KLt n (putK kvs (Sum.inl (i : Int) : Key) v) := fun k u e => by
  rw [valV_put] at e
  by_cases c : k = Sum.inl (i : Int)
  · exact ⟨i, hi, c⟩
  · rw [if_neg c] at e; exact h k u e
theorem KLt.len {n : Nat} {kvs : List (Key × V)} (h : KLt n kvs) (nd : (kvs.map (·.1)).Nodup) : kvs.length ≤ n := by
  have := nodup_leB nd (m := (List.range n).map fun i : Nat => (Sum.inl (i : Int) : Key)) fun k hk => by
    obtain ⟨⟨k', v⟩, hkv, rfl⟩ := List.mem_map.mp hk
    obtain ⟨i, il, e⟩ := h _ _ (mem_valV nd hkv)
    exact List.mem_map.mpr ⟨i, List.mem_range.mpr il, e.symm⟩
  rw [List.length_map, List.length_map, List.length_range] at this
  exact this
theorem But.nil {H H' : Hp} (h : But [] H H') : Same H H' := fun b o e => h b o (by simp) e
/-- all but a dict stays -/
def NK (H H' : Hp) : Prop := ∀ b o, H b = some o → (∀ ks, o ≠ .dK ks) → H' b = some o
theorem NK.of {H H' : Hp} {e : Addr} {ks : List (Key × V)} (b : But [e] H H') (he : H e = some (.dK ks)) : NK H H' := fun a o h n => b a o (fun z => by
  rw [List.mem_singleton.mp z, he] at h
  exact n _ (Option.some.inj h).symm) h
theorem Same.nk {H H' : Hp} (e : Same H H') : NK H H' := fun b o h _ => e b o h
theorem NK.refl (H : Hp) : NK H H := fun _ _ h _ => h
theorem NK.trans {H H1 H2 : Hp} (a : NK H H1) (b : NK H1 H2) : NK H H2 := fun x o h n => b x o (a x o h n) n
theorem NK.l {H H' : Hp} (h : NK H H') {a : Addr} {xs : List V} (e : H a = some (.lst xs)) : H' a = some (.lst xs) := h a _ e (fun _ z => nomatch z)
theorem NK.tp {H H' : Hp} (h : NK H H') {a : Addr} {xs : List V} (e : H a = some (.tup xs)) : H' a = some (.tup xs) := h a _ e (fun _ z => nomatch z)
theorem NK.i {H H' : Hp} (h : NK H H') {a C dx : Addr} {fs : List (Str × V)} (e : H a = some (.ins C dx fs)) : H' a = some (.ins C dx fs) := h a _ e (fun _ z => nomatch z)
theorem NK.f {H H' : Hp} (h : NK H H') {a : Addr} {o : Obj} {u : HO} (e : H a = some (.frz o u)) : H' a = some (.frz o u) := h a _ e (fun _ z => nomatch z)
theorem NK.t {H H' : Hp} (h : NK H H') : TSame H H' := fun _ _ e => h.tp e
theorem GAt.nk {C : Addr} {H H' : Hp} {g : Addr} {nm : List (List Str)} {ed : List Edge} (h : GAt C H g nm ed) (e : NK H H') : GAt C H' g nm ed := by
  obtain ⟨dx, dn, da, ds, kn, ka, on, oa, h1, h2, h3, h4, h5, h6⟩ := h.ex
  refine ⟨dx, dn, da, ds, kn, ka, on, oa, e.i h1, e.f h2, h3, e.f h4, fun k v q => ?_, h6⟩
  obtain ⟨r, a, inner, oi, q1, q2, q3, q4⟩ := h5 k v q
  exact ⟨r, a, inner, oi, q1, q2, e.f q3, q4⟩
/-- where the graph keeps what was asked of it -/
def Gs (C : Addr) (H : Hp) (g ds : Addr) : Prop := ∃ dx n dn da, H g = some (.ins C dx (gflds n dn da ds))
theorem Gs.nk {C : Addr} {H H' : Hp} {g ds : Addr} (h : Gs C H g ds) (e : NK H H') : Gs C H' g ds := by
  obtain ⟨dx, n, dn, da, h⟩ := h
  exact ⟨dx, n, dn, da, e.i h⟩
/-- what was asked of it: for a role the sources of each end -/
structure Cch (H : Hp) (ds : Addr) (ed : List Edge) (rr : List Str) : Prop where
  ex : ∃ ks, H ds = some (.dK ks) ∧ (∀ k v, valV ks k = some v → ∃ r a inner oi, k = Sum.inr r ∧ r ∈ rr ∧ v = .ref a ∧ H a = some (.frz oi (.dK inner)) ∧ Inn inner (fun y b => hasE ed r b y)) ∧ (ks.map (·.1)).Nodup
theorem Cch.same {H H' : Hp} {ds : Addr} {ed : List Edge} {rr : List Str} (h : Cch H ds ed rr) (e : Same H H') : Cch H' ds ed rr := by
  obtain ⟨ks, h1, h2, h3⟩ := h.ex
  refine ⟨ks, e _ _ h1, fun k v q => ?_, h3⟩
  obtain ⟨r, a, inner, oi, q1, q2, q3, q4, q5⟩ := h2 k v q
  exact ⟨r, a, inner, oi, q1, q2, q3, e _ _ q4, q5⟩
/-- another dict may change, or a list -/
theorem Cch.but {H H' : Hp} {ds e : Addr} {ed : List Edge} {rr : List Str} (h : Cch H ds ed rr) (b : But [e] H H') (ne : ds ≠ e) (he : ∀ o u, H e ≠ some (.frz o u)) : Cch H' ds ed rr := by
  obtain ⟨ks, h1, h2, h3⟩ := h.ex
  refine ⟨ks, b _ _ (by simpa using ne) h1, fun k v q => ?_, h3⟩
  obtain ⟨r, a, inner, oi, q1, q2, q3, q4, q5⟩ := h2 k v q
  exact ⟨r, a, inner, oi, q1, q2, q3, b _ _ (by simp only [List.mem_singleton]; rintro rfl; exact he _ _ q4) q4, q5⟩
theorem Cch.nil {H : Hp} {ds : Addr} {ed : List Edge} {rr : List Str} (h : H ds = some (.dK [])) : Cch H ds ed rr := ⟨[], h, fun k v q => by simp [valV] at q, List.nodup_nil⟩
theorem Cch.len {ks : List (Key × V)} {rr : List Str} (nd : (ks.map (·.1)).Nodup) (h : ∀ k v, valV ks k = some v → ∃ r, k = Sum.inr r ∧ r ∈ rr) : ks.length ≤ rr.length := by
  have := nodup_leB nd (m := rr.map fun r => (Sum.inr r : Key)) fun k hk => by
    obtain ⟨⟨k', v⟩, hkv, rfl⟩ := List.mem_map.mp hk
    obtain ⟨r, e, hr⟩ := h _ _ (mem_valV nd hkv)
    exact List.mem_map.mpr ⟨r, hr, e.symm⟩
  rw [List.length_map, List.length_map] at this
  exact this
/-- the sources by some entries -/
def srcF (l : List (Key × V)) : Nat → Nat → Bool := fun y b => l.any fun kv => match kv.1, kv.2 with
  | .inl k, .int v => decide (k = (b : Int)) && v.toNat.testBit y
  | _, _ => false
theorem srcF_snoc (l : List (Key × V)) (x0 mv y b : Nat) : srcF (l ++ [(Sum.inl ((x0 : Nat) : Int), V.int (mv : Nat))]) y b = (srcF l y b || (decide (b = x0) && mv.testBit y)) := by
  unfold srcF
  rw [List.any_append]
  congr 1
  show ((decide (((x0 : Nat) : Int) = (b : Int)) && ((mv : Nat) : Int).toNat.testBit y) || false) = _
  rw [Bool.or_false, Int.toNat_natCast]
  congr 1
  by_cases e : b = x0
  · subst e; simp
  · have : ¬ ((x0 : Nat) : Int) = (b : Int) := by omega
    simp [e, this]
theorem srcF_all {inner : List (Key × V)} {f : Nat → Nat → Bool} (hin : Inn inner f) (y b : Nat) : srcF inner y b = f b y := by
  rw [Bool.eq_iff_iff]
  unfold srcF
  rw [List.any_eq_true]
  constructor
  · rintro ⟨kv, hm, hd⟩
    obtain ⟨x0, mv, hk0, hv0, hb0⟩ := hin.at_ kv.1 kv.2 (mem_valV hin.nd (by rw [show (kv.1, kv.2) = kv from rfl]; exact hm))
    rw [hk0, hv0] at hd
    have hd' : (decide (((x0 : Nat) : Int) = (b : Int)) && ((mv : Nat) : Int).toNat.testBit y) = true := hd
    rw [Bool.and_eq_true, Int.toNat_natCast] at hd'
    have e1 : x0 = b := by have := of_decide_eq_true hd'.1; omega
    subst e1
    rw [← hb0]; exact hd'.2
  · intro h
    cases ev : valV inner (Sum.inl ((b : Nat) : Int) : Key) with
    | none => rw [hin.no b ev] at h; cases h
    | some v =>
      obtain ⟨x0, mw, hk0, hv0, hb0⟩ := hin.at_ _ _ ev
      have q1 := Sum.inl.inj hk0
      have e1 : x0 = b := by omega
      subst e1
      refine ⟨_, valV_mem ev, ?_⟩
      subst hv0
      show (decide (((x0 : Nat) : Int) = (x0 : Int)) && ((mw : Nat) : Int).toNat.testBit y) = true
      rw [decide_eq_true rfl, Int.toNat_natCast, hb0, h]; rfl
theorem lt_1000 {m : Nat} (h : ∀ b, m.testBit b = true → b < 1000) : m < 2 ^ 1000 := Nat.lt_pow_two_of_testBit m fun i hi => by
  cases e : m.testBit i with
  | false => rfl
  | true => have := h i e; omega
section
variable {P : Program} {w : World} {K : PySem.W.Frag} {mg : Str → Option Value} {base : Heap}
def spSrc (C : Addr) : Sp := fun vs H Q _ => ∃ (g ds : Addr) (nm : List (List Str)) (ed : List Edge) (rr : List Str) (r : Str), vs = [.ref g, .str r] ∧ GAt C H g nm ed ∧ Gs C H g ds ∧ Cch H ds ed rr ∧ r ∈ rr ∧ rr.length ≤ 100 ∧ (∀ e ∈ ed, e.a < 1000 ∧ e.b < 1000) ∧
  ∀ (H' : Hp) (a : Addr) (oi : Obj) (inner : List (Key × V)), But [ds] H H' → Cch H' ds ed rr → H' a = some (.frz oi (.dK inner)) → Inn inner (fun y b => hasE ed r b y) → Q (.ref a) H'
theorem ok_src (D : Defs K mg) : FnOk P w K mg base CX0 2 D.d_g_sources.f D.d_g_sources.fd ["self", "role"] (spSrc D.gC) := by
  have GB := ok_bits (P := P) (w := w) (base := base) D
  refine D.d_g_sources.F.ok sc_g_sources (fun vs H Q E h => ?_) (fun cdv A outer s H vs Q E hr h => ?_)
  · obtain ⟨g, ds, nm, ed, rr, r, rfl, _⟩ := h
    rfl
  obtain ⟨g, ds, nm, ed, rr, r, rfl, hG, hs, hC, hrr, l100, hb, q⟩ := h
  have hu := hu_of hr
  refine ⟨_, (pss_cons (ps_if (pt_cmp (pc_dnotin hu (pv 1) (pe_fld (pv 0) rfl)) rfl) (pss_cons (ps_set (i := 2) sc_g_sources.nd rfl (Or.inl rfl) pe_dnewK)
      (pss_cons (ps_for PassesOwn.never rfl (pi_items (pe_frzP (pe_dget2 hu (pe_fld (pv 0) rfl) (pv 1) pe_dnewK ⟨rfl, rfl, rfl, rfl⟩))) (pg_tup rfl (pgs_cons (pg_name (i := 3) sc_g_sources.nd rfl (Or.inl rfl)) (pgs_cons (pg_name (i := 4) sc_g_sources.nd rfl (Or.inl rfl)) pgs_nil)))
          (pss_one (ps_for PassesOwn.never rfl (pi_list (pe_call GB hr rfl D.d_bits.m D.d_bits.F.kp D.d_bits.b .nil pass0 (pa_cons (pv 4) pa_nil))) (pg_name (i := 5) sc_g_sources.nd rfl (Or.inl rfl)) (pss_one (ps_dput hu (pv 2) (pv 5) (pe_op op_or (pe_dget2 hu (pv 2) (pv 5) pe_int ⟨rfl, rfl, rfl, rfl⟩) (pe_op op_shl pe_int (pv 3))) rfl)))))
      (pss_one (ps_dput hu (pe_fld (pv 0) rfl) (pv 1) (pv 2) rfl)))) pss_nil)
      (pss_one (ps_ret (pe_frzP (pe_dget hu (pe_fld (pv 0) rfl) (pv 1) (fun _ _ => rfl)))))), ?_⟩
  obtain ⟨dx, dn, da, ds', kn, ka, on, oa, h1, h2, h3, h4, h5, h6, h7, h8⟩ := hG.ex
  obtain ⟨dx', n', dn', da', hs⟩ := hs
  obtain rfl : ds' = ds := by
    rw [h1] at hs
    have e := (HO.ins.inj (Option.some.inj hs)).2.2
    have e2 := congrArg (fun fs => List.lookup ("_sources" : Str) fs) e
    simp only [gf_s] at e2
    exact V.ref.inj (Option.some.inj e2)
  obtain ⟨ks, c1, c2, c3⟩ := hC.ex
  have lks : ks.length ≤ 100 := Nat.le_trans (Cch.len c3 fun k v e => by obtain ⟨r', _, _, _, e1, e2, _⟩ := c2 k v e; exact ⟨r', e1, e2⟩) l100
  refine ⟨_, rfl, _, rfl, g, D.gC, dx, _, _, rfl, h1, D.gC_cl, D.gC_n_sources, gf_s, ds', _, rfl, DGet.k (k := Sum.inr r) c1, _, rfl, ?_⟩
  cases hv : valV ks (Sum.inr r : Key) with
  | some v =>
    refine iteF ?_
    obtain ⟨r', a, inner, oi, e1, _, rfl, c4, c5⟩ := c2 _ _ hv
    obtain rfl : r = r' := Sum.inr.inj e1
    have dg : DGet H ds' (kV (Sum.inr r)) (some (.ref a)) := by rw [← hv]; exact DGet.k c1
    exact ⟨_, rfl, g, D.gC, dx, _, _, rfl, h1, D.gC_cl, D.gC_n_sources, gf_s, _, rfl, ds', _, rfl, dg, a, fun H2 => H2 = H, rfl, .inl rfl, fun H2 e => by subst e; exact q _ a oi inner (But.refl _) hC c4 c5⟩
  | none =>
    refine iteT ?_
    intro pr hpr
    have sA := same_new hpr (.dK [])
    have dspr : ds' ≠ pr := ne_of_none c1 hpr
    refine ⟨_, rfl, g, D.gC, dx, _, _, rfl, sA _ _ h1, D.gC_cl, D.gC_nahead, gf_a, da, rfl, .inl ⟨ka, .inr ⟨oa, sA _ _ h4⟩⟩, _, rfl, fun nd hnd => ⟨_, .inl ⟨ka, Sum.inr r, .inr ⟨oa, same_new hnd _ _ _ (sA _ _ h4)⟩, rfl, rfl⟩, ?_⟩⟩
    have sB := sA.trans (same_new hnd (.dK []))
    have prnd : pr ≠ nd := ne_of_none upd_same hnd
    obtain ⟨a, hval, inner, hin, hfz⟩ : ∃ (a : Addr), (valV ka (Sum.inr r : Key)).getD (.ref nd) = .ref a ∧ ∃ inner, Inn inner (hasE ed r) ∧ ((∃ oi, (upd (upd H pr (.dK [])) nd (.dK [])) a = some (.frz oi (.dK inner))) ∨ (a = nd ∧ inner = [])) := by
      cases hv' : valV ka (Sum.inr r : Key) with
      | some v =>
        obtain ⟨r', a, inner, oi, e1, rfl, h9, hin, hil⟩ := h5 _ _ hv'
        obtain rfl : r = r' := Sum.inr.inj e1
        exact ⟨a, rfl, inner, hin, .inl ⟨oi, sB _ _ h9⟩⟩
      | none => exact ⟨nd, rfl, [], ⟨fun k v h => by simp [valV] at h, fun i _ b => h6 r hv' i b, List.nodup_nil⟩, .inr ⟨rfl, rfl⟩⟩
    refine ⟨a, fun H3 => Same (upd H pr (.dK [])) H3 ∧ ∃ oi, H3 a = some (.frz oi (.dK inner)), hval, ?_, ?_⟩
    · rcases hfz with ⟨oi, hf⟩ | ⟨e1, e2⟩
      · exact .inl ⟨same_new hnd _, oi, hf⟩
      · subst e1 e2
        exact .inr ⟨_, upd_same, trivial, fun od => ⟨by rw [upd_upd]; exact same_new hnd _, od, upd_same⟩⟩
    rintro H3 ⟨s3, oi, hf3⟩
    have hpr3 : H3 pr = some (.dK []) := s3 _ _ upd_same
    have apr : a ≠ pr := fun z => by rw [z, hpr3] at hf3; cases hf3
    refine ⟨a, oi, inner, rfl, hf3, for_it walk_items (fun j σ H4 => ∃ o3 o4 o5 kr, σ = [some (.ref g), some (.str r), some (.ref pr), o3, o4, o5] ∧ But [pr] H3 H4 ∧ H4 pr = some (.dK kr) ∧ Inn kr (srcF (inner.take j)) ∧ KLt 1000 kr)
      ⟨none, none, none, [], rfl, But.refl _, hpr3, Inn.nil, KLt.nil⟩ (fun j σ H4 _ h => ?_) ?_ ?_⟩
    · obtain ⟨_, _, _, _, _, b4, _⟩ := h
      exact b4 _ _ (by simpa using apr) hf3
    · rintro j y σ H4 H5 hj ⟨o3, o4, o5, kr, rfl, b4, hk4, in4, kl4⟩ ⟨T, kx, vx, rfl, hT, rfl, e1, e2⟩
      obtain ⟨kv, hkv⟩ : ∃ kv, inner[j]? = some kv := ⟨_, List.getElem?_eq_getElem hj⟩
      have e1' : inner[j]?.map (fun kv => kV kv.1) = some kx := e1
      have e2' : inner[j]?.map Prod.snd = some vx := e2
      rw [hkv] at e1' e2'
      cases e1'
      cases e2'
      obtain ⟨x0, mv, hk0, hv0, hb0⟩ := hin.at_ kv.1 kv.2 (mem_valV hin.nd (by rw [show (kv.1, kv.2) = kv from rfl]; exact List.mem_of_getElem? hkv))
      have ekv : kv = (Sum.inl ((x0 : Nat) : Int), V.int (mv : Nat)) := Prod.ext hk0 hv0
      have hm : mv < 2 ^ 1000 := lt_1000 fun b hb' => by rw [hb0] at hb'; exact (hb _ (of_decide_eq_true hb')).2
      have gT := same_new hT (.tup [kV kv.1, kv.2])
      refine ⟨T, _, rfl, SqT.of upd_same, rfl, _, _, rfl, _, _, rfl, rfl, _, rfl, mv, 1000, congrArg (fun z => [z]) hv0, hm, Nat.le_refl _, fun H6 pb g6 hpb h6' => ⟨pb, rfl, ⟨_, SqL.of h6'⟩, ?_⟩⟩
      have s46 : Same H4 H6 := gT.trans g6
      have hk6 := s46 _ _ hk4
      refine for_list (K := K) (a := pb) (xs := (K2.ones mv 1000).map fun i => V.int (i : Nat)) (fun i σ H7 => ∃ o5 kr', σ = [some (.ref g), some (.str r), some (.ref pr), some (kV kv.1), some kv.2, o5] ∧ But [pr] H6 H7 ∧ H7 pr = some (.dK kr') ∧ Inn kr' (fun y b => srcF (inner.take j) y b || (decide (b = x0) && decide (y ∈ (K2.ones mv 1000).take i))) ∧ KLt 1000 kr')
        ⟨o5, kr, rfl, But.refl _, hk6, ?_, kl4⟩ (fun i σ H7 _ h => ?_) ?_ ?_
      · have : (fun y b => srcF (inner.take j) y b || (decide (b = x0) && decide (y ∈ (K2.ones mv 1000).take 0))) = srcF (inner.take j) := by funext y b; simp
        rw [this]; exact in4
      · obtain ⟨_, _, _, b7, _⟩ := h
        have pbpr : pb ≠ pr := fun z => by rw [z, hk6] at h6'; cases h6'
        exact SqL.of (b7 _ _ (by simpa using pbpr) h6')
      · rintro i x σ H7 hx ⟨o5', kr', rfl, b7, hk7, in7, kl7⟩
        rw [List.getElem?_map] at hx
        obtain ⟨y, hy, rfl⟩ := Option.map_eq_some_iff.mp hx
        obtain ⟨y1, y2⟩ := K2.mem_ones.mp (List.mem_of_getElem? hy)
        have x0l : x0 < 1000 := by rw [hb0] at y2; exact (hb _ (of_decide_eq_true y2)).1
        obtain ⟨m, g1, g2⟩ := (in7.bits y).or x0
        have lk := kl7.len in7.nd
        refine ⟨_, rfl, pr, rfl, .inl ⟨kr', .inl hk7⟩, _, rfl, _, DGet.k (k := Sum.inl ((y : Nat) : Int)) hk7, _, rfl, _, ((x0 : Nat) : Int), rfl, (show kV kv.1 = _ by rw [hk0]; rfl), ⟨by omega, ?_, by decide⟩, (m : Int), _, g1, rfl, _, rfl, _, rfl, pr, _, rfl, DPut.k (k := Sum.inl ((y : Nat) : Int)) hk7 (small1000 (by omega)), ?_⟩
        · show ((x0 : Nat) : Int) ≤ 1000000
          omega
        refine ⟨_, _, rfl, b7.trans (But.put (by simp)), upd_same, in7.put g2 fun y' b => ?_, kl7.put y1⟩
        rw [take_more hy, Bool.eq_iff_iff]
        simp only [Bool.or_eq_true, Bool.and_eq_true, decide_eq_true_eq, List.mem_append, List.mem_singleton]
        constructor
        · rintro (z | ⟨z1, z2 | z2⟩)
          · exact .inl (.inl z)
          · exact .inl (.inr ⟨z1, z2⟩)
          · exact .inr ⟨z2, z1⟩
        · rintro ((z | ⟨z1, z2⟩) | ⟨z1, z2⟩)
          · exact .inl z
          · exact .inr ⟨z1, .inl z2⟩
          · exact .inr ⟨z2, .inr z1⟩
      · rintro σ H7 ⟨o5', kr', rfl, b7, hk7, in7, kl7⟩
        refine ⟨_, _, _, kr', rfl, (b4.trans (But.of s46)).trans b7, hk7, ?_, kl7⟩
        rw [List.length_map, List.take_length] at in7
        have : (fun y b => srcF (inner.take j) y b || (decide (b = x0) && decide (y ∈ K2.ones mv 1000))) = srcF (inner.take (j + 1)) := by
          funext y b
          rw [List.take_add_one, hkv, ekv]
          show _ = srcF (inner.take j ++ [(Sum.inl ((x0 : Nat) : Int), V.int (mv : Nat))]) y b
          rw [srcF_snoc]
          congr 2
          rw [Bool.eq_iff_iff, decide_eq_true_eq, K2.mem_ones]
          exact ⟨fun z => z.2, fun z => ⟨by rw [hb0] at z; exact (hb _ (of_decide_eq_true z)).2, z⟩⟩
        rw [← this]; exact in7
    · rintro σ H4 ⟨o3, o4, o5, kr, rfl, b4, hk4, in4, kl4⟩
      rw [List.take_length, show srcF inner = fun y b => hasE ed r b y by funext y b; exact srcF_all hin y b] at in4
      have s04 : Same H H4 := (((But.of (sA.trans s3)).trans b4).drop hpr).nil
      have hc4 := s04 _ _ c1
      have gds : g ≠ ds' := fun z => by rw [z, c1] at h1; cases h1
      refine ⟨_, rfl, _, rfl, g, D.gC, dx, _, _, rfl, s04 _ _ h1, D.gC_cl, D.gC_n_sources, gf_s, _, rfl, ds', _, rfl, DPut.k (k := Sum.inr r) hc4 (small1000 (by omega)), ?_⟩
      have dg : DGet (upd H4 ds' (.dK (putK ks (Sum.inr r : Key) (.ref pr)))) ds' (kV (Sum.inr r)) (some (.ref pr)) := by
        have := DGet.k (k := (Sum.inr r : Key)) (H := upd H4 ds' (.dK (putK ks (Sum.inr r : Key) (.ref pr)))) (a := ds') upd_same
        rw [valV_put, if_pos rfl] at this
        exact this
      have hf3 : (upd H4 ds' (.dK (putK ks (Sum.inr r : Key) (.ref pr)))) pr = some (.dK kr) := by rw [upd_ne dspr.symm]; exact hk4
      refine ⟨_, rfl, g, D.gC, dx, _, _, rfl, by rw [upd_ne gds]; exact s04 _ _ h1, D.gC_cl, D.gC_n_sources, gf_s, _, rfl, ds', _, rfl, dg, pr, fun H5 => ∃ od, H5 = upd (upd H4 ds' (.dK (putK ks (Sum.inr r : Key) (.ref pr)))) pr (.frz od (.dK kr)), rfl, .inr ⟨_, hf3, trivial, fun od => ⟨od, rfl⟩⟩, ?_⟩
      rintro H5 ⟨od, rfl⟩
      have bt : But [ds'] H (upd (upd H4 ds' (.dK (putK ks (Sum.inr r : Key) (.ref pr)))) pr (.frz od (.dK kr))) := fun b o hb h => by
        rw [upd_ne (ne_of_none h hpr), upd_ne (by simpa using hb)]
        exact s04 _ _ h
      refine q _ pr od kr bt ⟨_, by rw [upd_ne dspr]; exact upd_same, fun k v e => ?_, nd_put _ _ c3⟩ upd_same in4
      rw [valV_put] at e
      by_cases ck : k = Sum.inr r
      · rw [if_pos ck] at e
        exact ⟨r, pr, kr, od, ck, hrr, (Option.some.inj e).symm, upd_same, in4⟩
      · rw [if_neg ck] at e
        obtain ⟨r', a', inner', oi', e1, e2, e3, e4, e5⟩ := c2 _ _ e
        exact ⟨r', a', inner', oi', e1, e2, e3, bt _ _ (by simp only [List.mem_singleton]; rintro rfl; rw [c1] at e4; cases e4) e4, e5⟩
/-! ### behind -/
def spBehind (C : Addr) : Sp := fun vs H Q _ => ∃ (g ds : Addr) (nm : List (List Str)) (ed : List Edge) (rr : List Str) (r : Str) (m : Nat), vs = [.ref g, .str r, .int (m : Nat)] ∧ GAt C H g nm ed ∧ Gs C H g ds ∧ Cch H ds ed rr ∧ r ∈ rr ∧ rr.length ≤ 100 ∧ (∀ e ∈ ed, e.a < 1000 ∧ e.b < 1000) ∧ m < 2 ^ 1000 ∧
  ∀ (H' : Hp) (m' : Nat), But [ds] H H' → Cch H' ds ed rr → (∀ i, m'.testBit i = behE ed r (fun b => m.testBit b) i) → Q (.int (m' : Nat)) H'
theorem ok_behind (D : Defs K mg) : FnOk P w K mg base CX0 3 D.d_g_behind.f D.d_g_behind.fd ["self", "role", "mask"] (spBehind D.gC) := by
  have GB := ok_bits (P := P) (w := w) (base := base) D
  have GS := ok_src (P := P) (w := w) (base := base) D
  refine D.d_g_behind.F.ok sc_g_behind (fun vs H Q E h => ?_) (fun cdv A outer s H vs Q E hr h => ?_)
  · obtain ⟨g, ds, nm, ed, rr, r, m, rfl, _⟩ := h
    rfl
  obtain ⟨g, ds, nm, ed, rr, r, m, rfl, hG, hs, hC, hrr, l100, hb, hm, q⟩ := h
  have hu := hu_of hr
  have hr1 : Room 1 _ := hr.mono (by omega)
  refine ⟨_, (pss_cons (ps_par (i := 3) (j := 4) rfl sc_g_behind.nd rfl rfl (by decide) rfl rfl (pa_cons pe_int (pa_cons (pe_meth (pv 0) D.gC_cl D.d_g_sources.me GS hr D.d_g_sources.b .nil pass0 (pa_cons (pv 1) pa_nil)) pa_nil)) (by rfl))
      (pss_cons (ps_for PassesOwn.never rfl (pi_list (pe_call GB hr1 rfl D.d_bits.m D.d_bits.F.kp D.d_bits.b .nil pass0 (pa_cons (pv 2) pa_nil))) (pg_name (i := 5) sc_g_behind.nd rfl (Or.inl rfl)) (pss_one (ps_set (i := 3) sc_g_behind.nd rfl (Or.inl rfl) (pe_op op_or (pv 3) (pe_dget2 hu (pv 4) (pv 5) pe_int ⟨rfl, rfl, rfl, rfl⟩)))))
      (pss_one (ps_ret (pv 3))))), ?_⟩
  obtain ⟨dx, dn, da, ds', kn, ka, on, oa, h1, h2, h3, h4, h5, h6, h7, h8⟩ := hG.ex
  refine ⟨_, rfl, g, dx, _, rfl, h1, gf_no (by decide +kernel) (by decide +kernel) (by decide +kernel) (by decide +kernel), _, rfl, g, ds, nm, ed, rr, r, rfl, hG, hs, hC, hrr, l100, hb, fun H1 a oi inner b1 C1 ha hin => ⟨_, _, rfl, ?_⟩⟩
  refine ⟨_, rfl, m, 1000, rfl, hm, Nat.le_refl _, fun H2 p g2 hp h2' => ⟨p, rfl, ⟨_, SqL.of h2'⟩, ?_⟩⟩
  have ha2 := g2 _ _ ha
  refine for_list (K := K) (a := p) (xs := (K2.ones m 1000).map fun i => V.int (i : Nat)) (fun i σ H3 => H3 = H2 ∧ ∃ (o5 : Option V) (f : Nat), σ = [some (.ref g), some (.str r), some (.int (m : Nat)), some (.int (f : Nat)), some (.ref a), o5] ∧ ∀ x, f.testBit x = ((K2.ones m 1000).take i).any fun y => hasE ed r x y)
    ⟨rfl, none, 0, rfl, fun x => by simp⟩ (fun i σ H3 _ h => by rw [h.1]; exact SqL.of h2') ?_ ?_
  · rintro i x σ H3 hx ⟨rfl, o5, f, rfl, hf⟩
    rw [List.getElem?_map] at hx
    obtain ⟨y, hy, rfl⟩ := Option.map_eq_some_iff.mp hx
    obtain ⟨k, g1, g2⟩ := hin.bits y
    refine ⟨_, rfl, _, rfl, a, rfl, .inl ⟨inner, .inr ⟨oi, ha2⟩⟩, _, rfl, _, .inl ⟨inner, Sum.inl ((y : Nat) : Int), .inr ⟨oi, ha2⟩, rfl, rfl⟩, _, _, rfl, g1, rfl, some (.int (y : Nat)), f ||| k, ?_, fun x => ?_⟩
    · show [some (V.ref g), some (V.str r), some (V.int (m : Nat)), some (V.int (Builtin.bitOr ((f : Nat) : Int) ((k : Nat) : Int))), some (V.ref a), some (V.int (y : Nat))] = _
      rw [bor_nat]
    · rw [Nat.testBit_or, hf, g2, take_more hy, List.any_append]
      simp
  · rintro σ H3 ⟨rfl, o5, f, rfl, hf⟩
    refine ⟨_, rfl, q _ f (b1.trans (But.of g2)) (C1.same g2) fun x => ?_⟩
    rw [hf, List.length_map, List.take_length, Bool.eq_iff_iff, List.any_eq_true, behE_iff]
    constructor
    · rintro ⟨y, h1, h2⟩
      exact ⟨y, h2, (K2.mem_ones.mp h1).2⟩
    · rintro ⟨y, h1, h2⟩
      exact ⟨y, K2.mem_ones.mpr ⟨(hb _ (of_decide_eq_true h1)).2, h2⟩, h1⟩
end
end K1
namespace K1
open PySem L2
/-- the things in a concept -/
def hol (nm : List (List Str)) (ed : List Edge) : Con → Nat → Bool
  | .atom s, i => if s = "all" then decide (i < nm.length) else inR nm s i
  | .ex r c, i => behE ed r (hol nm ed c) i
  | .and2 a b, i => decide (i < nm.length) && (hol nm ed a i && hol nm ed b i)
  | .and3 a b c, i => decide (i < nm.length) && (hol nm ed a i && (hol nm ed b i && hol nm ed c i))
theorem hol_and {nm : List (List Str)} {ed : List Edge} {c : Con} (na : ∀ s, c ≠ .atom s) (ne : isEx c = false) (i : Nat) : hol nm ed c i = (decide (i < nm.length) && (kids c).all fun k => hol nm ed k i) := by
  cases c with
  | atom s => exact (na s rfl).elim
  | ex r c => cases ne
  | and2 a b => simp [hol, kids]
  | and3 a b c => simp [hol, kids]
theorem nkC {H H' : Hp} {ds : Addr} {ed : List Edge} {rr : List Str} (h : Cch H ds ed rr) (b : But [ds] H H') : NK H H' := by
  obtain ⟨ks, h1, _⟩ := h.ex
  exact NK.of b h1
section
variable {P : Program} {w : World} {K : PySem.W.Frag} {mg : Str → Option Value} {base : Heap}
def spHold (C : Addr) : Nat → Sp
  | 0 => fun _ _ _ _ => False
  | n + 1 => fun vs H Q _ => ∃ (g ds : Addr) (nm : List (List Str)) (ed : List Edge) (v : V) (c : Con) (N R : List Str), vs = [.ref g, v] ∧ GAt C H g nm ed ∧ Gs C H g ds ∧ Cch H ds ed R ∧ R.length ≤ 100 ∧ nm.length ≤ 1000 ∧ (∀ e ∈ ed, e.a < 1000 ∧ e.b < 1000) ∧ ConAt H c v ∧ In N R c ∧ nest c ≤ n ∧
    ∀ (H' : Hp) (m : Nat), But [ds] H H' → Cch H' ds ed R → (∀ i, m.testBit i = hol nm ed c i) → Q (.int (m : Nat)) H'
theorem in_kids {N R : List Str} {c : Con} (h : In N R c) : ∀ k ∈ kids c, In N R k := by
  cases c with
  | atom s => intro k hk; cases hk
  | ex r c =>
    intro k hk
    have e : k = c := by simpa [kids] using hk
    rw [e]; exact h.2
  | and2 a b =>
    intro k hk
    simp only [kids, List.mem_cons, List.not_mem_nil, or_false] at hk
    rcases hk with rfl | rfl
    · exact h.1
    · exact h.2
  | and3 a b c =>
    intro k hk
    simp only [kids, List.mem_cons, List.not_mem_nil, or_false] at hk
    rcases hk with rfl | rfl | rfl
    · exact h.1
    · exact h.2.1
    · exact h.2.2
theorem hol_1000 {nm : List (List Str)} {ed : List Edge} (hn : nm.length ≤ 1000) (hb : ∀ e ∈ ed, e.a < 1000 ∧ e.b < 1000) {c : Con} {i : Nat} (h : hol nm ed c i = true) : i < 1000 := by
  cases c with
  | atom s =>
    by_cases e : s = "all"
    · subst e
      have : i < nm.length := by simpa [hol] using h
      omega
    · have h2 : inR nm s i = true := by simpa [hol, e] using h
      unfold inR at h2
      cases e3 : nm[i]? with
      | none => rw [e3] at h2; cases h2
      | some l => have := (List.getElem?_eq_some_iff.mp e3).1; omega
  | ex r c =>
    obtain ⟨b, h1, _⟩ := behE_iff.mp (show behE ed r _ i = true from h)
    exact (hb _ (of_decide_eq_true h1)).1
  | and2 a b =>
    rw [hol_and (fun s z => by cases z) rfl, Bool.and_eq_true] at h
    have := of_decide_eq_true h.1; omega
  | and3 a b c =>
    rw [hol_and (fun s z => by cases z) rfl, Bool.and_eq_true] at h
    have := of_decide_eq_true h.1; omega
theorem ok_hold (D : Defs K mg) : ∀ n, FnOk P w K mg base CX0 (n + 4) D.d_g_holding.f D.d_g_holding.fd ["self", "concept"] (spHold D.gC n)
  | 0 => none_left fun _ _ _ _ h => h
  | n + 1 => by
    have G := ok_hold D n
    have GB := ok_behind (P := P) (w := w) (base := base) D
    have GI := ok_inner (P := P) (w := w) (base := base) D
    refine D.d_g_holding.F.ok sc_g_holding (fun vs H Q E h => ?_) (fun cdv A outer s H vs Q E hr h => ?_)
    · obtain ⟨g, ds, nm, ed, v, c, N, R, rfl, _⟩ := h
      rfl
    obtain ⟨g, ds, nm, ed, v, c, N, R, rfl, hG, hs, hC, lR, lnm, hb, hc, hin, hn, q⟩ := h
    have hr1 : Room 1 _ := hr.mono (by omega)
    have hr3 : Room 3 _ := hr.mono (by omega)
    have hu := hu_of hr
    refine ⟨_, (pss_cons (ps_if (pt_val (pe_callB call_isi (by rfl) D.z_isinstance (by decide +kernel) (pa_cons (pv 1) (pa_cons (pe_bltn (v := .ty "str") (by rfl) D.z_str (by decide +kernel) rfl) pa_nil)))) (pss_cons (ps_if (pt_cmpR op_eq (pv 1) pe_str (nomark _)) (pss_one (ps_ret (pe_fld (pv 0) rfl))) pss_nil)
      (pss_one (ps_ret (pe_dget2 hu (pe_fld (pv 0) rfl) (pv 1) pe_int ⟨rfl, rfl, rfl, rfl⟩)))) pss_nil)
      (pss_cons (ps_if (pt_cmpR op_eq (pe_ix ix_tup (pv 1) pe_int (fun _ _ => rfl)) pe_str (nomark _)) (pss_one (ps_ret (pe_meth (pv 0) D.gC_cl D.d_g_behind.me GB hr3 D.d_g_behind.b .nil pass0 (pa_cons (pe_ix ix_tup (pv 1) pe_int (fun _ _ => rfl)) (pa_cons (pe_meth (pv 0) D.gC_cl D.d_g_holding.me G hr D.d_g_holding.b .nil pass0 (pa_cons (pe_ix ix_tup (pv 1) pe_int (fun _ _ => rfl)) pa_nil)) pa_nil))))) pss_nil)
      (pss_cons (ps_set (i := 2) sc_g_holding.nd rfl (Or.inl rfl) (pe_fld (pv 0) rfl))
      (pss_cons (ps_for PassesOwn.never rfl (pi_tup (pe_call GI hr1 rfl D.d_inner.m D.d_inner.F.kp D.d_inner.b .nil pass0 (pa_cons (pv 1) pa_nil))) (pg_name (i := 3) sc_g_holding.nd rfl (Or.inl rfl)) (pss_one (ps_set (i := 2) sc_g_holding.nd rfl (Or.inl rfl) (pe_op op_and (pv 2) (pe_meth (pv 0) D.gC_cl D.d_g_holding.me G hr D.d_g_holding.b .nil pass0 (pa_cons (pv 3) pa_nil))))))
      (pss_one (ps_ret (pv 2))))))), ?_⟩
    obtain ⟨dx, dn, da, ds', kn, ka, on, oa, h1, h2, h3, h4, h5, h6, h7, h8⟩ := hG.ex
    have ev : (1 * 2 ^ ((nm.length : Nat) : Int).toNat - 1 : Int) = ((2 ^ nm.length - 1 : Nat) : Int) := by
      rw [Int.toNat_natCast, Int.one_mul]
      have := Nat.two_pow_pos nm.length
      push_cast [Nat.one_le_two_pow]
      rfl
    obtain ⟨t, ty, kt⟩ := pl_str (K := K) (con_pl hc)
    refine ⟨_, rfl, _, _, _, _, _, rfl, .ty _, ty, kt, _, rfl, ?_⟩
    rcases atom_or c with ⟨s, rfl⟩ | na
    · obtain ⟨rfl, _⟩ := hc
      refine iteT ⟨_, rfl, rfl, _, rfl, ?_⟩
      by_cases e : s = "all"
      · subst e
        refine iteT ⟨_, rfl, g, D.gC, dx, _, _, rfl, h1, D.gC_cl, D.gC_neverything, gf_e, ?_⟩
        rw [ev]
        exact q H _ (But.refl _) hC fun i => by simp [hol, Nat.testBit_two_pow_sub_one]
      · rw [decide_eq_false (show ¬ V.str s = V.str "all" from fun z => e (V.str.inj z))]
        obtain ⟨m, h9, h10⟩ := h3 s
        refine iteF ⟨_, rfl, g, D.gC, dx, _, _, rfl, h1, D.gC_cl, D.gC_nnamed, gf_n, dn, rfl, .inl ⟨kn, .inr ⟨on, h2⟩⟩, _, rfl, _, .inl ⟨kn, Sum.inr s, .inr ⟨on, h2⟩, rfl, rfl⟩, ?_⟩
        rw [h9]
        exact q H m (But.refl _) hC fun i => by rw [h10]; simp [hol, e]
    · rw [con_str hc na]
      obtain ⟨a, x, xs, rfl, ha, hd⟩ := con_head hc na
      refine iteF ⟨_, rfl, a, _, _, _, rfl, rfl, SqT.of ha, atI_nat (j := 0) rfl, rfl, _, rfl, ?_⟩
      rw [hd]
      cases ex : isEx c with
      | true =>
        cases c with
        | atom s => exact (na s rfl).elim
        | and2 a b => cases ex
        | and3 a b c => cases ex
        | ex r c =>
          obtain ⟨a', u, e1, ha', hcu, _⟩ := hc
          cases e1
          have hkn : nest c + 1 ≤ nest (.ex r c) := kid_nest c (by simp [kids])
          cases n with
          | zero => omega
          | succ n =>
            refine iteT ⟨_, rfl, g, dx, _, rfl, h1, gf_no (by decide +kernel) (by decide +kernel) (by decide +kernel) (by decide +kernel), _, rfl, a, _, _, _, rfl, rfl, SqT.of ha', atI_nat (j := 1) rfl, _, rfl, g, dx, _, rfl, h1, gf_no (by decide +kernel) (by decide +kernel) (by decide +kernel) (by decide +kernel), _, rfl, a, _, _, _, rfl, rfl, SqT.of ha', atI_nat (j := 2) rfl,
              g, ds, nm, ed, u, c, N, R, rfl, hG, hs, hC, lR, lnm, hb, hcu, hin.2, by omega, fun H1 m b1 C1 hm => ⟨g, ds, nm, ed, R, r, m, rfl, hG.nk (nkC hC b1), hs.nk (nkC hC b1), C1, hin.1, lR, hb, lt_1000 fun b hb' => hol_1000 lnm hb (by rw [← hm]; exact hb'), fun H2 m2 b2 C2 hm2 => q H2 m2 (b1.trans b2) C2 fun i => ?_⟩⟩
            rw [hm2]
            show behE ed r _ i = behE ed r _ i
            rw [show (fun b => m.testBit b) = hol nm ed c from funext hm]
      | false =>
        refine iteF ⟨_, rfl, g, D.gC, dx, _, _, rfl, h1, D.gC_cl, D.gC_neverything, gf_e, ?_⟩
        refine ⟨_, rfl, .ref a, c, rfl, hc, fun p ws H1 g1 hp hk => ⟨p, rfl, ⟨_, SqT.of hp⟩, for_tup (xs := ws) (fun i σ H2 => But [ds] H1 H2 ∧ Cch H2 ds ed R ∧ ∃ (o : Option V) (m : Nat), σ = [some (.ref g), some (.ref a), some (.int (m : Nat)), o] ∧ ∀ b, m.testBit b = (decide (b < nm.length) && ((kids c).take i).all fun k => hol nm ed k b)) ⟨But.refl _, hC.same g1, none, 2 ^ nm.length - 1, by rw [← ev]; rfl, fun b => by simp [Nat.testBit_two_pow_sub_one]⟩ (fun i σ H2 _ hh => SqT.of ((nkC (hC.same g1) hh.1).tp hp)) ?_ ?_⟩⟩
        · rintro i x σ H2 hi ⟨b2, C2, o, m, rfl, hm⟩
          obtain ⟨k, hk1, hk2⟩ := paired_get hk hi
          have kn := kid_nest k (List.mem_of_getElem? hk1)
          have n2 := nkC (hC.same g1) b2
          cases n with
          | zero => omega
          | succ n =>
            refine ⟨_, rfl, _, rfl, g, dx, _, rfl, n2.i (g1 _ _ h1), gf_no (by decide +kernel) (by decide +kernel) (by decide +kernel) (by decide +kernel), _, rfl, g, ds, nm, ed, x, k, N, R, rfl, (hG.same g1).nk n2, (hs.nk (Same.nk g1)).nk n2, C2, lR, lnm, hb, hk2.t n2.t, in_kids hin k (List.mem_of_getElem? hk1), by omega, fun H3 m3 b3 C3 hm3 => ⟨_, _, rfl, rfl, b2.trans b3, C3, some x, m &&& m3, ?_, fun b => ?_⟩⟩
            · show [some (V.ref g), some (V.ref a), some (V.int (Builtin.bitAnd ((m : Nat) : Int) ((m3 : Nat) : Int))), some x] = _
              rw [PySem.W.os_band]
            · rw [Nat.testBit_and, hm, hm3, take_more hk1, List.all_append, Bool.and_assoc]
              simp
        · rintro σ H2 ⟨b2, C2, o, m, rfl, hm⟩
          refine ⟨_, rfl, q H2 m ((But.of g1).trans b2) C2 fun i => ?_⟩
          rw [hm, hol_and na ex, ← paired_len hk, List.take_length]
end
end K1
namespace K1
open PySem L2
/-- every thing but lists is kept -/
def NoL (H H' : Hp) : Prop := ∀ b o, H b = some o → (∀ xs, o ≠ .lst xs) → H' b = some o
theorem Same.noL {H H' : Hp} (e : Same H H') : NoL H H' := fun b o h _ => e b o h
theorem GAt.noL {C : Addr} {H H' : Hp} {g : Addr} {nm : List (List Str)} {ed : List Edge} (h : GAt C H g nm ed) (e : NoL H H') : GAt C H' g nm ed := by
  obtain ⟨dx, dn, da, ds, kn, ka, on, oa, h1, h2, h3, h4, h5, h6⟩ := h.ex
  refine ⟨dx, dn, da, ds, kn, ka, on, oa, e _ _ h1 (by intro _ z; cases z), e _ _ h2 (by intro _ z; cases z), h3, e _ _ h4 (by intro _ z; cases z), fun k v q => ?_, h6⟩
  obtain ⟨r, a, inner, oi, q1, q2, q3, q4⟩ := h5 k v q
  exact ⟨r, a, inner, oi, q1, q2, e _ _ q3 (by intro _ z; cases z), q4⟩
def keyE (e : Edge) : List Key := [Sum.inl ((e.a : Nat) : Int), Sum.inr e.r, Sum.inl ((e.b : Nat) : Int)]
theorem keyE_inj {e f : Edge} (h : keyE e = keyE f) : e = f := by
  cases e
  cases f
  simp only [keyE, List.cons.injEq, Sum.inl.injEq, Sum.inr.injEq, and_true] at h
  obtain ⟨h1, h2, h3⟩ := h
  simp only [Edge.mk.injEq]
  exact ⟨by omega, h2, by omega⟩
theorem valV_keysT (ks : List (List Key)) (k : List Key) : (valV (K2.keysT ks) k).isSome = true ↔ k ∈ ks := by
  refine K2.snoc_ind (P := fun ks => (valV (K2.keysT ks) k).isSome = true ↔ k ∈ ks) (by simp [K2.keysT, valV]) (fun l x ih => ?_) ks
  rw [K2.keysT_snoc, valV_put]
  by_cases e : k = x
  · subst e; simp
  · rw [if_neg e, ih, List.mem_append, List.mem_singleton]
    exact ⟨.inl, fun z => z.resolve_right e⟩
def wflds (ln le dk gr : Addr) : List (Str × V) := putF "_graph" (.ref gr) (putF "_known" (.ref dk) (putF "_edges" (.ref le) (putF "_names" (.ref ln) [])))
theorem wk1 : ¬ (("_names" : Str) = "_edges") := by decide +kernel
theorem wk2 : ¬ (("_names" : Str) = "_known") := by decide +kernel
theorem wk3 : ¬ (("_names" : Str) = "_graph") := by decide +kernel
theorem wk4 : ¬ (("_edges" : Str) = "_known") := by decide +kernel
theorem wk5 : ¬ (("_edges" : Str) = "_graph") := by decide +kernel
theorem wk6 : ¬ (("_known" : Str) = "_graph") := by decide +kernel
theorem wf_n {ln le dk gr : Addr} : (wflds ln le dk gr).lookup ("_names" : Str) = some (.ref ln) := by
  unfold wflds; rw [lookup_putF, if_neg wk3, lookup_putF, if_neg wk2, lookup_putF, if_neg wk1, lookup_putF, if_pos rfl]
theorem wf_e {ln le dk gr : Addr} : (wflds ln le dk gr).lookup ("_edges" : Str) = some (.ref le) := by
  unfold wflds; rw [lookup_putF, if_neg wk5, lookup_putF, if_neg wk4, lookup_putF, if_pos rfl]
theorem wf_k {ln le dk gr : Addr} : (wflds ln le dk gr).lookup ("_known" : Str) = some (.ref dk) := by
  unfold wflds; rw [lookup_putF, if_neg wk6, lookup_putF, if_pos rfl]
theorem wf_g {ln le dk gr : Addr} : (wflds ln le dk gr).lookup ("_graph" : Str) = some (.ref gr) := by
  unfold wflds; rw [lookup_putF, if_pos rfl]
theorem wf_no {ln le dk gr : Addr} {m : Str} (h1 : ¬ m = "_names") (h2 : ¬ m = "_edges") (h3 : ¬ m = "_known") (h4 : ¬ m = "_graph") : (wflds ln le dk gr).lookup m = none := by
  unfold wflds; rw [lookup_putF, if_neg h4, lookup_putF, if_neg h3, lookup_putF, if_neg h2, lookup_putF, if_neg h1]; rfl
/-- a world that stands: its two lists at ln and le -/
structure WAt (C G : Addr) (H : Hp) (x ln le : Addr) (nm : List (List Str)) (ed : List Edge) : Prop where
  ex : ∃ dx dk gr rows eds kt, H x = some (.ins C dx (wflds ln le dk gr)) ∧ H ln = some (.lst (rowsV rows)) ∧ RowsAt H rows ∧ rows.map (·.2) = nm ∧ H le = some (.lst (edsV eds)) ∧ EdsAt H eds ∧ eds.map (·.2) = ed ∧
    H dk = some (.dT kt) ∧ (∀ e, (valV kt (keyE e)).isSome = decide (e ∈ ed)) ∧ GAt G H gr nm ed
  nok : ∀ l ∈ nm, RowOk l
  eok : ∀ e ∈ ed, EdgeOk nm.length e
  asc : AscE ed
  ne : nm ≠ []
  nl : nm.length ≤ 1000
  el : ed.length ≤ 900
theorem WAt.noL {C G : Addr} {H H' : Hp} {x ln le : Addr} {nm : List (List Str)} {ed : List Edge} (h : WAt C G H x ln le nm ed) (e : NoL H H') (h1 : ∀ o, H ln = some o → H' ln = some o) (h2 : ∀ o, H le = some o → H' le = some o) : WAt C G H' x ln le nm ed := by
  obtain ⟨dx, dk, gr, rows, eds, kt, q1, q2, q3, q4, q5, q6, q7, q8, q9, q10⟩ := h.ex
  exact ⟨⟨dx, dk, gr, rows, eds, kt, e _ _ q1 (by intro _ z; cases z), h1 _ q2, fun r hr => e _ _ (q3 r hr) (by intro _ z; cases z), q4, h2 _ q5, fun r hr => e _ _ (q6 r hr) (by intro _ z; cases z), q7, e _ _ q8 (by intro _ z; cases z), q9, q10.noL e⟩, h.nok, h.eok, h.asc, h.ne, h.nl, h.el⟩
theorem WAt.same {C G : Addr} {H H' : Hp} {x ln le : Addr} {nm : List (List Str)} {ed : List Edge} (h : WAt C G H x ln le nm ed) (e : Same H H') : WAt C G H' x ln le nm ed := h.noL (Same.noL e) (e _) (e _)
theorem WAt.nk {C G : Addr} {H H' : Hp} {x ln le : Addr} {nm : List (List Str)} {ed : List Edge} (h : WAt C G H x ln le nm ed) (e : NK H H') : WAt C G H' x ln le nm ed := by
  obtain ⟨dx, dk, gr, rows, eds, kt, q1, q2, q3, q4, q5, q6, q7, q8, q9, q10⟩ := h.ex
  exact ⟨⟨dx, dk, gr, rows, eds, kt, e.i q1, e.l q2, fun r hr => e.tp (q3 r hr), q4, e.l q5, fun r hr => e.tp (q6 r hr), q7, e _ _ q8 (fun _ z => nomatch z), q9, q10.nk e⟩, h.nok, h.eok, h.asc, h.ne, h.nl, h.el⟩
/-- where a world keeps what was asked of its graph, and what that is -/
structure CAt (C G : Addr) (H : Hp) (x ds : Addr) (ed : List Edge) (rr : List Str) : Prop where
  ex : ∃ dxw ln le dk gr, H x = some (.ins C dxw (wflds ln le dk gr)) ∧ Gs G H gr ds
  c : Cch H ds ed rr
theorem CAt.same {C G : Addr} {H H' : Hp} {x ds : Addr} {ed : List Edge} {rr : List Str} (h : CAt C G H x ds ed rr) (e : Same H H') : CAt C G H' x ds ed rr := by
  obtain ⟨dxw, ln, le, dk, gr, h1, h2⟩ := h.ex
  exact ⟨⟨dxw, ln, le, dk, gr, e _ _ h1, h2.nk (Same.nk e)⟩, h.c.same e⟩
theorem CAt.nk {C G : Addr} {H H' : Hp} {x ds : Addr} {ed : List Edge} {rr : List Str} (h : CAt C G H x ds ed rr) (e : NK H H') (c : Cch H' ds ed rr) : CAt C G H' x ds ed rr := by
  obtain ⟨dxw, ln, le, dk, gr, h1, h2⟩ := h.ex
  exact ⟨⟨dxw, ln, le, dk, gr, e.i h1, h2.nk e⟩, c⟩
/-- a list is changed -/
theorem CAt.put {C G : Addr} {H : Hp} {x ds l : Addr} {ed : List Edge} {rr : List Str} {xs ys : List V} (h : CAt C G H x ds ed rr) (e : H l = some (.lst xs)) : CAt C G (upd H l (.lst ys)) x ds ed rr := by
  obtain ⟨dxw, ln, le, dk, gr, h1, dx, n, dn, da, h2⟩ := h.ex
  have nl : ∀ {b : Addr} {o : HO}, H b = some o → (∀ zs, o ≠ .lst zs) → b ≠ l := fun h n z => by rw [z, e] at h; exact n _ (Option.some.inj h).symm
  obtain ⟨ks, c1, _⟩ := h.c.ex
  have dsl : ds ≠ l := nl c1 (fun _ z => nomatch z)
  exact ⟨⟨dxw, ln, le, dk, gr, by rw [upd_ne (nl h1 fun _ z => nomatch z)]; exact h1, dx, n, dn, da, by rw [upd_ne (nl h2 fun _ z => nomatch z)]; exact h2⟩, h.c.but (But.put (D := [l]) (by simp)) dsl fun o u z => by rw [e] at z; cases z⟩
section
variable {P : Program} {w : World} {K : PySem.W.Frag} {mg : Str → Option Value} {base : Heap}
def spWInit (C G : Addr) : Sp := fun vs H Q _ => ∃ (x dx pn pe : Addr) (rows : List (Addr × List Str)) (eds : List (Addr × Edge)), vs = [.ref x, .ref pn, .ref pe] ∧ H x = some (.ins C dx []) ∧ InSq H pn (rowsV rows) ∧ RowsAt H rows ∧ InSq H pe (edsV eds) ∧ EdsAt H eds ∧
  rows.length ≤ 1000 ∧ (K2.flatR rows).length ≤ 1000 ∧ eds.length ≤ 900 ∧ (∀ e ∈ eds, EdgeOk rows.length e.2) ∧ pn ≠ x ∧ pe ≠ x ∧ (∀ r ∈ rows, r.1 ≠ x) ∧ (∀ e ∈ eds, e.1 ≠ x) ∧ (∀ r ∈ rows, RowOk r.2) ∧ rows ≠ [] ∧ AscE (eds.map (·.2)) ∧
  ∀ H' ln le ds, Keep H x H' → H ln = none → H le = none → H ds = none → WAt C G H' x ln le (rows.map (·.2)) (eds.map (·.2)) → (∀ rr, CAt C G H' x ds (eds.map (·.2)) rr) → Q .non H'
theorem ok_winit (D : Defs K mg) : FnOk P w K mg base CX0 5 D.d_w_init.f D.d_w_init.fd ["self", "names", "edges"] (spWInit D.wC D.gC) := by
  have GN := ok_anames (P := P) (w := w) (base := base) D
  have GE := ok_aedges (P := P) (w := w) (base := base) D
  have GG := ok_ginit (P := P) (w := w) (base := base) D
  have M : Mk K D.gC D.d_g_init.f := ⟨D.gC_mk, D.d_g_init.me.at_, D.d_g_init.me.fn, D.gC_kp⟩
  refine D.d_w_init.F.ok sc_w_init (fun vs H Q E h => ?_) (fun cdv A outer s H vs Q E hr h => ?_)
  · obtain ⟨x, dx, pn, pe, rows, eds, rfl, _⟩ := h
    rfl
  obtain ⟨x, dx, pn, pe, rows, eds, rfl, hx, hpn, hrow, hpe, heds, l1, l2, l3, hok, n1, n2, n3, n4, hro, hne, hasc, q⟩ := h
  have hr3 : Room 3 _ := hr.mono (by omega)
  have hr2 : Room 2 _ := hr.mono (by omega)
  have hu := hu_of hr
  refine ⟨_, (pss_cons (ps_if (pt_not (pt_val (pe_call GN hr3 rfl D.d_are_names.m D.d_are_names.F.kp D.d_are_names.b .nil pass0 (pa_cons (pv 1) pa_nil)))) (pss_one ps_never) pss_nil)
      (pss_cons (ps_if (pt_not (pt_val (pe_call GE hr rfl D.d_are_edges.m D.d_are_edges.F.kp D.d_are_edges.b .nil pass0 (pa_cons (pv 2) (pa_cons (pe_callB call_len_seq (by rfl) D.z_len (by decide +kernel) (pa_cons (pv 1) pa_nil)) pa_nil))))) (pss_one ps_never) pss_nil)
      (pss_cons (ps_fld (pv 0) (pe_callTy call_list_of (by rfl) D.z_list (by decide +kernel) (pa_cons (pv 1) pa_nil)) rfl)
      (pss_cons (ps_fld (pv 0) (pe_callTy call_list_of (by rfl) D.z_list (by decide +kernel) (pa_cons (pv 2) pa_nil)) rfl)
      (pss_cons (ps_fld (pv 0) (K2.pe_dcT rfl hr.units0 (pv 2) rfl (by decide +kernel) rfl) rfl)
      (pss_one (ps_fld (pv 0) (pe_make M GG hr3 rfl D.gC_m D.d_g_init.b .nil pass0 (pa_cons (pv 1) (pa_cons (pv 2) pa_nil))) rfl))))))), ?_⟩
  have el : (rowsV rows).length = rows.length := by simp [rowsV]
  refine ⟨_, rfl, pn, rows, rfl, hpn, hrow, hro, hne, fun H1 g1 => ⟨_, rfl, iteF ?_⟩⟩
  refine ⟨_, rfl, _, rfl, pn, rowsV rows, rfl, (hpn.same g1).sq, pe, (rowsV rows).length, eds, rfl, hpe.same g1, (fun e he => g1 _ _ (heds e he)), (by rw [el]; exact hok), hasc, by omega, fun H2 g2 => ⟨_, rfl, iteF ?_⟩⟩
  have k2 : Keep H x H2 := fun b o h _ => g2 _ _ (g1 _ _ h)
  have x2 : H2 x = some (.ins D.wC dx []) := g2 _ _ (g1 _ _ hx)
  have sq : ∀ {H' : Hp} {p : Addr} {xs : List V}, Keep H x H' → p ≠ x → InSq H p xs → InSq H' p xs := fun k n h => h.imp (fun z => k _ _ z n) (fun z => k _ _ z n)
  refine ⟨_, rfl, pn, rowsV rows, rfl, (sq k2 n1 hpn).sq, fun ln hln => ?_⟩
  have xln : x ≠ ln := ne_of_none x2 hln
  have hln0 : H ln = none := k2.none (by rw [x2]; simp) hln
  have k3 := k2.new (o := .lst (rowsV rows)) hln0
  refine ⟨_, rfl, x, D.wC, dx, _, rfl, (by rw [upd_ne xln]; exact x2), D.wC_cl, D.wC_n_names, (by show 0 < 1000; decide), ?_⟩
  have k4 := k3.own (o := .ins D.wC dx (putF "_names" (.ref ln) []))
  refine ⟨_, rfl, pe, edsV eds, rfl, (sq k4 n2 hpe).sq, fun le hle => ?_⟩
  have xle : x ≠ le := ne_of_none upd_same hle
  have hle0 : H le = none := k4.none (by rw [upd_same]; simp) hle
  have lnle : ln ≠ le := fun z => by
    rw [← z, upd_ne xln.symm, upd_same] at hle
    cases hle
  have k5 := k4.new (o := .lst (edsV eds)) hle0
  refine ⟨_, rfl, x, D.wC, dx, _, rfl, (by rw [upd_ne xle]; exact upd_same), D.wC_cl, D.wC_n_edges, (by show 1 < 1000; decide), ?_⟩
  have k6 := k5.own (o := .ins D.wC dx (putF "_edges" (.ref le) (putF "_names" (.ref ln) [])))
  refine ⟨_, rfl, pe, edsV eds, eds.map (fun e => (keyE e.2, e.1)), rfl, (sq k6 n2 hpe).sq, ⟨by simp [edsV], fun p hp => ?_⟩, fun dk hdk => ?_⟩
  · obtain ⟨e, he, rfl⟩ := List.mem_map.mp hp
    exact k6 _ _ (heds e he) (n4 e he)
  have xdk : x ≠ dk := ne_of_none upd_same hdk
  have hdk0 : H dk = none := k6.none (by rw [upd_same]; simp) hdk
  have dkln : dk ≠ ln := fun z => by
    rw [z, upd_ne xln.symm, upd_ne lnle, upd_ne xln.symm, upd_same] at hdk
    cases hdk
  have dkle : dk ≠ le := fun z => by
    rw [z, upd_ne xle.symm, upd_same] at hdk
    cases hdk
  refine ⟨_, rfl, x, D.wC, dx, _, rfl, (by rw [upd_ne xdk]; exact upd_same), D.wC_cl, D.wC_n_known, (by show 2 < 1000; decide), ?_⟩
  have k7 := (k6.new (o := .dT (K2.keysT ((eds.map (fun e => (keyE e.2, e.1))).map Prod.fst))) hdk0).own (o := .ins D.wC dx (putF "_known" (.ref dk) (putF "_edges" (.ref le) (putF "_names" (.ref ln) []))))
  refine ⟨_, rfl, _, rfl, fun gr gdx hgr hgdx ngr => ?_⟩
  have xgr : x ≠ gr := ne_of_none upd_same hgr
  have xgd : x ≠ gdx := ne_of_none upd_same hgdx
  have hgr0 : H gr = none := k7.none (by rw [upd_same]; simp) hgr
  have hgd0 : H gdx = none := k7.none (by rw [upd_same]; simp) hgdx
  have k8 := (k7.new (o := .own gr) hgd0).new (o := .ins D.gC gdx []) hgr0
  have ngr' : ∀ {b : Addr} {o : HO}, H b = some o → b ≠ gr := fun h => ne_of_none h hgr0
  have npn : pn ≠ gr := by rcases hpn with h | h; exact ngr' h; exact ngr' h
  have npe : pe ≠ gr := by rcases hpe with h | h; exact ngr' h; exact ngr' h
  refine ⟨gr, gdx, pn, pe, rows, eds, rfl, upd_same, sq k8 n1 hpn, (fun r hr => k8 _ _ (hrow r hr) (n3 r hr)), sq k8 n2 hpe, (fun e he => k8 _ _ (heds e he) (n4 e he)), l1, l2, l3, hok, npn, npe, (fun r hr => ngr' (hrow r hr)), (fun e he => ngr' (heds e he)), fun H9 dn da ds kn ka as on oa k9 hdn hda hds has e1 e2 e3 e4 e4s e5 e6 e7 => ⟨rfl, ?_⟩⟩
  have to9 := fun (b : Addr) (o : HO) (h : (_ : Hp) b = some o) => k9 b o ((upd_ne (ne_of_none h hgr)).trans ((upd_ne (ne_of_none h hgdx)).trans h)) (ne_of_none h hgr)
  have x9 := to9 x _ upd_same
  have ln9 := to9 ln (.lst (rowsV rows)) (by rw [upd_ne xln.symm, upd_ne dkln.symm, upd_ne xln.symm, upd_ne lnle, upd_ne xln.symm, upd_same])
  have le9 := to9 le (.lst (edsV eds)) (by rw [upd_ne xle.symm, upd_ne dkle.symm, upd_ne xle.symm, upd_same])
  have dk9 := to9 dk (.dT (K2.keysT ((eds.map (fun e => (keyE e.2, e.1))).map Prod.fst))) (by rw [upd_ne xdk.symm, upd_same])
  have kH9 : ∀ b o, H b = some o → b ≠ x → H9 b = some o := fun b o h n => k9 b o (k8 b o h n) (ngr' h)
  refine ⟨_, rfl, x, D.wC, dx, _, rfl, x9, D.wC_cl, D.wC_n_graph, (by show 3 < 1000; decide), ?_⟩
  have nx : ∀ {b : Addr}, H b = none → b ≠ x := fun h z => by rw [z, hx] at h; cases h
  have up : ∀ {b : Addr} {o : HO}, b ≠ x → H9 b = some o → upd H9 x (.ins D.wC dx (wflds ln le dk gr)) b = some o := fun n h => by rw [upd_ne n]; exact h
  refine q _ ln le ds (fun b o h n => up n (kH9 b o h n)) hln0 hle0 (k8.none (by rw [upd_ne xgr, upd_ne xgd, upd_same]; simp) hds) ⟨⟨dx, dk, gr, rows, eds, _, upd_same, up xln.symm ln9, fun r hr => up (n3 r hr) (kH9 _ _ (hrow r hr) (n3 r hr)), rfl, up xle.symm le9, fun e he => up (n4 e he) (kH9 _ _ (heds e he) (n4 e he)), rfl, up xdk.symm dk9, fun e => ?_, ?_⟩, ?_, ?_, hasc, ?_, by simpa using l1, by simpa using l3⟩ fun rr => ⟨⟨dx, ln, le, dk, gr, upd_same, gdx, _, dn, da, up xgr.symm e1⟩, Cch.nil (up (fun z => by rw [z, x9] at e4s; cases e4s) e4s)⟩
  · rw [Bool.eq_iff_iff, valV_keysT]
    simp only [List.map_map, List.mem_map, Function.comp, decide_eq_true_eq]
    constructor
    · rintro ⟨p, hp, he⟩
      exact ⟨p, hp, keyE_inj he⟩
    · rintro ⟨p, hp, he⟩
      exact ⟨p, hp, by rw [he]⟩
  · have nH : ∀ {b : Addr} {o : HO}, H9 b = some o → (∀ dx' fs, o ≠ .ins D.wC dx' fs) → b ≠ x := fun h n z => by
      rw [z, x9] at h
      exact n _ _ (Option.some.inj h).symm
    refine ⟨gdx, dn, da, ds, kn, ka, on, oa, ?_, up (nH e2 (by intro _ _ z; cases z)) e2, ?_, up (nH e4 (by intro _ _ z; cases z)) e4, fun k v hv => ?_, fun r hr => e5.no r hr, e5.nd, by omega⟩
    · rw [List.length_map]
      exact up xgr.symm e1
    · have : inRow rows = inR (rows.map (·.2)) := by funext y i; exact inRow_eq rows y i
      rw [← this]; exact e3
    · obtain ⟨r, a, inner, q1, q2, q3, q4, q5, q6⟩ := e5.at_ k v hv
      obtain ⟨oi, inner', q7⟩ := e6 a q3
      have q4' : (match H9 a with | some (.frz _ u) => some u | o => o) = some (.dK inner) := q4
      rw [q7] at q4'
      have : inner' = inner := by
        have := Option.some.inj q4'
        exact HO.dK.inj this
      subst this
      exact ⟨r, a, _, oi, q1, q2, up (nH q7 (by intro _ _ z; cases z)) q7, q5, by omega⟩
  · intro l hl
    obtain ⟨r, hr, rfl⟩ := List.mem_map.mp hl
    exact hro r hr
  · intro e he
    obtain ⟨p, hp, rfl⟩ := List.mem_map.mp he
    rw [List.length_map]
    exact hok p hp
  · intro z
    exact hne (List.map_eq_nil_iff.mp z)
end
end K1
namespace K1
open PySem L2
section
variable {P : Program} {w : World} {K : PySem.W.Frag} {mg : Str → Option Value} {base : Heap}
def spWLen (C G : Addr) : Sp := fun vs H Q _ => ∃ x ln le nm ed, vs = [.ref x] ∧ WAt C G H x ln le nm ed ∧ Q (.int (nm.length : Int)) H
theorem WAt.open {C G : Addr} {H : Hp} {x ln le : Addr} {nm : List (List Str)} {ed : List Edge} (h : WAt C G H x ln le nm ed) : ∃ dx dk gr rows eds kt, H x = some (.ins C dx (wflds ln le dk gr)) ∧ H ln = some (.lst (rowsV rows)) ∧ RowsAt H rows ∧ rows.map (·.2) = nm ∧ H le = some (.lst (edsV eds)) ∧ EdsAt H eds ∧ eds.map (·.2) = ed ∧
    H dk = some (.dT kt) ∧ (∀ e, (valV kt (keyE e)).isSome = decide (e ∈ ed)) ∧ GAt G H gr nm ed := h.ex
theorem rows_len {rows : List (Addr × List Str)} {nm : List (List Str)} (h : rows.map (·.2) = nm) : (rowsV rows).length = nm.length := by rw [← h]; simp [rowsV]
theorem ok_wlen (D : Defs K mg) : FnOk P w K mg base CX0 1 D.d_w_len.f D.d_w_len.fd ["self"] (spWLen D.wC D.gC) := by
  refine D.d_w_len.F.ok sc_w_len (fun vs H Q E h => ?_) (fun cdv A outer s H vs Q E hr h => ?_)
  · obtain ⟨x, ln, le, nm, ed, rfl, _⟩ := h
    rfl
  obtain ⟨x, ln, le, nm, ed, rfl, hW, q⟩ := h
  obtain ⟨dx, dk, gr, rows, eds, kt, h1, h2, h3, h4, h5, h6, h7, h8, h9, h10⟩ := hW.open
  refine ⟨_, (pss_one (ps_ret (pe_callB call_len_seq (by rfl) D.z_len (by decide +kernel) (pa_cons (pe_fld (pv 0) rfl) pa_nil)))), ?_⟩
  refine ⟨_, rfl, x, D.wC, dx, _, _, rfl, h1, D.wC_cl, D.wC_n_names, wf_n, ln, rowsV rows, rfl, .inl (SqL.of h2), ?_⟩
  rw [rows_len h4]
  exact q
theorem ok_wsize (D : Defs K mg) : FnOk P w K mg base CX0 1 D.w_size_f D.w_size_fd ["self"] (spWLen D.wC D.gC) := by
  refine D.w_size_F.ok sc_w_size (fun vs H Q E h => ?_) (fun cdv A outer s H vs Q E hr h => ?_)
  · obtain ⟨x, ln, le, nm, ed, rfl, _⟩ := h
    rfl
  obtain ⟨x, ln, le, nm, ed, rfl, hW, q⟩ := h
  obtain ⟨dx, dk, gr, rows, eds, kt, h1, h2, h3, h4, h5, h6, h7, h8, h9, h10⟩ := hW.open
  refine ⟨_, (pss_one (ps_ret (pe_callB call_len_seq (by rfl) D.z_len (by decide +kernel) (pa_cons (pe_fld (pv 0) rfl) pa_nil)))), ?_⟩
  refine ⟨_, rfl, x, D.wC, dx, _, _, rfl, h1, D.wC_cl, D.wC_n_names, wf_n, ln, rowsV rows, rfl, .inl (SqL.of h2), ?_⟩
  rw [rows_len h4]
  exact q
def spWNames (C G : Addr) : Sp := fun vs H Q _ => ∃ x ln le nm ed, vs = [.ref x] ∧ WAt C G H x ln le nm ed ∧ ∀ p rows, H p = none → RowsAt H rows → rows.map (·.2) = nm → Q (.ref p) (upd H p (.lst (rowsV rows)))
theorem ok_wnames (D : Defs K mg) : FnOk P w K mg base CX0 1 D.d_w_names.f D.d_w_names.fd ["self"] (spWNames D.wC D.gC) := by
  refine D.d_w_names.F.ok sc_w_names (fun vs H Q E h => ?_) (fun cdv A outer s H vs Q E hr h => ?_)
  · obtain ⟨x, ln, le, nm, ed, rfl, _⟩ := h
    rfl
  obtain ⟨x, ln, le, nm, ed, rfl, hW, q⟩ := h
  obtain ⟨dx, dk, gr, rows, eds, kt, h1, h2, h3, h4, h5, h6, h7, h8, h9, h10⟩ := hW.open
  refine ⟨_, (pss_one (ps_ret (pe_callTy call_list_of (by rfl) D.z_list (by decide +kernel) (pa_cons (pe_fld (pv 0) rfl) pa_nil)))), ?_⟩
  exact ⟨_, rfl, x, D.wC, dx, _, _, rfl, h1, D.wC_cl, D.wC_n_names, wf_n, ln, rowsV rows, rfl, .inl (SqL.of h2), fun p hp => q p rows hp h3 h4⟩
def spWEdges (C G : Addr) : Sp := fun vs H Q _ => ∃ x ln le nm ed, vs = [.ref x] ∧ WAt C G H x ln le nm ed ∧ ∀ p eds, H p = none → EdsAt H eds → eds.map (·.2) = ed → Q (.ref p) (upd H p (.lst (edsV eds)))
theorem ok_wedges (D : Defs K mg) : FnOk P w K mg base CX0 1 D.d_w_edges.f D.d_w_edges.fd ["self"] (spWEdges D.wC D.gC) := by
  refine D.d_w_edges.F.ok sc_w_edges (fun vs H Q E h => ?_) (fun cdv A outer s H vs Q E hr h => ?_)
  · obtain ⟨x, ln, le, nm, ed, rfl, _⟩ := h
    rfl
  obtain ⟨x, ln, le, nm, ed, rfl, hW, q⟩ := h
  obtain ⟨dx, dk, gr, rows, eds, kt, h1, h2, h3, h4, h5, h6, h7, h8, h9, h10⟩ := hW.open
  refine ⟨_, (pss_one (ps_ret (pe_callTy call_list_of (by rfl) D.z_list (by decide +kernel) (pa_cons (pe_fld (pv 0) rfl) pa_nil)))), ?_⟩
  exact ⟨_, rfl, x, D.wC, dx, _, _, rfl, h1, D.wC_cl, D.wC_n_edges, wf_e, le, edsV eds, rfl, .inl (SqL.of h5), fun p hp => q p eds hp h6 h7⟩
def spWGraph (C G : Addr) : Sp := fun vs H Q _ => ∃ x ln le nm ed, vs = [.ref x] ∧ WAt C G H x ln le nm ed ∧ ∀ gr, GAt G H gr nm ed → Q (.ref gr) H
theorem ok_wgraph (D : Defs K mg) : FnOk P w K mg base CX0 1 D.d_w_graph.f D.d_w_graph.fd ["self"] (spWGraph D.wC D.gC) := by
  refine D.d_w_graph.F.ok sc_w_graph (fun vs H Q E h => ?_) (fun cdv A outer s H vs Q E hr h => ?_)
  · obtain ⟨x, ln, le, nm, ed, rfl, _⟩ := h
    rfl
  obtain ⟨x, ln, le, nm, ed, rfl, hW, q⟩ := h
  obtain ⟨dx, dk, gr, rows, eds, kt, h1, h2, h3, h4, h5, h6, h7, h8, h9, h10⟩ := hW.open
  refine ⟨_, (pss_one (ps_ret (pe_fld (pv 0) rfl))), ?_⟩
  exact ⟨_, rfl, x, D.wC, dx, _, _, rfl, h1, D.wC_cl, D.wC_n_graph, wf_g, q gr h10⟩
def spWIter (C G : Addr) (n : Nat) : Sp := fun vs H Q _ => ∃ x ln le nm ed, vs = [.ref x] ∧ WAt C G H x ln le nm ed ∧ ∀ it, H it = none → n ≤ it → Q (.ref it) (upd H it (ItO ln it 0))
theorem ok_witer (D : Defs K mg) : FnOk P w K mg base CX0 1 D.d_w_iter.f D.d_w_iter.fd ["self"] (spWIter D.wC D.gC base.objs.size) := by
  refine D.d_w_iter.F.ok sc_w_iter (fun vs H Q E h => ?_) (fun cdv A outer s H vs Q E hr h => ?_)
  · obtain ⟨x, ln, le, nm, ed, rfl, _⟩ := h
    rfl
  obtain ⟨x, ln, le, nm, ed, rfl, hW, q⟩ := h
  obtain ⟨dx, dk, gr, rows, eds, kt, h1, h2, h3, h4, h5, h6, h7, h8, h9, h10⟩ := hW.open
  refine ⟨_, (pss_one (ps_ret (pe_callB K2.call_iterB (by rfl) D.z_iter (by decide +kernel) (pa_cons (pe_fld (pv 0) rfl) pa_nil)))), ?_⟩
  exact ⟨_, rfl, x, D.wC, dx, _, _, rfl, h1, D.wC_cl, D.wC_n_names, wf_n, ln, rowsV rows, rfl, SqL.of h2, q⟩
def spWHas (C G : Addr) : Sp := fun vs H Q _ => ∃ x ln le nm ed t e, vs = [.ref x, .ref t] ∧ WAt C G H x ln le nm ed ∧ H t = some (.tup (edgeV e)) ∧ EdgeOk nm.length e ∧ Q (.bl (decide (e ∈ ed))) H
theorem ok_whas (D : Defs K mg) : FnOk P w K mg base CX0 4 D.d_w_contains.f D.d_w_contains.fd ["self", "edge"] (spWHas D.wC D.gC) := by
  have GE := ok_edge (P := P) (w := w) (base := base) D
  refine D.d_w_contains.F.ok sc_w_contains (fun vs H Q E h => ?_) (fun cdv A outer s H vs Q E hr h => ?_)
  · obtain ⟨x, ln, le, nm, ed, t, e, rfl, _⟩ := h
    rfl
  obtain ⟨x, ln, le, nm, ed, t, e, rfl, hW, ht, he, q⟩ := h
  have hu := hu_of hr
  obtain ⟨dx, dk, gr, rows, eds, kt, h1, h2, h3, h4, h5, h6, h7, h8, h9, h10⟩ := hW.open
  refine ⟨_, (pss_one (ps_ret (pe_and (pe_call GE hr rfl D.d_is_edge.m D.d_is_edge.F.kp D.d_is_edge.b .nil pass0 (pa_cons (pv 1) (pa_cons (pe_callB call_len_seq (by rfl) D.z_len (by decide +kernel) (pa_cons (pe_fld (pv 0) rfl) pa_nil)) pa_nil))) (pe_one (pe_cmp (pc_din hu (pv 1) (pe_fld (pv 0) rfl)) rfl))))), ?_⟩
  refine ⟨_, rfl, _, rfl, x, D.wC, dx, _, _, rfl, h1, D.wC_cl, D.wC_n_names, wf_n, ln, rowsV rows, rfl, .inl (SqL.of h2), t, (rowsV rows).length, e, rfl, ht, by rw [rows_len h4]; exact he, _, rfl, iteT ?_⟩
  refine ⟨_, rfl, _, rfl, x, D.wC, dx, _, _, rfl, h1, D.wC_cl, D.wC_n_known, wf_k, dk, _, rfl, DGet.t (k := keyE e) h8 ht, ?_⟩
  rw [h9]
  exact q
end
end K1
namespace K1
open PySem L2
section
variable {P : Program} {w : World} {K : PySem.W.Frag} {mg : Str → Option Value} {base : Heap}
theorem WAt.ty (D : Defs K mg) {H : Hp} {x ln le : Addr} {nm : List (List Str)} {ed : List Edge} (h : WAt D.wC D.gC H x ln le nm ed) : TyX K H (.ref x) (.ref D.wC) ∧ PySem.W.kitOne K (.ref D.wC) (.ref D.wC) = some true := by
  obtain ⟨dx, dk, gr, rows, eds, kt, h1, _⟩ := h.open
  exact ⟨.base (.ins h1 D.wC_cl D.wC_cls D.oc_get D.oc_tk D.wC_ob), by simp [PySem.W.kitOne]⟩
def spWNeed (C G : Addr) : Sp := fun vs H Q _ => ∃ x ln le nm ed, vs = [.ref x] ∧ WAt C G H x ln le nm ed ∧ Q .non H
theorem ok_wneed (D : Defs K mg) : FnOk P w K mg base CX0 1 D.d_need_world.f D.d_need_world.fd ["thing"] (spWNeed D.wC D.gC) := by
  refine D.d_need_world.F.ok sc_need_world (fun vs H Q E h => ?_) (fun cdv A outer s H vs Q E hr h => ?_)
  · obtain ⟨x, ln, le, nm, ed, rfl, _⟩ := h
    rfl
  obtain ⟨x, ln, le, nm, ed, rfl, hW, q⟩ := h
  obtain ⟨t1, t2⟩ := hW.ty D
  refine ⟨_, (pss_one (ps_if (pt_not (pt_val (pe_callB call_isi (by rfl) D.z_isinstance (by decide +kernel) (pa_cons (pv 0) (pa_cons (pe_glob (v := .ref D.wC) (by rfl) D.wC_m rfl) pa_nil))))) (pss_one ps_never) pss_nil)), ?_⟩
  exact ⟨_, rfl, _, _, _, _, _, rfl, .own _, t1, t2, _, rfl, iteF q⟩
/-! ### == of two worlds -/
def rowsD (nm : List (List Str)) : PyData := .list (nm.map fun l => .tuple (strsD l))
def edsD (ed : List Edge) : PyData := .list (ed.map edgeD)
theorem dp_rows {K : PySem.W.Frag} {H : Hp} {p : Addr} {rows : List (Addr × List Str)} (hp : H p = some (.lst (rowsV rows))) (h : RowsAt H rows) : Dp K H (.ref p) (rowsD (rows.map (·.2))) := by
  refine .lst (SqL.of hp) ?_
  clear hp
  induction rows with
  | nil => exact .nil
  | cons r l ih => exact .cons (.tup (SqT.of (h r List.mem_cons_self)) (dp_strs r.2)) (ih fun x hx => h x (List.mem_cons_of_mem _ hx))
theorem dp_eds {K : PySem.W.Frag} {H : Hp} {p : Addr} {eds : List (Addr × Edge)} (hp : H p = some (.lst (edsV eds))) (h : EdsAt H eds) : Dp K H (.ref p) (edsD (eds.map (·.2))) := by
  refine .lst (SqL.of hp) ?_
  have := dp_edges (K := K) h
  rw [List.map_map]
  exact this
theorem eqv_strs : ∀ a b : List Str, PyData.eqvAll (strsD a) (strsD b) = decide (a = b)
  | [], [] => by simp [strsD, PyData.eqvAll]
  | [], b :: bs => by simp [strsD, PyData.eqvAll]
  | a :: as, [] => by simp [strsD, PyData.eqvAll]
  | a :: as, b :: bs => by
    show PyData.eqvAll (.str a :: strsD as) (.str b :: strsD bs) = _
    rw [PySem.W.eqv_all_cons, eqv_strs as bs]
    simp only [PyData.eqv]
    by_cases e : a = b
    · subst e; simp
    · simp [e]
theorem eqv_rows : ∀ a b : List (List Str), PyData.eqv (rowsD a) (rowsD b) = decide (a = b)
  | [], [] => by simp [rowsD, PyData.eqv, PyData.eqvAll]
  | [], b :: bs => by simp [rowsD, PyData.eqv, PyData.eqvAll]
  | a :: as, [] => by simp [rowsD, PyData.eqv, PyData.eqvAll]
  | a :: as, b :: bs => by
    have ih := eqv_rows as bs
    unfold rowsD at ih ⊢
    simp only [PyData.eqv, List.map_cons] at ih ⊢
    rw [PySem.W.eqv_all_cons, ih]
    simp only [PyData.eqv, eqv_strs]
    by_cases e : a = b
    · subst e; simp
    · simp [e]
theorem eqv_edge (a b : Edge) : PyData.eqv (edgeD a) (edgeD b) = decide (a = b) := by
  obtain ⟨a1, a2, a3⟩ := a
  obtain ⟨b1, b2, b3⟩ := b
  simp only [edgeD, PyData.eqv, PyData.eqvAll, Bool.and_true]
  rw [Bool.eq_iff_iff]
  simp only [Bool.and_eq_true, beq_iff_eq, decide_eq_true_eq, Edge.mk.injEq]
  constructor
  · rintro ⟨h1, h2, h3⟩
    exact ⟨by omega, h2, by omega⟩
  · rintro ⟨h1, h2, h3⟩
    exact ⟨by omega, h2, by omega⟩
theorem eqv_eds : ∀ a b : List Edge, PyData.eqv (edsD a) (edsD b) = decide (a = b)
  | [], [] => by simp [edsD, PyData.eqv, PyData.eqvAll]
  | [], b :: bs => by simp [edsD, PyData.eqv, PyData.eqvAll]
  | a :: as, [] => by simp [edsD, PyData.eqv, PyData.eqvAll]
  | a :: as, b :: bs => by
    have ih := eqv_eds as bs
    unfold edsD at ih ⊢
    simp only [PyData.eqv, List.map_cons] at ih ⊢
    rw [PySem.W.eqv_all_cons, ih, eqv_edge]
    by_cases e : a = b
    · subst e; simp
    · simp [e]
end
end K1
namespace K1
open PySem L2
theorem lay_row {l : List Str} (h : ∀ x ∈ l, wordOk x = true) : PyData.canLay0 (.tuple (strsD l)) = true := by
  show PyData.canLayAll0 (strsD l) = true
  exact lay_strs fun x hx => word_strOk (h x hx)
theorem lay_rows : ∀ {nm : List (List Str)}, (∀ l ∈ nm, RowOk l) → PyData.canLayAll0 (nm.map fun l => PyData.tuple (strsD l)) = true
  | [], _ => by simp [PyData.canLayAll0]
  | l :: r, h => by
    show PyData.canLayAll0 (.tuple (strsD l) :: r.map fun l => PyData.tuple (strsD l)) = true
    rw [PyData.canLayAll0, lay_row (h l List.mem_cons_self).1, lay_rows fun x hx => h x (List.mem_cons_of_mem _ hx)]
    rfl
theorem dep_row (l : List Str) : (PyData.tuple (strsD l)).depth ≤ 1 := by
  simp only [PyData.depth, depth_strs]
  omega
theorem dep_rows : ∀ nm : List (List Str), PyData.depthAll (nm.map fun l => PyData.tuple (strsD l)) ≤ 1
  | [] => by simp [PyData.depthAll]
  | l :: r => by
    show PyData.depthAll (.tuple (strsD l) :: r.map fun l => PyData.tuple (strsD l)) ≤ 1
    rw [PyData.depthAll]
    have := dep_row l
    have := dep_rows r
    omega
theorem shaped_rows {nm : List (List Str)} (h : ∀ l ∈ nm, RowOk l) : SeqAt.shaped (rowsD nm) = true := by
  refine shaped_of (by show PyData.canLayAll0 _ = true; exact lay_rows h) ?_
  unfold rowsD
  simp only [PyData.depth]
  have := dep_rows nm
  omega
theorem lay_edge {n : Nat} {e : Edge} (h : EdgeOk n e) (hn : n ≤ 1000) : PyData.canLay0 (edgeD e) = true := by
  obtain ⟨h1, h2, h3⟩ := h
  have w := word_strOk h3
  show PyData.canLayAll0 _ = true
  simp [PyData.canLayAll0, PyData.canLay0, w]
theorem lay_eds {n : Nat} (hn : n ≤ 1000) : ∀ {ed : List Edge}, (∀ e ∈ ed, EdgeOk n e) → PyData.canLayAll0 (ed.map edgeD) = true
  | [], _ => by simp [PyData.canLayAll0]
  | e :: r, h => by
    rw [List.map_cons, PyData.canLayAll0, lay_edge (h e List.mem_cons_self) hn, lay_eds hn fun x hx => h x (List.mem_cons_of_mem _ hx)]
    rfl
theorem dep_eds : ∀ ed : List Edge, PyData.depthAll (ed.map edgeD) ≤ 1
  | [] => by simp [PyData.depthAll]
  | e :: r => by
    rw [List.map_cons, PyData.depthAll]
    have h1 : (edgeD e).depth ≤ 1 := by simp [edgeD, PyData.depth, PyData.depthAll]
    have := dep_eds r
    omega
theorem shaped_eds {n : Nat} (hn : n ≤ 1000) {ed : List Edge} (h : ∀ e ∈ ed, EdgeOk n e) : SeqAt.shaped (edsD ed) = true := by
  refine shaped_of (by show PyData.canLayAll0 _ = true; exact lay_eds hn h) ?_
  unfold edsD
  simp only [PyData.depth]
  have := dep_eds ed
  omega
section
variable {P : Program} {w : World} {K : PySem.W.Frag} {mg : Str → Option Value} {base : Heap}
def spWEq (C G : Addr) : Sp := fun vs H Q _ => ∃ x ln le nm ed y ln' le' nm' ed', vs = [.ref x, .ref y] ∧ WAt C G H x ln le nm ed ∧ WAt C G H y ln' le' nm' ed' ∧ Q (.bl (decide (nm = nm' ∧ ed = ed'))) H
theorem ok_weq (D : Defs K mg) : FnOk P w K mg base CX0 1 D.d_w_eq.f D.d_w_eq.fd ["self", "other"] (spWEq D.wC D.gC) := by
  refine D.d_w_eq.F.ok sc_w_eq (fun vs H Q E h => ?_) (fun cdv A outer s H vs Q E hr h => ?_)
  · obtain ⟨x, ln, le, nm, ed, y, ln', le', nm', ed', rfl, _⟩ := h
    rfl
  obtain ⟨x, ln, le, nm, ed, y, ln', le', nm', ed', rfl, hW, hV, q⟩ := h
  obtain ⟨t1, t2⟩ := hV.ty D
  obtain ⟨dx, dk, gr, rows, eds, kt, h1, h2, h3, h4, h5, h6, h7, h8, h9, h10⟩ := hW.open
  obtain ⟨dx', dk', gr', rows', eds', kt', j1, j2, j3, j4, j5, j6, j7, j8, j9, j10⟩ := hV.open
  refine ⟨_, (pss_one (ps_ret (pe_and (pe_callB call_isi (by rfl) D.z_isinstance (by decide +kernel) (pa_cons (pv 1) (pa_cons (pe_glob (v := .ref D.wC) (by rfl) D.wC_m rfl) pa_nil))) (pe_and (pe_cmpR (op_eqD hr.units) (pe_fld (pv 0) rfl) (pe_fld (pv 1) rfl) (nomark _)) (pe_one (pe_cmpR (op_eqD hr.units) (pe_fld (pv 0) rfl) (pe_fld (pv 1) rfl) (nomark _))))))), ?_⟩
  refine ⟨_, rfl, _, _, _, _, _, rfl, .own _, t1, t2, _, rfl, iteT ?_⟩
  have d1 := dp_rows (K := K) h2 h3
  have d2 := dp_rows (K := K) j2 j3
  rw [h4] at d1
  rw [j4] at d2
  have d3 := dp_eds (K := K) h5 h6
  have d4 := dp_eds (K := K) j5 j6
  rw [h7] at d3
  rw [j7] at d4
  refine ⟨_, rfl, x, D.wC, dx, _, _, rfl, h1, D.wC_cl, D.wC_n_names, wf_n, _, rfl, y, D.wC, dx', _, _, rfl, j1, D.wC_cl, D.wC_n_names, wf_n, _, _, d1, d2, shaped_rows hW.nok, shaped_rows hV.nok, _, rfl, ?_⟩
  rw [eqv_rows]
  by_cases e : nm = nm'
  · rw [decide_eq_true e]
    refine iteT ⟨_, rfl, x, D.wC, dx, _, _, rfl, h1, D.wC_cl, D.wC_n_edges, wf_e, _, rfl, y, D.wC, dx', _, _, rfl, j1, D.wC_cl, D.wC_n_edges, wf_e, _, _, d3, d4, shaped_eds hW.nl hW.eok, shaped_eds hV.nl hV.eok, ?_⟩
    rw [eqv_eds]
    have : decide (nm = nm' ∧ ed = ed') = decide (ed = ed') := by simp [e]
    rw [this] at q
    exact q
  · rw [decide_eq_false e]
    have : decide (nm = nm' ∧ ed = ed') = false := by simp [e]
    rw [this] at q
    exact iteF q
end
end K1
namespace K1
open PySem L2
theorem hol_lt {nm : List (List Str)} {ed : List Edge} (he : ∀ e ∈ ed, EdgeOk nm.length e) : ∀ {c : Con} {i : Nat}, hol nm ed c i = true → i < nm.length
  | .atom s, i, h => by
    unfold hol at h
    split at h
    · exact of_decide_eq_true h
    · unfold inR at h
      split at h
      · rename_i l hl
        exact (List.getElem?_eq_some_iff.mp hl).1
      · cases h
  | .ex r c, i, h => by
    obtain ⟨b, h1, _⟩ := behE_iff.mp (show behE ed r (hol nm ed c) i = true from h)
    have := he _ (of_decide_eq_true h1)
    exact this.1
  | .and2 a b, i, h => by
    simp only [hol, Bool.and_eq_true, decide_eq_true_eq] at h
    exact h.1
  | .and3 a b c, i, h => by
    simp only [hol, Bool.and_eq_true, decide_eq_true_eq] at h
    exact h.1
/-- the things, in order -/
def things (nm : List (List Str)) (ed : List Edge) (c : Con) : List Nat := (List.range nm.length).filter fun i => hol nm ed c i
section
variable {P : Program} {w : World} {K : PySem.W.Frag} {mg : Str → Option Value} {base : Heap}
def spWIn (C G : Addr) : Sp := fun vs H Q _ => ∃ x ln le nm ed v c N R ds, vs = [.ref x, v] ∧ WAt C G H x ln le nm ed ∧ CAt C G H x ds ed R ∧ ConAt H c v ∧ Vocab N R ∧ Fine N R c ∧
  ∀ H' p, But [ds] H H' → CAt C G H' x ds ed R → H p = none → H' p = some (.lst ((things nm ed c).map fun i => V.int (i : Nat))) → Q (.ref p) H'
theorem ok_win (D : Defs K mg) : FnOk P w K mg base CX0 14 D.d_w_things_in.f D.d_w_things_in.fd ["self", "concept"] (spWIn D.wC D.gC) := by
  have GN := ok_need (P := P) (w := w) (base := base) D
  have GH := ok_hold (P := P) (w := w) (base := base) D 9
  have GB := ok_bits (P := P) (w := w) (base := base) D
  refine D.d_w_things_in.F.ok sc_w_things_in (fun vs H Q E h => ?_) (fun cdv A outer s H vs Q E hr h => ?_)
  · obtain ⟨x, ln, le, nm, ed, v, c, N, R, ds, rfl, _⟩ := h
    rfl
  obtain ⟨x, ln, le, nm, ed, v, c, N, R, ds, rfl, hW, hC, hc, vo, hf, q⟩ := h
  have hr1 : Room 1 _ := hr.mono (by omega)
  have hr13 : Room 13 _ := hr.mono (by omega)
  obtain ⟨dx, dk, gr, rows, eds, kt, h1, h2, h3, h4, h5, h6, h7, h8, h9, h10⟩ := hW.open
  refine ⟨_, (pss_cons (ps_expr (pe_call GN hr rfl D.d_need_concept.m D.d_need_concept.F.kp D.d_need_concept.b .nil pass0 (pa_cons (pv 1) pa_nil)))
      (pss_one (ps_ret (pe_call GB hr1 rfl D.d_bits.m D.d_bits.F.kp D.d_bits.b .nil pass0 (pa_cons (pe_meth (pe_fld (pv 0) rfl) D.gC_cl D.d_g_holding.me GH hr13 D.d_g_holding.b .nil pass0 (pa_cons (pv 1) pa_nil)) pa_nil))))), ?_⟩
  obtain ⟨k1, k2⟩ := fine_nested vo hf hc
  refine ⟨_, rfl, v, rfl, k1, k2, fun H1 g1 => ?_⟩
  have hG := h10.same g1
  have hC1 := hC.same g1
  obtain ⟨dx2, dn, da, ds2, kn, ka, on, oa, e1, _⟩ := hG.ex
  obtain ⟨dxw, ln', le', dk', gr', e2, hgs⟩ := hC1.ex
  obtain rfl : gr = gr' := by
    rw [g1 _ _ h1] at e2
    have e := (HO.ins.inj (Option.some.inj e2)).2.2
    have e3 := congrArg (fun fs => List.lookup ("_graph" : Str) fs) e
    simp only [wf_g] at e3
    exact V.ref.inj (Option.some.inj e3)
  refine ⟨_, rfl, x, D.wC, dx, _, _, rfl, g1 _ _ h1, D.wC_cl, D.wC_n_graph, wf_g, gr, dx2, _, rfl, e1, gf_no (by decide +kernel) (by decide +kernel) (by decide +kernel) (by decide +kernel), _, rfl, gr, ds, nm, ed, v, c, N, R, rfl, hG, hgs, hC1.c, (by have := vo.lr; omega), hW.nl, (fun e he => ?_), hc.same g1, hf.1, hf.2.1, fun H2 m b2 C2 hm => ?_⟩
  · have := hW.eok e he
    have h1 := this.1
    have h2 := this.2.1
    have := hW.nl
    exact ⟨by omega, by omega⟩
  have mlt : m < 2 ^ nm.length := by
    refine Nat.lt_pow_two_of_testBit m fun i hi => ?_
    rw [hm]
    cases e : hol nm ed c i with
    | false => rfl
    | true => have := hol_lt hW.eok e; omega
  refine ⟨m, nm.length, rfl, mlt, hW.nl, fun H3 p g3 hp h => ?_⟩
  have eo : K2.ones m nm.length = things nm ed c := by
    unfold K2.ones things
    congr 1
    funext i
    exact hm i
  rw [eo] at h
  have n2 := nkC hC1.c b2
  refine q H3 p (((But.of g1).trans b2).trans (But.of g3)) (((hC1.nk n2 C2)).same g3) ?_ h
  cases e : H p with
  | none => rfl
  | some o =>
    by_cases c : p = ds
    · obtain ⟨ks, c1, _⟩ := C2.ex
      rw [c, c1] at hp; cases hp
    · have := b2 _ _ (by simpa using c) (g1 _ _ e); rw [hp] at this; cases this
end
end K1
namespace K1
open PySem L2
theorem ix_tupK {X : Cx} {K : PySem.W.Frag} (h : X.K = K) : IxR X (rIxT K) := by subst h; exact ix_tup
/-- a dict comprehension over a walk -/
theorem dc_walk {J : It} {n : Nat} {G : Hp → Prop} {Y : Nat → Hp → V → Hp → Prop} (w : Walk J n G Y) {g : TG} {tt : TT} {tk tv : TE} {vs : List Nat} {σ : St} {H1 : Hp} {D : Addr} {Qd : Hp → Prop} (Pv : Nat → Hp → Prop) (h0 : Pv 0 (upd H1 D (.dK []))) (hG : ∀ i H, i ≤ n → Pv i H → G H)
    (hs : ∀ i x H H', i < n → Pv i H → Y i H x H' → g x (wipe σ vs) H' fun σ2 H2 => wipe σ2 vs = wipe σ vs ∧ tt σ2 H2 fun b H3 =>
      if b = true then tk σ2 H3 fun y H4 => tv σ2 H4 fun z H5 => ∃ kvs k, y = kV k ∧ H5 D = some (.dK kvs) ∧ kvs.length < sizeLine ∧ Pv (i + 1) (upd H5 D (.dK (putK kvs k z))) else Pv (i + 1) H3) (hd : ∀ H, Pv n H → Qd H) :
    ∃ W : Nat → Nat → Hp → Prop, (∃ m, W 0 m (upd H1 D (.dK []))) ∧ ∀ i m H, W i m H →
      (J.stop i H ∧ Qd H) ∨ (J.go i H ∧ ∃ Nx : Hp → Prop, (∀ H', Nx H' → ∃ m', m' < m ∧ W (i + 1) m' H') ∧ ∀ x H', J.yld i H x H' → g x (wipe σ vs) H' fun σ2 H2 => wipe σ2 vs = wipe σ vs ∧ tt σ2 H2 fun b H3 =>
        if b = true then tk σ2 H3 fun y H4 => tv σ2 H4 fun z H5 => ∃ kvs k, y = kV k ∧ H5 D = some (.dK kvs) ∧ kvs.length < sizeLine ∧ Nx (upd H5 D (.dK (putK kvs k z))) else Nx H3) :=
  ⟨fun i m H => m = n - i ∧ i ≤ n ∧ Pv i H, ⟨n, (Nat.sub_zero n).symm, Nat.zero_le _, h0⟩, fun i m H ⟨hm, hi, p⟩ => by
    rcases Nat.lt_or_ge i n with lt | ge
    · exact .inr ⟨w.goes i H lt (hG i H hi p), Pv (i + 1), fun H' p' => ⟨n - (i + 1), by omega, rfl, lt, p'⟩, fun x H' y => hs i x H H' lt p (w.yields i H x H' lt (hG i H hi p) y)⟩
    · have e : n = i := Nat.le_antisymm ge hi
      subst e
      exact .inl ⟨w.stops H (hG n H hi p), hd H p⟩⟩
theorem dk_keysS {H : Hp} {d : Addr} (ss : List Str) : ∃ ks, Dk (upd H d (.dK (K2.keysS ss))) d ks (K2.keysS ss) ∧ (∀ x, x ∈ ks ↔ x ∈ ss) ∧ ks.length ≤ ss.length := by
  refine K2.snoc_ind (P := fun ss => ∃ ks, Dk (upd H d (.dK (K2.keysS ss))) d ks (K2.keysS ss) ∧ (∀ x, x ∈ ks ↔ x ∈ ss) ∧ ks.length ≤ ss.length) ⟨[], ⟨upd_same, rfl, List.nodup_nil⟩, fun x => Iff.rfl, Nat.le_refl _⟩ (fun l s ⟨ks, h1, h2, h3⟩ => ?_) ss
  refine ⟨addS ks s, ?_, fun x => ?_, ?_⟩
  · rw [K2.keysS_snoc]
    have := h1.put s (.bl true)
    rwa [upd_upd] at this
  · rw [mem_addS, h2]; simp
  · rw [List.length_append]
    exact Nat.le_trans len_addS (Nat.succ_le_succ h3)
section
variable {P : Program} {w : World} {K : PySem.W.Frag} {mg : Str → Option Value} {base : Heap}
def spWWords (C G : Addr) : Sp := fun vs H Q _ => ∃ x ln le nm ed, vs = [.ref x] ∧ WAt C G H x ln le nm ed ∧ nm.flatten.length < 64 ∧ ed.length < 64 ∧
  ∀ H' p ys zs, Same H H' → ToldAt H' p ys zs → Asc ys → Asc zs → (∀ s, s ∈ ys ↔ s ∈ nm.flatten) → (∀ s, s ∈ zs ↔ s ∈ ed.map (·.r)) → Q (.ref p) H'
theorem ok_wwords (D : Defs K mg) : FnOk P w K mg base CX0 2 D.d_w_words.f D.d_w_words.fd ["self"] (spWWords D.wC D.gC) := by
  have GT := ok_told (P := P) (w := w) (base := base) D
  refine D.d_w_words.F.ok sc_w_words (fun vs H Q E h => ?_) (fun cdv A outer s H vs Q E hr h => ?_)
  · obtain ⟨x, ln, le, nm, ed, rfl, _⟩ := h
    rfl
  obtain ⟨x, ln, le, nm, ed, rfl, hW, l1, l2, q⟩ := h
  obtain ⟨dx, dk, gr, rows, eds, kt, h1, h2, h3, h4, h5, h6, h7, h8, h9, h10⟩ := hW.open
  refine ⟨_, (pss_cons (K2.ps_setDc2 (i := 1) rfl sc_w_words.nd rfl rfl (K2.swD_true rfl rfl rfl (by decide +kernel)) (pe_fld (pv 0) rfl) rfl (by decide +kernel) (by decide +kernel) (by decide +kernel) rfl)
      (pss_cons (K2.ps_setDc (i := 2) (own := [("edge", 3)]) (g := gName 3) rfl sc_w_words.nd rfl rfl (K2.swD_true rfl rfl rfl (by decide +kernel)) (pi_list (pe_fld (pv 0) rfl)) (blkOk_by (N := ["self", "names", "roles", "edge"]) (sc := defScope s_w_words) (by decide +kernel)) (fun _ _ _ _ _ => pg_name (i := 3) sc_w_words.nd rfl (Or.inl rfl)) (fun _ _ _ _ _ => pts_nil) (fun _ _ _ _ _ => (pe_ix (ix_tupK (K := K) rfl) (pv 3) pe_int (fun _ _ => rfl))) (fun _ _ _ _ _ => pe_bl))
      (pss_one (ps_ret (pe_call GT hr rfl D.d_told_words.m D.d_told_words.F.kp D.d_told_words.b .nil pass0 (pa_cons (pv 1) (pa_cons (pv 2) pa_nil))))))), ?_⟩
  have fl : K2.flatR rows = nm.flatten := by unfold K2.flatR; rw [h4]
  refine ⟨_, rfl, x, D.wC, dx, _, _, rfl, h1, D.wC_cl, D.wC_n_names, wf_n, ln, rows, rfl, SqL.of h2, (fun r hr => SqT.of (h3 r hr)), by rw [fl]; exact small1000 (by omega), fun d1 hd1 => ?_⟩
  have g1 := same_new hd1 (.dK (K2.keysS (K2.flatR rows)))
  refine ⟨_, rfl, x, D.wC, dx, _, _, rfl, g1 _ _ h1, D.wC_cl, D.wC_n_edges, wf_e, le, rfl, ⟨_, SqL.of (g1 _ _ h5)⟩, fun d2 hd2 => ?_⟩
  have d12 : d1 ≠ d2 := ne_of_none upd_same hd2
  have g2 := g1.trans (same_new hd2 (.dK []))
  refine dc_walk (J := Itl K le) (n := (edsV eds).length) (G := fun H' => SqL K H' le (edsV eds)) (Y := YAt (edsV eds)) walk_list (fun i H3 => H3 d2 = some (.dK (K2.keysS ((eds.take i).map fun e => e.2.r))) ∧ But [d2] (upd (upd H d1 (.dK (K2.keysS (K2.flatR rows)))) d2 (.dK [])) H3) ⟨upd_same, But.refl _⟩ (fun i H3 _ h => SqL.of (h.2 _ _ (by simpa using (ne_of_none (g1 _ _ h5) hd2)) (g2 _ _ h5))) ?_ ?_
  · rintro i y H3 H4 hi ⟨hd3, hb3⟩ ⟨rfl, hy⟩
    unfold edsV at hy
    rw [List.getElem?_map] at hy
    obtain ⟨e, hei, rfl⟩ := Option.map_eq_some_iff.mp hy
    have me := List.mem_of_getElem? hei
    have he3 := hb3 e.1 _ (by simpa using (ne_of_none (g1 _ _ (h6 e me)) hd2)) (g2 _ _ (h6 e me))
    have el2 : eds.length < 64 := by have := congrArg List.length h7; rw [List.length_map] at this; omega
    refine ⟨rfl, _, rfl, e.1, _, _, _, rfl, rfl, SqT.of he3, atI_nat (j := 1) rfl, _, Sum.inr e.2.r, rfl, hd3, ?_, ?_, ?_⟩
    · refine small1000 (Nat.le_trans (K2.keysS_len _) ?_)
      rw [List.length_map, List.length_take]
      omega
    · rw [List.take_add_one, hei, List.map_append]
      show upd _ d2 _ d2 = _
      rw [upd_same]
      show _ = some (HO.dK (K2.keysS (List.map _ _ ++ [e.2.r])))
      rw [K2.keysS_snoc]
    · exact hb3.trans (But.put (by simp))
  · rintro H3 ⟨hd3, hb3⟩
    rw [show (edsV eds).length = eds.length by simp [edsV], List.take_length] at hd3
    obtain ⟨ks1, a1, a2, a3⟩ := dk_keysS (H := H) (d := d1) (K2.flatR rows)
    obtain ⟨ks2, b1, b2, b3⟩ := dk_keysS (H := H) (d := d2) (eds.map fun e => e.2.r)
    have hd1' : H3 d1 = some (.dK (K2.keysS (K2.flatR rows))) := hb3 _ _ (by simpa using d12) (by rw [upd_ne d12]; exact upd_same)
    have s3 : Same H H3 := fun b o z => hb3 b o (by simpa using (ne_of_none (g1 _ _ z) hd2)) (g2 _ _ z)
    have er : ed.map (·.r) = eds.map fun e => e.2.r := by rw [← h7, List.map_map]; rfl
    have l3 : (eds.map fun e => e.2.r).length < 64 := by rw [← er, List.length_map]; exact l2
    refine ⟨_, rfl, _, rfl, d1, d2, ks1, ks2, _, _, rfl, ⟨hd1', a1.keys, a1.nd⟩, ⟨hd3, b1.keys, b1.nd⟩, by rw [fl] at a3; omega, by omega, fun H4 p ys zs g4 ht ay az my mz => q H4 p ys zs (s3.trans g4) ht ay az (fun s => ?_) fun s => ?_⟩
    · rw [my, a2, fl]
    · rw [mz, b2, er]
end
end K1
namespace K1
open PySem L2 PySem.W
/-! edges in order -/
theorem ltE_irrefl (e : Edge) : ltE e e = false := PyProof.Rows.lex_irrefl _
theorem ltE_trans {a b c : Edge} (h1 : ltE a b = true) (h2 : ltE b c = true) : ltE a c = true := PyProof.Rows.lex_trans _ _ _ h1 h2
theorem toksE_inj {a b : Edge} (h : keyToks (edgeD a) = keyToks (edgeD b)) : a = b := by
  obtain ⟨a1, a2, a3⟩ := a
  obtain ⟨b1, b2, b3⟩ := b
  simp only [edgeD, keyToks, keyToksAll, List.cons_append, List.nil_append, List.cons.injEq, Sum.inl.injEq, Sum.inr.injEq, and_true, true_and] at h
  obtain ⟨h1, h2, h3⟩ := h
  have e2 := str_of_cps h2
  subst e2
  simp only [Edge.mk.injEq, true_and]
  exact ⟨by omega, by omega⟩
theorem ltE_total {a b : Edge} (h1 : ltE a b = false) (h2 : ltE b a = false) : a = b := toksE_inj (PyProof.Rows.lex_total _ _ h1 h2)
theorem ltE_asym {a b : Edge} (h1 : ltE a b = true) : ltE b a = false := by
  cases h : ltE b a with
  | false => rfl
  | true => have := ltE_trans h1 h; rw [ltE_irrefl] at this; cases this
theorem ascE_uniq : ∀ {l m : List Edge}, AscE l → AscE m → (∀ x, x ∈ l ↔ x ∈ m) → l = m
  | [], [], _, _, _ => rfl
  | [], y :: m, _, _, h => by have := (h y).mpr List.mem_cons_self; simp at this
  | x :: l, [], _, _, h => by have := (h x).mp List.mem_cons_self; simp at this
  | x :: l, y :: m, hl, hm, h => by
    have hl' := List.pairwise_cons.mp hl
    have hm' := List.pairwise_cons.mp hm
    have e : x = y := by
      rcases List.mem_cons.mp ((h x).mp List.mem_cons_self) with e | hx
      · exact e
      rcases List.mem_cons.mp ((h y).mpr List.mem_cons_self) with e | hy
      · exact e.symm
      have h1 := hm'.1 x hx
      have h2 := hl'.1 y hy
      rw [ltE_asym h1] at h2
      cases h2
    subst e
    have nx : ∀ z ∈ l, z ≠ x := fun z hz e => by have := hl'.1 z hz; rw [e, ltE_irrefl] at this; cases this
    have ny : ∀ z ∈ m, z ≠ x := fun z hz e => by have := hm'.1 z hz; rw [e, ltE_irrefl] at this; cases this
    rw [ascE_uniq hl'.2 hm'.2 fun z => ⟨fun hz => ?_, fun hz => ?_⟩]
    · rcases List.mem_cons.mp ((h z).mp (List.mem_cons_of_mem _ hz)) with e | q
      · exact (nx z hz e).elim
      · exact q
    · rcases List.mem_cons.mp ((h z).mpr (List.mem_cons_of_mem _ hz)) with e | q
      · exact (ny z hz e).elim
      · exact q
def leE (a b : Edge) : Bool := dataLe false edgeD a b
theorem leE_eq (a b : Edge) : leE a b = !ltE b a := rfl
theorem sortE_asc {l : List Edge} (nd : l.Nodup) : AscE (l.mergeSort leE) := by
  have tot : ∀ a b : Edge, (leE a b || leE b a) = true := fun a b => by
    rw [leE_eq, leE_eq]
    cases h : ltE b a with
    | false => rfl
    | true => rw [ltE_asym h]; rfl
  have tr : ∀ a b c : Edge, leE a b = true → leE b c = true → leE a c = true := fun a b c h1 h2 => by
    rw [leE_eq] at h1 h2 ⊢
    cases h : ltE c a with
    | false => rfl
    | true =>
      rcases PyProof.Rows.lex_negTrans _ (keyToks (edgeD b)) _ h with z | z
      · have z' : ltE c b = true := z
        rw [z'] at h2; cases h2
      · have z' : ltE b a = true := z
        rw [z'] at h1; cases h1
  have pw := List.pairwise_mergeSort tr tot l
  have nd2 : (l.mergeSort leE).Nodup := (List.mergeSort_perm l leE).nodup_iff.mpr nd
  refine List.Pairwise.imp₂ (R := fun a b => leE a b = true) (S := fun a b => a ≠ b) (fun {a b} h1 h2 => ?_) pw nd2
  cases h : ltE a b with
  | true => rfl
  | false =>
    rw [leE_eq] at h1
    have h3 : ltE b a = false := by cases z : ltE b a with
      | false => rfl
      | true => rw [z] at h1; cases h1
    exact absurd (ltE_total h h3) h2
theorem mem_sortE {l : List Edge} (x : Edge) : x ∈ l.mergeSort leE ↔ x ∈ l := (List.mergeSort_perm l leE).mem_iff
end K1
namespace K1
open PySem L2 PySem.W PyProof.Rows
/-! sorted(edges) -/
abbrev leA (x y : Addr × Edge) : Bool := dataLe false (fun b : Addr × Edge => edgeD b.2) x y
def sortA (eds : List (Addr × Edge)) : List (Addr × Edge) := eds.mergeSort leA
theorem sortA_snd (eds : List (Addr × Edge)) : (sortA eds).map (·.2) = (eds.map (·.2)).mergeSort leE :=
  List.map_mergeSort (r := leA) (s := leE) (f := fun e : Addr × Edge => e.2) (l := eds) (fun _ _ _ _ => rfl)
theorem mem_sortA {eds : List (Addr × Edge)} (x : Addr × Edge) : x ∈ sortA eds ↔ x ∈ eds := (List.mergeSort_perm eds leA).mem_iff
def rSortedE (K : PySem.W.Frag) : List V → Hp → VK → Prop := fun vs H Q => ∃ (a : Addr) (eds : List (Addr × Edge)), vs = [V.ref a] ∧ SqL K H a (edsV eds) ∧ EdsAt H eds ∧ ∀ p, H p = none → Q (.ref p) (upd H p (.lst (edsV (sortA eds))))
theorem each_ref : ∀ {us : List Value} {eds : List (Addr × Edge)}, Vals (edsV eds) us → EachIs (fun v (b : Addr × Edge) => v = Value.ref b.1) us eds
  | us, [], r => by cases r; exact .nil
  | us, e :: l, r => by
    cases r with
    | cons h1 h2 => exact .cons h1 (each_ref h2)
theorem ref_each : ∀ {us : List Value} {eds : List (Addr × Edge)}, EachIs (fun v (b : Addr × Edge) => v = Value.ref b.1) us eds → Vals (edsV eds) us
  | _, _, .nil => .nil
  | _, _, .cons h1 h2 => .cons h1 (ref_each h2)
theorem each_rd {X : Cx} {pins : List (Addr × Obj)} {σ : L2.St} {H : Hp} {s : Shared} (I : Inv X pins σ H s) : ∀ {us : List Value} {eds : List (Addr × Edge)}, EachIs (fun v (b : Addr × Edge) => v = Value.ref b.1) us eds → EdsAt H eds → EachIs (fun v (b : Addr × Edge) => ∃ as, Reads s.heap v (edgeD b.2) as) us eds
  | _, _, .nil, _ => .nil
  | _, _, .cons h1 h2, h => .cons (by subst h1; exact Dp.reads I _ (V.ref _) _ (dp_edge (h _ List.mem_cons_self)) rfl) (each_rd I h2 fun b hb => h b (List.mem_cons_of_mem _ hb))
theorem cr_sortedE {X : Cx} (hu : X.A.units + 64 < cLine) : CallR X (.builtin "sorted") (rSortedE X.K) := by
  intro pins s σ H vs us Q I r h
  obtain ⟨a, eds, rfl, hs, he, q⟩ := h
  obtain ⟨its, rv, hl, hz⟩ := I.list hs
  obtain ⟨u, rfl, ru⟩ := vals1 r
  obtain rfl : u = Value.ref a := ru
  have hlen : (edsV eds).length = eds.length := by simp [edsV]
  refine sorted_data (R := fun v (b : Addr × Edge) => v = Value.ref b.1) (enc := fun b : Addr × Edge => edgeD b.2) (bs := eds) hl.isList (each_ref rv) (each_rd I (each_ref rv) he) (AllAlike.of fun b b' => by simp [edgeD, alike, alikeAll]) (Sortable.tuples fun b => ⟨_, _, rfl⟩) (by omega) ?_ ?_
  · intro b hb
    have : (edgeD b.2).depth = 1 := by simp [edgeD, PyData.depth, PyData.depthAll]
    show X.A.units + 2 + (edgeD b.2).depth < cLine
    omega
  · intro out _ ho
    obtain ⟨n, hn⟩ := sortedAll_at s.heap its out.toArray
    have hd : s.heap.objs.size ≤ s.heap.objs.size + 1 := Nat.le_succ _
    have l2 : (edsV (sortA eds)).length ≤ sizeLine := by
      have : (sortA eds).length = eds.length := (List.mergeSort_perm eds leA).length_eq
      simp only [edsV, List.length_map, this]
      omega
    exact ⟨.ref (s.heap.objs.size + 1), upd H (s.heap.objs.size + 1) (.lst (edsV (sortA eds))), I.laid (t' := s.toks) (fun b o e => sortedAll_old e) hd ⟨l2, out, n, ref_each ho, hn⟩, rfl, q _ (I.hok.fresh hd)⟩
end K1
namespace K1
open PySem L2 PySem.W PyProof.Rows
/-! sorted(texts) -/
theorem ltS_eq (a b : Str) : dataLt (.str a) (.str b) = ltb a b := by
  rw [dataLt_str, ← ltc_dec]
  rfl
def leS (a b : Str) : Bool := dataLe false PyData.str a b
theorem leS_eq (a b : Str) : leS a b = !ltb b a := by
  show (!dataLt (.str b) (.str a)) = _
  rw [ltS_eq]
theorem ltbS_irrefl (a : Str) : ltb a a = false := ltc_irrefl _
theorem ltbS_trans {a b c : Str} (h1 : ltb a b = true) (h2 : ltb b c = true) : ltb a c = true := ltc_trans h1 h2
theorem ltbS_asym {a b : Str} (h1 : ltb a b = true) : ltb b a = false := by
  cases h : ltb b a with
  | false => rfl
  | true => have := ltbS_trans h1 h; rw [ltbS_irrefl] at this; cases this
theorem ltbS_total {a b : Str} (h1 : ltb a b = false) (h2 : ltb b a = false) : a = b := str_ext (ltc_total h1 h2)
theorem sortS_asc {l : List Str} (nd : l.Nodup) : Asc (l.mergeSort leS) := by
  have tot : ∀ a b : Str, (leS a b || leS b a) = true := fun a b => by
    rw [leS_eq, leS_eq]
    cases h : ltb b a with
    | false => rfl
    | true => rw [ltbS_asym h]; rfl
  have tr : ∀ a b c : Str, leS a b = true → leS b c = true → leS a c = true := fun a b c h1 h2 => by
    rw [leS_eq] at h1 h2 ⊢
    cases h : ltb c a with
    | false => rfl
    | true =>
      have h1' : ltb b a = false := by cases z : ltb b a with | false => rfl | true => rw [z] at h1; cases h1
      have h2' : ltb c b = false := by cases z : ltb c b with | false => rfl | true => rw [z] at h2; cases h2
      cases z : ltb a b with
      | true => rw [ltbS_trans h z] at h2'; cases h2'
      | false =>
        have := ltbS_total z h1'
        subst this
        rw [h] at h2'; cases h2'
  have pw := List.pairwise_mergeSort tr tot l
  have nd2 : (l.mergeSort leS).Nodup := (List.mergeSort_perm l leS).nodup_iff.mpr nd
  refine List.Pairwise.imp₂ (R := fun a b => leS a b = true) (S := fun a b => a ≠ b) (fun {a b} h1 h2 => ?_) pw nd2
  cases h : ltb a b with
  | true => rfl
  | false =>
    rw [leS_eq] at h1
    have h3 : ltb b a = false := by cases z : ltb b a with | false => rfl | true => rw [z] at h1; cases h1
    exact absurd (ltbS_total h h3) h2
theorem dp_to_strs {K : PySem.W.Frag} {H : Hp} : ∀ {ys : List V} {l : List Str}, DpAll K H ys (l.map PyData.str) → ys = l.map V.str
  | ys, [], h => by cases h; rfl
  | ys, s :: l, h => by
    rw [List.map_cons] at h
    cases h with
    | cons h1 h2 =>
      cases h1
      rw [dp_to_strs h2]; rfl
/-- sorted(xs), xs a list of texts -/
def rSortedS (K : PySem.W.Frag) : List V → Hp → VK → Prop := fun vs H Q => ∃ (a : Addr) (l : List Str), vs = [V.ref a] ∧ SqL K H a (l.map V.str) ∧ ∀ p, H p = none → Q (.ref p) (upd H p (.lst ((l.mergeSort leS).map V.str)))
theorem cr_sortedS {X : Cx} (hu : X.A.units + 64 < cLine) : CallR X (.builtin "sorted") (rSortedS X.K) := by
  intro pins s σ H vs us Q I r h
  obtain ⟨a, l, rfl, hs, q⟩ := h
  refine K2.cr_sortedD hu pins s σ H _ us Q I r ⟨a, _, Str, l, PyData.str, rfl, hs, dp_strs l, AllAlike.of (fun b b' => by simp [alike]), Sortable.others (fun b => ⟨by simp, by simp⟩), fun b _ => by simp [PyData.depth], fun ys p pm hd hp => ?_⟩
  have e : ys = (l.mergeSort leS).map V.str := dp_to_strs (K := X.K) (H := H) hd
  rw [e]
  exact q p hp
end K1
namespace K1
open PySem L2
section
variable {P : Program} {w : World} {K : PySem.W.Frag} {mg : Str → Option Value} {base : Heap}
/-! ### _law_vocab, its words distinct -/
def spVocN : Sp := fun vs H Q _ => ∃ (d a : Addr) (m : Int), vs = [.ref d, .int m] ∧ DrawAt H d a ∧ 0 ≤ m ∧ m ≤ 3 ∧ ∀ H' l ws, wsOk ws m → But [d] H H' → DrawAt H' d a → H' l = some (.lst (ws.map V.str)) → H l = none → Q (.ref l) H'
where wsOk (ws : List Str) (m : Int) : Prop := (ws.length : Int) = m ∧ (∀ x ∈ ws, wordOk x = true) ∧ ws.Nodup
theorem ok_vocN (D : Defs K mg) : FnOk P w K mg base CX0 6 D.d_law_vocab.f D.d_law_vocab.fd ["draw", "many"] spVocN := by
  have GW := ok_word (P := P) (w := w) (base := base) D
  refine D.d_law_vocab.F.ok sc_law_vocab (fun vs H Q E h => ?_) (fun cdv A outer s H vs Q E hr h => ?_)
  · obtain ⟨d, a, m, rfl, _⟩ := h
    rfl
  obtain ⟨d, a, m, rfl, hd, m0, m3, q⟩ := h
  refine ⟨_, (pss_cons (ps_set (i := 2) sc_law_vocab.nd rfl (Or.inr rfl) (pe_lst pa_nil))
      (pss_cons (ps_for PassesOwn.never rfl (pi_range1 rfl D.z_range (pa_cons (pv 1) pa_nil)) (pg_name (i := 3) sc_law_vocab.nd rfl (Or.inl rfl)) (pss_cons (ps_set (i := 4) sc_law_vocab.nd rfl (Or.inl rfl) (pe_call GW hr rfl D.d_law_word.m D.d_law_word.F.kp D.d_law_word.b .nil pass0 (pa_cons (pv 0) pa_nil)))
      (pss_cons (ps_setLc (i := 5) (own := [("one", 6)]) (g := gName 6) rfl sc_law_vocab.nd rfl rfl (sw_true rfl rfl rfl (by decide +kernel)) (pi_tup (pe_tup (pa_cons pe_str (pa_cons pe_str (pa_cons pe_str (pa_cons pe_str (pa_cons pe_str (pa_cons pe_str pa_nil)))))))) (blkOk_by (N := ["draw", "many", "found", "turn", "word", "spare", "one"]) (sc := defScope s_law_vocab) (by decide +kernel)) (fun _ _ _ _ _ => pg_name (i := 6) sc_law_vocab.nd rfl (Or.inl rfl)) (fun _ _ _ _ _ => pts_one (pt_cmpR (op_notInTK (K := K) rfl) (pv 6) (pv 2) (by rfl))) (fun _ _ _ _ _ => (pv 6)))
      (pss_one (ps_expr (pe_bm PySem.F.plainAttrs_list PySem.F.slot_list_append PySem.F.type_list_append mt_append (pv 2) (pa_cons (pe_ifExp (pt_cmpR op_inT (pv 4) (pv 2) (by rfl)) (pe_ix ix_list (pv 5) pe_int (fun _ _ => rfl)) (pv 4)) pa_nil)))))))
      (pss_one (ps_ret (pv 2))))), ?_⟩
  refine ⟨(by show 0 ≤ sizeLine; decide), fun l hl => ?_⟩
  obtain ⟨nld, nla⟩ := hd.new hl
  refine ⟨_, rfl, m, rfl, (by show -(2 ^ 62) ≤ m; omega), (by show m < 2 ^ 62; omega), for_range (lo := 0) (n := m.toNat) (fun i σ H2 => But [l, d] (upd H l (.lst [])) H2 ∧ DrawAt H2 d a ∧ (∃ o3 o4 o5 o6, σ = [some (.ref d), some (.int m), some (.ref l), o3, o4, o5, o6]) ∧ ∃ ws : List Str, ws.length = i ∧ (∀ x ∈ ws, wordOk x = true) ∧ ws.Nodup ∧ H2 l = some (.lst (ws.map V.str)))
    ⟨But.refl _, hd.same (same_new hl _), ⟨none, none, none, none, rfl⟩, [], rfl, (fun x hx => by cases hx), List.nodup_nil, upd_same⟩ ?_ ?_⟩
  · rintro i σ H2 hi ⟨b2, hd2, ⟨o3, o4, o5, o6, rfl⟩, ws, li, ok, nd, hw⟩
    have hi3 : i < 3 := by omega
    refine ⟨_, rfl, d, a, rfl, hd2, fun H3 wd wok b3 hd3 => ?_⟩
    have hw3 := b3 _ _ (by simpa using nld) hw
    refine ⟨(by show 6 ≤ sizeLine; decide), fun t ht => ⟨t, rfl, ⟨_, SqT.of upd_same⟩, fun D0 hD => ?_⟩⟩
    have gt := same_new ht (.tup (cand.map V.str))
    have hdt := hd3.same gt
    obtain ⟨nDd, nDa⟩ := hdt.new hD
    have nlD : l ≠ D0 := ne_of_none (gt _ _ hw3) hD
    have ntD : t ≠ D0 := ne_of_none upd_same hD
    refine lc_tup (K := K) (a := t) (xs := cand.map V.str) (fun j H4 => But [D0] (upd (upd H3 t (.tup (cand.map V.str))) D0 (.lst [])) H4 ∧ H4 D0 = some (.lst (((cand.take j).filter (fun x => !decide (x ∈ ws))).map V.str)))
      ⟨But.refl _, upd_same⟩ (fun j H4 _ hh => SqT.of (hh.1 _ _ (by simpa using ntD) (by rw [upd_ne ntD]; exact upd_same))) ?_ ?_
    · rintro j x H4 hj ⟨b4, h4⟩
      obtain ⟨y, hy, rfl⟩ : ∃ y, cand[j]? = some y ∧ V.str y = x := by
        rw [List.getElem?_map] at hj
        cases e : cand[j]? with
        | none => rw [e] at hj; cases hj
        | some y => rw [e] at hj; exact ⟨y, rfl, Option.some.inj hj⟩
      have hw4 : H4 l = some (.lst (ws.map V.str)) := b4 _ _ (by simpa using nlD) (by rw [upd_ne nlD]; exact gt _ _ hw3)
      refine ⟨rfl, _, rfl, _, rfl, y, l, ws, rfl, rfl, .inl (SqL.of hw4), _, rfl, ?_⟩
      rw [take_more hy, List.filter_append]
      by_cases c : y ∈ ws
      · rw [decide_eq_true c]
        refine iteF ⟨b4, ?_⟩
        rw [h4]
        simp [c]
      · rw [decide_eq_false c]
        refine iteT ⟨_, rfl, _, h4, ?_, b4.trans (But.put (by simp)), ?_⟩
        · rw [List.length_map]
          refine Nat.lt_of_le_of_lt (List.length_filter_le _ _) ?_
          rw [List.length_take]
          exact small1000 (by show min j cand.length ≤ 1000; have : cand.length = 6 := rfl; omega)
        · rw [upd_same]
          simp [c]
    · rintro H4 ⟨b4, h4⟩
      rw [List.length_map, List.take_length] at h4
      have g34 : Same H3 H4 := fun e o z => by
        have z4 := gt _ _ z
        exact b4 e o (by simp only [List.mem_singleton]; exact ne_of_none z4 hD) (by rw [upd_ne (ne_of_none z4 hD)]; exact z4)
      have hw4 := g34 _ _ hw3
      have hd4 := hd3.same g34
      have fr := cand_free (ws := ws) (by omega)
      have hlen : (ws.map V.str).length < sizeLine := by rw [List.length_map]; exact small1000 (by omega)
      have done : ∀ y : Str, wordOk y = true → y ∉ ws → But [l, d] (upd H l (.lst [])) (upd H4 l (.lst (ws.map V.str ++ [V.str y]))) ∧ DrawAt (upd H4 l (.lst (ws.map V.str ++ [V.str y]))) d a ∧ ∃ ws' : List Str, ws'.length = i + 1 ∧ (∀ x ∈ ws', wordOk x = true) ∧ ws'.Nodup ∧ (upd H4 l (.lst (ws.map V.str ++ [V.str y]))) l = some (.lst (ws'.map V.str))   := fun y hy hny => by
        refine ⟨((b2.trans (b3.mono (by simp))).trans (But.of g34)).trans (But.put (by simp)), hd4.upd nld nla, ws ++ [y], by rw [List.length_append, li]; rfl, fun x hx => ?_, List.nodup_append.mpr ⟨nd, by simp, fun x hx z hz e => hny (by rw [List.mem_singleton.mp hz] at e; rw [← e]; exact hx)⟩, by rw [upd_same, List.map_append]; rfl⟩
        rcases List.mem_append.mp hx with hx | hx
        · exact ok x hx
        · simp only [List.mem_singleton] at hx; subst hx; exact hy
      refine ⟨_, rfl, .inl ⟨rfl, _, SqL.of hw4⟩, _, rfl, _, rfl, wd, l, ws, rfl, rfl, .inl (SqL.of hw4), _, rfl, ?_⟩
      by_cases c : wd ∈ ws
      · rw [decide_eq_true c]
        cases ef : cand.filter (fun x => !decide (x ∈ ws)) with
        | nil => exact (fr ef).elim
        | cons y r =>
          rw [ef] at h4
          have hy : wordOk y = true := cand_ok y (List.mem_filter.mp (show y ∈ cand.filter (fun x => !decide (x ∈ ws)) by rw [ef]; simp)).1
          have hny : y ∉ ws := by
            have := (List.mem_filter.mp (show y ∈ cand.filter (fun x => !decide (x ∈ ws)) by rw [ef]; simp)).2
            simpa using this
          obtain ⟨e1, e2, e3⟩ := done y hy hny
          refine iteT ⟨_, rfl, D0, _, _, _, rfl, rfl, SqL.of h4, atI_nat (j := 0) rfl, l, _, _, rfl, rfl, hw4, hlen, ?_⟩
          exact ⟨e1, e2, ⟨_, _, _, _, rfl⟩, e3⟩
      · rw [decide_eq_false c]
        obtain ⟨e1, e2, e3⟩ := done wd wok c
        refine iteF ⟨_, rfl, l, _, _, rfl, rfl, hw4, hlen, ?_⟩
        exact ⟨e1, e2, ⟨_, _, _, _, rfl⟩, e3⟩
  · rintro σ H2 ⟨b2, hd2, ⟨o3, o4, o5, o6, rfl⟩, ws, li, ok, nd, hw⟩
    refine ⟨_, rfl, q H2 l ws ⟨by omega, ok, nd⟩ (((But.new hl).trans b2).drop hl) hd2 hw hl⟩
end
end K1
namespace K1
open PySem L2
section
variable {P : Program} {w : World} {K : PySem.W.Frag} {mg : Str → Option Value} {base : Heap}
/-! ### _law_world -/
structure Drawn (H : Hp) (tf te : Addr) (N R : List Str) (n m : Nat) (rows : List (Addr × List Str)) (eds : List (Addr × Edge)) : Prop where
  hf : H tf = some (.lst (rowsV rows))
  he : H te = some (.lst (edsV eds))
  rat : RowsAt H rows
  eat : EdsAt H eds
  rok : ∀ r ∈ rows, Asc r.2 ∧ (∀ x ∈ r.2, x ∈ N) ∧ r.2.length ≤ N.length
  rn : rows.length = n
  eok : ∀ e ∈ eds, e.2.a < m ∧ e.2.b < m ∧ e.2.r ∈ R
theorem Drawn.keep {H H' : Hp} {tf te : Addr} {N R : List Str} {n m : Nat} {rows : List (Addr × List Str)} {eds : List (Addr × Edge)} (h : Drawn H tf te N R n m rows eds) (e1 : H' tf = H tf) (e2 : H' te = H te) (t : TSame H H') : Drawn H' tf te N R n m rows eds :=
  ⟨e1.trans h.hf, e2.trans h.he, fun r hr => t _ _ (h.rat r hr), fun e he => t _ _ (h.eat e he), h.rok, h.rn, h.eok⟩
theorem Drawn.same {H H' : Hp} {tf te : Addr} {N R : List Str} {n m : Nat} {rows : List (Addr × List Str)} {eds : List (Addr × Edge)} (h : Drawn H tf te N R n m rows eds) (e : Same H H') : Drawn H' tf te N R n m rows eds :=
  ⟨e _ _ h.hf, e _ _ h.he, fun r hr => e _ _ (h.rat r hr), fun x hx => e _ _ (h.eat x hx), h.rok, h.rn, h.eok⟩
theorem any_edge (l : List Edge) (e : Edge) : ((l.map edgeD).any fun z => PyData.eqv z (edgeD e)) = decide (e ∈ l) := by
  rw [Bool.eq_iff_iff, List.any_eq_true, decide_eq_true_eq]
  constructor
  · rintro ⟨z, hz, h⟩
    obtain ⟨f, hf, rfl⟩ := List.mem_map.mp hz
    rw [eqv_edge, decide_eq_true_eq] at h
    rw [← h]; exact hf
  · intro h
    exact ⟨edgeD e, List.mem_map.mpr ⟨e, h, rfl⟩, by rw [eqv_edge]; simp⟩
theorem room65 {k : Nat} {A : Around} (r : Room k A) : A.units + 65 < cLine := by have := r.un; omega
def spLWorld : Sp := fun vs H Q _ => ∃ (d a tn tr : Addr) (N R : List Str) (m : Nat), vs = [.ref d, .ref tn, .ref tr, .int (m : Nat)] ∧ DrawAt H d a ∧ Names H d tn tr N R ∧ Voc2 N R ∧ N.Nodup ∧ m ≤ 9 ∧ 0 < m ∧
  ∀ H' p tf te rows eds, But [d] H H' → DrawAt H' d a → H p = none → H tf = none → H te = none → p ≠ tf → p ≠ te → tf ≠ te → H' p = some (.lst [.ref tf, .ref te]) → Drawn H' tf te N R m m rows eds → AscE (eds.map (·.2)) → eds.length ≤ 3 * m → Q (.ref p) H'
theorem ok_lworld (D : Defs K mg) : FnOk P w K mg base CX0 5 D.d_law_world.f D.d_law_world.fd ["draw", "names", "roles", "many"] spLWorld := by
  have GP := ok_pick (P := P) (w := w) (base := base) D
  have GX := ok_next (P := P) (w := w) (base := base) D
  refine D.d_law_world.F.ok sc_law_world (fun vs H Q E h => ?_) (fun cdv A outer s H vs Q E hr h => ?_)
  · obtain ⟨d, a, tn, tr, N, R, m, rfl, _⟩ := h
    rfl
  obtain ⟨d, a, tn, tr, N, R, m, rfl, hd, hN, vo, nd, m9, m0, q⟩ := h
  have hr3 : Room 3 _ := hr.mono (by omega)
  have hu65 := room65 hr
  refine ⟨_, (pss_cons (ps_par (i := 4) (j := 5) (by rfl) sc_law_world.nd rfl rfl (by decide) rfl rfl (pa_cons (pe_lst pa_nil) (pa_cons (pe_lst pa_nil) pa_nil)) (by rfl))
      (pss_cons (ps_for PassesOwn.never rfl (pi_range1 rfl D.z_range (pa_cons (pv 3) pa_nil)) (pg_name (i := 6) sc_law_world.nd rfl (Or.inl rfl)) (pss_cons (ps_expr (pe_bm PySem.F.plainAttrs_list PySem.F.slot_list_append PySem.F.type_list_append mt_append (pv 4) (pa_cons (pe_callTy call_tuple_of (by rfl) D.z_tuple (by decide +kernel) (pa_cons (pe_callB (cr_sortedS hr.units) (by rfl) D.z_sorted (by decide +kernel) (pa_cons (pe_lc (own := [("name", 9)]) (g := gName 9) rfl sc_law_world.nd (pi_list (pv 1)) (blkOk_by (N := ["draw", "names", "roles", "many", "found", "edges", "thing", "turn", "edge", "name"]) (sc := defScope s_law_world) (by decide +kernel)) (fun _ _ _ _ _ => pg_name (i := 9) sc_law_world.nd rfl (Or.inl rfl)) (fun _ _ _ _ _ => pts_one (pt_cmpR op_eq (pe_call GX hr3 rfl D.d_law_next.m D.d_law_next.F.kp D.d_law_next.b .nil pass0 (pa_cons (pv 0) (pa_cons pe_int pa_nil))) pe_int (nomark _))) (fun _ _ _ _ _ => (pv 9))) pa_nil)) pa_nil)) pa_nil)))
      (pss_one (ps_for PassesOwn.never rfl (pi_range1 rfl D.z_range (pa_cons (pe_ifExp (pt_cmpR (op_neD hr.units) (pv 2) (pe_lst pa_nil) (nomark _)) (pe_call GX hr3 rfl D.d_law_next.m D.d_law_next.F.kp D.d_law_next.b .nil pass0 (pa_cons (pv 0) (pa_cons pe_int pa_nil))) pe_int) pa_nil)) (pg_name (i := 7) sc_law_world.nd rfl (Or.inl rfl)) (pss_cons (ps_set (i := 8) sc_law_world.nd rfl (Or.inl rfl) (pe_tup (pa_cons (pv 6) (pa_cons (pe_call GP hr rfl D.d_law_pick.m D.d_law_pick.F.kp D.d_law_pick.b .nil pass0 (pa_cons (pv 0) (pa_cons (pv 2) pa_nil))) (pa_cons (pe_call GX hr3 rfl D.d_law_next.m D.d_law_next.F.kp D.d_law_next.b .nil pass0 (pa_cons (pv 0) (pa_cons (pv 3) pa_nil))) pa_nil)))))
      (pss_one (ps_if (pt_cmpR (op_notInD hu65) (pv 8) (pv 5) (by rfl)) (pss_one (ps_expr (pe_bm PySem.F.plainAttrs_list PySem.F.slot_list_append PySem.F.type_list_append mt_append (pv 5) (pa_cons (pv 8) pa_nil)))) pss_nil)))))))
      (pss_one (ps_ret (pe_lst (pa_cons (pv 4) (pa_cons (pe_callB (cr_sortedE hr.units) (by rfl) D.z_sorted (by decide +kernel) (pa_cons (pv 5) pa_nil)) pa_nil))))))), ?_⟩
  refine ⟨(by show 0 ≤ sizeLine; decide), fun tf htf => ⟨(by show 0 ≤ sizeLine; decide), fun te hte => ⟨_, _, rfl, ?_⟩⟩⟩
  have g1 := same_new htf (.lst [])
  have g2 := g1.trans (same_new hte (.lst []))
  have tfte : tf ≠ te := ne_of_none upd_same hte
  have hte0 : H te = none := by rw [upd_ne tfte.symm] at hte; exact hte
  obtain ⟨tfd, tfa⟩ := hd.new htf
  obtain ⟨ted, tea⟩ := hd.new hte0
  have tntf : tn ≠ tf := ne_of_none hN.n htf
  have tnte : tn ≠ te := ne_of_none hN.n hte0
  have trtf : tr ≠ tf := ne_of_none hN.r htf
  have trte : tr ≠ te := ne_of_none hN.r hte0
  refine ⟨_, rfl, ((m : Nat) : Int), rfl, (by show -(2 ^ 62) ≤ ((m : Nat) : Int); omega), (by show ((m : Nat) : Int) < 2 ^ 62; omega), for_range (lo := 0) (n := ((m : Nat) : Int).toNat) (fun i σ H2 => ∃ o6 o7 o8 rows eds, σ = [some (.ref d), some (.ref tn), some (.ref tr), some (.int (m : Nat)), some (.ref tf), some (.ref te), o6, o7, o8, none] ∧
    But [tf, te, d] (upd (upd H tf (.lst [])) te (.lst [])) H2 ∧ DrawAt H2 d a ∧ Drawn H2 tf te N R i m rows eds ∧ (eds.map (·.2)).Nodup ∧ eds.length ≤ 3 * i)
    ⟨none, none, none, [], [], rfl, But.refl _, (hd.same g2), ⟨by rw [upd_ne tfte]; exact upd_same, upd_same, fun r h => by simp at h, fun r h => by simp at h, fun r h => by simp at h, rfl, fun r h => by simp at h⟩, List.nodup_nil, Nat.zero_le _⟩ ?_ ?_⟩
  · rintro i σ H2 hi ⟨o6, o7, o8, rows, eds, rfl, b2, hd2, dr, nde, le3⟩
    have im : i < m := by omega
    have hn2 : H2 tn = some (.lst (N.map V.str)) := b2 _ _ (by simp [tntf, tnte, hN.nd]) (g2 _ _ hN.n)
    have hr2 : H2 tr = some (.lst (R.map V.str)) := b2 _ _ (by simp [trtf, trte, hN.rd]) (g2 _ _ hN.r)
    refine ⟨_, rfl, .inl ⟨rfl, _, SqL.of dr.hf⟩, _, rfl, tn, rfl, ⟨_, SqL.of hn2⟩, fun D0 hD => ?_⟩
    obtain ⟨Dd, Da⟩ := hd2.new hD
    have tnD : tn ≠ D0 := ne_of_none hn2 hD
    refine lc_list (K := K) (a := tn) (xs := N.map V.str) (fun j H4 => But [D0, d] (upd H2 D0 (.lst [])) H4 ∧ DrawAt H4 d a ∧ ∃ l : List Str, H4 D0 = some (.lst (l.map V.str)) ∧ l.Sublist (N.take j)) ⟨But.refl _, hd2.same (same_new hD _), [], upd_same, List.nil_sublist _⟩
      (fun j H4 _ h => SqL.of (h.1 _ _ (by simp [tnD, hN.nd]) (by rw [upd_ne tnD]; exact hn2))) ?_ ?_
    · rintro j x H4 hj ⟨b4, hd4, l, hl, sl⟩
      rw [List.getElem?_map] at hj
      obtain ⟨y, hy, rfl⟩ := Option.map_eq_some_iff.mp hj
      refine ⟨rfl, _, rfl, d, a, 3, rfl, (by decide), hd4, fun H5 r b5 hd5 r0 r3 => ⟨rfl, _, rfl, ?_⟩⟩
      have hl5 := b5 _ _ (by simpa using Dd) hl
      have b45 := b4.trans (b5.mono (D' := [D0, d]) (by simp))
      rw [take_more hy]
      refine ite2 (fun _ => ⟨_, rfl, _, hl5, ?_, b45.trans (But.put (by simp)), hd5.upd Dd Da, l ++ [y], by rw [upd_same, List.map_append]; rfl, sl.append (List.Sublist.refl _)⟩) (fun _ => ⟨b45, hd5, l, hl5, sl.trans (List.sublist_append_left _ _)⟩)
      have := sl.length_le
      rw [List.length_take] at this
      have := vo.ln
      rw [List.length_map]
      exact small1000 (by omega)
    · rintro H4 ⟨b4, hd4, l, hl, sl⟩
      rw [List.length_map, List.take_length] at sl
      refine ⟨D0, l, rfl, SqL.of hl, fun p1 hp1 => ⟨p1, _, rfl, .inl ⟨SqL.of upd_same, fun t1 ht1 => ?_⟩⟩⟩
      have b24 : But [d] H2 H4 := ((But.new (D := [D0, d]) hD).trans b4).drop hD
      have t24 : TSame H2 H4 := b24.t hd2.nt
      have tf4 : H4 tf = H2 tf := by rw [dr.hf]; exact b24 _ _ (by simpa using tfd) dr.hf
      have te4 : H4 te = H2 te := by rw [dr.he]; exact b24 _ _ (by simpa using ted) dr.he
      have dr4 := dr.keep tf4 te4 t24
      have s5 := same_new hp1 (.lst ((l.mergeSort leS).map V.str))
      have s6 := s5.trans (same_new ht1 (.tup ((l.mergeSort leS).map V.str)))
      have dr6 := dr4.same s6
      have hd6 := hd4.same s6
      have t1tf : t1 ≠ tf := fun z => by
        have := s5 _ _ dr4.hf
        rw [← z, ht1] at this; cases this
      have hsl : rows.length ≤ 1000 := by have := dr.rn; omega
      refine ⟨tf, _, _, rfl, rfl, dr6.hf, by rw [show (rowsV rows).length = rows.length by simp [rowsV]]; exact small1000 hsl, ?_⟩
      have erow : rowsV rows ++ [V.ref t1] = rowsV (rows ++ [(t1, l.mergeSort leS)]) := by simp [rowsV]
      rw [erow]
      have b67 : But [tf] _ (upd (upd (upd H4 p1 (.lst ((l.mergeSort leS).map V.str))) t1 (.tup ((l.mergeSort leS).map V.str))) tf (.lst (rowsV (rows ++ [(t1, l.mergeSort leS)])))) := But.put (by simp)
      have t67 := b67.t (fun e he xs z => by simp only [List.mem_singleton] at he; rw [he, dr6.hf] at z; cases z)
      have ms : ∀ x, x ∈ l.mergeSort leS ↔ x ∈ l := fun x => (List.mergeSort_perm l leS).mem_iff
      have dr7 : Drawn (upd (upd (upd H4 p1 (.lst ((l.mergeSort leS).map V.str))) t1 (.tup ((l.mergeSort leS).map V.str))) tf (.lst (rowsV (rows ++ [(t1, l.mergeSort leS)])))) tf te N R (i + 1) m (rows ++ [(t1, l.mergeSort leS)]) eds := by
        refine ⟨upd_same, by rw [upd_ne tfte.symm]; exact dr6.he, fun r hr => ?_, fun e he => t67 _ _ (dr6.eat e he), fun r hr => ?_, by rw [List.length_append, dr.rn]; rfl, dr.eok⟩
        · rcases List.mem_append.mp hr with z | z
          · exact t67 _ _ (dr6.rat r z)
          · rw [List.mem_singleton.mp z]
            show upd _ tf _ t1 = _
            rw [upd_ne t1tf]; exact upd_same
        · rcases List.mem_append.mp hr with z | z
          · exact dr.rok r z
          · rw [List.mem_singleton.mp z]
            exact ⟨sortS_asc (nd.sublist sl), fun x hx => sl.subset ((ms x).mp hx), by rw [(List.mergeSort_perm l leS).length_eq]; exact sl.length_le⟩
      have b07 : But [tf, te, d] (upd (upd H tf (.lst [])) te (.lst [])) (upd (upd (upd H4 p1 (.lst ((l.mergeSort leS).map V.str))) t1 (.tup ((l.mergeSort leS).map V.str))) tf (.lst (rowsV (rows ++ [(t1, l.mergeSort leS)])))) := ((b2.trans (b24.mono (by simp))).trans (But.of s6)).trans (b67.mono (by simp))
      have hd7 := hd6.upd (o := .lst (rowsV (rows ++ [(t1, l.mergeSort leS)]))) tfd tfa
      have hr7 := b07 _ _ (by simp [trtf, trte, hN.rd]) (g2 _ _ hN.r)
      refine ⟨_, rfl, (by show 0 ≤ sizeLine; decide), fun p2 hp2 => ?_⟩
      have g8 := same_new hp2 (.lst [])
      refine ⟨.list (strsD R), .list [], .lst (SqL.of (g8 _ _ hr7)) (dp_strs R), .lst (SqL.of upd_same) .nil, ?_, rfl, _, rfl, ?_⟩
      · refine shaped_of (by show PyData.canLayAll0 (strsD R) = true; exact lay_strs fun x hx => word_strOk (vo.r x hx)) ?_
        show PyData.depthAll (strsD R) + 1 ≤ 64
        rw [depth_strs]
        decide
      have eR : PyData.eqv (.list (strsD R)) (.list []) = false := by
        have := vo.pr
        cases R with
        | nil => cases this
        | cons x r => rfl
      rw [eR]
      refine iteT ⟨_, rfl, d, a, 4, rfl, (by decide), hd7.same g8, fun H9 k b9 hd9 k0 k4 => ?_⟩
      refine ⟨k, rfl, (by show -(2 ^ 62) ≤ k; omega), (by show k < 2 ^ 62; omega), for_range (lo := 0) (n := k.toNat) (fun j σ H5 => ∃ o7 o8 eds, σ = [some (.ref d), some (.ref tn), some (.ref tr), some (.int (m : Nat)), some (.ref tf), some (.ref te), some (.int (0 + (i : Nat))), o7, o8, none] ∧
        But [tf, te, d] (upd (upd H tf (.lst [])) te (.lst [])) H5 ∧ DrawAt H5 d a ∧ Drawn H5 tf te N R (i + 1) m (rows ++ [(t1, l.mergeSort leS)]) eds ∧ (eds.map (·.2)).Nodup ∧ eds.length ≤ 3 * i + j)
        ⟨o7, o8, eds, rfl, (b07.trans (But.of g8)).trans (b9.mono (by simp)), hd9, (dr7.same g8).keep ?_ ?_ (b9.t (hd7.same g8).nt), nde, le3⟩ ?_ ?_⟩
      · rw [(dr7.same g8).hf]; exact b9 _ _ (by simpa using tfd) (dr7.same g8).hf
      · rw [(dr7.same g8).he]; exact b9 _ _ (by simpa using ted) (dr7.same g8).he
      · rintro j σ H5 hj ⟨o7, o8, eds, rfl, b5, hd5, dr5, nd5, l5⟩
        have hr5 := b5 _ _ (by simp [trtf, trte, hN.rd]) (g2 _ _ hN.r)
        refine ⟨_, rfl, _, rfl, _, rfl, d, a, tr, R.map V.str, rfl, hd5, hr5, hN.rd, by rw [List.length_map]; exact vo.pr, fun H6 x hx b6 hd6 => ?_⟩
        obtain ⟨rw_, hrw, rfl⟩ := List.mem_map.mp hx
        refine ⟨_, rfl, _, rfl, d, a, _, rfl, (by show (0 : Int) < ((m : Nat) : Int); omega), hd6, fun H7 r b7 hd7' r0 rm => ⟨(by show 3 ≤ sizeLine; decide), fun t2 ht2 => ?_⟩⟩
        have b57 : But [d] H5 H7 := b6.trans b7
        have d7 := dr5.keep (H' := H7) (by rw [dr5.hf]; exact b57 _ _ (by simpa using tfd) dr5.hf) (by rw [dr5.he]; exact b57 _ _ (by simpa using ted) dr5.he) (b57.t hd5.nt)
        have ee : ([V.int (0 + (i : Nat)), V.str rw_, V.int r] : List V) = edgeV ⟨i, rw_, r.toNat⟩ := by
          have h1 : (0 + ((i : Nat) : Int)) = ((i : Nat) : Int) := by omega
          have h2 : r = ((r.toNat : Nat) : Int) := by omega
          show [V.int (0 + (i : Nat)), V.str rw_, V.int r] = [V.int ((i : Nat) : Int), V.str rw_, V.int ((r.toNat : Nat) : Int)]
          rw [h1, ← h2]
        rw [ee]
        have s8 := same_new ht2 (.tup (edgeV ⟨i, rw_, r.toNat⟩))
        have d8 := d7.same s8
        have hd8 := hd7'.same s8
        have b8 : But [tf, te, d] (upd (upd H tf (.lst [])) te (.lst [])) (upd H7 t2 (.tup (edgeV ⟨i, rw_, r.toNat⟩))) := (b5.trans (b57.mono (by simp))).trans (But.of s8)
        have eok : EdgeOk m ⟨i, rw_, r.toNat⟩ := ⟨im, (by show r.toNat < m; omega), vo.r _ hrw⟩
        have eoks : ∀ e ∈ eds.map (·.2), EdgeOk m e := fun e he => by
          obtain ⟨x, hx, rfl⟩ := List.mem_map.mp he
          obtain ⟨z1, z2, z3⟩ := dr5.eok x hx
          exact ⟨z1, z2, vo.r _ z3⟩
        refine ⟨_, rfl, _, rfl, edgeD ⟨i, rw_, r.toNat⟩, (eds.map (·.2)).map edgeD, dp_edge upd_same, dp_eds d8.he d8.eat, ?_, shaped_eds (n := m) (by omega) eoks, _, rfl, ?_⟩
        · exact shaped_of (lay_edge eok (by omega)) (by simp [edgeD, PyData.depth, PyData.depthAll])
        rw [any_edge]
        by_cases c : (⟨i, rw_, r.toNat⟩ : Edge) ∈ eds.map (·.2)
        · rw [decide_eq_true c]
          exact iteF ⟨_, _, eds, rfl, b8, hd8, d8, nd5, by omega⟩
        · rw [decide_eq_false c]
          have t2te : t2 ≠ te := fun z => by have := d7.he; rw [← z, ht2] at this; cases this
          refine iteT ⟨_, rfl, .inl ⟨rfl, _, SqL.of d8.he⟩, _, rfl, te, _, _, rfl, rfl, d8.he, by rw [show (edsV eds).length = eds.length by simp [edsV]]; exact small1000 (by omega), ?_⟩
          have eed : edsV eds ++ [V.ref t2] = edsV (eds ++ [(t2, ⟨i, rw_, r.toNat⟩)]) := by simp [edsV]
          rw [eed]
          have b9' : But [te] _ (upd (upd H7 t2 (.tup (edgeV ⟨i, rw_, r.toNat⟩))) te (.lst (edsV (eds ++ [(t2, ⟨i, rw_, r.toNat⟩)])))) := But.put (by simp)
          have t9 := b9'.t (fun e he xs z => by simp only [List.mem_singleton] at he; rw [he, d8.he] at z; cases z)
          refine ⟨_, _, eds ++ [(t2, ⟨i, rw_, r.toNat⟩)], rfl, b8.trans (b9'.mono (by simp)), hd8.upd ted tea, ⟨by rw [upd_ne tfte]; exact d8.hf, upd_same, fun x hx => t9 _ _ (d8.rat x hx), fun x hx => ?_, d8.rok, d8.rn, fun x hx => ?_⟩, ?_, by rw [List.length_append]; simp; omega⟩
          · rcases List.mem_append.mp hx with z | z
            · exact t9 _ _ (d8.eat x z)
            · rw [List.mem_singleton.mp z]
              show upd _ te _ t2 = _
              rw [upd_ne t2te]; exact upd_same
          · rcases List.mem_append.mp hx with z | z
            · exact d8.eok x z
            · rw [List.mem_singleton.mp z]
              exact ⟨im, (by show r.toNat < m; omega), hrw⟩
          · rw [List.map_append, List.nodup_append]
            refine ⟨nd5, by simp, fun x hx z hz e => ?_⟩
            have : z = ⟨i, rw_, r.toNat⟩ := by simpa using hz
            rw [this] at e
            rw [e] at hx
            exact c hx
      · rintro σ H5 ⟨o7, o8, eds, rfl, b5, hd5, dr5, nd5, l5⟩
        exact ⟨_, _, _, _, eds, rfl, b5, hd5, dr5, nd5, by omega⟩
  · rintro σ H2 ⟨o6, o7, o8, rows, eds, rfl, b2, hd2, dr, nde, le3⟩
    have mm : ((m : Nat) : Int).toNat = m := Int.toNat_natCast m
    rw [mm] at dr le3
    refine ⟨_, rfl, _, rfl, te, eds, rfl, SqL.of dr.he, dr.eat, fun ts hts => ?_⟩
    have s3 := same_new hts (.lst (edsV (sortA eds)))
    have d3 := dr.same s3
    have tfts : tf ≠ ts := ne_of_none dr.hf hts
    refine ⟨(by show 2 ≤ sizeLine; decide), fun p hp => ?_⟩
    have s4 := same_new hp (.lst [.ref tf, .ref ts])
    have b04 : But [d] H (upd (upd H2 ts (.lst (edsV (sortA eds)))) p (.lst [.ref tf, .ref ts])) := by
      have c1 : But [tf, te, d] H (upd (upd H2 ts (.lst (edsV (sortA eds)))) p (.lst [.ref tf, .ref ts])) := (((But.of g2).trans b2).trans (But.of s3)).trans (But.of s4)
      exact (c1.drop htf).drop hte0
    have nH : ∀ {x : Addr}, H2 x = none → H x = none := fun {x} hx => by
      cases e : H x with
      | none => rfl
      | some o =>
        have xd : x ≠ d := fun z => by
          obtain ⟨ns, n, h1, _⟩ := hd2.ex
          rw [z, h1] at hx; cases hx
        have xtf : x ≠ tf := fun z => by rw [z, htf] at e; cases e
        have xte : x ≠ te := fun z => by rw [z, hte0] at e; cases e
        have := b2 _ _ (by simp [xtf, xte, xd]) (g2 _ _ e)
        rw [hx] at this; cases this
    have hp2 : H2 p = none := by
      cases e : H2 p with
      | none => rfl
      | some o => have := s3 _ _ e; rw [hp] at this; cases this
    have ptf : p ≠ tf := fun z => by rw [z, dr.hf] at hp2; cases hp2
    have pts : p ≠ ts := fun z => by rw [z, upd_same] at hp; cases hp
    refine q _ p tf ts rows (sortA eds) b04 ((hd2.same s3).same s4) (nH hp2) htf (nH hts) ptf pts tfts upd_same ⟨s4 _ _ d3.hf, s4 _ _ upd_same, fun r hr => s4 _ _ (d3.rat r hr), fun e he => s4 _ _ (d3.eat e ((mem_sortA e).mp he)), dr.rok, dr.rn, fun e he => dr.eok e ((mem_sortA e).mp he)⟩ ?_ ?_
    · rw [sortA_snd]; exact sortE_asc nde
    · rw [show (sortA eds).length = eds.length from (List.mergeSort_perm eds leA).length_eq]; exact le3
end
end K1
namespace K1
open PySem L2
theorem cr_allK {X : Cx} {K : PySem.W.Frag} (h : X.K = K) (hc : X.calm = true) : CallR X (.builtin "all") (rAll K) := by subst h; exact cr_all hc
theorem inV_int (i : Int) : ∀ l : List Int, inV (V.int i) (l.map V.int) = decide (i ∈ l)
  | [] => rfl
  | x :: l => by
    have ih := inV_int i l
    unfold inV at ih ⊢
    rw [List.map_cons, List.any_cons, ih]
    by_cases h : x = i
    · subst h; simp [eqV]
    · have h' : ¬ i = x := fun e => h e.symm
      simp [eqV, h, h']
theorem flat_ints : ∀ l : List Int, (l.map V.int).all flatV = true
  | [] => rfl
  | x :: l => by rw [List.map_cons, List.all_cons, flat_ints l]; rfl
/-- a number in a list of numbers -/
def rInN (K : PySem.W.Frag) : R2 := fun x y H Q => ∃ (i : Int) (p : Addr) (l : List Int), x = .int i ∧ y = .ref p ∧ SqL K H p (l.map V.int) ∧ Q (.bl (decide (i ∈ l))) H
theorem op_inN {X : Cx} : OpR X (compareOp .In) (rInN X.K) := by
  intro pins s σ H x y v u Q I rx ry h
  obtain ⟨z, p, l, rfl, rfl, hq, q⟩ := h
  exact op_in_seq pins s σ H _ _ v u Q I rx ry ⟨p, l.map V.int, rfl, .inl hq, rfl, flat_ints l, by rw [inV_int]; exact q⟩
theorem op_inNK {X : Cx} {K : PySem.W.Frag} (h : X.K = K) : OpR X (compareOp .In) (rInN K) := by subst h; exact op_inN
theorem same_of {H H4 : Hp} {D0 : Addr} {o : HO} (b : But [D0] (upd H D0 o) H4) (hD : H D0 = none) : Same H H4 := fun p o h => b p o (by simpa using ne_of_none h hD) (same_new hD _ _ _ h)
theorem none_same {H H' : Hp} (e : Same H H') {p : Addr} (h : H' p = none) : H p = none := by
  cases z : H p with
  | none => rfl
  | some o => rw [e _ _ z] at h; cases h
theorem inR_none {rows : List (Addr × List Str)} (nn : ∀ r ∈ rows, ("none" : Str) ∉ r.2) (i : Nat) : inR (rows.map (·.2)) "none" i = false := by
  unfold inR
  rw [List.getElem?_map]
  cases h : rows[i]? with
  | none => rfl
  | some r => exact decide_eq_false (nn r (List.mem_of_getElem? h))
theorem inR_get {rows : List (Addr × List Str)} {i : Nat} {r : Addr × List Str} (h : rows[i]? = some r) (x : Str) : inR (rows.map (·.2)) x i = decide (x ∈ r.2) := by
  unfold inR
  rw [List.getElem?_map, h]
  rfl
theorem hol_an {rows : List (Addr × List Str)} {ed : List Edge} {s : Str} (nn : ∀ r ∈ rows, ("none" : Str) ∉ r.2) (hs : decide (s ∈ (["all", "none"] : List Str)) = true) {i : Nat} (hi : i < rows.length) : hol (rows.map (·.2)) ed (.atom s) i = decide (V.str s = V.str "all") := by
  unfold hol
  by_cases e : s = "all"
  · subst e
    rw [if_pos rfl, List.length_map, decide_eq_true hi, decide_eq_true rfl]
  · rw [if_neg e, decide_eq_false (show ¬ V.str s = V.str "all" from fun z => e (V.str.inj z))]
    have : s = "none" := by
      have := of_decide_eq_true hs
      simp only [List.mem_cons, List.not_mem_nil, or_false] at this
      exact this.resolve_left e
    subst this
    exact inR_none nn i
def goodI (r : Str) (f : Nat → Bool) (l : List Edge) : List Int := (l.filter fun e => decide (e.r = r) && f e.b).map fun e => ((e.a : Nat) : Int)
theorem goodI_snoc (r : Str) (f : Nat → Bool) (l : List Edge) (e : Edge) : goodI r f (l ++ [e]) = if (decide (e.r = r) && f e.b) = true then goodI r f l ++ [((e.a : Nat) : Int)] else goodI r f l := by
  unfold goodI
  rw [List.filter_append, List.map_append, List.filter_cons, List.filter_nil]
  by_cases h : (decide (e.r = r) && f e.b) = true
  · rw [if_pos h, if_pos h]; rfl
  · rw [if_neg h, if_neg h]; exact List.append_nil _
theorem goodI_len (r : Str) (f : Nat → Bool) (l : List Edge) : (goodI r f l).length ≤ l.length := by
  unfold goodI
  rw [List.length_map]
  exact List.length_filter_le _ _
theorem goodI_mem (r : Str) (f : Nat → Bool) (l : List Edge) (i : Nat) : decide (((i : Nat) : Int) ∈ goodI r f l) = behE l r f i := by
  rw [Bool.eq_iff_iff, decide_eq_true_eq]
  unfold behE goodI
  simp only [List.mem_map, List.mem_filter, List.any_eq_true, Bool.and_eq_true, decide_eq_true_eq]
  constructor
  · rintro ⟨e, ⟨h1, h2, h3⟩, h4⟩
    exact ⟨e, h1, h2, by omega, h3⟩
  · rintro ⟨e, h1, h2, h3, h4⟩
    exact ⟨e, ⟨h1, h2, h4⟩, by rw [h3]⟩
section
variable {P : Program} {w : World} {K : PySem.W.Frag} {mg : Str → Option Value} {base : Heap}
def marksV (nm : List (List Str)) (ed : List Edge) (c : Con) : List V := (List.range nm.length).map fun i => V.bl (hol nm ed c i)
def spMarks : Nat → Sp
  | 0 => fun _ _ _ _ => False
  | n + 1 => fun vs H Q _ => ∃ (ln le : Addr) (v : V) (c : Con) (rows : List (Addr × List Str)) (eds : List (Addr × Edge)), vs = [.ref ln, .ref le, v] ∧ H ln = some (.lst (rowsV rows)) ∧ RowsAt H rows ∧ H le = some (.lst (edsV eds)) ∧ EdsAt H eds ∧
    ConAt H c v ∧ nest c ≤ n ∧ rows.length ≤ 64 ∧ eds.length ≤ 500 ∧ (∀ e ∈ eds, e.2.a < rows.length ∧ e.2.b < rows.length) ∧ (∀ r ∈ rows, ("none" : Str) ∉ r.2) ∧
    ∀ (H' : Hp) (p : Addr), Same H H' → H p = none → H' p = some (.lst (marksV (rows.map (·.2)) (eds.map (·.2)) c)) → Q (.ref p) H'
theorem ok_marks (D : Defs K mg) : ∀ n, FnOk P w K mg base CX0 (n + 2) D.d_law_marks.f D.d_law_marks.fd ["names", "edges", "concept"] (spMarks n)
  | 0 => none_left fun _ _ _ _ h => h
  | n + 1 => by
    have G := ok_marks D n
    refine D.d_law_marks.F.ok sc_law_marks (fun vs H Q E h => ?_) (fun cdv A outer s H vs Q E hr h => ?_)
    · obtain ⟨ln, le, v, c, rows, eds, rfl, _⟩ := h
      rfl
    obtain ⟨ln, le, v, c, rows, eds, rfl, hn, hrw, he, hed, hc, hnc, l1, l2, hb, nn, q⟩ := h
    have hu := hu_of hr
    refine ⟨_, (pss_cons (ps_if (pt_val (pe_callB call_isi (by rfl) D.z_isinstance (by decide +kernel) (pa_cons (pv 2) (pa_cons (pe_bltn (v := .ty "str") (by rfl) D.z_str (by decide +kernel) rfl) pa_nil)))) (pss_cons (ps_if (pt_cmpR op_inT (pv 2) (pe_tup (pa_cons pe_str (pa_cons pe_str pa_nil))) (by rfl)) (pss_one (ps_ret (pe_lc (own := [("one", 6)]) (g := gName 6) rfl sc_law_marks.nd (pi_list (pv 0)) (blkOk_by (N := ["names", "edges", "concept", "inside", "good", "rows", "one", "edge", "thing", "part", "row"]) (sc := defScope s_law_marks) (by decide +kernel)) (fun _ _ _ _ _ => pg_name (i := 6) sc_law_marks.nd rfl (Or.inl rfl)) (fun _ _ _ _ _ => pts_nil) (fun _ _ _ _ _ => (pe_cmpR op_eq (pv 2) pe_str (nomark _)))))) pss_nil)
      (pss_one (ps_ret (pe_lc (own := [("one", 6)]) (g := gName 6) rfl sc_law_marks.nd (pi_list (pv 0)) (blkOk_by (N := ["names", "edges", "concept", "inside", "good", "rows", "one", "edge", "thing", "part", "row"]) (sc := defScope s_law_marks) (by decide +kernel)) (fun _ _ _ _ _ => pg_name (i := 6) sc_law_marks.nd rfl (Or.inl rfl)) (fun _ _ _ _ _ => pts_nil) (fun _ _ _ _ _ => (pe_cmpR (op_inTK (K := K) rfl) (pv 2) (pv 6) (by rfl))))))) pss_nil)
      (pss_cons (ps_if (pt_cmpR op_eq (pe_ix ix_tup (pv 2) pe_int (fun _ _ => rfl)) pe_str (nomark _)) (pss_cons (ps_set (i := 3) sc_law_marks.nd rfl (Or.inr rfl) (pe_call G hr rfl D.d_law_marks.m D.d_law_marks.F.kp D.d_law_marks.b .nil pass0 (pa_cons (pv 0) (pa_cons (pv 1) (pa_cons (pe_ix ix_tup (pv 2) pe_int (fun _ _ => rfl)) pa_nil)))))
      (pss_cons (ps_set (i := 4) sc_law_marks.nd rfl (Or.inr rfl) (pe_lc (own := [("edge", 7)]) (g := gName 7) rfl sc_law_marks.nd (pi_list (pv 1)) (blkOk_by (N := ["names", "edges", "concept", "inside", "good", "rows", "one", "edge", "thing", "part", "row"]) (sc := defScope s_law_marks) (by decide +kernel)) (fun _ _ _ _ _ => pg_name (i := 7) sc_law_marks.nd rfl (Or.inl rfl)) (fun _ _ _ _ _ => pts_one (PW.pt (pw_and (pt_cmpR op_eq (pe_ix (ix_tupK (K := K) rfl) (pv 7) pe_int (fun _ _ => rfl)) (pe_ix (ix_tupK (K := K) rfl) (pv 2) pe_int (fun _ _ => rfl)) (nomark _)) (pw_and1 (pt_val (pe_ix (ix_listK (K := K) rfl) (pv 3) (pe_ix (ix_tupK (K := K) rfl) (pv 7) pe_int (fun _ _ => rfl)) (fun _ _ => rfl))))))) (fun _ _ _ _ _ => (pe_ix (ix_tupK (K := K) rfl) (pv 7) pe_int (fun _ _ => rfl)))))
      (pss_one (ps_ret (pe_lc (own := [("thing", 8)]) (g := gName 8) rfl sc_law_marks.nd (pi_range1 rfl D.z_range (pa_cons (pe_callB call_len_seq (by rfl) D.z_len (by decide +kernel) (pa_cons (pv 0) pa_nil)) pa_nil)) (blkOk_by (N := ["names", "edges", "concept", "inside", "good", "rows", "one", "edge", "thing", "part", "row"]) (sc := defScope s_law_marks) (by decide +kernel)) (fun _ _ _ _ _ => pg_name (i := 8) sc_law_marks.nd rfl (Or.inl rfl)) (fun _ _ _ _ _ => pts_nil) (fun _ _ _ _ _ => (pe_cmpR (op_inNK (K := K) rfl) (pv 8) (pv 4) (by rfl)))))))) pss_nil)
      (pss_cons (ps_set (i := 5) sc_law_marks.nd rfl (Or.inr rfl) (pe_lc (own := [("part", 9)]) (g := gName 9) rfl sc_law_marks.nd (pi_tup (pe_slice sl_tup (pv 2) (po_some pe_int) po_none)) (blkOk_by (N := ["names", "edges", "concept", "inside", "good", "rows", "one", "edge", "thing", "part", "row"]) (sc := defScope s_law_marks) (by decide +kernel)) (fun _ _ _ _ _ => pg_name (i := 9) sc_law_marks.nd rfl (Or.inl rfl)) (fun _ _ _ _ _ => pts_nil) (fun _ _ _ _ _ => (pe_call G hr rfl D.d_law_marks.m D.d_law_marks.F.kp D.d_law_marks.b .nil pass0 (pa_cons (pv 0) (pa_cons (pv 1) (pa_cons (pv 9) pa_nil)))))))
      (pss_one (ps_ret (pe_lc (own := [("thing", 8)]) (g := gName 8) rfl sc_law_marks.nd (pi_range1 rfl D.z_range (pa_cons (pe_callB call_len_seq (by rfl) D.z_len (by decide +kernel) (pa_cons (pv 0) pa_nil)) pa_nil)) (blkOk_by (N := ["names", "edges", "concept", "inside", "good", "rows", "one", "edge", "thing", "part", "row"]) (sc := defScope s_law_marks) (by decide +kernel)) (fun _ _ _ _ _ => pg_name (i := 8) sc_law_marks.nd rfl (Or.inr rfl)) (fun _ _ _ _ _ => pts_nil) (fun _ _ _ _ _ => (pe_callB (cr_allK (K := K) rfl rfl) (by rfl) D.z_all (by decide +kernel) (pa_cons (pe_lc (own := [("row", 10)]) (g := gName 10) (wi := iList K (tVar 5)) rfl sc_law_marks.nd (pi_list (pv 5))
            (blkOk_by (N := ["names", "edges", "concept", "inside", "good", "rows", "one", "edge", "thing", "part", "row"]) (sc := { kind := .function, names := [(".0", .local), ("thing", .cell), ("all", .globalImplicit), ("rows", .cell)], isGenerator := false, isCoroutine := false, more := [] }) (by decide +kernel))
            (fun _ _ _ _ _ => pg_name (i := 10) sc_law_marks.nd rfl (Or.inl rfl)) (fun _ _ _ _ _ => pts_nil) (fun _ _ _ _ _ => (pe_ix (ix_listK (K := K) rfl) (pv 10) (pv 8) (fun _ _ => rfl)))) pa_nil))))))))), ?_⟩
    obtain ⟨t, ty, kt⟩ := pl_str (K := K) (con_pl hc)
    have lnn : (rowsV rows).length = rows.length := by simp [rowsV]
    have lmm : (rows.map (·.2)).length = rows.length := List.length_map ..
    refine ⟨_, rfl, _, _, _, _, _, rfl, .ty _, ty, kt, _, rfl, ?_⟩
    rcases atom_or c with ⟨s, rfl⟩ | na
    · obtain ⟨rfl, _⟩ := hc
      refine iteT ⟨_, rfl, (by show 2 ≤ sizeLine; decide), fun p1 hp1 => ⟨s, p1, ["all", "none"], rfl, rfl, .inr (SqT.of upd_same), _, rfl, ?_⟩⟩
      have g1 := same_new hp1 (.tup [V.str "all", V.str "none"])
      have hn1 := g1 _ _ hn
      refine ite2 (c := decide (s ∈ (["all", "none"] : List Str)) = true) (fun hs => ?_) (fun hs => ?_)
      · refine ⟨_, rfl, ln, rfl, ⟨_, SqL.of hn1⟩, fun D0 hD0 => ?_⟩
        have lD := ne_of_none hn1 hD0
        refine lc_list (K := K) (a := ln) (xs := rowsV rows) (fun i H4 => But [D0] (upd (upd H p1 (.tup [V.str "all", V.str "none"])) D0 (.lst [])) H4 ∧ H4 D0 = some (.lst ((List.range i).map fun i => V.bl (hol (rows.map (·.2)) (eds.map (·.2)) (.atom s) i)))) ⟨But.refl _, upd_same⟩
          (fun j H4 _ h => SqL.of (h.1 _ _ (by simpa using lD) (by rw [upd_ne lD]; exact hn1))) ?_ ?_
        · rintro j x H4 hj ⟨b4, hl⟩
          have jl := (List.getElem?_eq_some_iff.mp hj).1
          refine ⟨rfl, _, rfl, rfl, _, hl, ?_, b4.trans (But.put (by simp)), ?_⟩
          · rw [List.length_map, List.length_range]
            exact small1000 (by omega)
          · rw [upd_same, List.range_succ, List.map_append]
            show some (HO.lst (_ ++ [V.bl (decide (V.str s = V.str "all"))])) = some (HO.lst (_ ++ [V.bl (hol (rows.map (·.2)) (eds.map (·.2)) (.atom s) j)]))
            rw [hol_an nn hs (by omega)]
        · rintro H4 ⟨b4, hl⟩
          rw [lnn, ← lmm] at hl
          exact q H4 D0 (g1.trans (same_of b4 hD0)) (none_same g1 hD0) hl
      · refine ⟨_, rfl, ln, rfl, ⟨_, SqL.of hn1⟩, fun D0 hD0 => ?_⟩
        have lD := ne_of_none hn1 hD0
        refine lc_list (K := K) (a := ln) (xs := rowsV rows) (fun i H4 => But [D0] (upd (upd H p1 (.tup [V.str "all", V.str "none"])) D0 (.lst [])) H4 ∧ H4 D0 = some (.lst ((List.range i).map fun i => V.bl (hol (rows.map (·.2)) (eds.map (·.2)) (.atom s) i)))) ⟨But.refl _, upd_same⟩
          (fun j H4 _ h => SqL.of (h.1 _ _ (by simpa using lD) (by rw [upd_ne lD]; exact hn1))) ?_ ?_
        · rintro j x H4 hj ⟨b4, hl⟩
          have jl := (List.getElem?_eq_some_iff.mp hj).1
          unfold rowsV at hj
          rw [List.getElem?_map] at hj
          obtain ⟨r, hr1, rfl⟩ := Option.map_eq_some_iff.mp hj
          have mr := List.mem_of_getElem? hr1
          have s4 := g1.trans (same_of b4 hD0)
          refine ⟨rfl, _, rfl, _, rfl, s, r.1, r.2, rfl, rfl, .inr (SqT.of (s4 _ _ (hrw r mr))), _, hl, ?_, b4.trans (But.put (by simp)), ?_⟩
          · rw [List.length_map, List.length_range]
            exact small1000 (by omega)
          · rw [upd_same, List.range_succ, List.map_append]
            show some (HO.lst (_ ++ [V.bl (decide (s ∈ r.2))])) = some (HO.lst (_ ++ [V.bl (hol (rows.map (·.2)) (eds.map (·.2)) (.atom s) j)]))
            rw [show hol (rows.map (·.2)) (eds.map (·.2)) (.atom s) j = decide (s ∈ r.2) by
              unfold hol
              rw [if_neg (fun z : s = "all" => hs (by rw [z]; decide +kernel))]
              exact inR_get hr1 s]
        · rintro H4 ⟨b4, hl⟩
          rw [lnn, ← lmm] at hl
          exact q H4 D0 (g1.trans (same_of b4 hD0)) (none_same g1 hD0) hl
    · rw [con_str hc na]
      obtain ⟨a, x, xs, rfl, ha, hd⟩ := con_head hc na
      refine iteF ⟨_, rfl, a, _, _, _, rfl, rfl, SqT.of ha, atI_nat (j := 0) rfl, rfl, _, rfl, ?_⟩
      rw [hd]
      cases ex : isEx c with
      | true =>
        cases c with
        | atom s => exact (na s rfl).elim
        | and2 a b => cases ex
        | and3 a b c => cases ex
        | ex r c =>
          obtain ⟨a', u, e1, ha', hcu, _⟩ := hc
          cases e1
          have hkn : nest c + 1 ≤ nest (.ex r c) := kid_nest c (by simp [kids])
          cases n with
          | zero => omega
          | succ n =>
            refine iteT ⟨_, rfl, _, rfl, _, rfl, a, _, _, _, rfl, rfl, SqT.of ha', atI_nat (j := 2) rfl, ln, le, u, c, rows, eds, rfl, hn, hrw, he, hed, hcu, by omega, l1, l2, hb, nn, fun H1 p1 g1 hp1 hm => ?_⟩
            refine ⟨_, rfl, le, rfl, ⟨_, SqL.of (g1 _ _ he)⟩, fun D1 hD1 => ?_⟩
            have leD := ne_of_none (g1 _ _ he) hD1
            have hne : (eds.map (·.2)).length = eds.length := List.length_map ..
            refine lc_list (K := K) (a := le) (xs := edsV eds) (fun i H4 => But [D1] (upd H1 D1 (.lst [])) H4 ∧ H4 D1 = some (.lst ((goodI r (hol (rows.map (·.2)) (eds.map (·.2)) c) ((eds.map (·.2)).take i)).map V.int))) ⟨But.refl _, upd_same⟩
              (fun j H4 _ h => SqL.of (h.1 _ _ (by simpa using leD) (by rw [upd_ne leD]; exact g1 _ _ he))) ?_ ?_
            · rintro j x H4 hj ⟨b4, hl⟩
              unfold edsV at hj
              rw [List.getElem?_map] at hj
              obtain ⟨e, hej, rfl⟩ := Option.map_eq_some_iff.mp hj
              have me := List.mem_of_getElem? hej
              have jl := (List.getElem?_eq_some_iff.mp hej).1
              have s4 : Same H1 H4 := same_of b4 hD1
              have he4 := s4 _ _ (g1 _ _ (hed e me))
              have ha4 := s4 _ _ (g1 _ _ ha')
              have hm4 := s4 _ _ hm
              have ed1 : (eds.map (·.2))[j]? = some e.2 := by rw [List.getElem?_map, hej]; rfl
              refine ⟨rfl, _, rfl, e.1, _, _, _, rfl, rfl, SqT.of he4, atI_nat (j := 1) rfl, _, rfl, a, _, _, _, rfl, rfl, SqT.of ha4, atI_nat (j := 1) rfl, rfl, _, rfl, ?_⟩
              have etk : (eds.map (·.2)).take (j + 1) = (eds.map (·.2)).take j ++ [e.2] := by rw [List.take_add_one, ed1]; rfl
              have ltk : ((eds.map (·.2)).take j).length ≤ 500 := by rw [List.length_take]; omega
              refine ite2 (c := decide (V.str e.2.r = V.str r) = true) (fun h1 => ?_) (fun h1 => ?_)
              · have hr1 : e.2.r = r := V.str.inj (of_decide_eq_true h1)
                have hb2 := (hb e me).2
                have gm : atI (marksV (rows.map (·.2)) (eds.map (·.2)) c) ((e.2.b : Nat) : Int) = some (V.bl (hol (rows.map (·.2)) (eds.map (·.2)) c e.2.b)) := atI_nat (by
                  unfold marksV
                  rw [List.getElem?_map, List.getElem?_range (by rw [lmm]; exact hb2)]
                  rfl)
                refine ⟨_, rfl, _, rfl, e.1, _, _, _, rfl, rfl, SqT.of he4, atI_nat (j := 2) rfl, p1, _, _, _, rfl, rfl, SqL.of hm4, gm, _, rfl, ?_⟩
                refine ite2 (c := hol (rows.map (·.2)) (eds.map (·.2)) c e.2.b = true) (fun h2 => ?_) (fun h2 => ?_)
                · refine ⟨_, rfl, e.1, _, _, _, rfl, rfl, SqT.of he4, atI_nat (j := 0) rfl, _, hl, ?_, b4.trans (But.put (by simp)), ?_⟩
                  · rw [List.length_map]
                    exact small1000 (by have := goodI_len r (hol (rows.map (·.2)) (eds.map (·.2)) c) ((eds.map (·.2)).take j); omega)
                  · rw [upd_same, etk, goodI_snoc, if_pos (by rw [decide_eq_true hr1, h2]; rfl), List.map_append]
                    rfl
                · refine ⟨b4, ?_⟩
                  rw [etk, goodI_snoc, if_neg (by rw [Bool.and_eq_true]; exact fun z => h2 z.2)]
                  exact hl
              · refine ⟨b4, ?_⟩
                rw [etk, goodI_snoc, if_neg (by rw [Bool.and_eq_true, decide_eq_true_eq]; exact fun z => h1 (decide_eq_true (by rw [z.1])))]
                exact hl
            · rintro H4 ⟨b4, hl⟩
              have s4 : Same H1 H4 := same_of b4 hD1
              rw [show (edsV eds).length = (eds.map (·.2)).length by simp [edsV], List.take_length] at hl
              have b62 : -(2 ^ 62) ≤ (((rowsV rows).length : Nat) : Int) ∧ (((rowsV rows).length : Nat) : Int) < 2 ^ 62 := by rw [lnn]; omega
              refine ⟨_, rfl, ln, rowsV rows, rfl, .inl (SqL.of (s4 _ _ (g1 _ _ hn))), _, rfl, b62.1, b62.2, fun D2 hD2 => ?_⟩
              have dD : D1 ≠ D2 := ne_of_none hl hD2
              refine lc_range (lo := 0) (n := ((((rowsV rows).length : Nat) : Int)).toNat) (fun i H5 => But [D2] (upd H4 D2 (.lst [])) H5 ∧ H5 D2 = some (.lst ((List.range i).map fun i => V.bl (hol (rows.map (·.2)) (eds.map (·.2)) (.ex r c) i)))) ⟨But.refl _, upd_same⟩ ?_ ?_
              · rintro j H5 hj ⟨b5, hl5⟩
                have jl : j < rows.length := by rw [Int.toNat_natCast, lnn] at hj; exact hj
                have s5 : Same H4 H5 := same_of b5 hD2
                refine ⟨rfl, _, rfl, _, rfl, _, D1, _, rfl, rfl, SqL.of (s5 _ _ hl), _, hl5, ?_, b5.trans (But.put (by simp)), ?_⟩
                · rw [List.length_map, List.length_range]
                  exact small1000 (by omega)
                · rw [upd_same, List.range_succ, List.map_append]
                  have e0 : (0 + ((j : Nat) : Int)) = ((j : Nat) : Int) := by omega
                  show some (HO.lst (_ ++ [V.bl (decide ((0 + ((j : Nat) : Int)) ∈ goodI r (hol (rows.map (·.2)) (eds.map (·.2)) c) (eds.map (·.2))))])) = _
                  rw [e0, goodI_mem]
                  rfl
              · rintro H5 ⟨b5, hl5⟩
                rw [Int.toNat_natCast, lnn, ← lmm] at hl5
                have s5 : Same H4 H5 := same_of b5 hD2
                exact q H5 D2 ((g1.trans s4).trans s5) (none_same (g1.trans s4) hD2) hl5
      | false =>
        refine iteF ?_
        obtain ⟨a2, ws, e2, hk, hcase⟩ := con_kids hc na
        cases e2
        rcases hcase with ⟨ex', _⟩ | ⟨_, haw⟩
        · rw [ex] at ex'; cases ex'
        have hnn := hol_and (nm := rows.map (·.2)) (ed := eds.map (·.2)) na ex
        have k3 : (kids c).length ≤ 3 := by cases c <;> simp [kids]
        refine ⟨_, rfl, _, rfl, a, _, rfl, SqT.of haw, (by rintro ⟨z, _⟩; simp [HT.sIx] at z), fun p hp => ⟨p, rfl, ⟨_, SqT.of upd_same⟩, fun D1 hD1 => ?_⟩⟩
        rw [cut1] at *
        have gp := same_new hp (.tup ws)
        have pD : p ≠ D1 := ne_of_none upd_same hD1
        refine lc_tup (K := K) (a := p) (xs := ws) (fun i H4 => But [D1] (upd (upd H p (.tup ws)) D1 (.lst [])) H4 ∧ ∃ ps : List (Con × Addr), H4 D1 = some (.lst (ps.map fun x => V.ref x.2)) ∧ ps.map (·.1) = (kids c).take i ∧ ∀ x ∈ ps, x.2 ≠ D1 ∧ H4 x.2 = some (.lst (marksV (rows.map (·.2)) (eds.map (·.2)) x.1)))
          ⟨But.refl _, [], upd_same, rfl, fun x hx => by cases hx⟩ (fun i H4 _ hh => SqT.of (hh.1 _ _ (by simpa using pD) (by rw [upd_ne pD]; exact upd_same))) ?_ ?_
        · rintro i x H4 hi ⟨b4, ps, h4, hps, hat⟩
          obtain ⟨k, hk1, hk2⟩ := paired_get hk hi
          have kn := kid_nest k (List.mem_of_getElem? hk1)
          have s4 : Same H H4 := gp.trans (same_of b4 hD1)
          have lps : ps.length ≤ 3 := by
            have := congrArg List.length hps
            rw [List.length_map, List.length_take] at this
            omega
          cases n with
          | zero => omega
          | succ n =>
            refine ⟨rfl, _, rfl, _, rfl, _, rfl, ln, le, x, k, rows, eds, rfl, s4 _ _ hn, fun r hr => s4 _ _ (hrw r hr), s4 _ _ he, fun e he' => s4 _ _ (hed e he'), hk2.same s4, by omega, l1, l2, hb, nn, fun H5 p5 g5 f5 h5 => ⟨_, g5 _ _ h4, ?_, (b4.trans (But.of g5)).trans (But.put (by simp)), ps ++ [(k, p5)], ?_, ?_, ?_⟩⟩
            · rw [List.length_map]
              exact small1000 (by omega)
            · rw [upd_same, List.map_append]; rfl
            · rw [List.map_append, hps, List.take_add_one, hk1]; rfl
            · intro y hy
              rcases List.mem_append.mp hy with z | z
              · obtain ⟨y1, y2⟩ := hat y z
                exact ⟨y1, by rw [upd_ne y1]; exact g5 _ _ y2⟩
              · rw [List.mem_singleton.mp z]
                have : p5 ≠ D1 := fun z => by rw [z, h4] at f5; cases f5
                exact ⟨this, by show upd _ D1 _ p5 = _; rw [upd_ne this]; exact h5⟩
        · rintro H4 ⟨b4, ps, h4, hps, hat⟩
          have s4 : Same H H4 := gp.trans (same_of b4 hD1)
          rw [← paired_len hk, List.take_length] at hps
          have b62 : -(2 ^ 62) ≤ (((rowsV rows).length : Nat) : Int) ∧ (((rowsV rows).length : Nat) : Int) < 2 ^ 62 := by rw [lnn]; omega
          refine ⟨_, rfl, ln, rowsV rows, rfl, .inl (SqL.of (s4 _ _ hn)), _, rfl, b62.1, b62.2, fun D2 hD2 => ?_⟩
          have d12 : D1 ≠ D2 := ne_of_none h4 hD2
          refine lc_range (lo := 0) (n := ((((rowsV rows).length : Nat) : Int)).toNat) (fun i H5 => But [D2] (upd H4 D2 (.lst [])) H5 ∧ H5 D2 = some (.lst ((List.range i).map fun i => V.bl (hol (rows.map (·.2)) (eds.map (·.2)) c i)))) ⟨But.refl _, upd_same⟩ ?_ ?_
          · rintro j H5 hj ⟨b5, hl5⟩
            have jl : j < rows.length := by rw [Int.toNat_natCast, lnn] at hj; exact hj
            have s5 : Same H4 H5 := same_of b5 hD2
            refine ⟨rfl, _, rfl, D1, rfl, ⟨_, SqL.of (s5 _ _ h4)⟩, fun D3 hD3 => ?_⟩
            have d13 : D1 ≠ D3 := ne_of_none (s5 _ _ h4) hD3
            refine lc_list (K := K) (a := D1) (xs := ps.map fun x => V.ref x.2) (fun i H6 => But [D3] (upd H5 D3 (.lst [])) H6 ∧ H6 D3 = some (.lst (((ps.take i).map fun x => hol (rows.map (·.2)) (eds.map (·.2)) x.1 j).map V.bl))) ⟨But.refl _, upd_same⟩
              (fun i H6 _ h => SqL.of (h.1 _ _ (by simpa using d13) (by rw [upd_ne d13]; exact s5 _ _ h4))) ?_ ?_
            · rintro i x H6 hi ⟨b6, h6⟩
              rw [List.getElem?_map] at hi
              obtain ⟨y, hy, rfl⟩ := Option.map_eq_some_iff.mp hi
              have s6 : Same H5 H6 := same_of b6 hD3
              have lps : ps.length ≤ 3 := by
                have := congrArg List.length hps
                rw [List.length_map] at this
                omega
              have gm : atI (marksV (rows.map (·.2)) (eds.map (·.2)) y.1) (0 + ((j : Nat) : Int)) = some (V.bl (hol (rows.map (·.2)) (eds.map (·.2)) y.1 j)) := by
                rw [show (0 + ((j : Nat) : Int)) = ((j : Nat) : Int) by omega]
                exact atI_nat (by
                  unfold marksV
                  rw [List.getElem?_map, List.getElem?_range (by rw [lmm]; exact jl)]
                  rfl)
              refine ⟨rfl, _, rfl, _, rfl, y.2, _, _, _, rfl, rfl, SqL.of (s6 _ _ (s5 _ _ (hat y (List.mem_of_getElem? hy)).2)), gm, _, h6, ?_, b6.trans (But.put (by simp)), ?_⟩
              · rw [List.length_map, List.length_map, List.length_take]
                exact small1000 (by omega)
              · rw [upd_same, List.take_add_one, hy, List.map_append, List.map_append]
                rfl
            · rintro H6 ⟨b6, h6⟩
              have s6 : Same H5 H6 := same_of b6 hD3
              rw [List.length_map, List.take_length] at h6
              refine ⟨D3, _, rfl, SqL.of h6, _, s6 _ _ hl5, ?_, (b5.trans (But.of s6)).trans (But.put (by simp)), ?_⟩
              · rw [List.length_map, List.length_range]
                exact small1000 (by omega)
              · rw [upd_same, List.range_succ, List.map_append]
                show some (HO.lst (_ ++ [V.bl ((ps.map fun x => hol (rows.map (·.2)) (eds.map (·.2)) x.1 j).all id)])) = some (HO.lst (_ ++ [V.bl (hol (rows.map (·.2)) (eds.map (·.2)) c j)]))
                rw [hnn, lmm, decide_eq_true jl, Bool.true_and, ← hps, List.all_map, List.all_map]
                rfl
          · rintro H5 ⟨b5, hl5⟩
            rw [Int.toNat_natCast, lnn, ← lmm] at hl5
            have s5 : Same H4 H5 := same_of b5 hD2
            exact q H5 D2 (s4.trans s5) (none_same s4 hD2) hl5
end
end K1
namespace K1
open PySem L2
theorem call_tuple_ofK {X : Cx} {K : PySem.W.Frag} (h : X.K = K) : CallR X (.type "tuple") (fun xs H Q => ∃ p ys, xs = [.ref p] ∧ ((SqL K H p ys ∧ ∀ l, H l = none → Q (.ref l) (upd H l (.tup ys))) ∨ (SqT K H p ys ∧ Q (.ref p) H))) := by subst h; exact call_tuple_of
section
variable {P : Program} {w : World} {K : PySem.W.Frag} {mg : Str → Option Value} {base : Heap}
/-- a drawn world as a list of its names and its edges -/
structure TwoAt (H : Hp) (p tf te : Addr) (rows : List (Addr × List Str)) (eds : List (Addr × Edge)) : Prop where
  hp : H p = some (.lst [.ref tf, .ref te])
  hf : H tf = some (.lst (rowsV rows))
  he : H te = some (.lst (edsV eds))
  rat : RowsAt H rows
  eat : EdsAt H eds
def prodE (m : Nat) (l k : List Edge) : List Edge := l.flatMap fun e => (k.filter fun f => decide (f.r = e.r)).map fun f => ⟨e.a * m + f.a, e.r, e.b * m + f.b⟩
def prodN (l k : List (List Str)) : List (List Str) := l.flatMap fun a => k.map fun b => a.filter fun x => decide (x ∈ b)
theorem prodN_snoc (l k : List (List Str)) (a : List Str) : prodN (l ++ [a]) k = prodN l k ++ k.map fun b => a.filter fun x => decide (x ∈ b) := by simp [prodN]
theorem prodN_len (l k : List (List Str)) : (prodN l k).length = l.length * k.length := by
  induction l with
  | nil => simp [prodN]
  | cons a l ih => simp only [prodN, List.flatMap_cons, List.length_append, List.length_map, List.length_cons] at ih ⊢; rw [ih, Nat.succ_mul, Nat.add_comm]
theorem prodE_snoc (m : Nat) (l k : List Edge) (e : Edge) : prodE m (l ++ [e]) k = prodE m l k ++ (k.filter fun f => decide (f.r = e.r)).map fun f => ⟨e.a * m + f.a, e.r, e.b * m + f.b⟩ := by simp [prodE]
theorem prodE_len (m : Nat) (l k : List Edge) : (prodE m l k).length ≤ l.length * k.length := by
  induction l with
  | nil => simp [prodE]
  | cons a l ih =>
    simp only [prodE, List.flatMap_cons, List.length_append, List.length_map, List.length_cons] at ih ⊢
    rw [Nat.succ_mul, Nat.add_comm]
    exact Nat.add_le_add ih (List.length_filter_le _ _)
def spLProd : Sp := fun vs H Q _ => ∃ (p1 f1 e1 p2 f2 e2 : Addr) (r1 r2 : List (Addr × List Str)) (d1 d2 : List (Addr × Edge)), vs = [.ref p1, .ref p2] ∧ TwoAt H p1 f1 e1 r1 d1 ∧ TwoAt H p2 f2 e2 r2 d2 ∧ r1.length ≤ 9 ∧ r2.length ≤ 4 ∧ d1.length ≤ 27 ∧ d2.length ≤ 12 ∧ (∀ r ∈ r1, r.2.length ≤ 3) ∧
  (∀ e ∈ d1, e.2.a < 1000 ∧ e.2.b < 1000) ∧ (∀ e ∈ d2, e.2.a < 1000 ∧ e.2.b < 1000) ∧
  ∀ (H' : Hp) (p f e : Addr) rows eds, Same H H' → H p = none → H f = none → H e = none → TwoAt H' p f e rows eds → rows.map (·.2) = prodN (r1.map (·.2)) (r2.map (·.2)) → eds.map (·.2) = (prodE r2.length (d1.map (·.2)) (d2.map (·.2))).mergeSort leE → Q (.ref p) H'
theorem ok_lprod (D : Defs K mg) : FnOk P w K mg base CX0 2 D.d_law_product.f D.d_law_product.fd ["one", "two"] spLProd := by
  refine D.d_law_product.F.ok sc_law_product (fun vs H Q E h => ?_) (fun cdv A outer s H vs Q E hr h => ?_)
  · obtain ⟨p1, f1, e1, p2, f2, e2, r1, r2, d1, d2, rfl, _⟩ := h
    rfl
  obtain ⟨p1, f1, e1, p2, f2, e2, r1, r2, d1, d2, rfl, T1, T2, l1, l2, l3, l4, l5, b1, b2, q⟩ := h
  refine ⟨_, (pss_cons (ps_set (i := 2) sc_law_product.nd rfl (Or.inr rfl) (pe_callB call_len_seq (by rfl) D.z_len (by decide +kernel) (pa_cons (pe_ix ix_list (pv 1) pe_int (fun _ _ => rfl)) pa_nil)))
      (pss_cons (ps_par (i := 3) (j := 4) (by rfl) sc_law_product.nd rfl rfl (by decide) rfl rfl (pa_cons (pe_lst pa_nil) (pa_cons (pe_lst pa_nil) pa_nil)) (by rfl))
      (pss_cons (ps_for PassesOwn.never rfl (pi_list (pe_ix ix_list (pv 0) pe_int (fun _ _ => rfl))) (pg_name (i := 5) sc_law_product.nd rfl (Or.inr rfl)) (pss_one (ps_expr (pe_bm PySem.F.plainAttrs_list PySem.F.slot_list_extend PySem.F.type_list_extend mt_extend (pv 3) (pa_cons
        (pe_lc (own := [("second", 7)]) (g := gName 7) rfl sc_law_product.nd (pi_list (pe_ix ix_list (pv 1) pe_int (fun _ _ => rfl))) (blkOk_by (N := ["one", "two", "many", "names", "edges", "first", "name", "second"]) (sc := defScope s_law_product) (by decide +kernel)) (fun _ _ _ _ _ => pg_name (i := 7) sc_law_product.nd rfl (Or.inr rfl)) (fun _ _ _ _ _ => pts_nil)
          (fun _ _ _ _ _ => (pe_callTy (call_tuple_ofK (K := K) rfl) (by rfl) D.z_tuple (by decide +kernel) (pa_cons (pe_lc (own := [("name", 6)]) (g := gName 6) (wi := iTup K (tVar 5)) rfl sc_law_product.nd (pi_tup (pv 5))
            (blkOk_by (N := ["one", "two", "many", "names", "edges", "first", "name", "second"]) (sc := { kind := .function, names := [(".0", .local), ("second", .cell), ("tuple", .globalImplicit), ("first", .cell)], isGenerator := false, isCoroutine := false, more := [] }) (by decide +kernel))
            (fun _ _ _ _ _ => pg_name (i := 6) sc_law_product.nd rfl (Or.inl rfl)) (fun _ _ _ _ _ => pts_one (pt_cmpR (op_inTK (K := K) rfl) (pv 6) (pv 7) (by rfl))) (fun _ _ _ _ _ => (pv 6))) pa_nil)))) pa_nil)))))
      (pss_cons (ps_for PassesOwn.never rfl (pi_list (pe_ix ix_list (pv 0) pe_int (fun _ _ => rfl))) (pg_name (i := 5) sc_law_product.nd rfl (Or.inr rfl)) (pss_one (ps_expr (pe_bm PySem.F.plainAttrs_list PySem.F.slot_list_extend PySem.F.type_list_extend mt_extend (pv 4) (pa_cons
        (pe_lc (own := [("second", 7)]) (g := gName 7) rfl sc_law_product.nd (pi_list (pe_ix ix_list (pv 1) pe_int (fun _ _ => rfl))) (blkOk_by (N := ["one", "two", "many", "names", "edges", "first", "name", "second"]) (sc := defScope s_law_product) (by decide +kernel)) (fun _ _ _ _ _ => pg_name (i := 7) sc_law_product.nd rfl (Or.inl rfl)) (fun _ _ _ _ _ => pts_one (pt_cmpR op_eq (pe_ix (ix_tupK (K := K) rfl) (pv 7) pe_int (fun _ _ => rfl)) (pe_ix (ix_tupK (K := K) rfl) (pv 5) pe_int (fun _ _ => rfl)) (nomark _))) (fun _ _ _ _ _ => (pe_tup (pa_cons (pe_op op_add (pe_op op_mul (pe_ix (ix_tupK (K := K) rfl) (pv 5) pe_int (fun _ _ => rfl)) (pv 2)) (pe_ix (ix_tupK (K := K) rfl) (pv 7) pe_int (fun _ _ => rfl))) (pa_cons (pe_ix (ix_tupK (K := K) rfl) (pv 5) pe_int (fun _ _ => rfl)) (pa_cons (pe_op op_add (pe_op op_mul (pe_ix (ix_tupK (K := K) rfl) (pv 5) pe_int (fun _ _ => rfl)) (pv 2)) (pe_ix (ix_tupK (K := K) rfl) (pv 7) pe_int (fun _ _ => rfl))) pa_nil)))))) pa_nil)))))
      (pss_one (ps_ret (pe_lst (pa_cons (pv 3) (pa_cons (pe_callB (cr_sortedE hr.units) (by rfl) D.z_sorted (by decide +kernel) (pa_cons (pv 4) pa_nil)) pa_nil))))))))), ?_⟩
  have m2 : (rowsV r2).length = r2.length := by simp [rowsV]
  have m1 : (rowsV r1).length = r1.length := by simp [rowsV]
  refine ⟨_, rfl, p2, _, _, _, rfl, rfl, SqL.of T2.hp, atI_nat (j := 0) rfl, f2, rowsV r2, rfl, .inl (SqL.of T2.hf), ?_⟩
  refine ⟨(by show 0 ≤ sizeLine; decide), fun tf htf => ⟨(by show 0 ≤ sizeLine; decide), fun te hte => ⟨_, _, rfl, ?_⟩⟩⟩
  have g1 := same_new htf (.lst [])
  have g2 := g1.trans (same_new hte (.lst []))
  have tfte : tf ≠ te := ne_of_none upd_same hte
  have hte0 : H te = none := none_same g1 hte
  have old : ∀ {b : Addr} {o : HO}, H b = some o → b ∉ [tf, te] := fun h => by simp [ne_of_none h htf, ne_of_none h hte0]
  refine ⟨_, rfl, p1, _, _, _, rfl, rfl, SqL.of (g2 _ _ T1.hp), atI_nat (j := 0) rfl, f1, rfl, ⟨_, SqL.of (g2 _ _ T1.hf)⟩, for_list (K := K) (a := f1) (xs := rowsV r1) (fun i σ H2 => ∃ o5 rows, σ = [some (.ref p1), some (.ref p2), some (.int ((rowsV r2).length : Nat)), some (.ref tf), some (.ref te), o5, none, none] ∧
    But [tf, te] (upd (upd H tf (.lst [])) te (.lst [])) H2 ∧ H2 tf = some (.lst (rowsV rows)) ∧ RowsAt H2 rows ∧ H2 te = some (.lst []) ∧ rows.map (·.2) = prodN ((r1.map (·.2)).take i) (r2.map (·.2)))
    ⟨none, [], rfl, But.refl _, by rw [upd_ne tfte]; exact upd_same, fun r h => by simp at h, upd_same, rfl⟩ (fun i σ H2 _ h => by
      obtain ⟨o5, rows, _, b, _⟩ := h
      exact SqL.of (b _ _ (old T1.hf) (g2 _ _ T1.hf))) ?_ ?_⟩
  · rintro i x σ H2 hi ⟨o5, rows, rfl, bb, hf2, hrt, he2, hmap⟩
    unfold rowsV at hi
    rw [List.getElem?_map] at hi
    obtain ⟨r, hri, rfl⟩ := Option.map_eq_some_iff.mp hi
    have mr := List.mem_of_getElem? hri
    have il := (List.getElem?_eq_some_iff.mp hri).1
    have k2 : ∀ b o, H b = some o → H2 b = some o := fun b o h => bb _ _ (old h) (g2 _ _ h)
    refine ⟨_, rfl, .inl ⟨rfl, _, SqL.of hf2⟩, _, rfl, p2, _, _, _, rfl, rfl, SqL.of (k2 _ _ T2.hp), atI_nat (j := 0) rfl, f2, rfl, ⟨_, SqL.of (k2 _ _ T2.hf)⟩, fun D0 hD => ?_⟩
    have fD := ne_of_none (k2 _ _ T2.hf) hD
    refine lc_list (K := K) (a := f2) (xs := rowsV r2) (fun j H4 => But [D0] (upd H2 D0 (.lst [])) H4 ∧ ∃ new : List (Addr × List Str), H4 D0 = some (.lst (rowsV new)) ∧ RowsAt H4 new ∧ new.map (·.2) = ((r2.map (·.2)).take j).map fun b => r.2.filter fun x => decide (x ∈ b)) ⟨But.refl _, [], upd_same, fun r h => by simp at h, rfl⟩
      (fun j H4 _ h => SqL.of (h.1 _ _ (by simpa using fD) (by rw [upd_ne fD]; exact k2 _ _ T2.hf))) ?_ ?_
    · rintro j y H4 hj ⟨b4, new, h4, hnt, hnm⟩
      unfold rowsV at hj
      rw [List.getElem?_map] at hj
      obtain ⟨b, hbj, rfl⟩ := Option.map_eq_some_iff.mp hj
      have mb := List.mem_of_getElem? hbj
      have jl := (List.getElem?_eq_some_iff.mp hbj).1
      have s4 : Same H2 H4 := same_of b4 hD
      have lnew : new.length ≤ 4 := by
        have := congrArg List.length hnm
        rw [List.length_map, List.length_map, List.length_take, List.length_map] at this
        omega
      refine ⟨rfl, _, rfl, r.1, rfl, ⟨_, SqT.of (s4 _ _ (k2 _ _ (T1.rat r mr)))⟩, fun D3 hD3 => ?_⟩
      have r3 := ne_of_none (s4 _ _ (k2 _ _ (T1.rat r mr))) hD3
      refine lc_tup (K := K) (a := r.1) (xs := r.2.map V.str) (fun i H6 => But [D3] (upd H4 D3 (.lst [])) H6 ∧ H6 D3 = some (.lst (((r.2.take i).filter fun x => decide (x ∈ b.2)).map V.str))) ⟨But.refl _, upd_same⟩
        (fun i H6 _ h => SqT.of (h.1 _ _ (by simpa using r3) (by rw [upd_ne r3]; exact s4 _ _ (k2 _ _ (T1.rat r mr))))) ?_ ?_
      · rintro i z H6 hi6 ⟨b6, h6⟩
        rw [List.getElem?_map] at hi6
        obtain ⟨st, hst, rfl⟩ := Option.map_eq_some_iff.mp hi6
        have s6 : Same H4 H6 := same_of b6 hD3
        have lf : ((r.2.take i).filter fun x => decide (x ∈ b.2)).length ≤ 3 := Nat.le_trans (List.length_filter_le _ _) (by rw [List.length_take]; have := l5 r mr; omega)
        refine ⟨rfl, _, rfl, _, rfl, st, b.1, b.2, rfl, rfl, .inr (SqT.of (s6 _ _ (s4 _ _ (k2 _ _ (T2.rat b mb))))), _, rfl, ?_⟩
        have etk : (r.2.take (i + 1)) = r.2.take i ++ [st] := by rw [List.take_add_one, hst]; rfl
        refine ite2 (c := decide (st ∈ b.2) = true) (fun h1 => ?_) (fun h1 => ?_)
        · refine ⟨_, rfl, _, h6, ?_, b6.trans (But.put (by simp)), ?_⟩
          · rw [List.length_map]
            exact small1000 (by omega)
          · rw [upd_same, etk, List.filter_append, List.filter_cons, if_pos h1, List.map_append]
            rfl
        · refine ⟨b6, ?_⟩
          rw [etk, List.filter_append, List.filter_cons, if_neg h1, List.filter_nil, List.append_nil]
          exact h6
      · rintro H6 ⟨b6, h6⟩
        have s6 : Same H4 H6 := same_of b6 hD3
        rw [List.length_map, List.take_length] at h6
        refine ⟨D3, _, rfl, .inl ⟨SqL.of h6, fun t ht => ?_⟩⟩
        have st7 := same_new ht (.tup ((r.2.filter fun x => decide (x ∈ b.2)).map V.str))
        have h7 := st7 _ _ (s6 _ _ h4)
        have tD : t ≠ D0 := fun z => by rw [z, s6 _ _ h4] at ht; cases ht
        refine ⟨_, h7, ?_, (b4.trans (But.of (s6.trans st7))).trans (But.put (by simp)), new ++ [(t, r.2.filter fun x => decide (x ∈ b.2))], ?_, ?_, ?_⟩
        · rw [show (rowsV new).length = new.length by simp [rowsV]]
          exact small1000 (by omega)
        · rw [upd_same]
          simp [rowsV]
        · intro y hy
          rcases List.mem_append.mp hy with z | z
          · have y4 := st7 _ _ (s6 _ _ (hnt y z))
            rw [upd_ne (fun e => by rw [e, h7] at y4; cases y4)]
            exact y4
          · rw [List.mem_singleton.mp z]
            show upd _ D0 _ t = _
            rw [upd_ne tD]
            exact upd_same
        · rw [List.map_append, hnm, List.take_add_one, List.getElem?_map, hbj, List.map_append]
          rfl
    · rintro H4 ⟨b4, new, h4, hnt, hnm⟩
      rw [m2, ← List.length_map (f := fun x : Addr × List Str => x.2) (as := r2), List.take_length] at hnm
      have s4 : Same H2 H4 := same_of b4 hD
      have lnew : new.length ≤ 4 := by
        have := congrArg List.length hnm
        rw [List.length_map, List.length_map, List.length_map] at this
        omega
      have lrows : rows.length ≤ 36 := by
        have := congrArg List.length hmap
        rw [List.length_map, prodN_len, List.length_take, List.length_map, List.length_map] at this
        rw [this]
        exact Nat.le_trans (Nat.mul_le_mul (show min i r1.length ≤ 9 by omega) l2) (by decide)
      refine ⟨tf, D0, _, _, rfl, rfl, s4 _ _ hf2, h4, ?_, ?_⟩
      · rw [show (rowsV rows).length = rows.length by simp [rowsV], show (rowsV new).length = new.length by simp [rowsV]]
        exact Nat.le_of_lt (small1000 (by omega))
      · refine ⟨_, rows ++ new, rfl, (bb.trans (But.of s4)).trans (But.put (by simp)), ?_, ?_, ?_, ?_⟩
        · rw [upd_same]; simp [rowsV]
        · intro y hy
          have y4 : H4 y.1 = some (.tup (y.2.map V.str)) := by
            rcases List.mem_append.mp hy with z | z
            · exact s4 _ _ (hrt y z)
            · exact hnt y z
          rw [upd_ne (fun e => by rw [e, s4 _ _ hf2] at y4; cases y4)]
          exact y4
        · rw [upd_ne tfte.symm]; exact s4 _ _ he2
        · have r1i : (r1.map (·.2))[i]? = some r.2 := by rw [List.getElem?_map, hri]; rfl
          rw [List.map_append, hmap, hnm, List.take_add_one, r1i]
          exact (prodN_snoc _ _ _).symm
  · rintro σ H2 ⟨o5, rows, rfl, bb, hf2, hrt, he2, hmap⟩
    rw [m1, ← List.length_map (f := fun x : Addr × List Str => x.2) (as := r1), List.take_length] at hmap
    have k2 : ∀ b o, H b = some o → H2 b = some o := fun b o h => bb _ _ (old h) (g2 _ _ h)
    have n1 : (edsV d1).length = d1.length := by simp [edsV]
    have n2 : (edsV d2).length = d2.length := by simp [edsV]
    refine ⟨_, rfl, p1, _, _, _, rfl, rfl, SqL.of (k2 _ _ T1.hp), atI_nat (j := 1) rfl, e1, rfl, ⟨_, SqL.of (k2 _ _ T1.he)⟩, for_list (K := K) (a := e1) (xs := edsV d1) (fun i σ H3 => ∃ o5 eds, σ = [some (.ref p1), some (.ref p2), some (.int ((rowsV r2).length : Nat)), some (.ref tf), some (.ref te), o5, none, none] ∧
      But [te] H2 H3 ∧ H3 te = some (.lst (edsV eds)) ∧ EdsAt H3 eds ∧ eds.map (·.2) = prodE r2.length ((d1.map (·.2)).take i) (d2.map (·.2)))
      ⟨o5, [], rfl, But.refl _, he2, fun r h => by simp at h, rfl⟩ (fun i σ H3 _ h => by
        obtain ⟨o5, eds, _, b, _⟩ := h
        exact SqL.of (b _ _ (by simpa using ne_of_none T1.he hte0) (k2 _ _ T1.he))) ?_ ?_⟩
    · rintro i x σ H3 hi ⟨o5, eds, rfl, b3, hte3, het, emap⟩
      unfold edsV at hi
      rw [List.getElem?_map] at hi
      obtain ⟨e, hei, rfl⟩ := Option.map_eq_some_iff.mp hi
      have me := List.mem_of_getElem? hei
      have il := (List.getElem?_eq_some_iff.mp hei).1
      have k3 : ∀ b o, H b = some o → H3 b = some o := fun b o h => b3 _ _ (by simpa using ne_of_none h hte0) (k2 _ _ h)
      refine ⟨_, rfl, .inl ⟨rfl, _, SqL.of hte3⟩, _, rfl, p2, _, _, _, rfl, rfl, SqL.of (k3 _ _ T2.hp), atI_nat (j := 1) rfl, e2, rfl, ⟨_, SqL.of (k3 _ _ T2.he)⟩, fun D0 hD => ?_⟩
      have fD := ne_of_none (k3 _ _ T2.he) hD
      refine lc_list (K := K) (a := e2) (xs := edsV d2) (fun j H4 => But [D0] (upd H3 D0 (.lst [])) H4 ∧ ∃ new : List (Addr × Edge), H4 D0 = some (.lst (edsV new)) ∧ EdsAt H4 new ∧ new.map (·.2) = (((d2.map (·.2)).take j).filter fun f => decide (f.r = e.2.r)).map fun f => ⟨e.2.a * r2.length + f.a, e.2.r, e.2.b * r2.length + f.b⟩) ⟨But.refl _, [], upd_same, fun r h => by simp at h, rfl⟩
        (fun j H4 _ h => SqL.of (h.1 _ _ (by simpa using fD) (by rw [upd_ne fD]; exact k3 _ _ T2.he))) ?_ ?_
      · rintro j y H4 hj ⟨b4, new, h4, hnt, hnm⟩
        unfold edsV at hj
        rw [List.getElem?_map] at hj
        obtain ⟨f, hfj, rfl⟩ := Option.map_eq_some_iff.mp hj
        have mf := List.mem_of_getElem? hfj
        have s4 : Same H3 H4 := same_of b4 hD
        have he4 := s4 _ _ (k3 _ _ (T1.eat e me))
        have hf4 := s4 _ _ (k3 _ _ (T2.eat f mf))
        have d2j : (d2.map (·.2))[j]? = some f.2 := by rw [List.getElem?_map, hfj]; rfl
        have etk : (d2.map (·.2)).take (j + 1) = (d2.map (·.2)).take j ++ [f.2] := by rw [List.take_add_one, d2j]; rfl
        refine ⟨rfl, _, rfl, f.1, _, _, _, rfl, rfl, SqT.of hf4, atI_nat (j := 1) rfl, _, rfl, e.1, _, _, _, rfl, rfl, SqT.of he4, atI_nat (j := 1) rfl, rfl, _, rfl, ?_⟩
        refine ite2 (c := decide (V.str f.2.r = V.str e.2.r) = true) (fun h1 => ?_) (fun h1 => ?_)
        · have er := V.str.inj (of_decide_eq_true h1)
          have ab := b1 e me
          refine ⟨_, rfl, e.1, _, _, _, rfl, rfl, SqT.of he4, atI_nat (j := 0) rfl, _, rfl, _, _, rfl, rfl, .inl ⟨by omega, by omega⟩, _, rfl, f.1, _, _, _, rfl, rfl, SqT.of hf4, atI_nat (j := 0) rfl, _, _, rfl, rfl,
            _, rfl, e.1, _, _, _, rfl, rfl, SqT.of he4, atI_nat (j := 1) rfl,
            _, rfl, e.1, _, _, _, rfl, rfl, SqT.of he4, atI_nat (j := 2) rfl, _, rfl, _, _, rfl, rfl, .inl ⟨by omega, by omega⟩, _, rfl, f.1, _, _, _, rfl, rfl, SqT.of hf4, atI_nat (j := 2) rfl, _, _, rfl, rfl, (by show 3 ≤ sizeLine; decide), fun t ht => ?_⟩
          have ev : ([V.int (((e.2.a : Nat) : Int) * ((rowsV r2).length : Nat) + ((f.2.a : Nat) : Int)), V.str e.2.r, V.int (((e.2.b : Nat) : Int) * ((rowsV r2).length : Nat) + ((f.2.b : Nat) : Int))] : List V) = edgeV ⟨e.2.a * r2.length + f.2.a, e.2.r, e.2.b * r2.length + f.2.b⟩ := by
            unfold edgeV
            rw [m2]
            push_cast
            rfl
          rw [ev] at *
          have st7 := same_new ht (.tup (edgeV ⟨e.2.a * r2.length + f.2.a, e.2.r, e.2.b * r2.length + f.2.b⟩))
          have h7 := st7 _ _ h4
          have tD : t ≠ D0 := fun z => by rw [z, h4] at ht; cases ht
          have lnew : new.length ≤ 12 := by
            have := congrArg List.length hnm
            rw [List.length_map, List.length_map] at this
            have := List.length_filter_le (fun f : Edge => decide (f.r = e.2.r)) ((d2.map (·.2)).take j)
            rw [List.length_take, List.length_map] at this
            omega
          refine ⟨_, h7, ?_, (b4.trans (But.of st7)).trans (But.put (by simp)), new ++ [(t, ⟨e.2.a * r2.length + f.2.a, e.2.r, e.2.b * r2.length + f.2.b⟩)], ?_, ?_, ?_⟩
          · rw [show (edsV new).length = new.length by simp [edsV]]
            exact small1000 (by omega)
          · rw [upd_same]
            simp [edsV]
          · intro y hy
            rcases List.mem_append.mp hy with z | z
            · have y4 := st7 _ _ (hnt y z)
              rw [upd_ne (fun e => by rw [e, h7] at y4; cases y4)]
              exact y4
            · rw [List.mem_singleton.mp z]
              show upd _ D0 _ t = _
              rw [upd_ne tD]
              exact upd_same
          · rw [etk, List.filter_append, List.filter_cons, if_pos (decide_eq_true er), List.filter_nil, List.map_append, List.map_append, hnm]
            rfl
        · refine ⟨b4, new, h4, hnt, ?_⟩
          rw [etk, List.filter_append, List.filter_cons, if_neg (by rw [decide_eq_true_eq]; exact fun z => h1 (decide_eq_true (by rw [z]))), List.filter_nil, List.append_nil]
          exact hnm
      · rintro H4 ⟨b4, new, h4, hnt, hnm⟩
        rw [n2, ← List.length_map (f := fun x : Addr × Edge => x.2) (as := d2), List.take_length] at hnm
        have s4 : Same H3 H4 := same_of b4 hD
        have lnew : new.length ≤ 12 := by
          have := congrArg List.length hnm
          rw [List.length_map, List.length_map] at this
          have := List.length_filter_le (fun f : Edge => decide (f.r = e.2.r)) (d2.map (·.2))
          rw [List.length_map] at this
          omega
        have leds : eds.length ≤ 324 := by
          have := congrArg List.length emap
          rw [List.length_map] at this
          have h2 := prodE_len r2.length ((d1.map (·.2)).take i) (d2.map (·.2))
          rw [List.length_take, List.length_map, List.length_map] at h2
          exact Nat.le_trans (this ▸ h2) (Nat.mul_le_mul (show min i d1.length ≤ 27 by omega) l4)
        refine ⟨te, D0, _, _, rfl, rfl, s4 _ _ hte3, h4, ?_, ?_⟩
        · rw [show (edsV eds).length = eds.length by simp [edsV], show (edsV new).length = new.length by simp [edsV]]
          exact Nat.le_of_lt (small1000 (by omega))
        · refine ⟨_, eds ++ new, rfl, (b3.trans (But.of s4)).trans (But.put (by simp)), ?_, ?_, ?_⟩
          · rw [upd_same]; simp [edsV]
          · intro y hy
            have y4 : H4 y.1 = some (.tup (edgeV y.2)) := by
              rcases List.mem_append.mp hy with z | z
              · exact s4 _ _ (het y z)
              · exact hnt y z
            rw [upd_ne (fun e => by rw [e, s4 _ _ hte3] at y4; cases y4)]
            exact y4
          · have d1i : (d1.map (·.2))[i]? = some e.2 := by rw [List.getElem?_map, hei]; rfl
            rw [List.map_append, emap, hnm, List.take_add_one, d1i]
            exact (prodE_snoc _ _ _ _).symm
    · rintro σ H3 ⟨o5, eds, rfl, b3, hte3, het, emap⟩
      rw [n1, ← List.length_map (f := fun x : Addr × Edge => x.2) (as := d1), List.take_length] at emap
      have rt3 : RowsAt H3 rows := fun r hr => b3 _ _ (by
        have := hrt r hr
        simp only [List.mem_singleton]
        intro z
        rw [z, he2] at this; cases this) (hrt r hr)
      have hf3 : H3 tf = some (.lst (rowsV rows)) := b3 _ _ (by simpa using tfte) hf2
      have s03 : Same H H3 := fun b o h => b3 _ _ (by simpa using ne_of_none h hte0) (k2 _ _ h)
      refine ⟨_, rfl, _, rfl, te, eds, rfl, SqL.of hte3, het, fun ts hts => ⟨(by show 2 ≤ sizeLine; decide), fun p hp => ?_⟩⟩
      have t4 := same_new hts (.lst (edsV (sortA eds)))
      have t5 := t4.trans (same_new hp (.lst [.ref tf, .ref ts]))
      refine q _ p tf ts rows (sortA eds) (s03.trans t5) (none_same (s03.trans t4) hp) htf (none_same s03 hts) ⟨upd_same, t5 _ _ hf3, ?_, fun r hr => t5 _ _ (rt3 r hr), fun e he => t5 _ _ (het e ((mem_sortA e).mp he))⟩ hmap (by rw [sortA_snd, emap])
      exact same_new hp (.lst [.ref tf, .ref ts]) _ _ upd_same
end
end K1
namespace K1
open PySem L2
/-! ### a comprehension with two fors, over lists -/
/-- the outer for, over a list that the block leaves as it is -/
theorem lc2_list {K : PySem.W.Frag} {a : Addr} {xs : List V} {g : TG} {tt : TT} {wi1 : TI} {g1 : TG} {tt1 : TT} {te : TE} {vs vs1 : List Nat} {σ : St} {H1 : Hp} {D : Addr} {Qd : Hp → Prop} (Pv : Nat → Hp → Prop) (h0 : Pv 0 (upd H1 D (.lst []))) (hl : ∀ i H, i ≤ xs.length → Pv i H → SqL K H a xs)
    (hs : ∀ i x H, xs[i]? = some x → Pv i H → g x (wipe σ vs) H fun σ2 H2 => wipe σ2 vs = wipe σ vs ∧ tt σ2 H2 fun b H3 =>
      if b = true then wi1 σ2 H3 fun J1 H4 => ∃ W1 : Nat → Nat → Hp → Prop, (∃ m, W1 0 m H4) ∧ ∀ j k H, W1 j k H →
        (J1.stop j H ∧ Pv (i + 1) H) ∨ (J1.go j H ∧ ∃ Nx1 : Hp → Prop, (∀ H', Nx1 H' → ∃ k', k' < k ∧ W1 (j + 1) k' H') ∧ ∀ x H', J1.yld j H x H' → g1 x (wipe σ2 vs1) H' fun σ3 H5 => wipe σ3 vs1 = wipe σ2 vs1 ∧ tt1 σ3 H5 fun b H6 =>
          if b = true then te σ3 H6 fun y H7 => ∃ acc, H7 D = some (.lst acc) ∧ acc.length < sizeLine ∧ Nx1 (upd H7 D (.lst (acc ++ [y]))) else Nx1 H6)
      else Pv (i + 1) H3) (hd : ∀ H, Pv xs.length H → Qd H) :
    ∃ W : Nat → Nat → Hp → Prop, (∃ m, W 0 m (upd H1 D (.lst []))) ∧ ∀ i m H, W i m H →
      ((Itl K a).stop i H ∧ Qd H) ∨ ((Itl K a).go i H ∧ ∃ Nx : Hp → Prop, (∀ H', Nx H' → ∃ m', m' < m ∧ W (i + 1) m' H') ∧ ∀ x H', (Itl K a).yld i H x H' → g x (wipe σ vs) H' fun σ2 H2 => wipe σ2 vs = wipe σ vs ∧ tt σ2 H2 fun b H3 =>
        if b = true then wi1 σ2 H3 fun J1 H4 => ∃ W1 : Nat → Nat → Hp → Prop, (∃ m, W1 0 m H4) ∧ ∀ j k H, W1 j k H →
          (J1.stop j H ∧ Nx H) ∨ (J1.go j H ∧ ∃ Nx1 : Hp → Prop, (∀ H', Nx1 H' → ∃ k', k' < k ∧ W1 (j + 1) k' H') ∧ ∀ x H', J1.yld j H x H' → g1 x (wipe σ2 vs1) H' fun σ3 H5 => wipe σ3 vs1 = wipe σ2 vs1 ∧ tt1 σ3 H5 fun b H6 =>
            if b = true then te σ3 H6 fun y H7 => ∃ acc, H7 D = some (.lst acc) ∧ acc.length < sizeLine ∧ Nx1 (upd H7 D (.lst (acc ++ [y]))) else Nx1 H6)
        else Nx H3) := by
  refine ⟨fun i m H => m = xs.length - i ∧ i ≤ xs.length ∧ Pv i H, ⟨xs.length, by simp, Nat.zero_le _, h0⟩, ?_⟩
  rintro i m H ⟨rfl, hi, p⟩
  have q := hl i H hi p
  by_cases hlt : i < xs.length
  · refine .inr ⟨⟨xs, xs[i], q, by simp [hlt]⟩, Pv (i + 1), fun H' p' => ⟨xs.length - (i + 1), by omega, rfl, hlt, p'⟩, fun x H' y => ?_⟩
    obtain ⟨e, y⟩ := y
    subst e
    exact hs i x _ (y xs q) p
  · have e : i = xs.length := by omega
    subst e
    exact .inl ⟨⟨xs, q, Nat.le_refl _⟩, hd H p⟩
/-- the inner one -/
theorem in_list {K : PySem.W.Frag} {a : Addr} {ys : List V} {g1 : TG} {tt1 : TT} {te : TE} {vs1 : List Nat} {σ2 : St} {H4 : Hp} {D : Addr} {Qd : Hp → Prop} (Pv : Nat → Hp → Prop) (h0 : Pv 0 H4) (hl : ∀ i H, i ≤ ys.length → Pv i H → SqL K H a ys)
    (hs : ∀ i x H, ys[i]? = some x → Pv i H → g1 x (wipe σ2 vs1) H fun σ3 H5 => wipe σ3 vs1 = wipe σ2 vs1 ∧ tt1 σ3 H5 fun b H6 =>
      if b = true then te σ3 H6 fun y H7 => ∃ acc, H7 D = some (.lst acc) ∧ acc.length < sizeLine ∧ Pv (i + 1) (upd H7 D (.lst (acc ++ [y]))) else Pv (i + 1) H6) (hd : ∀ H, Pv ys.length H → Qd H) :
    ∃ W1 : Nat → Nat → Hp → Prop, (∃ m, W1 0 m H4) ∧ ∀ j k H, W1 j k H →
      ((Itl K a).stop j H ∧ Qd H) ∨ ((Itl K a).go j H ∧ ∃ Nx1 : Hp → Prop, (∀ H', Nx1 H' → ∃ k', k' < k ∧ W1 (j + 1) k' H') ∧ ∀ x H', (Itl K a).yld j H x H' → g1 x (wipe σ2 vs1) H' fun σ3 H5 => wipe σ3 vs1 = wipe σ2 vs1 ∧ tt1 σ3 H5 fun b H6 =>
        if b = true then te σ3 H6 fun y H7 => ∃ acc, H7 D = some (.lst acc) ∧ acc.length < sizeLine ∧ Nx1 (upd H7 D (.lst (acc ++ [y]))) else Nx1 H6) := by
  refine ⟨fun i m H => m = ys.length - i ∧ i ≤ ys.length ∧ Pv i H, ⟨ys.length, by simp, Nat.zero_le _, h0⟩, ?_⟩
  rintro i m H ⟨rfl, hi, p⟩
  have q := hl i H hi p
  by_cases hlt : i < ys.length
  · refine .inr ⟨⟨ys, ys[i], q, by simp [hlt]⟩, Pv (i + 1), fun H' p' => ⟨ys.length - (i + 1), by omega, rfl, hlt, p'⟩, fun x H' y => ?_⟩
    obtain ⟨e, y⟩ := y
    subst e
    exact hs i x _ (y ys q) p
  · have e : i = ys.length := by omega
    subst e
    exact .inl ⟨⟨ys, q, Nat.le_refl _⟩, hd H p⟩
end K1
namespace K1
open PySem L2
/-! ### pair_edges -/
theorem nodup_leA {α : Type} [DecidableEq α] : ∀ {l m : List α}, l.Nodup → (∀ x ∈ l, x ∈ m) → l.length ≤ m.length
  | [], _, _, _ => Nat.zero_le _
  | x :: l, m, nd, h => by
    rw [List.nodup_cons] at nd
    have hx : x ∈ m := h x List.mem_cons_self
    have := nodup_leA (l := l) (m := m.erase x) nd.2 fun y hy => (List.mem_erase_of_ne (fun e => nd.1 (by rw [← e]; exact hy))).mpr (h y (List.mem_cons_of_mem _ hy))
    rw [List.length_erase_of_mem hx] at this
    have := List.length_pos_of_mem hx
    rw [List.length_cons]
    omega
/-- an edge of the product -/
def PairE (ed1 ed2 : List Edge) (m : Nat) (x : Edge) : Prop := hasE ed1 x.r (x.a / m) (x.b / m) = true ∧ hasE ed2 x.r (x.a % m) (x.b % m) = true
theorem pairE_mem {ed1 ed2 : List Edge} {m : Nat} (hm : ∀ e ∈ ed2, e.a < m ∧ e.b < m) (x : Edge) : PairE ed1 ed2 m x ↔ x ∈ prodE m ed1 ed2 := by
  unfold PairE prodE hasE
  simp only [decide_eq_true_eq, List.mem_flatMap, List.mem_map, List.mem_filter]
  constructor
  · rintro ⟨h1, h2⟩
    refine ⟨_, h1, _, ⟨h2, rfl⟩, ?_⟩
    obtain ⟨a, r, b⟩ := x
    have e1 : a / m * m + a % m = a := by rw [Nat.mul_comm]; exact Nat.div_add_mod a m
    have e2 : b / m * m + b % m = b := by rw [Nat.mul_comm]; exact Nat.div_add_mod b m
    simp only [e1, e2]
  · rintro ⟨e, he, f, ⟨hf, hr⟩, rfl⟩
    obtain ⟨fa, fb⟩ := hm f hf
    have q1 : (e.a * m + f.a) / m = e.a := by rw [Nat.mul_comm, Nat.mul_add_div (by omega), Nat.div_eq_of_lt fa, Nat.add_zero]
    have q2 : (e.b * m + f.b) / m = e.b := by rw [Nat.mul_comm, Nat.mul_add_div (by omega), Nat.div_eq_of_lt fb, Nat.add_zero]
    have q3 : (e.a * m + f.a) % m = f.a := by rw [Nat.mul_comm, Nat.mul_add_mod, Nat.mod_eq_of_lt fa]
    have q4 : (e.b * m + f.b) % m = f.b := by rw [Nat.mul_comm, Nat.mul_add_mod, Nat.mod_eq_of_lt fb]
    refine ⟨?_, ?_⟩
    · show Edge.mk ((e.a * m + f.a) / m) e.r ((e.b * m + f.b) / m) ∈ ed1
      rw [q1, q2]; exact he
    · show Edge.mk ((e.a * m + f.a) % m) e.r ((e.b * m + f.b) % m) ∈ ed2
      rw [q3, q4, ← hr]; exact hf
/-- the edges of one turn -/
def newE (m t o : Nat) (r : Str) (A B : List Nat) : List Edge := A.flatMap fun e => B.map fun l => ⟨t * m + o, r, e * m + l⟩
theorem newE_snoc (m t o : Nat) (r : Str) (A B : List Nat) (e : Nat) : newE m t o r (A ++ [e]) B = newE m t o r A B ++ B.map fun l => ⟨t * m + o, r, e * m + l⟩ := by simp [newE]
theorem newE_len (m t o : Nat) (r : Str) (A B : List Nat) : (newE m t o r A B).length = A.length * B.length := by
  induction A with
  | nil => simp [newE]
  | cons a A ih =>
    simp only [newE, List.flatMap_cons, List.length_append, List.length_map, List.length_cons] at ih ⊢
    rw [ih, Nat.succ_mul, Nat.add_comm]
theorem ones_nodup (k n : Nat) : (K2.ones k n).Nodup := List.Pairwise.sublist List.filter_sublist List.nodup_range
theorem ones_len (k n : Nat) : (K2.ones k n).length ≤ n := by
  have := List.length_filter_le (fun i => k.testBit i) (List.range n)
  rw [List.length_range] at this
  exact this
theorem newE_nodup {m t o : Nat} {r : Str} {k1 k2 n : Nat} : (newE m t o r (K2.ones k1 n) (K2.ones k2 m)).Nodup := by
  unfold newE
  refine List.pairwise_flatMap.mpr ⟨fun e _ => ?_, ?_⟩
  · refine List.pairwise_map.mpr (List.Pairwise.imp (fun {a b} h z => ?_) (ones_nodup k2 m))
    have := congrArg Edge.b z
    exact h (Nat.add_left_cancel this)
  · refine List.Pairwise.imp (fun {a b} h x hx y hy z => ?_) (ones_nodup k1 n)
    obtain ⟨i, hi, rfl⟩ := List.mem_map.mp hx
    obtain ⟨j, hj, rfl⟩ := List.mem_map.mp hy
    have z1 : a * m + i = b * m + j := congrArg Edge.b z
    have hi' := (K2.mem_ones.mp hi).1
    have hj' := (K2.mem_ones.mp hj).1
    have q1 : (a * m + i) / m = a := by rw [Nat.mul_comm, Nat.mul_add_div (by omega), Nat.div_eq_of_lt hi', Nat.add_zero]
    have q2 : (b * m + j) / m = b := by rw [Nat.mul_comm, Nat.mul_add_div (by omega), Nat.div_eq_of_lt hj', Nat.add_zero]
    rw [z1, q2] at q1
    exact h q1.symm
theorem newE_mem {ed1 ed2 : List Edge} {m n t o k1 k2 : Nat} {r : Str} (b1 : ∀ e ∈ ed1, e.a < n ∧ e.b < n) (b2 : ∀ e ∈ ed2, e.a < m ∧ e.b < m) (h1 : ∀ b, k1.testBit b = hasE ed1 r t b) (h2 : ∀ b, k2.testBit b = hasE ed2 r o b) (x : Edge) :
    x ∈ newE m t o r (K2.ones k1 n) (K2.ones k2 m) ↔ PairE ed1 ed2 m x ∧ (x.r = r ∧ x.a / m = t ∧ x.a % m = o) := by
  unfold newE PairE
  simp only [List.mem_flatMap, List.mem_map, K2.mem_ones, h1, h2]
  constructor
  · rintro ⟨e, ⟨en, he⟩, l, ⟨lm, hl⟩, rfl⟩
    have om : o < m := (b2 _ (of_decide_eq_true hl)).1
    have q1 : (t * m + o) / m = t := by rw [Nat.mul_comm, Nat.mul_add_div (by omega), Nat.div_eq_of_lt om, Nat.add_zero]
    have q2 : (e * m + l) / m = e := by rw [Nat.mul_comm, Nat.mul_add_div (by omega), Nat.div_eq_of_lt lm, Nat.add_zero]
    have q3 : (t * m + o) % m = o := by rw [Nat.mul_comm, Nat.mul_add_mod, Nat.mod_eq_of_lt om]
    have q4 : (e * m + l) % m = l := by rw [Nat.mul_comm, Nat.mul_add_mod, Nat.mod_eq_of_lt lm]
    simp only [q1, q2, q3, q4]
    exact ⟨⟨he, hl⟩, trivial, trivial, trivial⟩
  · rintro ⟨⟨p1, p2⟩, rfl, rfl, rfl⟩
    refine ⟨x.b / m, ⟨(b1 _ (of_decide_eq_true p1)).2, p1⟩, x.b % m, ⟨(b2 _ (of_decide_eq_true p2)).2, p2⟩, ?_⟩
    obtain ⟨a, r, b⟩ := x
    have e1 : a / m * m + a % m = a := by rw [Nat.mul_comm]; exact Nat.div_add_mod a m
    have e2 : b / m * m + b % m = b := by rw [Nat.mul_comm]; exact Nat.div_add_mod b m
    simp only [e1, e2]
theorem mask_lt {k n : Nat} (h : ∀ b, k.testBit b = true → b < n) : k < 2 ^ n := Nat.lt_pow_two_of_testBit k fun i hi => by
  cases e : k.testBit i with
  | false => rfl
  | true => have := h i e; omega
/-- the edges ahead, as a graph has them -/
structure AhdAt (H : Hp) (da : Addr) (ed : List Edge) : Prop where
  ex : ∃ ka oa, H da = some (.frz oa (.dK ka)) ∧
    (∀ k v, valV ka k = some v → ∃ r a inner oi, k = Sum.inr r ∧ v = .ref a ∧ H a = some (.frz oi (.dK inner)) ∧ Inn inner (hasE ed r) ∧ inner.length ≤ 1000) ∧
    (∀ r, valV ka (Sum.inr r : Key) = none → ∀ i b, hasE ed r i b = false) ∧ (ka.map (·.1)).Nodup ∧ ka.length ≤ 1000
theorem AhdAt.same {H H' : Hp} {da : Addr} {ed : List Edge} (h : AhdAt H da ed) (e : Same H H') : AhdAt H' da ed := by
  obtain ⟨ka, oa, h1, h2, h3⟩ := h.ex
  refine ⟨ka, oa, e _ _ h1, fun k v q => ?_, h3⟩
  obtain ⟨r, a, inner, oi, q1, q2, q3, q4⟩ := h2 k v q
  exact ⟨r, a, inner, oi, q1, q2, e _ _ q3, q4⟩
/-- what is found so far -/
def FoundAt (H : Hp) (tf : Addr) (S : Edge → Prop) : Prop := ∃ eds : List (Addr × Edge), H tf = some (.lst (edsV eds)) ∧ EdsAt H eds ∧ (eds.map (·.2)).Nodup ∧ ∀ x, x ∈ eds.map (·.2) ↔ S x
theorem FoundAt.same {H H' : Hp} {tf : Addr} {S : Edge → Prop} (h : FoundAt H tf S) (e : Same H H') : FoundAt H' tf S := by
  obtain ⟨eds, h1, h2, h3⟩ := h
  exact ⟨eds, e _ _ h1, fun x hx => e _ _ (h2 x hx), h3⟩
theorem FoundAt.imp {H : Hp} {tf : Addr} {S S' : Edge → Prop} (h : FoundAt H tf S) (e : ∀ x, S x ↔ S' x) : FoundAt H tf S' := by
  obtain ⟨eds, h1, h2, h3, h4⟩ := h
  exact ⟨eds, h1, h2, h3, fun x => (h4 x).trans (e x)⟩
theorem take_keys {l : List (Key × V)} {i : Nat} {kv : Key × V} (h : l[i]? = some kv) (k : Key) : k ∈ (l.take (i + 1)).map (·.1) ↔ k ∈ (l.take i).map (·.1) ∨ k = kv.1 := by
  rw [List.take_add_one, h, List.map_append, List.mem_append]
  simp
theorem keys_val {l : List (Key × V)} {k : Key} (h : valV l k = none) : k ∉ l.map (·.1) := by
  intro hk
  have := valV_any k l
  rw [h] at this
  obtain ⟨x, hx, rfl⟩ := List.mem_map.mp hk
  have h2 : (l.any fun kv => decide (kv.1 = x.1)) = true := List.any_eq_true.mpr ⟨x, hx, decide_eq_true rfl⟩
  rw [h2] at this
  cases this
theorem next_key {l : List (Key × V)} (nd : (l.map (·.1)).Nodup) {i : Nat} {kv : Key × V} (h : l[i]? = some kv) : kv.1 ∉ (l.take i).map (·.1) := by
  intro hk
  have hi := (List.getElem?_eq_some_iff.mp h).1
  have e : l.map (·.1) = (l.take i).map (·.1) ++ (l.drop i).map (·.1) := by rw [← List.map_append, List.take_append_drop]
  rw [e] at nd
  have : kv.1 ∈ (l.drop i).map (·.1) := List.mem_map.mpr ⟨kv, List.mem_of_getElem? (i := 0) (by rw [List.getElem?_drop]; exact h), rfl⟩
  exact (List.nodup_append.mp nd).2.2 _ hk _ this rfl
section
variable {P : Program} {w : World} {K : PySem.W.Frag} {mg : Str → Option Value} {base : Heap}
def spPairE : Sp := fun vs H Q _ => ∃ (a1 a2 : Addr) (ed1 ed2 : List Edge) (n m : Nat), vs = [.ref a1, .ref a2, .int (m : Nat)] ∧ AhdAt H a1 ed1 ∧ AhdAt H a2 ed2 ∧
  (∀ e ∈ ed1, e.a < n ∧ e.b < n) ∧ (∀ e ∈ ed2, e.a < m ∧ e.b < m) ∧ n ≤ 9 ∧ m ≤ 4 ∧ 0 < m ∧ ed1.length ≤ 27 ∧ ed2.length ≤ 12 ∧
  ∀ (H' : Hp) (p : Addr) (eds : List (Addr × Edge)), Same H H' → H p = none → H' p = some (.lst (edsV eds)) → EdsAt H' eds → AscE (eds.map (·.2)) → (∀ x, x ∈ eds.map (·.2) ↔ PairE ed1 ed2 m x) → Q (.ref p) H'
theorem ok_pairE (D : Defs K mg) : FnOk P w K mg base CX0 2 D.d_pair_edges.f D.d_pair_edges.fd ["ahead", "others_ahead", "many"] spPairE := by
  have GB := ok_bits (P := P) (w := w) (base := base) D
  refine D.d_pair_edges.F.ok sc_pair_edges (fun vs H Q E h => ?_) (fun cdv A outer s H vs Q E hr h => ?_)
  · obtain ⟨a1, a2, ed1, ed2, n, m, rfl, _⟩ := h
    rfl
  obtain ⟨a1, a2, ed1, ed2, n, m, rfl, A1, A2, b1, b2, n9, m4, m0, l1, l2, q⟩ := h
  have hu := hu_of hr
  refine ⟨_, (pss_cons (ps_set (i := 3) sc_pair_edges.nd rfl (Or.inl rfl) (pe_lst pa_nil))
      (pss_cons (ps_for PassesOwn.never rfl (pi_keys (K2.pe_frzO (pv 0))) (pg_name (i := 4) sc_pair_edges.nd rfl (Or.inr rfl)) (pss_one (ps_for PassesOwn.never rfl (pi_items (K2.pe_frzO (pe_dget hu (pv 0) (pv 4) (fun _ _ => rfl)))) (pg_tup rfl (pgs_cons (pg_name (i := 5) sc_pair_edges.nd rfl (Or.inl rfl)) (pgs_cons (pg_name (i := 6) sc_pair_edges.nd rfl (Or.inl rfl)) pgs_nil))) (pss_one (ps_for PassesOwn.never rfl (pi_items (K2.pe_frzO (pe_dget2 hu (pv 1) (pv 4) pe_dnewK ⟨rfl, rfl, rfl, rfl⟩))) (pg_tup rfl (pgs_cons (pg_name (i := 7) sc_pair_edges.nd rfl (Or.inl rfl)) (pgs_cons (pg_name (i := 8) sc_pair_edges.nd rfl (Or.inl rfl)) pgs_nil))) (pss_cons (ps_set (i := 9) sc_pair_edges.nd rfl (Or.inr rfl) (pe_op op_add (pe_op op_mul (pv 5) (pv 2)) (pv 7)))
      (pss_cons (ps_set (i := 10) sc_pair_edges.nd rfl (Or.inr rfl) (pe_call GB hr rfl D.d_bits.m D.d_bits.F.kp D.d_bits.b .nil pass0 (pa_cons (pv 8) pa_nil)))
      (pss_one (ps_expr (pe_bm PySem.F.plainAttrs_list PySem.F.slot_list_extend PySem.F.type_list_extend mt_extend (pv 3) (pa_cons
              (pe_lc2 (own := [("end", 11), ("last", 12)]) (vs1 := [12]) (g := gName 11) (g1 := gName 12) (wi1 := iList K (tVar 10)) rfl sc_pair_edges.nd (pi_list (pe_call GB hr rfl D.d_bits.m D.d_bits.F.kp D.d_bits.b .nil pass0 (pa_cons (pv 6) pa_nil)))
                (blkOk_by (N := ["ahead", "others_ahead", "many", "found", "role", "thing", "targets", "other", "more", "pair", "ends", "end", "last"]) (sc := defScope s_pair_edges) (by decide +kernel)) (by decide)
                (fun _ _ _ _ _ => pg_name (i := 11) sc_pair_edges.nd rfl (Or.inl rfl)) (fun _ _ _ _ _ => pts_nil) (fun _ _ _ _ _ => pi_list (pv 10)) (fun _ _ _ _ _ => pg_name (i := 12) sc_pair_edges.nd rfl (Or.inl rfl)) (fun _ _ _ _ _ => pts_nil)
                (fun _ _ _ _ _ => (pe_tup (pa_cons (pv 9) (pa_cons (pv 4) (pa_cons (pe_op op_add (pe_op op_mul (pv 11) (pv 2)) (pv 12)) pa_nil)))))) pa_nil)))))))))))
      (pss_one (ps_ret (pe_callB (cr_sortedE hr.units) (by rfl) D.z_sorted (by decide +kernel) (pa_cons (pv 3) pa_nil)))))), ?_⟩
  obtain ⟨ka1, oa1, g1, g2, g3, g4, g5⟩ := A1.ex
  obtain ⟨ka2, oa2, f1, f2, f3, f4, f5⟩ := A2.ex
  refine ⟨(by show 0 ≤ sizeLine; decide), fun tf htf => ?_⟩
  have s0 := same_new htf (.lst [])
  have nt : ∀ {b : Addr} {o : HO}, H b = some o → b ∉ [tf] := fun h => by simpa using ne_of_none h htf
  refine ⟨_, rfl, a1, rfl, .inl ⟨a1, oa1, rfl, .inl ⟨ka1, s0 _ _ g1, for_it walk_keys (fun i σ H3 => ∃ o4 o5 o6 o7 o8 o9 o10, σ = [some (.ref a1), some (.ref a2), some (.int (m : Nat)), some (.ref tf), o4, o5, o6, o7, o8, o9, o10, none, none] ∧
      But [tf] (upd H tf (.lst [])) H3 ∧ FoundAt H3 tf fun x => PairE ed1 ed2 m x ∧ (Sum.inr x.r : Key) ∈ (ka1.take i).map (·.1))
      ⟨none, none, none, none, none, none, none, rfl, But.refl _, [], upd_same, fun x hx => by simp at hx, List.nodup_nil, fun x => by simp⟩ (fun i σ H3 _ h => ?_) ?_ ?_⟩⟩⟩
  · obtain ⟨_, _, _, _, _, _, _, _, bb, _⟩ := h
    exact bb _ _ (nt g1) (s0 _ _ g1)
  · rintro i y σ H3 H4 hi ⟨o4, o5, o6, o7, o8, o9, o10, rfl, bb, hf⟩ ⟨rfl, k, v, hkv, rfl⟩
    have hval := mem_valV g4 (List.mem_of_getElem? hkv)
    obtain ⟨r, a, inner, oi, rfl, rfl, h5, hin, hil⟩ := g2 k v hval
    refine ⟨_, rfl, _, rfl, a1, .ref a, rfl, .inl ⟨ka1, Sum.inr r, .inr ⟨oa1, bb _ _ (nt g1) (s0 _ _ g1)⟩, rfl, hval.symm⟩, a, rfl, .inl ⟨a, oi, inner, rfl, bb _ _ (nt h5) (s0 _ _ h5), for_it walk_items (fun j σ H5 => ∃ o5 o6 o7 o8 o9 o10, σ = [some (.ref a1), some (.ref a2), some (.int (m : Nat)), some (.ref tf), some (.str r), o5, o6, o7, o8, o9, o10, none, none] ∧
      But [tf] (upd H tf (.lst [])) H5 ∧ FoundAt H5 tf fun x => PairE ed1 ed2 m x ∧ ((Sum.inr x.r : Key) ∈ (ka1.take i).map (·.1) ∨ x.r = r ∧ (Sum.inl ((x.a / m : Nat) : Int) : Key) ∈ (inner.take j).map (·.1)))
      ⟨o5, o6, o7, o8, o9, o10, rfl, bb, hf.imp fun x => by simp⟩ (fun j σ H5 _ h => ?_) ?_ ?_⟩⟩
    · obtain ⟨_, _, _, _, _, _, _, b5, _⟩ := h
      exact b5 _ _ (nt h5) (s0 _ _ h5)
    · rintro j y σ H5 H6 hj ⟨o5, o6, o7, o8, o9, o10, rfl, b5, hf5⟩ ⟨T, kx, vx, rfl, hT, rfl, e1, e2⟩
      obtain ⟨kv, hkv2⟩ : ∃ kv, inner[j]? = some kv := ⟨_, List.getElem?_eq_getElem hj⟩
      have e1' : inner[j]?.map (fun kv => kV kv.1) = some kx := e1
      have e2' : inner[j]?.map Prod.snd = some vx := e2
      rw [hkv2] at e1' e2'
      cases e1'
      cases e2'
      obtain ⟨t0, k1, hk0, hv0, hb0⟩ := hin.at_ kv.1 kv.2 (mem_valV hin.nd (by rw [show (kv.1, kv.2) = kv from rfl]; exact List.mem_of_getElem? hkv2))
      obtain rfl : kv = (Sum.inl ((t0 : Nat) : Int), V.int (k1 : Nat)) := Prod.ext hk0 hv0
      have s6 := same_new hT (.tup [V.int (t0 : Nat), V.int (k1 : Nat)])
      have b6 := b5.trans (But.of (D := [tf]) s6)
      have hf6 := hf5.same s6
      refine ⟨T, _, rfl, SqT.of upd_same, rfl, _, _, rfl, _, _, rfl, rfl, _, rfl, a2, rfl, .inl ⟨ka2, .inr ⟨oa2, b6 _ _ (nt f1) (s0 _ _ f1)⟩⟩, _, rfl, fun p hp => ⟨_, .inl ⟨ka2, Sum.inr r, .inr ⟨oa2, same_new hp _ _ _ (b6 _ _ (nt f1) (s0 _ _ f1))⟩, rfl, rfl⟩, ?_⟩⟩
      have s7 := same_new hp (.dK [])
      have b7 := b6.trans (But.of (D := [tf]) s7)
      have hf7 := hf6.same s7
      have last : ∀ x : Edge, (PairE ed1 ed2 m x ∧ (((Sum.inr x.r : Key) ∈ (ka1.take i).map (·.1) ∨ x.r = r ∧ (Sum.inl ((x.a / m : Nat) : Int) : Key) ∈ (inner.take j).map (·.1)) ∨ x.r = r ∧ x.a / m = t0)) ↔
          (PairE ed1 ed2 m x ∧ ((Sum.inr x.r : Key) ∈ (ka1.take i).map (·.1) ∨ x.r = r ∧ (Sum.inl ((x.a / m : Nat) : Int) : Key) ∈ (inner.take (j + 1)).map (·.1))) := fun x => by
        rw [take_keys hkv2]
        have e : (Sum.inl ((x.a / m : Nat) : Int) : Key) = Sum.inl ((t0 : Nat) : Int) ↔ x.a / m = t0 := ⟨fun z => by have := Sum.inl.inj z; omega, fun z => by rw [z]⟩
        show _ ↔ (_ ∧ (_ ∨ _ ∧ (_ ∨ (Sum.inl ((x.a / m : Nat) : Int) : Key) = Sum.inl ((t0 : Nat) : Int))))
        rw [e]
        constructor
        · rintro ⟨p1, (p2 | ⟨p2, p3⟩) | ⟨p2, p3⟩⟩
          · exact ⟨p1, .inl p2⟩
          · exact ⟨p1, .inr ⟨p2, .inl p3⟩⟩
          · exact ⟨p1, .inr ⟨p2, .inr p3⟩⟩
        · rintro ⟨p1, p2 | ⟨p2, p3 | p3⟩⟩
          · exact ⟨p1, .inl (.inl p2)⟩
          · exact ⟨p1, .inl (.inr ⟨p2, p3⟩)⟩
          · exact ⟨p1, .inr ⟨p2, p3⟩⟩
      cases hv : valV ka2 (Sum.inr r : Key) with
      | none =>
        refine ⟨p, rfl, .inr ⟨_, upd_same, trivial, fun od => ?_⟩⟩
        have s8 : Same (upd H5 T (.tup [V.int (t0 : Nat), V.int (k1 : Nat)])) (upd (upd (upd H5 T (.tup [V.int (t0 : Nat), V.int (k1 : Nat)])) p (.dK [])) p (.frz od (.dK []))) := by rw [upd_upd]; exact same_new hp _
        refine ⟨p, od, [], rfl, upd_same, for_it walk_items (fun l σ H8 => l = 0 ∧ ∃ o7 o8 o9 o10, σ = [some (.ref a1), some (.ref a2), some (.int (m : Nat)), some (.ref tf), some (.str r), some (.int (t0 : Nat)), some (.int (k1 : Nat)), o7, o8, o9, o10, none, none] ∧
          But [tf] (upd H tf (.lst [])) H8 ∧ H8 p = some (.frz od (.dK [])) ∧ FoundAt H8 tf fun x => PairE ed1 ed2 m x ∧ (((Sum.inr x.r : Key) ∈ (ka1.take i).map (·.1) ∨ x.r = r ∧ (Sum.inl ((x.a / m : Nat) : Int) : Key) ∈ (inner.take j).map (·.1)) ∨ x.r = r ∧ x.a / m = t0))
          ⟨rfl, o7, o8, o9, o10, rfl, b6.trans (But.of s8), upd_same, (hf6.same s8).imp fun x => ?_⟩ (fun l σ H8 _ h => ?_) ?_ ?_⟩
        · constructor
          · rintro ⟨p1, p2⟩
            exact ⟨p1, .inl p2⟩
          · rintro ⟨p1, p2 | ⟨p2, p3⟩⟩
            · exact ⟨p1, p2⟩
            · have := f3 r hv (x.a % m) (x.b % m)
              rw [← p2, p1.2] at this
              cases this
        · obtain ⟨_, _, _, _, _, _, _, h, _⟩ := h
          exact h
        · rintro l y σ H8 H9 hl
          exact absurd hl (Nat.not_lt_zero _)
        · rintro σ H8 ⟨_, o7, o8, o9, o10, rfl, b8, _, hf8⟩
          exact ⟨_, _, _, _, _, _, rfl, b8, hf8.imp last⟩
      | some v =>
        obtain ⟨r', a', inner2, oi2, e0, rfl, h9, hin2, hil2⟩ := f2 _ _ hv
        obtain rfl : r = r' := Sum.inr.inj e0
        refine ⟨a', rfl, .inl ⟨a', oi2, inner2, rfl, b7 _ _ (nt h9) (s0 _ _ h9), for_it walk_items (fun l σ H8 => ∃ o7 o8 o9 o10, σ = [some (.ref a1), some (.ref a2), some (.int (m : Nat)), some (.ref tf), some (.str r), some (.int (t0 : Nat)), some (.int (k1 : Nat)), o7, o8, o9, o10, none, none] ∧
          But [tf] (upd H tf (.lst [])) H8 ∧ FoundAt H8 tf fun x => PairE ed1 ed2 m x ∧ (((Sum.inr x.r : Key) ∈ (ka1.take i).map (·.1) ∨ x.r = r ∧ (Sum.inl ((x.a / m : Nat) : Int) : Key) ∈ (inner.take j).map (·.1)) ∨ x.r = r ∧ x.a / m = t0 ∧ (Sum.inl ((x.a % m : Nat) : Int) : Key) ∈ (inner2.take l).map (·.1)))
          ⟨o7, o8, o9, o10, rfl, b7, hf7.imp fun x => by simp⟩ (fun l σ H8 _ h => ?_) ?_ ?_⟩⟩
        · obtain ⟨_, _, _, _, _, b8, _⟩ := h
          exact b8 _ _ (nt h9) (s0 _ _ h9)
        · rintro l y σ H8 H9 hl ⟨o7, o8, o9, o10, rfl, b8, hf8⟩ ⟨T2, kx2, vx2, rfl, hT2, rfl, e3, e4⟩
          obtain ⟨kw, hkw2⟩ : ∃ kw, inner2[l]? = some kw := ⟨_, List.getElem?_eq_getElem hl⟩
          have e3' : inner2[l]?.map (fun kv => kV kv.1) = some kx2 := e3
          have e4' : inner2[l]?.map Prod.snd = some vx2 := e4
          rw [hkw2] at e3' e4'
          cases e3'
          cases e4'
          obtain ⟨o0, k2, hj0, hw0, hc0⟩ := hin2.at_ kw.1 kw.2 (mem_valV hin2.nd (by rw [show (kw.1, kw.2) = kw from rfl]; exact List.mem_of_getElem? hkw2))
          obtain rfl : kw = (Sum.inl ((o0 : Nat) : Int), V.int (k2 : Nat)) := Prod.ext hj0 hw0
          have s9 := same_new hT2 (.tup [V.int (o0 : Nat), V.int (k2 : Nat)])
          have lt2 : k2 < 2 ^ m := mask_lt fun b hb => (b2 _ (of_decide_eq_true (show hasE ed2 r o0 b = true by rw [← hc0]; exact hb))).2
          have lt1 : k1 < 2 ^ n := mask_lt fun b hb => (b1 _ (of_decide_eq_true (show hasE ed1 r t0 b = true by rw [← hb0]; exact hb))).2
          have mb : -(2 ^ 64 : Int) ≤ ((m : Nat) : Int) ∧ ((m : Nat) : Int) ≤ 2 ^ 64 := by omega
          refine ⟨T2, _, rfl, SqT.of upd_same, rfl, _, _, rfl, _, _, rfl, rfl, _, rfl, _, rfl, _, _, rfl, rfl, .inr ⟨by omega, by omega⟩, _, rfl, _, _, rfl, rfl, _, rfl, k2, m, rfl, lt2, by omega, fun H10 pe g10 hpe10 hpe => ?_⟩
          have b10 := (b8.trans (But.of (D := [tf]) s9)).trans (But.of g10)
          obtain ⟨eds, q1, q2, q3, q4⟩ := (hf8.same s9).same g10
          refine ⟨_, rfl, .inl ⟨rfl, _, SqL.of q1⟩, _, rfl, k1, n, rfl, lt1, by omega, fun H11 pt g11 hpt11 hpt => ⟨pt, rfl, ⟨_, SqL.of hpt⟩, fun D0 hD => ?_⟩⟩
          have ptD := ne_of_none hpt hD
          have peD := ne_of_none (g11 _ _ hpe) hD
          refine lc2_list (K := K) (a := pt) (xs := (K2.ones k1 n).map fun i => V.int (i : Nat)) (fun i H12 => But [D0] (upd H11 D0 (.lst [])) H12 ∧ ∃ new : List (Addr × Edge), H12 D0 = some (.lst (edsV new)) ∧ EdsAt H12 new ∧ new.map (·.2) = newE m t0 o0 r ((K2.ones k1 n).take i) (K2.ones k2 m))
            ⟨But.refl _, [], upd_same, fun x hx => by simp at hx, rfl⟩ (fun i H12 _ h => SqL.of (h.1 _ _ (by simpa using ptD) (by rw [upd_ne ptD]; exact hpt))) ?_ ?_
          · rintro e x H12 he ⟨b12, new, n1, n2, n3⟩
            rw [List.getElem?_map] at he
            obtain ⟨e', he', rfl⟩ := Option.map_eq_some_iff.mp he
            have s12 : Same H11 H12 := same_of b12 hD
            refine ⟨rfl, _, rfl, pe, rfl, ⟨_, SqL.of (s12 _ _ (g11 _ _ hpe))⟩, in_list (K := K) (a := pe) (ys := (K2.ones k2 m).map fun i => V.int (i : Nat)) (fun j H13 => But [D0] (upd H11 D0 (.lst [])) H13 ∧ ∃ new : List (Addr × Edge), H13 D0 = some (.lst (edsV new)) ∧ EdsAt H13 new ∧
                new.map (·.2) = newE m t0 o0 r ((K2.ones k1 n).take e) (K2.ones k2 m) ++ ((K2.ones k2 m).take j).map fun l => ⟨t0 * m + o0, r, e' * m + l⟩)
              ⟨b12, new, n1, n2, by rw [n3]; simp⟩ (fun j H13 _ h => SqL.of (h.1 _ _ (by simpa using peD) (by rw [upd_ne peD]; exact g11 _ _ hpe))) ?_ ?_⟩
            · rintro z x H13 hz ⟨b13, new, n1, n2, n3⟩
              rw [List.getElem?_map] at hz
              obtain ⟨z', hz', rfl⟩ := Option.map_eq_some_iff.mp hz
              refine ⟨rfl, _, rfl, _, rfl, _, rfl, _, rfl, _, _, rfl, rfl, .inr ⟨by omega, by omega⟩, _, rfl, _, _, rfl, rfl, (by show 3 ≤ sizeLine; decide), fun t ht => ?_⟩
              have ev : ([V.int (((t0 : Nat) : Int) * ((m : Nat) : Int) + ((o0 : Nat) : Int)), V.str r, V.int (((e' : Nat) : Int) * ((m : Nat) : Int) + ((z' : Nat) : Int))] : List V) = edgeV ⟨t0 * m + o0, r, e' * m + z'⟩ := by
                unfold edgeV
                push_cast
                rfl
              rw [ev] at *
              have st7 := same_new ht (.tup (edgeV ⟨t0 * m + o0, r, e' * m + z'⟩))
              have h7 := st7 _ _ n1
              have tD : t ≠ D0 := fun w => by rw [w, n1] at ht; cases ht
              have lnew : new.length ≤ 72 := by
                have := congrArg List.length n3
                rw [List.length_map, List.length_append, newE_len, List.length_map, List.length_take, List.length_take] at this
                have o1 := ones_len k1 n
                have o2 := ones_len k2 m
                have : min e (K2.ones k1 n).length * (K2.ones k2 m).length ≤ 9 * 4 := Nat.mul_le_mul (by omega) (by omega)
                omega
              refine ⟨_, h7, ?_, (b13.trans (But.of st7)).trans (But.put (by simp)), new ++ [(t, ⟨t0 * m + o0, r, e' * m + z'⟩)], ?_, ?_, ?_⟩
              · rw [show (edsV new).length = new.length by simp [edsV]]
                exact small1000 (by omega)
              · rw [upd_same]
                simp [edsV]
              · intro y hy
                rcases List.mem_append.mp hy with w | w
                · have y4 := st7 _ _ (n2 y w)
                  rw [upd_ne (fun e => by rw [e, h7] at y4; cases y4)]
                  exact y4
                · rw [List.mem_singleton.mp w]
                  show upd _ D0 _ t = _
                  rw [upd_ne tD]
                  exact upd_same
              · rw [List.map_append, n3, List.take_add_one, hz', List.map_append, List.append_assoc]
                rfl
            · rintro H13 ⟨b13, new, n1, n2, n3⟩
              refine ⟨b13, new, n1, n2, ?_⟩
              rw [n3, List.length_map, List.take_length, List.take_add_one, he']
              exact (newE_snoc _ _ _ _ _ _ _).symm
          · rintro H12 ⟨b12, new, n1, n2, n3⟩
            rw [List.length_map, List.take_length] at n3
            have s12 : Same H11 H12 := same_of b12 hD
            have b14 : But [tf] (upd H tf (.lst [])) H12 := (b10.trans (But.of g11)).trans (But.of s12)
            have t12 := s12 _ _ (g11 _ _ q1)
            have nm := fun x => newE_mem (ed1 := ed1) (ed2 := ed2) (n := n) b1 b2 hb0 hc0 x
            have nodupAll : ((eds ++ new).map (·.2)).Nodup := by
              rw [List.map_append, n3]
              refine List.nodup_append.mpr ⟨q3, newE_nodup, fun a ha b hb e => ?_⟩
              subst e
              obtain ⟨_, w1, w2, w3⟩ := (nm a).mp hb
              rcases ((q4 a).mp ha).2 with (w4 | ⟨_, w4⟩) | ⟨_, _, w4⟩
              · rw [w1] at w4; exact next_key g4 hkv w4
              · rw [w2] at w4; exact next_key hin.nd hkv2 w4
              · rw [w3] at w4; exact next_key hin2.nd hkw2 w4
            have memAll : ∀ x, x ∈ (eds ++ new).map (·.2) ↔ PairE ed1 ed2 m x ∧ (((Sum.inr x.r : Key) ∈ (ka1.take i).map (·.1) ∨ x.r = r ∧ (Sum.inl ((x.a / m : Nat) : Int) : Key) ∈ (inner.take j).map (·.1)) ∨ x.r = r ∧ x.a / m = t0 ∧ (Sum.inl ((x.a % m : Nat) : Int) : Key) ∈ (inner2.take (l + 1)).map (·.1)) := fun x => by
              rw [List.map_append, List.mem_append, q4, n3, nm, take_keys hkw2]
              have e : (Sum.inl ((x.a % m : Nat) : Int) : Key) = Sum.inl ((o0 : Nat) : Int) ↔ x.a % m = o0 := ⟨fun z => by have := Sum.inl.inj z; omega, fun z => by rw [z]⟩
              show _ ↔ (_ ∧ (_ ∨ _ ∧ _ ∧ (_ ∨ (Sum.inl ((x.a % m : Nat) : Int) : Key) = Sum.inl ((o0 : Nat) : Int))))
              rw [e]
              constructor
              · rintro (⟨p1, p2 | ⟨p2, p3, p4⟩⟩ | ⟨p1, p2, p3, p4⟩)
                · exact ⟨p1, .inl p2⟩
                · exact ⟨p1, .inr ⟨p2, p3, .inl p4⟩⟩
                · exact ⟨p1, .inr ⟨p2, p3, .inr p4⟩⟩
              · rintro ⟨p1, p2 | ⟨p2, p3, p4 | p4⟩⟩
                · exact .inl ⟨p1, .inl p2⟩
                · exact .inl ⟨p1, .inr ⟨p2, p3, p4⟩⟩
                · exact .inr ⟨p1, p2, p3, p4⟩
            have lall : (eds ++ new).length ≤ 324 := by
              have h1 : ((eds ++ new).map (·.2)).length ≤ (prodE m ed1 ed2).length := nodup_leA nodupAll fun x hx => (pairE_mem b2 x).mp ((memAll x).mp hx).1
              rw [List.length_map] at h1
              exact Nat.le_trans h1 (Nat.le_trans (prodE_len m ed1 ed2) (Nat.mul_le_mul l1 l2))
            refine ⟨tf, D0, _, _, rfl, rfl, t12, n1, ?_, ?_⟩
            · rw [show (edsV eds).length = eds.length by simp [edsV], show (edsV new).length = new.length by simp [edsV]]
              rw [List.length_append] at lall
              exact Nat.le_of_lt (small1000 (by omega))
            · refine ⟨_, _, _, _, rfl, b14.trans (But.put (by simp)), eds ++ new, ?_, ?_, nodupAll, memAll⟩
              · rw [upd_same]; simp [edsV]
              · intro y hy
                have y4 : H12 y.1 = some (.tup (edgeV y.2)) := by
                  rcases List.mem_append.mp hy with w | w
                  · exact s12 _ _ (g11 _ _ (q2 y w))
                  · exact n2 y w
                rw [upd_ne (fun e => by rw [e, t12] at y4; cases y4)]
                exact y4
        · rintro σ H8 ⟨o7, o8, o9, o10, rfl, b8, hf8⟩
          refine ⟨_, _, _, _, _, _, rfl, b8, hf8.imp fun x => ?_⟩
          rw [List.take_length, ← last]
          constructor
          · rintro ⟨p1, p2 | ⟨p2, p3, _⟩⟩
            · exact ⟨p1, .inl p2⟩
            · exact ⟨p1, .inr ⟨p2, p3⟩⟩
          · rintro ⟨p1, p2 | ⟨p2, p3⟩⟩
            · exact ⟨p1, .inl p2⟩
            · refine ⟨p1, .inr ⟨p2, p3, ?_⟩⟩
              have p4 := p1.2
              rw [p2] at p4
              apply Classical.byContradiction
              intro hn
              have := hin2.no (x.a % m) (by
                cases hc : valV inner2 (Sum.inl ((x.a % m : Nat) : Int) : Key) with
                | none => rfl
                | some v => exact (hn (List.mem_map.mpr ⟨_, valV_mem hc, rfl⟩)).elim) (x.b % m)
              rw [this] at p4; cases p4
    · rintro σ H5 ⟨o5, o6, o7, o8, o9, o10, rfl, b5, hf5⟩
      refine ⟨_, _, _, _, _, _, _, rfl, b5, hf5.imp fun x => ?_⟩
      rw [List.take_length, take_keys hkv]
      constructor
      · rintro ⟨p1, p2 | ⟨rfl, _⟩⟩
        · exact ⟨p1, .inl p2⟩
        · exact ⟨p1, .inr rfl⟩
      · rintro ⟨p1, p2 | p2⟩
        · exact ⟨p1, .inl p2⟩
        · have e : x.r = r := Sum.inr.inj p2
          refine ⟨p1, .inr ⟨e, ?_⟩⟩
          have p3 := p1.1
          rw [e] at p3
          apply Classical.byContradiction
          intro hn
          have := hin.no (x.a / m) (by
            cases hc : valV inner (Sum.inl ((x.a / m : Nat) : Int) : Key) with
            | none => rfl
            | some v => exact (hn (List.mem_map.mpr ⟨_, valV_mem hc, rfl⟩)).elim) (x.b / m)
          rw [this] at p3; cases p3
  · rintro σ H3 ⟨o4, o5, o6, o7, o8, o9, o10, rfl, bb, eds, h1, h2, h3, h4⟩
    refine ⟨_, rfl, tf, eds, rfl, SqL.of h1, h2, fun p hp => ?_⟩
    have s9 : Same H (upd H3 p (.lst (edsV (sortA eds)))) := fun b o z => same_new hp _ _ _ (bb _ _ (nt z) (s0 _ _ z))
    have s90 : Same H H3 := fun b o z => bb _ _ (nt z) (s0 _ _ z)
    have hp0 : H p = none := none_same s90 hp
    refine q _ p (sortA eds) s9 hp0 upd_same (fun e he => same_new hp _ _ _ (h2 e ((mem_sortA e).mp he))) ?_ fun x => ?_
    · rw [sortA_snd]
      exact sortE_asc h3
    · rw [sortA_snd, mem_sortE, h4, List.take_length]
      refine ⟨fun z => z.1, fun z => ⟨z, ?_⟩⟩
      apply Classical.byContradiction
      intro hn
      have := g3 x.r (by
        cases hc : valV ka1 (Sum.inr x.r : Key) with
        | none => rfl
        | some v => exact (hn (List.mem_map.mpr ⟨_, valV_mem hc, rfl⟩)).elim) (x.a / m) (x.b / m)
      have z1 := z.1
      rw [this] at z1
      cases z1
end
end K1
namespace K1
open PySem L2
/-! ### product -/
theorem GAt.ahead {C : Addr} {H : Hp} {g : Addr} {nm : List (List Str)} {ed : List Edge} (h : GAt C H g nm ed) : ∃ dx dn da ds, H g = some (.ins C dx (gflds nm.length dn da ds)) ∧ AhdAt H da ed := by
  obtain ⟨dx, dn, da, ds, kn, ka, on, oa, h1, h2, h3, h4, h5, h6, h7, h8⟩ := h.ex
  exact ⟨dx, dn, da, ds, h1, ⟨ka, oa, h4, h5, h6, h7, h8⟩⟩
theorem AscE.nodup {l : List Edge} (h : AscE l) : l.Nodup := List.Pairwise.imp (fun {a b} z e => by rw [e, ltE_irrefl] at z; cases z) h
theorem WAt.dx {C G : Addr} {H : Hp} {x ln le : Addr} {nm : List (List Str)} {ed : List Edge} (h : WAt C G H x ln le nm ed) : ∃ dx dk gr, H x = some (.ins C dx (wflds ln le dk gr)) := by
  obtain ⟨dx, dk, gr, _, _, _, h1, _⟩ := h.open
  exact ⟨dx, dk, gr, h1⟩
theorem asc_filter {l : List Str} (h : Asc l) (p : Str → Bool) : Asc (l.filter p) := List.Pairwise.sublist List.filter_sublist h
theorem mem_prodN {l k : List (List Str)} {r : List Str} (h : r ∈ prodN l k) : ∃ a ∈ l, ∃ b ∈ k, r = a.filter fun x => decide (x ∈ b) := by
  unfold prodN at h
  obtain ⟨a, ha, h⟩ := List.mem_flatMap.mp h
  obtain ⟨b, hb, rfl⟩ := List.mem_map.mp h
  exact ⟨a, ha, b, hb, rfl⟩
theorem flat_len : ∀ (l : List (List Str)) (n : Nat), (∀ r ∈ l, r.length ≤ n) → l.flatten.length ≤ l.length * n
  | [], n, _ => by simp
  | r :: l, n, h => by
    have ih := flat_len l n fun x hx => h x (List.mem_cons_of_mem _ hx)
    have := h r List.mem_cons_self
    rw [List.flatten_cons, List.length_append, List.length_cons, Nat.succ_mul]
    omega
section
variable {P : Program} {w : World} {K : PySem.W.Frag} {mg : Str → Option Value} {base : Heap}
def spProd (C G : Addr) : Sp := fun vs H Q _ => ∃ x1 ln1 le1 nm1 ed1 x2 ln2 le2 nm2 ed2, vs = [.ref x1, .ref x2] ∧ WAt C G H x1 ln1 le1 nm1 ed1 ∧ WAt C G H x2 ln2 le2 nm2 ed2 ∧ nm1.length ≤ 9 ∧ nm2.length ≤ 4 ∧ ed1.length ≤ 27 ∧ ed2.length ≤ 12 ∧ (∀ l ∈ nm1, l.length ≤ 3) ∧
  ∀ (H' : Hp) (x ln le ds : Addr) (ed : List Edge), Same H H' → H x = none → H ln = none → H le = none → H ds = none → WAt C G H' x ln le (prodN nm1 nm2) ed → (∀ rr, CAt C G H' x ds ed rr) → (∀ e, e ∈ ed ↔ PairE ed1 ed2 nm2.length e) → Q (.ref x) H'
theorem ok_prod (D : Defs K mg) : FnOk P w K mg base CX0 7 D.d_product.f D.d_product.fd ["first", "second"] (spProd D.wC D.gC) := by
  have GN := ok_wneed (P := P) (w := w) (base := base) D
  have GM := ok_wnames (P := P) (w := w) (base := base) D
  have GG := ok_wgraph (P := P) (w := w) (base := base) D
  have GL := ok_wlen (P := P) (w := w) (base := base) D
  have GP := ok_pairE (P := P) (w := w) (base := base) D
  have GI := ok_winit (P := P) (w := w) (base := base) D
  have M : Mk K D.wC D.d_w_init.f := ⟨D.wC_mk, D.d_w_init.me.at_, D.d_w_init.me.fn, D.wC_kp⟩
  refine D.d_product.F.ok sc_product (fun vs H Q E h => ?_) (fun cdv A outer s H vs Q E hr h => ?_)
  · obtain ⟨x1, ln1, le1, nm1, ed1, x2, ln2, le2, nm2, ed2, rfl, _⟩ := h
    rfl
  obtain ⟨x1, ln1, le1, nm1, ed1, x2, ln2, le2, nm2, ed2, rfl, W1, W2, l1, l2, l3, l4, l5, q⟩ := h
  have hr1 : Room 1 _ := hr.mono (by omega)
  have hr2 : Room 2 _ := hr.mono (by omega)
  refine ⟨_, (pss_cons (ps_expr (pe_call GN hr1 rfl D.d_need_world.m D.d_need_world.F.kp D.d_need_world.b .nil pass0 (pa_cons (pv 0) pa_nil)))
      (pss_cons (ps_expr (pe_call GN hr1 rfl D.d_need_world.m D.d_need_world.F.kp D.d_need_world.b .nil pass0 (pa_cons (pv 1) pa_nil)))
      (pss_cons (ps_setLc2 (i := 2) (own := [("row", 3), ("more", 4)]) (vs1 := [4]) (g := gName 3) (g1 := gName 4) (wi1 := iList K (tMeth D.wC "names" (spWNames D.wC D.gC) [] (fun _ _ _ => False) (tVar 1) tNil)) rfl sc_product.nd rfl rfl (sw_true rfl rfl rfl (by decide +kernel))
        (pi_list (pe_meth0 (pv 0) D.wC_cl D.d_w_names.me GM hr1 D.d_w_names.b .nil pass0))
        (blkOk_by (N := ["first", "second", "names", "row", "more", "name"]) (sc := defScope s_product) (by decide +kernel)) (by decide)
        (fun _ _ _ _ _ => pg_name (i := 3) sc_product.nd rfl (Or.inl rfl)) (fun _ _ _ _ _ => pts_nil) (fun _ _ _ _ _ => pi_list (pe_meth0 (pv 1) D.wC_cl D.d_w_names.me GM hr1 D.d_w_names.b .nil pass0)) (fun _ _ _ _ _ => pg_name (i := 4) sc_product.nd rfl (Or.inr rfl)) (fun _ _ _ _ _ => pts_nil)
        (fun _ _ _ _ _ => (pe_callTy (call_tuple_ofK (K := K) rfl) (by rfl) D.z_tuple (by decide +kernel) (pa_cons (pe_lc (own := [("name", 5)]) (g := gName 5) (wi := iTup K (tVar 3)) rfl sc_product.nd (pi_tup (pv 3))
            (blkOk_by (N := ["first", "second", "names", "row", "more", "name"]) (sc := { kind := .function, names := [(".0", .local), ("row", .local), ("more", .cell), ("tuple", .globalImplicit), ("second", .cell)], isGenerator := false, isCoroutine := false, more := [] }) (by decide +kernel))
            (fun _ _ _ _ _ => pg_name (i := 5) sc_product.nd rfl (Or.inl rfl)) (fun _ _ _ _ _ => pts_one (pt_cmpR (op_inTK (K := K) rfl) (pv 5) (pv 4) (by rfl))) (fun _ _ _ _ _ => (pv 5))) pa_nil))))
      (pss_one (ps_ret (pe_make M GI hr rfl D.wC_m D.d_w_init.b .nil pass0 (pa_cons (pv 2) (pa_cons (pe_call GP hr2 rfl D.d_pair_edges.m D.d_pair_edges.F.kp D.d_pair_edges.b .nil pass0 (pa_cons (pe_fld (pe_meth0 (pv 0) D.wC_cl D.d_w_graph.me GG hr1 D.d_w_graph.b .nil pass0) rfl) (pa_cons (pe_fld (pe_meth0 (pv 1) D.wC_cl D.d_w_graph.me GG hr1 D.d_w_graph.b .nil pass0) rfl) (pa_cons (pe_callB (K2.call_lenO GL hr2 D.d_w_len.b pass0 D.d_w_len.me.at_ D.d_w_len.me.fn) (by rfl) D.z_len (by decide +kernel) (pa_cons (pv 1) pa_nil)) pa_nil)))) pa_nil)))))))), ?_⟩
  obtain ⟨dx1, dk1, gr1, hx1⟩ := W1.dx
  obtain ⟨dx2, dk2, gr2, hx2⟩ := W2.dx
  refine ⟨_, rfl, x1, ln1, le1, nm1, ed1, rfl, W1, _, rfl, x2, ln2, le2, nm2, ed2, rfl, W2, ?_⟩
  refine ⟨_, rfl, x1, dx1, _, rfl, hx1, wf_no (by decide +kernel) (by decide +kernel) (by decide +kernel) (by decide +kernel), x1, ln1, le1, nm1, ed1, rfl, W1, fun p1 r1 hp1 rat1 rmap1 => ⟨p1, rfl, ⟨_, SqL.of upd_same⟩, fun D0 hD => ?_⟩⟩
  have g1 := same_new hp1 (.lst (rowsV r1))
  have p1D := ne_of_none upd_same hD
  have m1 : (rowsV r1).length = r1.length := by simp [rowsV]
  have ln1' : r1.length = nm1.length := by rw [← rmap1, List.length_map]
  refine lc2_list (K := K) (a := p1) (xs := rowsV r1) (fun i H4 => But [D0] (upd (upd H p1 (.lst (rowsV r1))) D0 (.lst [])) H4 ∧ ∃ rows : List (Addr × List Str), H4 D0 = some (.lst (rowsV rows)) ∧ RowsAt H4 rows ∧ rows.map (·.2) = prodN (nm1.take i) nm2)
    ⟨But.refl _, [], upd_same, fun x hx => by simp at hx, rfl⟩ (fun i H4 _ h => SqL.of (h.1 _ _ (by simpa using p1D) (by rw [upd_ne p1D]; exact upd_same))) ?_ ?_
  · rintro i x H4 hi ⟨b4, rows, h4, hrt, hmap⟩
    unfold rowsV at hi
    rw [List.getElem?_map] at hi
    obtain ⟨r, hri, rfl⟩ := Option.map_eq_some_iff.mp hi
    have mr := List.mem_of_getElem? hri
    have s4 : Same H H4 := g1.trans (same_of b4 hD)
    have nmi : nm1[i]? = some r.2 := by rw [← rmap1, List.getElem?_map, hri]; rfl
    have r3 : r.2.length ≤ 3 := l5 _ (List.mem_of_getElem? nmi)
    refine ⟨rfl, _, rfl, x2, dx2, _, rfl, s4 _ _ hx2, wf_no (by decide +kernel) (by decide +kernel) (by decide +kernel) (by decide +kernel), x2, ln2, le2, nm2, ed2, rfl, W2.same s4, fun p2 r2 hp2 rat2 rmap2 => ⟨p2, rfl, ⟨_, SqL.of upd_same⟩, ?_⟩⟩
    have g2 := same_new hp2 (.lst (rowsV r2))
    have p2D : p2 ≠ D0 := fun z => by rw [z, h4] at hp2; cases hp2
    have m2 : (rowsV r2).length = r2.length := by simp [rowsV]
    have ln2' : r2.length = nm2.length := by rw [← rmap2, List.length_map]
    refine in_list (K := K) (a := p2) (ys := rowsV r2) (fun j H5 => But [D0] (upd H4 p2 (.lst (rowsV r2))) H5 ∧ ∃ rows : List (Addr × List Str), H5 D0 = some (.lst (rowsV rows)) ∧ RowsAt H5 rows ∧ rows.map (·.2) = prodN (nm1.take i) nm2 ++ (nm2.take j).map fun b => r.2.filter fun x => decide (x ∈ b))
      ⟨But.refl _, rows, g2 _ _ h4, fun y hy => g2 _ _ (hrt y hy), by rw [hmap]; simp⟩ (fun j H5 _ h => SqL.of (h.1 _ _ (by simpa using p2D) upd_same)) ?_ ?_
    · rintro j y H5 hj ⟨b5, new, h5, hnt, hnm⟩
      unfold rowsV at hj
      rw [List.getElem?_map] at hj
      obtain ⟨b, hbj, rfl⟩ := Option.map_eq_some_iff.mp hj
      have mb := List.mem_of_getElem? hbj
      have nmj : nm2[j]? = some b.2 := by rw [← rmap2, List.getElem?_map, hbj]; rfl
      have jl := (List.getElem?_eq_some_iff.mp nmj).1
      have il := (List.getElem?_eq_some_iff.mp nmi).1
      have lnew : new.length ≤ 40 := by
        have := congrArg List.length hnm
        rw [List.length_map, List.length_append, prodN_len, List.length_map, List.length_take, List.length_take] at this
        have : min i nm1.length * nm2.length ≤ 9 * 4 := Nat.mul_le_mul (by omega) l2
        omega
      have tb5 : H5 b.1 = some (.tup (b.2.map V.str)) := b5 _ _ (by
        have := rat2 b mb
        simp only [List.mem_singleton]
        intro z
        rw [z, h4] at this; cases this) (g2 _ _ (rat2 b mb))
      have tr5 : H5 r.1 = some (.tup (r.2.map V.str)) := by
        have h0 := s4 _ _ (rat1 r mr)
        exact b5 _ _ (by simp only [List.mem_singleton]; intro z; rw [z, h4] at h0; cases h0) (g2 _ _ h0)
      refine ⟨rfl, _, rfl, r.1, rfl, ⟨_, SqT.of tr5⟩, fun D3 hD3 => ?_⟩
      have r3D := ne_of_none tr5 hD3
      refine lc_tup (K := K) (a := r.1) (xs := r.2.map V.str) (fun i H6 => But [D3] (upd H5 D3 (.lst [])) H6 ∧ H6 D3 = some (.lst (((r.2.take i).filter fun x => decide (x ∈ b.2)).map V.str))) ⟨But.refl _, upd_same⟩
        (fun i H6 _ h => SqT.of (h.1 _ _ (by simpa using r3D) (by rw [upd_ne r3D]; exact tr5))) ?_ ?_
      · rintro k z H6 hi6 ⟨b6, h6⟩
        rw [List.getElem?_map] at hi6
        obtain ⟨st, hst, rfl⟩ := Option.map_eq_some_iff.mp hi6
        have s6 : Same H5 H6 := same_of b6 hD3
        have lf : ((r.2.take k).filter fun x => decide (x ∈ b.2)).length ≤ 3 := Nat.le_trans (List.length_filter_le _ _) (by rw [List.length_take]; omega)
        refine ⟨rfl, _, rfl, _, rfl, st, b.1, b.2, rfl, rfl, .inr (SqT.of (s6 _ _ tb5)), _, rfl, ?_⟩
        have etk : (r.2.take (k + 1)) = r.2.take k ++ [st] := by rw [List.take_add_one, hst]; rfl
        refine ite2 (c := decide (st ∈ b.2) = true) (fun h1 => ?_) (fun h1 => ?_)
        · refine ⟨_, rfl, _, h6, ?_, b6.trans (But.put (by simp)), ?_⟩
          · rw [List.length_map]
            exact small1000 (by omega)
          · rw [upd_same, etk, List.filter_append, List.filter_cons, if_pos h1, List.map_append]
            rfl
        · refine ⟨b6, ?_⟩
          rw [etk, List.filter_append, List.filter_cons, if_neg h1, List.filter_nil, List.append_nil]
          exact h6
      · rintro H6 ⟨b6, h6⟩
        have s6 : Same H5 H6 := same_of b6 hD3
        rw [List.length_map, List.take_length] at h6
        refine ⟨D3, _, rfl, .inl ⟨SqL.of h6, fun t ht => ?_⟩⟩
        have st7 := same_new ht (.tup ((r.2.filter fun x => decide (x ∈ b.2)).map V.str))
        have h7 := st7 _ _ (s6 _ _ h5)
        have tD : t ≠ D0 := fun z => by rw [z, s6 _ _ h5] at ht; cases ht
        refine ⟨_, h7, ?_, (b5.trans (But.of (s6.trans st7))).trans (But.put (by simp)), new ++ [(t, r.2.filter fun x => decide (x ∈ b.2))], ?_, ?_, ?_⟩
        · rw [show (rowsV new).length = new.length by simp [rowsV]]
          exact small1000 (by omega)
        · rw [upd_same]
          simp [rowsV]
        · intro y hy
          rcases List.mem_append.mp hy with z | z
          · have y4 := st7 _ _ (s6 _ _ (hnt y z))
            rw [upd_ne (fun e => by rw [e, h7] at y4; cases y4)]
            exact y4
          · rw [List.mem_singleton.mp z]
            show upd _ D0 _ t = _
            rw [upd_ne tD]
            exact upd_same
        · rw [List.map_append, hnm, List.take_add_one, nmj, List.map_append, List.append_assoc]
          rfl
    · rintro H5 ⟨b5, new, h5, hnt, hnm⟩
      refine ⟨?_, new, h5, hnt, ?_⟩
      · exact b4.trans ((But.of g2).trans b5)
      · rw [hnm, m2, ln2', List.take_length, List.take_add_one, nmi]
        exact (prodN_snoc _ _ _).symm
  · rintro H4 ⟨b4, rows, h4, hrt, hmap⟩
    rw [m1, ln1', List.take_length] at hmap
    have s4 : Same H H4 := g1.trans (same_of b4 hD)
    have Wa := W1.same s4
    have Wb := W2.same s4
    have lrows : rows.length ≤ 36 := by
      have := congrArg List.length hmap
      rw [List.length_map, prodN_len] at this
      rw [this]
      exact Nat.le_trans (Nat.mul_le_mul l1 l2) (by decide)
    refine ⟨_, rfl, _, rfl, x1, dx1, _, rfl, s4 _ _ hx1, wf_no (by decide +kernel) (by decide +kernel) (by decide +kernel) (by decide +kernel), x1, ln1, le1, nm1, ed1, rfl, Wa, fun ga hga => ?_⟩
    obtain ⟨dxa, dna, da1, dsa, hga1, A1⟩ := hga.ahead
    refine ⟨ga, D.gC, dxa, _, _, rfl, hga1, D.gC_cl, D.gC_nahead, gf_a, _, rfl, x2, dx2, _, rfl, s4 _ _ hx2, wf_no (by decide +kernel) (by decide +kernel) (by decide +kernel) (by decide +kernel), x2, ln2, le2, nm2, ed2, rfl, Wb, fun gb hgb => ?_⟩
    obtain ⟨dxb, dnb, da2, dsb, hgb1, A2⟩ := hgb.ahead
    refine ⟨gb, D.gC, dxb, _, _, rfl, hgb1, D.gC_cl, D.gC_nahead, gf_a, _, rfl, x2, dx2, _, rfl, s4 _ _ hx2, x2, ln2, le2, nm2, ed2, rfl, Wb, (nm2.length : Nat), rfl, by omega, by omega, ?_⟩
    have m0 : 0 < nm2.length := List.length_pos_iff.mpr W2.ne
    refine ⟨da1, da2, ed1, ed2, nm1.length, nm2.length, rfl, A1, A2, fun e he => ⟨(W1.eok e he).1, (W1.eok e he).2.1⟩, fun e he => ⟨(W2.eok e he).1, (W2.eok e he).2.1⟩, l1, l2, m0, l3, l4, fun H5 pe eds s5 npe hpe hat asc mem => ?_⟩
    have b2 : ∀ e ∈ ed2, e.a < nm2.length ∧ e.b < nm2.length := fun e he => ⟨(W2.eok e he).1, (W2.eok e he).2.1⟩
    have leds : eds.length ≤ 324 := by
      have h1 : (eds.map (·.2)).length ≤ (prodE nm2.length ed1 ed2).length := nodup_leA asc.nodup fun x hx => (pairE_mem b2 x).mp ((mem x).mp hx)
      rw [List.length_map] at h1
      exact Nat.le_trans h1 (Nat.le_trans (prodE_len _ ed1 ed2) (Nat.mul_le_mul l3 l4))
    intro x dx hx hdx ne
    have rowsok : ∀ r ∈ rows, RowOk r.2 ∧ r.2.length ≤ 3 := fun r hr => by
      have : r.2 ∈ prodN nm1 nm2 := by rw [← hmap]; exact List.mem_map.mpr ⟨r, hr, rfl⟩
      obtain ⟨a, ha, b, hb, e⟩ := mem_prodN this
      have hra := W1.nok a ha
      have hl := l5 a ha
      have hf : (a.filter fun x => decide (x ∈ b)).length ≤ 3 := Nat.le_trans (List.length_filter_le _ _) hl
      rw [e]
      exact ⟨⟨fun x hx => hra.1 x (List.mem_filter.mp hx).1, asc_filter hra.2.1 _, by omega⟩, hf⟩
    have h5 : H5 D0 = some (.lst (rowsV rows)) := s5 _ _ h4
    have up : ∀ {b : Addr} {o : HO}, H5 b = some o → (upd (upd H5 dx (.own x)) x (.ins D.wC dx [])) b = some o := fun {b o} h => by rw [upd_ne (ne_of_none h hx), upd_ne (ne_of_none h hdx)]; exact h
    have lr : rows.length = nm1.length * nm2.length := by
      have := congrArg List.length hmap
      rw [List.length_map, prodN_len] at this
      exact this
    refine ⟨x, dx, D0, pe, rows, eds, rfl, upd_same, .inl (up h5), fun r hr => up (s5 _ _ (hrt r hr)), .inl (up hpe), fun e he => up (hat e he), by omega, ?_, by omega, fun e he => ?_, ne_of_none h5 hx, ne_of_none hpe hx, fun r hr => ne_of_none (s5 _ _ (hrt r hr)) hx, fun e he => ne_of_none (hat e he) hx, fun r hr => (rowsok r hr).1, ?_, asc, fun H' ln le ds kp hln hle hds WW CW => ⟨rfl, ?_⟩⟩
    · have := flat_len (rows.map (·.2)) 3 fun r hr => by
        obtain ⟨x, hx, rfl⟩ := List.mem_map.mp hr
        exact (rowsok x hx).2
      rw [List.length_map] at this
      unfold K2.flatR
      omega
    · have hp := (mem e.2).mp (List.mem_map.mpr ⟨e, he, rfl⟩)
      have q1 := W1.eok _ (of_decide_eq_true hp.1)
      have z1 : e.2.a / nm2.length < nm1.length := q1.1
      have z2 : e.2.b / nm2.length < nm1.length := q1.2.1
      refine ⟨?_, ?_, q1.2.2⟩
      · rw [lr]; exact (Nat.div_lt_iff_lt_mul m0).mp z1
      · rw [lr]; exact (Nat.div_lt_iff_lt_mul m0).mp z2
    · intro z
      have l0 : nm1.length * nm2.length = 0 := by rw [← lr, z]; rfl
      have n0 : 0 < nm1.length := List.length_pos_iff.mpr W1.ne
      have := Nat.mul_pos n0 m0
      omega
    · have s6 : Same H5 H' := fun b o h => kp b o (up h) (ne_of_none h hx)
      have s56 : Same H H5 := s4.trans s5
      have n5 : ∀ {p : Addr}, (upd (upd H5 dx (.own x)) x (.ins D.wC dx [])) p = none → H5 p = none := fun {p} h => by
        cases e : H5 p with
        | none => rfl
        | some o => rw [up e] at h; cases h
      rw [hmap] at WW
      exact q H' x ln le ds _ (s56.trans s6) (none_same s56 hx) (none_same s56 (n5 hln)) (none_same s56 (n5 hle)) (none_same s56 (n5 hds)) WW CW mem
end
end K1
namespace K1
open PySem L2
/-! ### _law_same -/
theorem iteFe {a b : Prop} {c : Bool} (h : c = false) (x : b) : if c = true then a else b := by subst h; exact x
theorem iteTe {a b : Prop} {c : Bool} (h : c = true) (x : a) : if c = true then a else b := by subst h; exact x
def intsD (l : List Nat) : List PyData := l.map fun i => .int (i : Nat)
theorem dp_ints {K : PySem.W.Frag} {H : Hp} : ∀ l : List Nat, DpAll K H (l.map fun i => V.int (i : Nat)) (intsD l)
  | [] => .nil
  | x :: l => .cons (.int _) (dp_ints l)
theorem lay_ints : ∀ l : List Nat, PyData.canLayAll0 (intsD l) = true
  | [] => by simp [intsD, PyData.canLayAll0]
  | x :: l => by
    have := lay_ints l
    unfold intsD at this ⊢
    rw [List.map_cons, PyData.canLayAll0, this]
    simp [PyData.canLay0]
theorem dep_ints : ∀ l : List Nat, PyData.depthAll (intsD l) = 0
  | [] => by simp [intsD, PyData.depthAll]
  | x :: l => by
    have := dep_ints l
    unfold intsD at this ⊢
    rw [List.map_cons, PyData.depthAll, this]
    simp [PyData.depth]
theorem shaped_ints (l : List Nat) : SeqAt.shaped (.list (intsD l)) = true := by
  refine shaped_of (by show PyData.canLayAll0 _ = true; exact lay_ints l) ?_
  simp only [PyData.depth, dep_ints]
  omega
theorem eqv_ints : ∀ l : List Nat, PyData.eqvAll (intsD l) (intsD l) = true
  | [] => by simp [intsD, PyData.eqvAll]
  | x :: l => by
    have := eqv_ints l
    unfold intsD at this ⊢
    rw [List.map_cons, PySem.W.eqv_all_cons, this]
    simp [PyData.eqv]
theorem ne_ints (l : List Nat) : (!PyData.eqv (.list (intsD l)) (.list (intsD l))) = false := by
  show (!PyData.eqvAll (intsD l) (intsD l)) = false
  rw [eqv_ints]; rfl
theorem ne_rows (l : List (List Str)) : (!PyData.eqv (rowsD l) (rowsD l)) = false := by rw [eqv_rows, decide_eq_true rfl]; rfl
theorem ne_eds (l : List Edge) : (!PyData.eqv (edsD l) (edsD l)) = false := by rw [eqv_eds, decide_eq_true rfl]; rfl
theorem dp_rows' {K : PySem.W.Frag} {H : Hp} {p : Addr} {rows : List (Addr × List Str)} {nm : List (List Str)} (hp : H p = some (.lst (rowsV rows))) (h : RowsAt H rows) (e : rows.map (·.2) = nm) : Dp K H (.ref p) (rowsD nm) := e ▸ dp_rows hp h
theorem dp_eds' {K : PySem.W.Frag} {H : Hp} {p : Addr} {eds : List (Addr × Edge)} {ed : List Edge} (hp : H p = some (.lst (edsV eds))) (h : EdsAt H eds) (e : eds.map (·.2) = ed) : Dp K H (.ref p) (edsD ed) := e ▸ dp_eds hp h
section
variable {P : Program} {w : World} {K : PySem.W.Frag} {mg : Str → Option Value} {base : Heap}
def spSame (C G : Addr) : Sp := fun vs H Q _ => ∃ (x ln le p tf te ds : Addr) (rows : List (Addr × List Str)) (eds : List (Addr × Edge)) (pc : Addr) (ks : List Con) (ws : List V) (N R : List Str), vs = [.ref x, .ref p, .ref pc] ∧
  WAt C G H x ln le (rows.map (·.2)) (eds.map (·.2)) ∧ CAt C G H x ds (eds.map (·.2)) R ∧ TwoAt H p tf te rows eds ∧ H pc = some (.lst ws) ∧ Paired (ConAt H) ks ws ∧ Vocab N R ∧ (∀ k ∈ ks, Fine N R k) ∧ rows.length ≤ 64 ∧ eds.length ≤ 500 ∧
  ∀ H', But [ds] H H' → CAt C G H' x ds (eds.map (·.2)) R → Q (.bl true) H'
theorem ok_same (D : Defs K mg) : FnOk P w K mg base CX0 16 D.d_law_same.f D.d_law_same.fd ["world", "due", "concepts"] (spSame D.wC D.gC) := by
  have GM := ok_wnames (P := P) (w := w) (base := base) D
  have GE := ok_wedges (P := P) (w := w) (base := base) D
  have GS := ok_wsize (P := P) (w := w) (base := base) D
  have GL := ok_wlen (P := P) (w := w) (base := base) D
  have GK := ok_marks (P := P) (w := w) (base := base) D 9
  have GW := ok_win (P := P) (w := w) (base := base) D
  have GH := ok_whas (P := P) (w := w) (base := base) D
  refine D.d_law_same.F.ok sc_law_same (fun vs H Q E h => ?_) (fun cdv A outer s H vs Q E hr h => ?_)
  · obtain ⟨x, ln, le, p, tf, te, ds, rows, eds, pc, ks, ws, N, R, rfl, _⟩ := h
    rfl
  obtain ⟨x, ln, le, p, tf, te, ds, rows, eds, pc, ks, ws, N, R, rfl, W, C, T, hpc, hks, vo, fin, l1, l2, q⟩ := h
  have hr1 : Room 1 _ := hr.mono (by omega)
  have hr2 : Room 2 _ := hr.mono (by omega)
  have hr4 : Room 4 _ := hr.mono (by omega)
  have hr11 : Room 11 _ := hr.mono (by omega)
  have hr14 : Room 14 _ := hr.mono (by omega)
  refine ⟨_, (pss_cons (ps_if (PW.pt (pw_or (pt_cmpR (op_neD hr.units) (pe_meth0 (pv 0) D.wC_cl D.d_w_names.me GM hr1 D.d_w_names.b .nil pass0) (pe_ix ix_list (pv 1) pe_int (fun _ _ => rfl)) (nomark _))
        (pw_or (pt_cmpR (op_neD hr.units) (pe_meth0 (pv 0) D.wC_cl D.d_w_edges.me GE hr1 D.d_w_edges.b .nil pass0) (pe_ix ix_list (pv 1) pe_int (fun _ _ => rfl)) (nomark _))
        (pw_or (pt_cmpR op_ne (pe_prop (pv 0) D.wC_cl D.w_size_at GS hr2 D.w_size_b .nil pass0 (by rfl)) (pe_callB call_len_seq (by rfl) D.z_len (by decide +kernel) (pa_cons (pe_ix ix_list (pv 1) pe_int (fun _ _ => rfl)) pa_nil)) (nomark _))
        (pw_or1 (pt_cmpR op_ne (pe_callB (K2.call_lenO GL hr2 D.d_w_len.b pass0 D.d_w_len.me.at_ D.d_w_len.me.fn) (by rfl) D.z_len (by decide +kernel) (pa_cons (pv 0) pa_nil)) (pe_callB call_len_seq (by rfl) D.z_len (by decide +kernel) (pa_cons (pe_ix ix_list (pv 1) pe_int (fun _ _ => rfl)) pa_nil)) (nomark _))))))) (pss_one (ps_ret pe_bl)) pss_nil)
      (pss_cons (ps_if (pt_cmpR (op_neD hr.units) (pe_lc (own := [("names", 5)]) (g := gName 5) rfl sc_law_same.nd ((K2.pi_own (pv 0) (fun base => ok_witer (P := P) (w := w) (base := base) D) hr1 D.d_w_iter.b pass0 D.d_w_iter.me.at_ D.d_w_iter.me.fn)) (blkOk_by (N := ["world", "due", "concepts", "concept", "marks", "names", "thing", "inside", "edge"]) (sc := defScope s_law_same) (by decide +kernel)) (fun _ _ _ _ _ => pg_name (i := 5) sc_law_same.nd rfl (Or.inl rfl)) (fun _ _ _ _ _ => pts_nil) (fun _ _ _ _ _ => (pv 5))) (pe_ix ix_list (pv 1) pe_int (fun _ _ => rfl)) (nomark _)) (pss_one (ps_ret pe_bl)) pss_nil)
      (pss_cons (ps_for PassesOwn.never rfl (pi_list (pv 2)) (pg_name (i := 3) sc_law_same.nd rfl (Or.inl rfl)) (pss_cons (ps_set (i := 4) sc_law_same.nd rfl (Or.inl rfl) (pe_call GK hr11 rfl D.d_law_marks.m D.d_law_marks.F.kp D.d_law_marks.b .nil pass0 (pa_cons (pe_ix ix_list (pv 1) pe_int (fun _ _ => rfl)) (pa_cons (pe_ix ix_list (pv 1) pe_int (fun _ _ => rfl)) (pa_cons (pv 3) pa_nil)))))
      (pss_one (ps_if (pt_cmpR (op_neD hr.units) (pe_meth (pv 0) D.wC_cl D.d_w_things_in.me GW hr14 D.d_w_things_in.b .nil pass0 (pa_cons (pv 3) pa_nil))
          (pe_lc (own := [("thing", 6), ("inside", 7)]) (g := gTup K 2 (gCons (gName 6) (gCons (gName 7) gNil))) rfl sc_law_same.nd (pi_enum rfl D.z_enumerate (pa_cons (pv 4) pa_nil)) (blkOk_by (N := ["world", "due", "concepts", "concept", "marks", "names", "thing", "inside", "edge"]) (sc := defScope s_law_same) (by decide +kernel))
            (fun _ _ _ _ _ => pg_tup rfl (pgs_cons (pg_name (i := 6) sc_law_same.nd rfl (Or.inl rfl)) (pgs_cons (pg_name (i := 7) sc_law_same.nd rfl (Or.inl rfl)) pgs_nil)))
            (fun _ _ _ _ _ => pts_one (pt_val (pv 7))) (fun _ _ _ _ _ => (pv 6))) (nomark _)) (pss_one (ps_ret pe_bl)) pss_nil))))
      (pss_one (ps_ret (pe_callB (cr_all rfl) (by rfl) D.z_all (by decide +kernel) (pa_cons (pe_lc (own := [("edge", 8)]) (g := gName 8) rfl sc_law_same.nd (pi_list (pe_ix ix_list (pv 1) pe_int (fun _ _ => rfl))) (blkOk_by (N := ["world", "due", "concepts", "concept", "marks", "names", "thing", "inside", "edge"]) (sc := defScope s_law_same) (by decide +kernel)) (fun _ _ _ _ _ => pg_name (i := 8) sc_law_same.nd rfl (Or.inl rfl)) (fun _ _ _ _ _ => pts_nil) (fun _ _ _ _ _ => (pe_cmpR (K2.op_inO (E := fun _ _ _ => False) GH hr4 D.d_w_contains.b pass0 D.d_w_contains.me.at_ D.d_w_contains.me.fn) (pv 8) (pv 0) (by rfl)))) pa_nil))))))), ?_⟩
  obtain ⟨dx, dk, gr, hx⟩ := W.dx
  have m1 : (rowsV rows).length = rows.length := by simp [rowsV]
  have m2 : (rows.map (·.2)).length = rows.length := List.length_map ..
  refine ⟨_, rfl, x, dx, _, rfl, hx, wf_no (by decide +kernel) (by decide +kernel) (by decide +kernel) (by decide +kernel), x, ln, le, _, _, rfl, W, fun p1 r1 hp1 rat1 rm1 => ?_⟩
  have g1 := same_new hp1 (.lst (rowsV r1))
  refine ⟨_, rfl, p, _, _, _, rfl, rfl, SqL.of (g1 _ _ T.hp), atI_nat (j := 0) rfl, _, _, dp_rows' upd_same (fun r hr => g1 _ _ (rat1 r hr)) rm1, dp_rows' (g1 _ _ T.hf) (fun r hr => g1 _ _ (T.rat r hr)) rfl, shaped_rows W.nok, shaped_rows W.nok, _, rfl, iteFe (ne_rows _) ?_⟩
  refine ⟨_, rfl, x, dx, _, rfl, g1 _ _ hx, wf_no (by decide +kernel) (by decide +kernel) (by decide +kernel) (by decide +kernel), x, ln, le, _, _, rfl, W.same g1, fun p2 e2 hp2 eat2 em2 => ?_⟩
  have g2 := g1.trans (same_new hp2 (.lst (edsV e2)))
  refine ⟨_, rfl, p, _, _, _, rfl, rfl, SqL.of (g2 _ _ T.hp), atI_nat (j := 1) rfl, _, _, dp_eds' upd_same (fun r hr => same_new hp2 _ _ _ (eat2 r hr)) em2, dp_eds' (g2 _ _ T.he) (fun r hr => g2 _ _ (T.eat r hr)) rfl, shaped_eds W.nl W.eok, shaped_eds W.nl W.eok, _, rfl, iteFe (ne_eds _) ?_⟩
  refine ⟨_, rfl, x, dx, _, rfl, g2 _ _ hx, x, ln, le, _, _, rfl, W.same g2, _, rfl, p, _, _, _, rfl, rfl, SqL.of (g2 _ _ T.hp), atI_nat (j := 0) rfl, tf, rowsV rows, rfl, .inl (SqL.of (g2 _ _ T.hf)), rfl, _, rfl, iteFe (by rw [m1, m2]; simp) ?_⟩
  refine ⟨_, rfl, x, dx, _, rfl, g2 _ _ hx, x, ln, le, _, _, rfl, W.same g2, _, rfl, by omega, by omega, _, rfl, p, _, _, _, rfl, rfl, SqL.of (g2 _ _ T.hp), atI_nat (j := 0) rfl, tf, rowsV rows, rfl, .inl (SqL.of (g2 _ _ T.hf)), rfl, _, rfl, iteFe (by rw [m1, m2]; simp) ?_⟩
  obtain ⟨dxw, dkw, grw, rw_, ew, kt, w1, w2, w3, w4, w5, w6, w7, w8, w9, w10⟩ := W.open
  have lrw : rw_.length = rows.length := by have := congrArg List.length w4; rwa [List.length_map, List.length_map] at this
  have nn : ∀ r ∈ rows, ("none" : Str) ∉ r.2 := fun r hr hm => by
    have := (W.nok r.2 (List.mem_map.mpr ⟨r, hr, rfl⟩)).1 _ hm
    exact absurd this (by decide +kernel)
  have hb : ∀ e ∈ eds, e.2.a < rows.length ∧ e.2.b < rows.length := fun e he => by
    have := W.eok e.2 (List.mem_map.mpr ⟨e, he, rfl⟩)
    rw [m2] at this
    exact ⟨this.1, this.2.1⟩
  refine ⟨_, rfl, x, dx, _, rfl, g2 _ _ hx, fun n => ⟨x, ln, le, _, _, rfl, W.same g2, fun it hit hn => ⟨it, ln, rfl, hn, upd_same, ?_⟩⟩⟩
  rw [ItX.dropH_upd hit]
  intro D0 hD
  have lD := ne_of_none (g2 _ _ w2) hD
  refine lc_list (K := K) (a := ln) (xs := rowsV rw_) (fun i H4 => But [D0] (upd (upd (upd H p1 (.lst (rowsV r1))) p2 (.lst (edsV e2))) D0 (.lst [])) H4 ∧ H4 D0 = some (.lst (rowsV (rw_.take i)))) ⟨But.refl _, upd_same⟩
    (fun i H4 _ h => SqL.of (h.1 _ _ (by simpa using lD) (by rw [upd_ne lD]; exact g2 _ _ w2))) ?_ ?_
  · rintro i y H4 hi ⟨b4, h4⟩
    unfold rowsV at hi
    rw [List.getElem?_map] at hi
    obtain ⟨r, hri, rfl⟩ := Option.map_eq_some_iff.mp hi
    refine ⟨rfl, _, rfl, _, h4, ?_, b4.trans (But.put (by simp)), ?_⟩
    · rw [show (rowsV (rw_.take i)).length = (rw_.take i).length by simp [rowsV], List.length_take]
      exact small1000 (by omega)
    · rw [upd_same, List.take_add_one, hri]
      simp [rowsV]
  · rintro H4 ⟨b4, h4⟩
    have s4 : Same H H4 := g2.trans (same_of b4 hD)
    rw [show (rowsV rw_).length = rw_.length by simp [rowsV], List.take_length] at h4
    refine ⟨_, rfl, p, _, _, _, rfl, rfl, SqL.of (s4 _ _ T.hp), atI_nat (j := 0) rfl, _, _, dp_rows' h4 (fun r hr => s4 _ _ (w3 r hr)) w4, dp_rows' (s4 _ _ T.hf) (fun r hr => s4 _ _ (T.rat r hr)) rfl, shaped_rows W.nok, shaped_rows W.nok, _, rfl, iteFe (ne_rows _) ?_⟩
    refine ⟨_, rfl, pc, rfl, ⟨_, SqL.of (s4 _ _ hpc)⟩, for_list (K := K) (a := pc) (xs := ws) (fun i σ H5 => ∃ o3 o4, σ = [some (.ref x), some (.ref p), some (.ref pc), o3, o4, none, none, none, none] ∧ But [ds] H H5 ∧ CAt D.wC D.gC H5 x ds (eds.map (·.2)) R) ⟨none, none, rfl, But.of s4, C.same s4⟩ (fun i σ H5 _ h => ?_) ?_ ?_⟩
    · obtain ⟨_, _, _, b5, _⟩ := h
      exact SqL.of ((nkC C.c b5).l hpc)
    · rintro i y σ H5 hi ⟨o3, o4, rfl, b5, C5⟩
      have n5 := nkC C.c b5
      obtain ⟨k, hk1, hk2⟩ := paired_get hks hi
      have fk := fin k (List.mem_of_getElem? hk1)
      refine ⟨_, rfl, p, _, _, _, rfl, rfl, SqL.of (n5.l T.hp), atI_nat (j := 0) rfl, _, rfl, p, _, _, _, rfl, rfl, SqL.of (n5.l T.hp), atI_nat (j := 1) rfl, _, rfl,
        tf, te, y, k, rows, eds, rfl, n5.l T.hf, fun r hr => n5.tp (T.rat r hr), n5.l T.he, fun e he => n5.tp (T.eat e he), hk2.t n5.t, fk.2.1, l1, l2, hb, nn, fun H6 p6 g6 hp6 h6 => ?_⟩
      have n6 := n5.trans (Same.nk g6)
      have C6 := C5.same g6
      refine ⟨_, rfl, x, dx, _, rfl, n6.i hx, wf_no (by decide +kernel) (by decide +kernel) (by decide +kernel) (by decide +kernel), _, rfl, x, ln, le, _, _, y, k, N, R, ds, rfl, W.nk n6, C6, hk2.t n6.t, vo, fk, fun H7 p7 b7 C7 hp7 h7 => ?_⟩
      have n7 := nkC C6.c b7
      refine ⟨_, rfl, p6, _, rfl, SqL.of (n7.l h6), fun D1 hD1 => ?_⟩
      have p6D := ne_of_none (n7.l h6) hD1
      have lm : (marksV (rows.map (·.2)) (eds.map (·.2)) k).length = rows.length := by unfold marksV; rw [List.length_map, List.length_range, m2]
      refine lc_it walk_enum (fun i H8 => But [D1] (upd H7 D1 (.lst [])) H8 ∧ H8 D1 = some (.lst (((List.range i).filter fun i => hol (rows.map (·.2)) (eds.map (·.2)) k i).map fun i => V.int (i : Nat)))) ⟨But.refl _, upd_same⟩
        (fun i H8 _ h => SqL.of (h.1 _ _ (by simpa using p6D) (by rw [upd_ne p6D]; exact n7.l h6))) ?_ ?_
      · rintro j z H8 H9 hj ⟨b8, h8⟩ ⟨T1, xv, yv, rfl, hT, rfl, e1, e2⟩
        rw [lm] at hj
        have e1' := Option.some.inj e1
        subst e1'
        have e2' : (marksV (rows.map (·.2)) (eds.map (·.2)) k)[j]? = some yv := e2
        have e3 : yv = V.bl (hol (rows.map (·.2)) (eds.map (·.2)) k j) := by
          unfold marksV at e2'
          rw [List.getElem?_map, List.getElem?_range (by rw [m2]; exact hj)] at e2'
          exact (Option.some.inj e2').symm
        subst e3
        have b9 := b8.trans (But.new (D := [D1]) (o := .tup [V.int (j : Nat), V.bl (hol (rows.map (·.2)) (eds.map (·.2)) k j)]) hT)
        have TD : D1 ≠ T1 := ne_of_none h8 hT
        refine ⟨T1, _, rfl, SqT.of upd_same, rfl, _, _, rfl, _, _, rfl, rfl, rfl, _, rfl, _, rfl, ?_⟩
        refine ite2 (c := hol (rows.map (·.2)) (eds.map (·.2)) k j = true) (fun hc => ?_) (fun hc => ?_)
        · refine ⟨_, rfl, _, by rw [upd_ne TD]; exact h8, ?_, b9.trans (But.put (by simp)), ?_⟩
          · rw [List.length_map]
            have := List.length_filter_le (fun i => hol (rows.map (·.2)) (eds.map (·.2)) k i) (List.range j)
            rw [List.length_range] at this
            exact small1000 (by omega)
          · rw [upd_same, List.range_succ, List.filter_append, List.filter_cons, if_pos hc, List.map_append]
            rfl
        · refine ⟨b9, ?_⟩
          rw [upd_ne TD, List.range_succ, List.filter_append, List.filter_cons, if_neg hc, List.filter_nil, List.append_nil]
          exact h8
      · rintro H8 ⟨b8, h8⟩
        have g8 : Same H7 H8 := same_of b8 hD1
        rw [lm, ← m2] at h8
        refine ⟨_, _, .lst (SqL.of (g8 _ _ h7)) (dp_ints _), .lst (SqL.of h8) (dp_ints _), shaped_ints _, shaped_ints _, _, rfl, iteFe (ne_ints _) ⟨_, _, rfl, ((b5.trans (But.of g6)).trans b7).trans (But.of g8), C7.same g8⟩⟩
    · rintro σ H5 ⟨o3, o4, rfl, b5, C5⟩
      have n5 := nkC C.c b5
      refine ⟨_, rfl, p, _, _, _, rfl, rfl, SqL.of (n5.l T.hp), atI_nat (j := 1) rfl, te, rfl, ⟨_, SqL.of (n5.l T.he)⟩, fun D1 hD1 => ?_⟩
      have teD := ne_of_none (n5.l T.he) hD1
      have m3 : (edsV eds).length = eds.length := by simp [edsV]
      refine lc_list (K := K) (a := te) (xs := edsV eds) (fun i H6 => But [D1] (upd H5 D1 (.lst [])) H6 ∧ H6 D1 = some (.lst ((List.replicate i true).map V.bl))) ⟨But.refl _, upd_same⟩
        (fun i H6 _ h => SqL.of (h.1 _ _ (by simpa using teD) (by rw [upd_ne teD]; exact n5.l T.he))) ?_ ?_
      · rintro j y H6 hj ⟨b6, h6⟩
        have jl := (List.getElem?_eq_some_iff.mp hj).1
        unfold edsV at hj
        rw [List.getElem?_map] at hj
        obtain ⟨e, hej, rfl⟩ := Option.map_eq_some_iff.mp hj
        have me := List.mem_of_getElem? hej
        have mem : e.2 ∈ eds.map (·.2) := List.mem_map.mpr ⟨e, me, rfl⟩
        have n6 := n5.trans (Same.nk (same_of b6 hD1))
        refine ⟨rfl, _, rfl, _, rfl, x, dx, _, rfl, n6.i hx, x, ln, le, _, _, e.1, e.2, rfl, W.nk n6, n6.tp (T.eat e me), W.eok _ mem, _, rfl, _, h6, ?_, b6.trans (But.put (by simp)), ?_⟩
        · rw [List.length_map, List.length_replicate]
          exact small1000 (by omega)
        · rw [upd_same, decide_eq_true mem, List.replicate_succ', List.map_append]
          rfl
      · rintro H6 ⟨b6, h6⟩
        refine ⟨D1, List.replicate (edsV eds).length true, rfl, SqL.of h6, ?_⟩
        rw [show (List.replicate (edsV eds).length true).all id = true by simp]
        exact q _ (b5.trans (But.of (same_of b6 hD1))) (C5.same (same_of b6 hD1))
end
end K1
namespace K2
open PySem L2 PySem.W PyProof.Rows
theorem ext_tup (l : Addr) (items : Array Value) (n : Nat) (b : Addr) (items2 : Array Value) (n2 : Nat) (dd : Option Addr) (sl : Array (Option Value)) (hs0 : ¬(!items.isEmpty && Builtin.List.listTooLong (items.size + items2.size)) = true) (hs1 : items.size ≤ sizeLine) (hs2 : items.size + items2.size ≤ sizeLine + 1) :
    Meets (Builtin.«list.extend» ⟨[.ref l, .ref b], []⟩) (fun _ R s => s.heap.get? l = some { cls := .type "list", dict := none, data := .seq items n, slots := #[] } ∧ s.heap.get? b = some { cls := .type "tuple", dict := dd, data := .seq items2 n2, slots := sl } ∧ R (.ok (.ret Value.none)) { s with heap := s.heap.update l (Obj.mapSeq fun x => x ++ items2), toks := s.toks }) :=
  .of_wp fun prog w A R s h => by
    obtain ⟨hp, g, d, tk, os⟩ := s; obtain ⟨hl, hb, h⟩ := h; have f1 := AutoSeq1.idx_int; have f2 := AutoSeq1.sub_tuple_tuple; have f3 := AutoSeq1.sub_list_list; have f4 := AutoSeq1.sub_tuple_list; have f5 := AutoSeq1.sub_list_tuple;
    have hz' : (items ++ items2).size ≤ sizeLine + 1 := by rw [Array.size_append]; exact hs2
    wp_walk using (wpAny_updateSeq hl rfl (hz := hs1) (_hz' := hz')), AutoSeq1.wpAny_loadPart' hl, AutoSeq1.wpAny_loadPart' hb; exact ⟨_, rfl, h⟩
section
variable {X : Cx}
/-- xs.extend(t), t a tuple -/
def rExtendT : V → List V → Hp → VK → Prop := fun x vs H Q => ∃ l b xs zs, x = .ref l ∧ vs = [.ref b] ∧ H l = some (.lst xs) ∧ H b = some (.tup zs) ∧ xs.length + zs.length ≤ sizeLine ∧ Q .non (upd H l (.lst (xs ++ zs)))
theorem mt_extendT : MtM X "list.extend" rExtendT := by
  intro pins s σ H x vs v us Q I rx rv h
  obtain ⟨l, b, xs, zs, rfl, rfl, hH, hB, hz, q⟩ := h
  cases rx
  obtain ⟨u, rfl, ru⟩ := rv.one
  cases ru
  obtain ⟨z, its, n, r, hl, e⟩ := I.lstM hH
  obtain ⟨z2, its2, r2, ⟨c2, dd, dt, sl⟩, e2, hc2, n2, hd2⟩ := I.hok b _ hB
  obtain rfl : c2 = Value.type "tuple" := hc2
  obtain rfl : dt = Data.seq its2.toArray n2 := hd2
  have hl2 := r2.length
  have hsz : its.toArray.size + its2.toArray.size ≤ sizeLine := by rw [List.size_toArray, List.size_toArray]; omega
  have hlong : ¬ (!its.toArray.isEmpty && Builtin.List.listTooLong (its.toArray.size + its2.toArray.size)) = true := by
    rw [notLongL hsz, Bool.and_false]
    exact Bool.false_ne_true
  refine call_meets F.slot_list_extend ⟨_, e, rfl⟩ F.entry_list_extend (F.args_list_extend_2 _ _)
    (ext_tup l its.toArray n b its2.toArray n2 dd sl hlong (by rw [List.size_toArray]; omega) (by omega)) ⟨e, e2, ?_⟩
  refine ⟨.non, _, I.lset (its' := its ++ its2) hH e (by simp) (r.append r2) ?_, rfl, q⟩
  rw [List.length_append]
  omega
end
end K2
namespace K1
open PySem L2
/-! ### the law's own mathematics -/
theorem prodE_nodup {ed1 ed2 : List Edge} {m : Nat} (n1 : ed1.Nodup) (n2 : ed2.Nodup) (hm : ∀ e ∈ ed2, e.a < m ∧ e.b < m) : (prodE m ed1 ed2).Nodup := by
  unfold prodE
  have key : ∀ {e e' f f' : Edge}, f ∈ ed2 → f' ∈ ed2 → f.r = e.r → f'.r = e'.r → Edge.mk (e.a * m + f.a) e.r (e.b * m + f.b) = Edge.mk (e'.a * m + f'.a) e'.r (e'.b * m + f'.b) → e = e' ∧ f = f' := by
    intro e e' f f' hf hf' h1 h2 z
    obtain ⟨fa, fb⟩ := hm f hf
    obtain ⟨ga, gb⟩ := hm f' hf'
    obtain ⟨z1, z2, z3⟩ := Edge.mk.inj z
    have q1 : (e.a * m + f.a) / m = e.a := by rw [Nat.mul_comm, Nat.mul_add_div (by omega), Nat.div_eq_of_lt fa, Nat.add_zero]
    have q2 : (e.b * m + f.b) / m = e.b := by rw [Nat.mul_comm, Nat.mul_add_div (by omega), Nat.div_eq_of_lt fb, Nat.add_zero]
    have q3 : (e.a * m + f.a) % m = f.a := by rw [Nat.mul_comm, Nat.mul_add_mod, Nat.mod_eq_of_lt fa]
    have q4 : (e.b * m + f.b) % m = f.b := by rw [Nat.mul_comm, Nat.mul_add_mod, Nat.mod_eq_of_lt fb]
    have p1 : (e'.a * m + f'.a) / m = e'.a := by rw [Nat.mul_comm, Nat.mul_add_div (by omega), Nat.div_eq_of_lt ga, Nat.add_zero]
    have p2 : (e'.b * m + f'.b) / m = e'.b := by rw [Nat.mul_comm, Nat.mul_add_div (by omega), Nat.div_eq_of_lt gb, Nat.add_zero]
    have p3 : (e'.a * m + f'.a) % m = f'.a := by rw [Nat.mul_comm, Nat.mul_add_mod, Nat.mod_eq_of_lt ga]
    have p4 : (e'.b * m + f'.b) % m = f'.b := by rw [Nat.mul_comm, Nat.mul_add_mod, Nat.mod_eq_of_lt gb]
    rw [z1, p1] at q1
    rw [z3, p2] at q2
    rw [z1, p3] at q3
    rw [z3, p4] at q4
    obtain ⟨ea, er, eb⟩ := e
    obtain ⟨ea', er', eb'⟩ := e'
    obtain ⟨f1, f2, f3⟩ := f
    obtain ⟨f1', f2', f3'⟩ := f'
    simp only at q1 q2 q3 q4 z2 h1 h2
    subst q1 q2 q3 q4 z2 h1
    exact ⟨rfl, by rw [h2]⟩
  refine List.pairwise_flatMap.mpr ⟨fun e _ => ?_, ?_⟩
  · refine List.pairwise_map.mpr (List.Pairwise.imp_of_mem (fun {a b} ha hb h z => ?_) (List.Pairwise.sublist List.filter_sublist n2))
    obtain ⟨ha1, ha2⟩ := List.mem_filter.mp ha
    obtain ⟨hb1, hb2⟩ := List.mem_filter.mp hb
    exact h (key ha1 hb1 (of_decide_eq_true ha2) (of_decide_eq_true hb2) z).2
  · refine List.Pairwise.imp (fun {a b} h x hx y hy z => ?_) n1
    obtain ⟨i, hi, rfl⟩ := List.mem_map.mp hx
    obtain ⟨j, hj, rfl⟩ := List.mem_map.mp hy
    obtain ⟨hi1, hi2⟩ := List.mem_filter.mp hi
    obtain ⟨hj1, hj2⟩ := List.mem_filter.mp hj
    exact h (key hi1 hj1 (of_decide_eq_true hi2) (of_decide_eq_true hj2) z).1
theorem sortS_le (l : List Str) : (l.mergeSort leS).Pairwise fun a b => leS a b = true := by
  have tot : ∀ a b : Str, (leS a b || leS b a) = true := fun a b => by
    rw [leS_eq, leS_eq]
    cases h : ltb b a with
    | false => rfl
    | true => rw [ltbS_asym h]; rfl
  have tr : ∀ a b c : Str, leS a b = true → leS b c = true → leS a c = true := fun a b c h1 h2 => by
    rw [leS_eq] at h1 h2 ⊢
    cases h : ltb c a with
    | false => rfl
    | true =>
      have h1' : ltb b a = false := by cases z : ltb b a with | false => rfl | true => rw [z] at h1; cases h1
      have h2' : ltb c b = false := by cases z : ltb c b with | false => rfl | true => rw [z] at h2; cases h2
      cases z : ltb a b with
      | true => rw [ltbS_trans h z] at h2'; cases h2'
      | false =>
        have := ltbS_total z h1'
        subst this
        rw [h] at h2'; cases h2'
  exact List.pairwise_mergeSort tr tot l
/-- the first ones of a list, turn by turn -/
def firsts (l : List Str) : Nat → List Str
  | 0 => []
  | i + 1 => match l[i]? with
    | some w => if w ∈ l.take i then firsts l i else firsts l i ++ [w]
    | none => firsts l i
theorem firsts_in {l : List Str} {i : Nat} {w : Str} (h : l[i]? = some w) (c : w ∈ l.take i) : firsts l (i + 1) = firsts l i := by simp [firsts, h, c]
theorem firsts_new {l : List Str} {i : Nat} {w : Str} (h : l[i]? = some w) (c : w ∉ l.take i) : firsts l (i + 1) = firsts l i ++ [w] := by simp [firsts, h, c]
theorem firsts_mem (l : List Str) (x : Str) : ∀ i, i ≤ l.length → (x ∈ firsts l i ↔ x ∈ l.take i)
  | 0, _ => by simp [firsts]
  | i + 1, h => by
    obtain ⟨w, hw⟩ : ∃ w, l[i]? = some w := ⟨_, List.getElem?_eq_getElem (by omega)⟩
    have ih := firsts_mem l x i (by omega)
    have e : l.take (i + 1) = l.take i ++ [w] := by rw [List.take_add_one, hw]; rfl
    rw [e, List.mem_append]
    by_cases c : w ∈ l.take i
    · rw [firsts_in hw c, ih]
      constructor
      · exact .inl
      · rintro (z | z)
        · exact z
        · rw [List.mem_singleton.mp z]; exact c
    · rw [firsts_new hw c, List.mem_append, ih]
theorem firsts_len (l : List Str) : ∀ i, (firsts l i).length ≤ i
  | 0 => Nat.le_refl _
  | i + 1 => by
    have ih := firsts_len l i
    cases h : l[i]? with
    | none => simp only [firsts, h]; omega
    | some w =>
      by_cases c : w ∈ l.take i
      · rw [firsts_in h c]; omega
      · rw [firsts_new h c, List.length_append]; simp; omega
theorem firsts_asc {l : List Str} (h : l.Pairwise fun a b => leS a b = true) : ∀ i, i ≤ l.length → Asc (firsts l i)
  | 0, _ => List.Pairwise.nil
  | i + 1, hi => by
    obtain ⟨w, hw⟩ : ∃ w, l[i]? = some w := ⟨_, List.getElem?_eq_getElem (by omega)⟩
    have ih := firsts_asc h i (by omega)
    by_cases c : w ∈ l.take i
    · rw [firsts_in hw c]; exact ih
    · rw [firsts_new hw c]
      refine List.pairwise_append.mpr ⟨ih, List.pairwise_singleton _ _, fun a ha b hb => ?_⟩
      rw [List.mem_singleton.mp hb]
      have ha' := (firsts_mem l a i (by omega)).mp ha
      have e : l = l.take i ++ l.drop i := (List.take_append_drop i l).symm
      rw [e] at h
      have hw' : w ∈ l.drop i := List.mem_of_getElem? (i := 0) (by rw [List.getElem?_drop]; exact hw)
      have le := (List.pairwise_append.mp h).2.2 a ha' w hw'
      rw [leS_eq] at le
      have h3 : ltb w a = false := by cases z : ltb w a with | false => rfl | true => rw [z] at le; cases le
      cases z : ltb a w with
      | true => rfl
      | false => exact (c (ltbS_total z h3 ▸ ha')).elim
/-- the words as the law makes them -/
theorem words_asc {L row ys : List Str} (ha : Asc ys) (hm : ∀ s, s ∈ ys ↔ s ∈ row) (sub : ∀ s ∈ row, s ∈ L) :
    firsts ((L.mergeSort leS).filter fun x => decide (x ∈ row)) ((L.mergeSort leS).filter fun x => decide (x ∈ row)).length = ys := by
  refine asc_uniq (firsts_asc (List.Pairwise.sublist List.filter_sublist (sortS_le L)) _ (Nat.le_refl _)) ha fun x => ?_
  rw [firsts_mem _ _ _ (Nat.le_refl _), List.take_length, List.mem_filter, hm, (List.mergeSort_perm L leS).mem_iff, decide_eq_true_eq]
  exact ⟨fun z => z.2, fun z => ⟨sub x z, z⟩⟩
/-! ### what is carried -/
theorem TwoAt.same {H H' : Hp} {p tf te : Addr} {rows : List (Addr × List Str)} {eds : List (Addr × Edge)} (h : TwoAt H p tf te rows eds) (e : Same H H') : TwoAt H' p tf te rows eds :=
  ⟨e _ _ h.hp, e _ _ h.hf, e _ _ h.he, fun r hr => e _ _ (h.rat r hr), fun x hx => e _ _ (h.eat x hx)⟩
theorem TwoAt.but {H H' : Hp} {g p tf te : Addr} {rows : List (Addr × List Str)} {eds : List (Addr × Edge)} (h : TwoAt H p tf te rows eds) (e : But [g] H H') (t : TSame H H') (n1 : p ≠ g) (n2 : tf ≠ g) (n3 : te ≠ g) : TwoAt H' p tf te rows eds :=
  ⟨e _ _ (by simpa using n1) h.hp, e _ _ (by simpa using n2) h.hf, e _ _ (by simpa using n3) h.he, fun r hr => t _ _ (h.rat r hr), fun x hx => t _ _ (h.eat x hx)⟩
/-- a list is changed that is not the world's own -/
theorem WAt.put {C G : Addr} {H : Hp} {x ln le g : Addr} {nm : List (List Str)} {ed : List Edge} {xs ys : List V} (h : WAt C G H x ln le nm ed) (hg : H g = some (.lst xs)) (n1 : ln ≠ g) (n2 : le ≠ g) : WAt C G (upd H g (.lst ys)) x ln le nm ed :=
  h.noL (fun b o hb nl => by rw [upd_ne (fun z => by rw [z, hg] at hb; exact nl xs (Option.some.inj hb).symm)]; exact hb) (fun o ho => by rw [upd_ne n1]; exact ho) (fun o ho => by rw [upd_ne n2]; exact ho)
theorem t_put {H : Hp} {g : Addr} {xs ys : List V} (hg : H g = some (.lst xs)) : TSame H (upd H g (.lst ys)) := fun b zs h => by
  rw [upd_ne (fun z => by rw [z, hg] at h; cases h)]; exact h
theorem but_put {H : Hp} {g : Addr} {ys : List V} : But [g] H (upd H g (.lst ys)) := But.put (by simp)
theorem Names.upd {H : Hp} {d tn tr D0 : Addr} {N R : List Str} {o : HO} (h : Names H d tn tr N R) (n1 : D0 ≠ tn) (n2 : D0 ≠ tr) : Names (L2.upd H D0 o) d tn tr N R :=
  ⟨by rw [upd_ne n1.symm]; exact h.n, by rw [upd_ne n2.symm]; exact h.r, h.nd, h.rd⟩
structure Know (C G : Addr) (H : Hp) (p1 f1 e1 p2 f2 e2 x1 l1 m1 x2 l2 m2 tn tr pc : Addr) (rows1 : List (Addr × List Str)) (eds1 : List (Addr × Edge)) (rows2 : List (Addr × List Str)) (eds2 : List (Addr × Edge)) (N R : List Str) (ks : List Con) (ws : List V) : Prop where
  t1 : TwoAt H p1 f1 e1 rows1 eds1
  t2 : TwoAt H p2 f2 e2 rows2 eds2
  w1 : WAt C G H x1 l1 m1 (rows1.map (·.2)) (eds1.map (·.2))
  w2 : WAt C G H x2 l2 m2 (rows2.map (·.2)) (eds2.map (·.2))
  hn : H tn = some (.lst (N.map V.str))
  hr : H tr = some (.lst (R.map V.str))
  hc : H pc = some (.lst ws)
  pk : Paired (ConAt H) ks ws
theorem Know.same {C G : Addr} {H H' : Hp} {p1 f1 e1 p2 f2 e2 x1 l1 m1 x2 l2 m2 tn tr pc : Addr} {rows1 : List (Addr × List Str)} {eds1 : List (Addr × Edge)} {rows2 : List (Addr × List Str)} {eds2 : List (Addr × Edge)} {N R : List Str} {ks : List Con} {ws : List V}
    (k : Know C G H p1 f1 e1 p2 f2 e2 x1 l1 m1 x2 l2 m2 tn tr pc rows1 eds1 rows2 eds2 N R ks ws) (e : Same H H') : Know C G H' p1 f1 e1 p2 f2 e2 x1 l1 m1 x2 l2 m2 tn tr pc rows1 eds1 rows2 eds2 N R ks ws :=
  ⟨k.t1.same e, k.t2.same e, k.w1.same e, k.w2.same e, e _ _ k.hn, e _ _ k.hr, e _ _ k.hc, paired_t (Same.t e) k.pk⟩
theorem TwoAt.nk {H H' : Hp} {p tf te : Addr} {rows : List (Addr × List Str)} {eds : List (Addr × Edge)} (h : TwoAt H p tf te rows eds) (e : NK H H') : TwoAt H' p tf te rows eds :=
  ⟨e.l h.hp, e.l h.hf, e.l h.he, fun r hr => e.tp (h.rat r hr), fun x hx => e.tp (h.eat x hx)⟩
theorem Know.nk {C G : Addr} {H H' : Hp} {p1 f1 e1 p2 f2 e2 x1 l1 m1 x2 l2 m2 tn tr pc : Addr} {rows1 : List (Addr × List Str)} {eds1 : List (Addr × Edge)} {rows2 : List (Addr × List Str)} {eds2 : List (Addr × Edge)} {N R : List Str} {ks : List Con} {ws : List V}
    (k : Know C G H p1 f1 e1 p2 f2 e2 x1 l1 m1 x2 l2 m2 tn tr pc rows1 eds1 rows2 eds2 N R ks ws) (e : NK H H') : Know C G H' p1 f1 e1 p2 f2 e2 x1 l1 m1 x2 l2 m2 tn tr pc rows1 eds1 rows2 eds2 N R ks ws :=
  ⟨k.t1.nk e, k.t2.nk e, k.w1.nk e, k.w2.nk e, e.l k.hn, e.l k.hr, e.l k.hc, paired_t e.t k.pk⟩
theorem nk_put {H H' : Hp} {p : Addr} {o : HO} (g : NK H H') (hp : H p = none) : NK H (upd H' p o) := fun b u h n => by
  rw [upd_ne (ne_of_none h hp)]; exact g b u h n
theorem CAt.at_ {C G : Addr} {H : Hp} {x ds : Addr} {ed : List Edge} {rr : List Str} (h : CAt C G H x ds ed rr) : ∃ ks, H ds = some (.dK ks) := by
  obtain ⟨ks, h1, _⟩ := h.c.ex
  exact ⟨ks, h1⟩
/-- another world's dict has changed -/
theorem CAt.other {C G : Addr} {H H' : Hp} {x ds x2 ds2 : Addr} {ed ed2 : List Edge} {rr rr2 : List Str} (h : CAt C G H x ds ed rr) (h2 : CAt C G H x2 ds2 ed2 rr2) (b : But [ds2] H H') (ne : ds ≠ ds2) : CAt C G H' x ds ed rr := by
  obtain ⟨ks, e⟩ := h2.at_
  exact h.nk (nkC h2.c b) (h.c.but b ne fun o u z => by rw [e] at z; cases z)
theorem CAt.ne {C G : Addr} {H : Hp} {x ds ds2 : Addr} {ed : List Edge} {rr : List Str} (h : CAt C G H x ds ed rr) (n : H ds2 = none) : ds ≠ ds2 := by
  obtain ⟨ks, e⟩ := h.at_
  exact ne_of_none e n
theorem Know.put {C G : Addr} {H : Hp} {p1 f1 e1 p2 f2 e2 x1 l1 m1 x2 l2 m2 tn tr pc g : Addr} {rows1 : List (Addr × List Str)} {eds1 : List (Addr × Edge)} {rows2 : List (Addr × List Str)} {eds2 : List (Addr × Edge)} {N R : List Str} {ks : List Con} {ws xs ys : List V}
    (k : Know C G H p1 f1 e1 p2 f2 e2 x1 l1 m1 x2 l2 m2 tn tr pc rows1 eds1 rows2 eds2 N R ks ws) (hg : H g = some (.lst xs)) (n : ∀ a ∈ [p1, f1, e1, p2, f2, e2, l1, m1, l2, m2, tn, tr, pc], a ≠ g) :
    Know C G (upd H g (.lst ys)) p1 f1 e1 p2 f2 e2 x1 l1 m1 x2 l2 m2 tn tr pc rows1 eds1 rows2 eds2 N R ks ws :=
  ⟨k.t1.but but_put (t_put hg) (n _ (by simp)) (n _ (by simp)) (n _ (by simp)), k.t2.but but_put (t_put hg) (n _ (by simp)) (n _ (by simp)) (n _ (by simp)), k.w1.put hg (n _ (by simp)) (n _ (by simp)), k.w2.put hg (n _ (by simp)) (n _ (by simp)),
    by rw [upd_ne (n _ (by simp))]; exact k.hn, by rw [upd_ne (n _ (by simp))]; exact k.hr, by rw [upd_ne (n _ (by simp))]; exact k.hc, paired_t (t_put hg) k.pk⟩
theorem same_app {H : Hp} {pa t : Addr} {o1 o2 o3 : HO} (hpa : H pa = none) (ht : (upd H pa o1) t = none) : Same H (upd (upd (upd H pa o1) t o2) pa o3) := fun b o h => by
  rw [upd_ne (ne_of_none h hpa), upd_ne (ne_of_none (same_new hpa o1 _ _ h) ht), upd_ne (ne_of_none h hpa)]; exact h
theorem same_put {H H' : Hp} {p : Addr} {o : HO} (g : Same H H') (hp : H p = none) : Same H (upd H' p o) := fun b u h => by
  rw [upd_ne (ne_of_none h hp)]; exact g b u h
theorem fine_all {N R : List Str} : Fine N R (.atom "all") := ⟨.inl rfl, by decide, by decide⟩
theorem Know.but {C G : Addr} {H H' : Hp} {p1 f1 e1 p2 f2 e2 x1 l1 m1 x2 l2 m2 tn tr pc g : Addr} {rows1 : List (Addr × List Str)} {eds1 : List (Addr × Edge)} {rows2 : List (Addr × List Str)} {eds2 : List (Addr × Edge)} {N R : List Str} {ks : List Con} {ws xs : List V}
    (k : Know C G H p1 f1 e1 p2 f2 e2 x1 l1 m1 x2 l2 m2 tn tr pc rows1 eds1 rows2 eds2 N R ks ws) (b : But [g] H H') (hg : H g = some (.lst xs)) (n : ∀ a ∈ [p1, f1, e1, p2, f2, e2, l1, m1, l2, m2, tn, tr, pc], a ≠ g) :
    Know C G H' p1 f1 e1 p2 f2 e2 x1 l1 m1 x2 l2 m2 tn tr pc rows1 eds1 rows2 eds2 N R ks ws := by
  have t : TSame H H' := b.t fun d hd zs z => by rw [List.mem_singleton.mp hd, hg] at z; cases z
  have nl : NoL H H' := fun a o h no => b _ _ (by
    simp only [List.mem_singleton]
    intro z
    rw [z, hg] at h
    exact no xs (Option.some.inj h).symm) h
  have kp : ∀ {a : Addr} {o : HO}, a ≠ g → H a = some o → H' a = some o := fun h e => b _ _ (by simpa using h) e
  exact ⟨k.t1.but b t (n _ (by simp)) (n _ (by simp)) (n _ (by simp)), k.t2.but b t (n _ (by simp)) (n _ (by simp)) (n _ (by simp)), k.w1.noL nl (fun o => kp (n _ (by simp))) (fun o => kp (n _ (by simp))), k.w2.noL nl (fun o => kp (n _ (by simp))) (fun o => kp (n _ (by simp))),
    kp (n _ (by simp)) k.hn, kp (n _ (by simp)) k.hr, kp (n _ (by simp)) k.hc, paired_t t k.pk⟩
/-- a new list is none of those that are known -/
theorem Know.nof {C G : Addr} {H : Hp} {p1 f1 e1 p2 f2 e2 x1 l1 m1 x2 l2 m2 tn tr pc g : Addr} {rows1 : List (Addr × List Str)} {eds1 : List (Addr × Edge)} {rows2 : List (Addr × List Str)} {eds2 : List (Addr × Edge)} {N R : List Str} {ks : List Con} {ws : List V}
    (k : Know C G H p1 f1 e1 p2 f2 e2 x1 l1 m1 x2 l2 m2 tn tr pc rows1 eds1 rows2 eds2 N R ks ws) (hg : H g = none) : ∀ a ∈ [p1, f1, e1, p2, f2, e2, l1, m1, l2, m2, tn, tr, pc], a ≠ g := by
  intro a ha
  obtain ⟨_, _, _, _, _, _, _, a1, _, _, a2, _⟩ := k.w1.open
  obtain ⟨_, _, _, _, _, _, _, a3, _, _, a4, _⟩ := k.w2.open
  simp only [List.mem_cons, List.not_mem_nil, or_false] at ha
  rcases ha with rfl | rfl | rfl | rfl | rfl | rfl | rfl | rfl | rfl | rfl | rfl | rfl | rfl
  · exact ne_of_none k.t1.hp hg
  · exact ne_of_none k.t1.hf hg
  · exact ne_of_none k.t1.he hg
  · exact ne_of_none k.t2.hp hg
  · exact ne_of_none k.t2.hf hg
  · exact ne_of_none k.t2.he hg
  · exact ne_of_none a1 hg
  · exact ne_of_none a2 hg
  · exact ne_of_none a3 hg
  · exact ne_of_none a4 hg
  · exact ne_of_none k.hn hg
  · exact ne_of_none k.hr hg
  · exact ne_of_none k.hc hg
/-- a drawn world as data -/
def twoD (nm : List (List Str)) (ed : List Edge) : PyData := .list [rowsD nm, edsD ed]
theorem dp_two {K : PySem.W.Frag} {H : Hp} {p tf te : Addr} {rows : List (Addr × List Str)} {eds : List (Addr × Edge)} (h : TwoAt H p tf te rows eds) : Dp K H (.ref p) (twoD (rows.map (·.2)) (eds.map (·.2))) :=
  .lst (SqL.of h.hp) (.cons (dp_rows h.hf h.rat) (.cons (dp_eds h.he h.eat) .nil))
theorem eqv_two (a c : List (List Str)) (b d : List Edge) : PyData.eqv (twoD a b) (twoD c d) = decide (a = c ∧ b = d) := by
  unfold twoD
  simp only [PyData.eqv]
  rw [PySem.W.eqv_all_cons, PySem.W.eqv_all_cons, eqv_rows, eqv_eds]
  simp only [PyData.eqvAll, Bool.and_true]
  by_cases h1 : a = c
  · by_cases h2 : b = d
    · simp [h1, h2]
    · simp [h1, h2]
  · simp [h1]
theorem shaped_two {nm : List (List Str)} {ed : List Edge} {n : Nat} (hn : n ≤ 1000) (h1 : ∀ l ∈ nm, RowOk l) (h2 : ∀ e ∈ ed, EdgeOk n e) : SeqAt.shaped (twoD nm ed) = true := by
  refine shaped_of ?_ ?_
  · show PyData.canLayAll0 [rowsD nm, edsD ed] = true
    rw [PyData.canLayAll0, PyData.canLayAll0]
    rw [show (rowsD nm).canLay0 = true from lay_rows h1, show (edsD ed).canLay0 = true from lay_eds hn h2]
    simp [PyData.canLayAll0]
  · unfold twoD
    simp only [PyData.depth, PyData.depthAll]
    have a1 : (rowsD nm).depth ≤ 2 := by
      unfold rowsD
      simp only [PyData.depth]
      have := dep_rows nm
      omega
    have a2 : (edsD ed).depth ≤ 2 := by
      unfold edsD
      simp only [PyData.depth]
      have := dep_eds ed
      omega
    omega
theorem cut_to (l : List V) (i : Nat) (h : i ≤ l.length) : cutV l none (some (i : Int)) = l.take i := by
  simp only [cutV, HT.sIx, List.drop_zero]
  rw [if_neg (by omega), Nat.sub_zero]
  congr 1
  simp
  omega
theorem ne_told (ys zs : List Str) : (!PyData.eqv (toldD ys zs) (toldD ys zs)) = false := by
  unfold toldD
  simp only [PyData.eqv]
  rw [PySem.W.eqv_all_cons, PySem.W.eqv_all_cons]
  simp [PyData.eqv, PyData.eqvAll, eqv_strs]
section
variable {P : Program} {w : World} {K : PySem.W.Frag} {mg : Str → Option Value} {base : Heap}
/-- the reading of World(names, edges), the instance being laid at x -/
theorem make_w {C G : Addr} {Qc : VK} {E : XK} {H1 : Hp} {pn pe x dx : Addr} {rows : List (Addr × List Str)} {eds : List (Addr × Edge)} (hpn : InSq H1 pn (rowsV rows)) (hrow : RowsAt H1 rows) (hpe : InSq H1 pe (edsV eds)) (heds : EdsAt H1 eds)
    (l1 : rows.length ≤ 1000) (l2 : (K2.flatR rows).length ≤ 1000) (l3 : eds.length ≤ 900) (hok : ∀ e ∈ eds, EdgeOk rows.length e.2) (ro : ∀ r ∈ rows, RowOk r.2) (ne : rows ≠ []) (asc : AscE (eds.map (·.2)))
    (hx : H1 x = none) (hdx : H1 dx = none) (nx : dx ≠ x)
    (q : ∀ (H' : Hp) (ln le ds : Addr), Same H1 H' → H1 ln = none → H1 le = none → H1 ds = none → WAt C G H' x ln le (rows.map (·.2)) (eds.map (·.2)) → (∀ rr, CAt C G H' x ds (eds.map (·.2)) rr) → Qc .non H') :
    spWInit C G (.ref x :: ([.ref pn, .ref pe] ++ [])) (upd (upd H1 dx (.own x)) x (.ins C dx [])) Qc E := by
  have up : ∀ {b : Addr} {o : HO}, H1 b = some o → (upd (upd H1 dx (.own x)) x (.ins C dx [])) b = some o := fun {b o} h => by rw [upd_ne (ne_of_none h hx), upd_ne (ne_of_none h hdx)]; exact h
  have n5 : ∀ {p : Addr}, (upd (upd H1 dx (.own x)) x (.ins C dx [])) p = none → H1 p = none := fun {p} h => by
    cases e : H1 p with
    | none => rfl
    | some o => rw [up e] at h; cases h
  have nn : ∀ {p : Addr} {xs : List V}, InSq H1 p xs → p ≠ x := fun {p xs} h => by
    rcases h with h | h
    · exact ne_of_none h hx
    · exact ne_of_none h hx
  refine ⟨x, dx, pn, pe, rows, eds, rfl, upd_same, hpn.imp up up, fun r hr => up (hrow r hr), hpe.imp up up, fun e he => up (heds e he), l1, l2, l3, hok, nn hpn, nn hpe, fun r hr => ne_of_none (hrow r hr) hx, fun e he => ne_of_none (heds e he) hx, ro, ne, asc, fun H' ln le ds kp hln hle hds W CW => ?_⟩
  exact q H' ln le ds (fun b o h => kp b o (up h) (ne_of_none h hx)) (n5 hln) (n5 hle) (n5 hds) W CW
end
end K1
namespace K1
open PySem L2
theorem sl_tupK {X : Cx} {K : PySem.W.Frag} (h : X.K = K) : SlR X (rSlT K) := by subst h; exact sl_tup
theorem cr_sortedSK {X : Cx} {K : PySem.W.Frag} (h : X.K = K) (hu : X.A.units + 64 < cLine) : CallR X (.builtin "sorted") (rSortedS K) := by subst h; exact cr_sortedS hu
section
variable {P : Program} {w : World} {K : PySem.W.Frag} {mg : Str → Option Value} {base : Heap}
def lawK : Nat := 17
def spLaw (K : PySem.W.Frag) : Sp := fun vs H Q _ => ∃ (a : Addr) (ns : List Int), vs = [.ref a] ∧ SqL K H a (ns.map L2.V.int) ∧ ns.length ≤ 63 ∧ ∀ H', Q (.bl true) H'
set_option maxHeartbeats 8000000 in
theorem ok_law (D : Defs K mg) : FnOk P w K mg base CX0 lawK D.d_law.f D.d_law.fd ["script"] (spLaw K) := by
  have GV := ok_vocN (P := P) (w := w) (base := base) D
  have GC := ok_concept (P := P) (w := w) (base := base) D 5
  have GW := ok_lworld (P := P) (w := w) (base := base) D
  have GP := ok_pick (P := P) (w := w) (base := base) D
  have GX := ok_next (P := P) (w := w) (base := base) D
  have GI := ok_winit (P := P) (w := w) (base := base) D
  have M : Mk K D.wC D.d_w_init.f := ⟨D.wC_mk, D.d_w_init.me.at_, D.d_w_init.me.fn, D.wC_kp⟩
  have GA := ok_same (P := P) (w := w) (base := base) D
  have GM := ok_wnames (P := P) (w := w) (base := base) D
  have GE := ok_wedges (P := P) (w := w) (base := base) D
  have GT := ok_win (P := P) (w := w) (base := base) D
  have GR := ok_prod (P := P) (w := w) (base := base) D
  have GLR := ok_lprod (P := P) (w := w) (base := base) D
  have GH := ok_whas (P := P) (w := w) (base := base) D
  have GWW := ok_wwords (P := P) (w := w) (base := base) D
  have GQ := ok_weq (P := P) (w := w) (base := base) D
  have GS := ok_wsize (P := P) (w := w) (base := base) D
  refine D.d_law.F.ok (k := 16) sc_law (fun vs H Q E h => ?_) (fun cdv A outer s H vs Q E hr h => ?_)
  · obtain ⟨a, ns, rfl, _⟩ := h
    rfl
  obtain ⟨a0, ns, rfl, hS, h63, q⟩ := h
  have hr1 : Room 1 _ := hr.mono (by omega)
  have hr2 : Room 2 _ := hr.mono (by omega)
  have hr3 : Room 3 _ := hr.mono (by omega)
  have hr4 : Room 4 _ := hr.mono (by omega)
  have hr5 : Room 5 _ := hr.mono (by omega)
  have hr6 : Room 6 _ := hr.mono (by omega)
  have hr7 : Room 7 _ := hr.mono (by omega)
  have hr10 : Room 10 _ := hr.mono (by omega)
  have hr14 : Room 14 _ := hr.mono (by omega)
  have hu65 := room65 hr
  refine ⟨_, (pss_cons (ps_set (i := 1) sc_law.nd rfl (Or.inr rfl) (pe_lst (pa_cons (pe_slice sl_list (pv 0) po_none (po_some pe_int)) (pa_cons pe_int (pa_cons pe_int pa_nil)))))
      (pss_cons (ps_asg (pe_tup (pa_cons (pe_call GV hr6 rfl D.d_law_vocab.m D.d_law_vocab.F.kp D.d_law_vocab.b .nil pass0 (pa_cons (pv 1) (pa_cons pe_int pa_nil))) (pa_cons (pe_call GV hr6 rfl D.d_law_vocab.m D.d_law_vocab.F.kp D.d_law_vocab.b .nil pass0 (pa_cons (pv 1) (pa_cons pe_int pa_nil))) pa_nil))) (pg_tup (by rfl) (pgs_cons (pg_name (i := 2) sc_law.nd rfl (Or.inr rfl)) (pgs_cons (pg_name (i := 3) sc_law.nd rfl (Or.inr rfl)) pgs_nil))))
      (pss_cons (ps_setLc (i := 4) (own := [("turn", 18)]) (g := gName 18) rfl sc_law.nd rfl rfl (sw_true rfl rfl rfl (by decide +kernel)) (pi_range1 rfl D.z_range (pa_cons pe_int pa_nil)) (blkOk_by (N := ["script", "draw", "names", "roles", "concepts", "one", "two", "given", "edges", "first", "second", "both", "thing", "role", "due", "row", "words", "more", "turn", "edge", "word", "at"]) (sc := defScope s_law) (by decide +kernel)) (fun _ _ _ _ _ => (pg_name (i := 18) sc_law.nd rfl (Or.inl rfl))) (fun _ _ _ _ _ => pts_nil) (fun _ _ _ _ _ => (pe_call GC hr10 rfl D.d_law_concept.m D.d_law_concept.F.kp D.d_law_concept.b .nil pass0 (pa_cons (pv 1) (pa_cons (pv 2) (pa_cons (pv 3) (pa_cons (pe_op op_add pe_int (pv 18)) pa_nil)))))))
      (pss_cons (ps_set (i := 5) sc_law.nd rfl (Or.inl rfl) (pe_call GW hr5 rfl D.d_law_world.m D.d_law_world.F.kp D.d_law_world.b .nil pass0 (pa_cons (pv 1) (pa_cons (pv 2) (pa_cons (pv 3) (pa_cons (pe_call GP hr4 rfl D.d_law_pick.m D.d_law_pick.F.kp D.d_law_pick.b .nil pass0 (pa_cons (pv 1) (pa_cons (pe_lst (pa_cons pe_int (pa_cons pe_int (pa_cons pe_int (pa_cons pe_int (pa_cons pe_int pa_nil)))))) pa_nil))) pa_nil))))))
      (pss_cons (ps_set (i := 6) sc_law.nd rfl (Or.inl rfl) (pe_call GW hr5 rfl D.d_law_world.m D.d_law_world.F.kp D.d_law_world.b .nil pass0 (pa_cons (pv 1) (pa_cons (pv 2) (pa_cons (pv 3) (pa_cons (pe_op op_add pe_int (pe_call GX hr3 rfl D.d_law_next.m D.d_law_next.F.kp D.d_law_next.b .nil pass0 (pa_cons (pv 1) (pa_cons pe_int pa_nil)))) pa_nil))))))
      (pss_cons (ps_par (i := 7) (j := 8) (by rfl) sc_law.nd rfl rfl (by decide) rfl rfl (pa_cons (pe_callTy call_list_of (by rfl) D.z_list (by decide +kernel) (pa_cons (pe_ix ix_list (pv 5) pe_int (fun _ _ => rfl)) pa_nil)) (pa_cons (pe_callTy call_list_of (by rfl) D.z_list (by decide +kernel) (pa_cons (pe_ix ix_list (pv 5) pe_int (fun _ _ => rfl)) pa_nil)) pa_nil)) (by rfl))
      (pss_cons (ps_par (i := 9) (j := 10) (by rfl) sc_law.nd rfl rfl (by decide) rfl rfl (pa_cons (pe_make M GI hr6 rfl D.wC_m D.d_w_init.b .nil pass0 (pa_cons (pv 7) (pa_cons (pv 8) pa_nil))) (pa_cons (pe_make M GI hr6 rfl D.wC_m D.d_w_init.b .nil pass0 (pa_cons (pe_callTy call_tuple_of (by rfl) D.z_tuple (by decide +kernel) (pa_cons (pe_ix ix_list (pv 6) pe_int (fun _ _ => rfl)) pa_nil)) (pa_cons (pe_callTy call_tuple_of (by rfl) D.z_tuple (by decide +kernel) (pa_cons (pe_ix ix_list (pv 6) pe_int (fun _ _ => rfl)) pa_nil)) pa_nil))) pa_nil)) (by rfl))
      (pss_cons (ps_expr (pe_bm PySem.F.plainAttrs_list PySem.F.slot_list_append PySem.F.type_list_append mt_append (pv 7) (pa_cons (pe_tup (pa_cons pe_str pa_nil)) pa_nil)))
      (pss_cons (ps_expr (pe_bm PySem.F.plainAttrs_list PySem.F.slot_list_append PySem.F.type_list_append mt_append (pv 8) (pa_cons (pe_tup (pa_cons pe_int (pa_cons pe_str (pa_cons pe_int pa_nil)))) pa_nil)))
      (pss_cons (ps_if (PW.pt (pw_or (pt_not (pt_val (pe_call GA hr rfl D.d_law_same.m D.d_law_same.F.kp D.d_law_same.b .nil pass0 (pa_cons (pv 9) (pa_cons (pv 5) (pa_cons (pv 4) pa_nil)))))) (pw_or1 (pt_not (pt_val (pe_call GA hr rfl D.d_law_same.m D.d_law_same.F.kp D.d_law_same.b .nil pass0 (pa_cons (pv 10) (pa_cons (pv 6) (pa_cons (pv 4) pa_nil))))))))) (pss_one (ps_ret pe_bl)) pss_nil)
      (pss_cons (ps_expr (pe_bm PySem.F.plainAttrs_list PySem.F.slot_list_append PySem.F.type_list_append mt_append (pe_meth0 (pv 9) D.wC_cl D.d_w_names.me GM hr1 D.d_w_names.b .nil pass0) (pa_cons (pe_tup (pa_cons pe_str pa_nil)) pa_nil)))
      (pss_cons (ps_expr (pe_bm PySem.F.plainAttrs_list PySem.F.slot_list_append PySem.F.type_list_append mt_append (pe_meth0 (pv 9) D.wC_cl D.d_w_edges.me GE hr1 D.d_w_edges.b .nil pass0) (pa_cons (pe_tup (pa_cons pe_int (pa_cons pe_str (pa_cons pe_int pa_nil)))) pa_nil)))
      (pss_cons (ps_expr (pe_bm PySem.F.plainAttrs_list PySem.F.slot_list_append PySem.F.type_list_append mt_append (pe_meth (pv 9) D.wC_cl D.d_w_things_in.me GT hr14 D.d_w_things_in.b .nil pass0 (pa_cons pe_str pa_nil)) (pa_cons pe_int pa_nil)))
      (pss_cons (ps_set (i := 11) sc_law.nd rfl (Or.inl rfl) (pe_call GR hr7 rfl D.d_product.m D.d_product.F.kp D.d_product.b .nil pass0 (pa_cons (pv 9) (pa_cons (pv 10) pa_nil))))
      (pss_cons (ps_if (PW.pt (pw_or (pt_not (pt_val (pe_call GA hr rfl D.d_law_same.m D.d_law_same.F.kp D.d_law_same.b .nil pass0 (pa_cons (pv 9) (pa_cons (pv 5) (pa_cons (pv 4) pa_nil)))))) (pw_or1 (pt_not (pt_val (pe_call GA hr rfl D.d_law_same.m D.d_law_same.F.kp D.d_law_same.b .nil pass0 (pa_cons (pv 11) (pa_cons (pe_call GLR hr2 rfl D.d_law_product.m D.d_law_product.F.kp D.d_law_product.b .nil pass0 (pa_cons (pv 5) (pa_cons (pv 6) pa_nil))) (pa_cons (pv 4) pa_nil))))))))) (pss_one (ps_ret pe_bl)) pss_nil)
      (pss_cons (ps_for PassesOwn.never rfl (pi_range1 rfl D.z_range (pa_cons (pe_callB call_len_seq (by rfl) D.z_len (by decide +kernel) (pa_cons (pe_ix ix_list (pv 5) pe_int (fun _ _ => rfl)) pa_nil)) pa_nil)) (pg_name (i := 12) sc_law.nd rfl (Or.inl rfl)) (pss_one (ps_for PassesOwn.never rfl (pi_list (pe_op op_cat (pv 3) (pe_lst (pa_cons pe_str pa_nil)))) (pg_name (i := 13) sc_law.nd rfl (Or.inl rfl)) (pss_one (ps_if (pt_cmpR op_ne (pe_cmpR (K2.op_inO (E := fun _ _ _ => False) GH hr4 D.d_w_contains.b pass0 D.d_w_contains.me.at_ D.d_w_contains.me.fn) (pe_tup (pa_cons (pv 12) (pa_cons (pv 13) (pa_cons pe_int pa_nil)))) (pv 9) (by rfl)) (pe_cmpR (op_inD hu65) (pe_tup (pa_cons (pv 12) (pa_cons (pv 13) (pa_cons pe_int pa_nil)))) (pe_ix ix_list (pv 5) pe_int (fun _ _ => rfl)) (by rfl)) (nomark _)) (pss_one (ps_ret pe_bl)) pss_nil)))))
      (pss_cons (ps_set (i := 14) sc_law.nd rfl (Or.inl rfl) (pe_lst (pa_cons (pe_lst pa_nil) (pa_cons (pe_lst pa_nil) pa_nil))))
      (pss_cons (ps_for PassesOwn.never rfl (pi_list (pe_ix ix_list (pv 5) pe_int (fun _ _ => rfl))) (pg_name (i := 15) sc_law.nd rfl (Or.inl rfl)) (pss_one (ps_expr (pe_bm PySem.F.plainAttrs_list PySem.F.slot_list_extend PySem.F.type_list_extend K2.mt_extendT (pe_ix ix_list (pv 14) pe_int (fun _ _ => rfl)) (pa_cons (pv 15) pa_nil)))))
      (pss_cons (ps_expr (pe_bm PySem.F.plainAttrs_list PySem.F.slot_list_extend PySem.F.type_list_extend mt_extend (pe_ix ix_list (pv 14) pe_int (fun _ _ => rfl)) (pa_cons (pe_lc (own := [("edge", 19)]) (g := gName 19) rfl sc_law.nd (pi_list (pe_ix ix_list (pv 5) pe_int (fun _ _ => rfl))) (blkOk_by (N := ["script", "draw", "names", "roles", "concepts", "one", "two", "given", "edges", "first", "second", "both", "thing", "role", "due", "row", "words", "more", "turn", "edge", "word", "at"]) (sc := defScope s_law) (by decide +kernel)) (fun _ _ _ _ _ => (pg_name (i := 19) sc_law.nd rfl (Or.inl rfl))) (fun _ _ _ _ _ => pts_nil) (fun _ _ _ _ _ => (pe_ix (ix_tupK (K := K) rfl) (pv 19) pe_int (fun _ _ => rfl)))) pa_nil)))
      (pss_cons (ps_set (i := 16) sc_law.nd rfl (Or.inl rfl) (pe_callTy call_tuple_of (by rfl) D.z_tuple (by decide +kernel) (pa_cons (pe_lc (own := [("row", 15)]) (g := gName 15) rfl sc_law.nd (pi_list (pv 14)) (blkOk_by (N := ["script", "draw", "names", "roles", "concepts", "one", "two", "given", "edges", "first", "second", "both", "thing", "role", "due", "row", "words", "more", "turn", "edge", "word", "at"]) (sc := defScope s_law) (by decide +kernel)) (fun _ _ _ _ _ => (pg_name (i := 15) sc_law.nd rfl (Or.inr rfl))) (fun _ _ _ _ _ => pts_nil) (fun _ _ _ _ _ => (pe_callTy (call_tuple_ofK (K := K) rfl) (by rfl) D.z_tuple (by decide +kernel) (pa_cons (pe_lc (own := [("word", 20)]) (g := gName 20) (wi := iList K (tCB (rSortedS K) (tCons (tOp rCat (tVar 2) (tVar 3)) tNil))) rfl sc_law.nd (pi_list (pe_callB (cr_sortedSK (K := K) rfl hr.units) (by rfl) D.z_sorted (by decide +kernel) (pa_cons (pe_op op_cat (pv 2) (pv 3)) pa_nil))) (blkOk_by (N := ["script", "draw", "names", "roles", "concepts", "one", "two", "given", "edges", "first", "second", "both", "thing", "role", "due", "row", "words", "more", "turn", "edge", "word", "at"]) (sc := { kind := .function, names := [(".0", .local), ("row", .cell), ("tuple", .globalImplicit), ("sorted", .globalImplicit), ("names", .cell), ("roles", .cell)], isGenerator := false, isCoroutine := false, more := [] }) (by decide +kernel)) (fun _ _ _ _ _ => (pg_name (i := 20) sc_law.nd rfl (Or.inl rfl))) (fun _ _ _ _ _ => pts_one (pt_cmpR (op_inTK (K := K) rfl) (pv 20) (pv 15) (by rfl))) (fun _ _ _ _ _ => (pv 20))) pa_nil)))) pa_nil)))
      (pss_cons (ps_set (i := 16) sc_law.nd rfl (Or.inl rfl) (pe_callTy call_tuple_of (by rfl) D.z_tuple (by decide +kernel) (pa_cons (pe_lc (own := [("row", 15)]) (g := gName 15) rfl sc_law.nd (pi_tup (pv 16)) (blkOk_by (N := ["script", "draw", "names", "roles", "concepts", "one", "two", "given", "edges", "first", "second", "both", "thing", "role", "due", "row", "words", "more", "turn", "edge", "word", "at"]) (sc := defScope s_law) (by decide +kernel)) (fun _ _ _ _ _ => (pg_name (i := 15) sc_law.nd rfl (Or.inr rfl))) (fun _ _ _ _ _ => pts_nil) (fun _ _ _ _ _ => (pe_callTy (call_tuple_ofK (K := K) rfl) (by rfl) D.z_tuple (by decide +kernel) (pa_cons (pe_lc (own := [("at", 21), ("word", 20)]) (g := gTup K 2 (gCons (gName 21) (gCons (gName 20) gNil))) (wi := K2.iEnumT K (tCons (tVar 15) tNil)) rfl sc_law.nd (K2.pi_enumT rfl D.z_enumerate (pa_cons (pv 15) pa_nil)) (blkOk_by (N := ["script", "draw", "names", "roles", "concepts", "one", "two", "given", "edges", "first", "second", "both", "thing", "role", "due", "row", "words", "more", "turn", "edge", "word", "at"]) (sc := { kind := .function, names := [(".0", .local), ("row", .cell), ("tuple", .globalImplicit), ("enumerate", .globalImplicit)], isGenerator := false, isCoroutine := false, more := [] }) (by decide +kernel)) (fun _ _ _ _ _ => (pg_tup rfl (pgs_cons (pg_name (i := 21) sc_law.nd rfl (Or.inl rfl)) (pgs_cons (pg_name (i := 20) sc_law.nd rfl (Or.inl rfl)) pgs_nil)))) (fun _ _ _ _ _ => pts_one (pt_cmpR (op_notInTK (K := K) rfl) (pv 20) (pe_slice (sl_tupK (K := K) rfl) (pv 15) po_none (po_some (pv 21))) (by rfl))) (fun _ _ _ _ _ => (pv 20))) pa_nil)))) pa_nil)))
      (pss_cons (ps_if (PW.pt (pw_or (pt_cmpR (op_neD hr.units) (pe_meth0 (pv 9) D.wC_cl D.d_w_words.me GWW hr2 D.d_w_words.b .nil pass0) (pv 16) (nomark _)) (pw_or (pt_cmpR op_ne (pe_cmpR (K2.op_eqO (E := fun _ _ _ => False) GQ hr1 D.d_w_eq.b pass0 D.d_w_eq.me.at_ D.d_w_eq.me.fn) (pv 9) (pv 10) (nomark _)) (pe_cmpR (op_eqD hr.units) (pv 5) (pv 6) (nomark _)) (nomark _)) (pw_or1 (pt_cmpR (K2.op_neO (E := fun _ _ _ => False) GQ hr2 D.d_w_eq.b pass0 D.wC_ne D.wC_ob D.d_w_eq.me.at_ D.d_w_eq.me.fn) (pv 9) (pe_make M GI hr6 rfl D.wC_m D.d_w_init.b .nil pass0 (pa_cons (pe_ix ix_list (pv 5) pe_int (fun _ _ => rfl)) (pa_cons (pe_ix ix_list (pv 5) pe_int (fun _ _ => rfl)) pa_nil))) (nomark _)))))) (pss_one (ps_ret pe_bl)) pss_nil)
      (pss_cons (ps_set (i := 17) sc_law.nd rfl (Or.inl rfl) (pe_make M GI hr6 rfl D.wC_m D.d_w_init.b .nil pass0 (pa_cons (pe_op op_cat (pe_ix ix_list (pv 5) pe_int (fun _ _ => rfl)) (pe_lst (pa_cons (pe_tup pa_nil) pa_nil))) (pa_cons (pe_ix ix_list (pv 5) pe_int (fun _ _ => rfl)) pa_nil))))
      (pss_one (ps_ret (pe_and (pe_cmpR (K2.op_neO (E := fun _ _ _ => False) GQ hr2 D.d_w_eq.b pass0 D.wC_ne D.wC_ob D.d_w_eq.me.at_ D.d_w_eq.me.fn) (pv 17) (pv 9) (nomark _)) (pe_and (pe_cmpR op_eq (pe_prop (pv 17) D.wC_cl D.w_size_at GS hr2 D.w_size_b .nil pass0 (by rfl)) (pe_op op_add (pe_prop (pv 9) D.wC_cl D.w_size_at GS hr2 D.w_size_b .nil pass0 (by rfl)) pe_int) (nomark _)) (pe_one (pe_cmpR (K2.op_neO (E := fun _ _ _ => False) GQ hr2 D.d_w_eq.b pass0 D.wC_ne D.wC_ob D.d_w_eq.me.at_ D.d_w_eq.me.fn) (pe_make M GI hr6 rfl D.wC_m D.d_w_init.b .nil pass0 (pa_cons (pe_lst (pa_cons (pe_tup (pa_cons pe_str pa_nil)) pa_nil)) (pa_cons (pe_lst pa_nil) pa_nil))) (pe_make M GI hr6 rfl D.wC_m D.d_w_init.b .nil pass0 (pa_cons (pe_lst (pa_cons (pe_tup pa_nil) pa_nil)) (pa_cons (pe_lst pa_nil) pa_nil))) (nomark _)))))))))))))))))))))))))))))), ?_⟩
  -- the draws
  refine ⟨_, rfl, _, rfl, a0, _, rfl, hS, fun sc hsc => ⟨(by show 3 ≤ sizeLine; decide), fun d hd0 => ?_⟩⟩
  have ec : cutV (ns.map L2.V.int) none (some 63) = ns.map L2.V.int := by
    simp only [cutV, HT.sIx, List.drop_zero, List.length_map]
    rw [if_neg (by omega), Nat.sub_zero]
    exact List.take_of_length_le (by rw [List.length_map]; show ns.length ≤ min 63 ns.length; omega)
  have hsd : sc ≠ d := ne_of_none upd_same hd0
  have dr0 : DrawAt (upd (upd H sc (.lst (cutV (ns.map L2.V.int) none (some 63)))) d (.lst [.ref sc, .int 0, .int 0])) d sc := ⟨ns, 0, upd_same, by rw [upd_ne hsd, upd_same, ec], Int.le_refl 0⟩
  -- the words
  refine ⟨_, rfl, d, sc, 3, rfl, dr0, by decide, by decide, fun H1 tn N okN b1 dr1 hn1 newn => ?_⟩
  refine ⟨_, rfl, d, sc, 2, rfl, dr1, by decide, by decide, fun H2 tr R okR b2 dr2 hr2_ newr => ?_⟩
  have tnd : tn ≠ d := (ne_of_none upd_same newn).symm
  have trd : tr ≠ d := (dr1.new newr).1
  have hn2 := b2 _ _ (by simpa using tnd) hn1
  have tntr : tn ≠ tr := ne_of_none hn1 newr
  refine ⟨(by show 2 ≤ sizeLine; decide), fun p0 hp0 => ⟨p0, _, rfl, SqT.of upd_same, rfl, _, _, rfl, _, _, rfl, rfl, ?_⟩⟩
  have gp0 := same_new hp0 (.tup [.ref tn, .ref tr])
  have dr3 := dr2.same gp0
  have nm3 : Names (upd H2 p0 (.tup [.ref tn, .ref tr])) d tn tr N R := ⟨gp0 _ _ hn2, gp0 _ _ hr2_, tnd, trd⟩
  obtain ⟨lN, okN, ndN⟩ := okN
  obtain ⟨lR, okR, ndR⟩ := okR
  have vo : Voc2 N R := ⟨⟨okN, okR, by omega, by omega⟩, by omega, by omega⟩
  -- the concepts
  refine ⟨3, rfl, by decide, by decide, fun D0 hD => ?_⟩
  obtain ⟨hDd, hDa⟩ := dr3.new hD
  have hDn : D0 ≠ tn := (ne_of_none nm3.n hD).symm
  have hDr : D0 ≠ tr := (ne_of_none nm3.r hD).symm
  refine lc_range (lo := 0) (n := 3) (fun i H4 => But [D0, d] (upd H2 p0 (.tup [.ref tn, .ref tr])) H4 ∧ DrawAt H4 d sc ∧ Names H4 d tn tr N R ∧ ∃ vs cl, H4 D0 = some (.lst vs) ∧ Paired (ConAt H4) cl vs ∧ cl.length = i ∧ ∀ c ∈ cl, In N R c ∧ nest c ≤ 4 ∧ nodes c ≤ 46)
    ⟨But.new hD, dr3.same (same_new hD _), nm3.same (same_new hD _), [], [], upd_same, .nil, rfl, fun c hc => by cases hc⟩ ?_ ?_
  · rintro i H4 hi ⟨b4, dr4, nm4, vs, cl, h4, pk4, lc4, f4⟩
    have hi4 : i < 3 := hi
    have em : ([L2.V.ref d, .ref tn, .ref tr, .int (1 + (0 + (i : Int)))] ++ []) = [L2.V.ref d, .ref tn, .ref tr, .int ((i + 1 : Nat) : Int)] := by
      rw [show (1 + (0 + (i : Int))) = ((i + 1 : Nat) : Int) by omega]; rfl
    refine ⟨rfl, _, rfl, _, rfl, _, rfl, _, rfl, _, _, rfl, rfl, d, sc, tn, tr, N, R, i + 1, em, (show i + 1 ≤ 4 by omega), dr4, nm4, vo, fun H5 v c k1 k2 k3 k4 b5 dr5 => ?_⟩
    have h5 := b5 _ _ (by simpa using hDd) h4
    have t5 : TSame H5 (upd H5 D0 (.lst (vs ++ [v]))) := t_put h5
    have hcap : cap (i + 1) ≤ 46 := by
      have : i = 0 ∨ i = 1 ∨ i = 2 := by omega
      rcases this with rfl | rfl | rfl <;> decide
    refine ⟨vs, h5, ?_, (b4.trans (b5.mono (by simp))).trans (But.put (by simp)), dr5.upd hDd hDa, (nm4.but b5).upd hDn hDr, vs ++ [v], cl ++ [c], upd_same, paired_snoc (k1.t t5) (paired_t ((b5.t dr4.nt).trans t5) pk4), by rw [List.length_append, lc4]; rfl, fun x hx => ?_⟩
    · rw [← paired_len pk4]
      exact small1000 (by omega)
    · rcases List.mem_append.mp hx with hx | hx
      · exact f4 x hx
      · simp only [List.mem_singleton] at hx
        subst hx
        exact ⟨k2, by omega, by omega⟩
  rintro Hf ⟨bf, drf, nmf, wsf, ksf, hcf, pkf, lcf, ff⟩
  have fine : ∀ c ∈ ksf, Fine N R c := fun c hc => ⟨(ff c hc).1, by have := (ff c hc).2.1; omega, by have := (ff c hc).2.2; omega⟩
  -- the worlds
  refine ⟨_, rfl, _, rfl, _, rfl, _, rfl, (by show 5 ≤ sizeLine; decide), fun pl hpl => ⟨d, sc, pl, _, rfl, drf.same (same_new hpl _), upd_same, (drf.new hpl).1, (by show 0 < 5; decide), fun Hg mv hmv bg drg => ?_⟩⟩
  have nmg := (nmf.same (same_new hpl (.lst [V.int 1, V.int 2, V.int 3, V.int 4, V.int 9]))).but bg
  have bfg : But [d] Hf Hg := (But.new hpl).trans bg
  obtain ⟨mm1, rfl, m1p, m1l⟩ : ∃ m : Nat, mv = .int (m : Nat) ∧ 0 < m ∧ m ≤ 9 := by
    simp only [List.mem_cons, List.not_mem_nil, or_false] at hmv
    rcases hmv with rfl | rfl | rfl | rfl | rfl
    · exact ⟨1, rfl, by omega, by omega⟩
    · exact ⟨2, rfl, by omega, by omega⟩
    · exact ⟨3, rfl, by omega, by omega⟩
    · exact ⟨4, rfl, by omega, by omega⟩
    · exact ⟨9, rfl, by omega, by omega⟩
  refine ⟨d, sc, tn, tr, N, R, mm1, rfl, drg, nmg, vo, ndN, m1l, m1p, fun H7 p1 f1 e1 rows1 eds1 b7 dr7 np1 nf1 ne1 pf1 pe1 fe1 hp1 W1 asc1 len1 => ?_⟩
  have nm7 := nmg.but b7
  have bf7 := bfg.trans b7
  refine ⟨_, rfl, _, rfl, _, rfl, _, rfl, d, sc, 4, rfl, by decide, dr7, fun H8 r b8 dr8 r0 r4 => ⟨_, _, rfl, rfl, ?_⟩⟩
  have nm8 := nm7.but b8
  obtain ⟨mm2, em2, m2p, m2l⟩ : ∃ m : Nat, (1 : Int) + r = (m : Nat) ∧ 0 < m ∧ m ≤ 4 := ⟨(1 + r).toNat, by omega, by omega, by omega⟩
  have em3 : ([L2.V.ref d, .ref tn, .ref tr, .int (1 + r)] ++ []) = [L2.V.ref d, .ref tn, .ref tr, .int ((mm2 : Nat) : Int)] := by rw [em2]; rfl
  refine ⟨d, sc, tn, tr, N, R, mm2, em3, dr8, nm8, vo, ndN, by omega, m2p, fun H9 p2 f2 e2 rows2 eds2 b9 dr9 np2 nf2 ne2 pf2 pe2 fe2 hp2 W2 asc2 len2 => ?_⟩
  have nm9 := nm8.but b9
  have b79 : But [d] H7 H9 := b8.trans b9
  have bf9 := bf7.trans b79
  have T1 : TwoAt H9 p1 f1 e1 rows1 eds1 := TwoAt.but ⟨hp1, W1.hf, W1.he, W1.rat, W1.eat⟩ b79 (b79.t dr7.nt) (drg.new np1).1 (drg.new nf1).1 (drg.new ne1).1
  have T2 : TwoAt H9 p2 f2 e2 rows2 eds2 := ⟨hp2, W2.hf, W2.he, W2.rat, W2.eat⟩
  have hc9 : H9 D0 = some (.lst wsf) := bf9 _ _ (by simpa using hDd) hcf
  have pk9 := paired_t (bf9.t drf.nt) pkf
  -- the worlds as objects
  refine ⟨_, rfl, p1, _, _, _, rfl, rfl, SqL.of T1.hp, atI_nat (j := 0) rfl, f1, rowsV rows1, rfl, .inl (SqL.of T1.hf), fun gl hgl => ?_⟩
  have s10 := same_new hgl (.lst (rowsV rows1))
  have T1a := T1.same s10
  refine ⟨_, rfl, p1, _, _, _, rfl, rfl, SqL.of T1a.hp, atI_nat (j := 1) rfl, e1, edsV eds1, rfl, .inl (SqL.of T1a.he), fun el hel => ⟨_, _, rfl, ?_⟩⟩
  have s11 := s10.trans (same_new hel (.lst (edsV eds1)))
  have T1b := T1.same s11
  have glel : gl ≠ el := ne_of_none upd_same hel
  have hgl2 : (upd (upd H9 gl (.lst (rowsV rows1))) el (.lst (edsV eds1))) gl = some (.lst (rowsV rows1)) := by rw [upd_ne glel]; exact upd_same
  have lr1 := W1.rn
  have lr2 := W2.rn
  have ok1 : ∀ e ∈ eds1, EdgeOk rows1.length e.2 := fun e he => by rw [lr1]; exact ⟨(W1.eok e he).1, (W1.eok e he).2.1, okR _ (W1.eok e he).2.2⟩
  have ok2 : ∀ e ∈ eds2, EdgeOk rows2.length e.2 := fun e he => by rw [lr2]; exact ⟨(W2.eok e he).1, (W2.eok e he).2.1, okR _ (W2.eok e he).2.2⟩
  have lN3 : N.length = 3 := by omega
  have ro1 : ∀ r ∈ rows1, RowOk r.2 ∧ r.2.length ≤ 3 := fun r hr => ⟨⟨fun x hx => okN x ((W1.rok r hr).2.1 x hx), (W1.rok r hr).1, by have := (W1.rok r hr).2.2; omega⟩, by have := (W1.rok r hr).2.2; omega⟩
  have ro2 : ∀ r ∈ rows2, RowOk r.2 ∧ r.2.length ≤ 3 := fun r hr => ⟨⟨fun x hx => okN x ((W2.rok r hr).2.1 x hx), (W2.rok r hr).1, by have := (W2.rok r hr).2.2; omega⟩, by have := (W2.rok r hr).2.2; omega⟩
  have fl1 : (K2.flatR rows1).length ≤ 27 := by
    have := flat_len (rows1.map (·.2)) 3 fun r hr => by
      obtain ⟨x, hx, rfl⟩ := List.mem_map.mp hr
      exact (ro1 x hx).2
    rw [List.length_map] at this
    unfold K2.flatR
    omega
  have fl2 : (K2.flatR rows2).length ≤ 27 := by
    have := flat_len (rows2.map (·.2)) 3 fun r hr => by
      obtain ⟨x, hx, rfl⟩ := List.mem_map.mp hr
      exact (ro2 x hx).2
    rw [List.length_map] at this
    unfold K2.flatR
    omega
  have nr1 : rows1 ≠ [] := fun z => by rw [z] at lr1; simp at lr1; omega
  have nr2 : rows2 ≠ [] := fun z => by rw [z] at lr2; simp at lr2; omega
  refine ⟨_, rfl, _, rfl, fun x1 dx1 nx1 ndx1 nxd1 => make_w (.inl hgl2) T1b.rat (.inl upd_same) T1b.eat (by omega) (by omega) (by omega) ok1 (fun r hr => (ro1 r hr).1) nr1 asc1 nx1 ndx1 nxd1 fun H12 ln1 le1 ds1 g12 nln1 nle1 nds1 V1 CV1 => ⟨rfl, ?_⟩⟩
  have s12 := s11.trans g12
  have T2a := T2.same s12
  refine ⟨_, rfl, p2, _, _, _, rfl, rfl, SqL.of T2a.hp, atI_nat (j := 0) rfl, f2, rowsV rows2, rfl, .inl ⟨SqL.of T2a.hf, fun u1 hu1 => ?_⟩⟩
  have g13 := same_new hu1 (.tup (rowsV rows2))
  have T2b := T2a.same g13
  refine ⟨_, rfl, p2, _, _, _, rfl, rfl, SqL.of T2b.hp, atI_nat (j := 1) rfl, e2, edsV eds2, rfl, .inl ⟨SqL.of T2b.he, fun u2 hu2 => ?_⟩⟩
  have g14 := same_new hu2 (.tup (edsV eds2))
  have T2c := T2b.same g14
  refine fun x2 dx2 nx2 ndx2 nxd2 => make_w (.inr (g14 _ _ upd_same)) T2c.rat (.inr upd_same) T2c.eat (by omega) (by omega) (by omega) ok2 (fun r hr => (ro2 r hr).1) nr2 asc2 nx2 ndx2 nxd2 fun H15 ln2 le2 ds2 g15 nln2 nle2 nds2 V2 CV2 => ⟨rfl, ⟨_, _, rfl, ?_⟩⟩
  have s15 : Same H12 H15 := (g13.trans g14).trans g15
  have g15' : Same H9 H15 := s12.trans s15
  have gl15 : H15 gl = some (.lst (rowsV rows1)) := s15 _ _ (g12 _ _ hgl2)
  have el15 : H15 el = some (.lst (edsV eds1)) := s15 _ _ (g12 _ _ upd_same)
  have C115 := (CV1 R).same s15
  have ds12 : ds1 ≠ ds2 := ((CV1 R).same (g13.trans g14)).ne nds2
  have C215 := CV2 R
  have know15 : Know D.wC D.gC H15 p1 f1 e1 p2 f2 e2 x1 ln1 le1 x2 ln2 le2 tn tr D0 rows1 eds1 rows2 eds2 N R ksf wsf :=
    ⟨T1.same g15', T2.same g15', V1.same s15, V2, g15' _ _ nm9.n, g15' _ _ nm9.r, g15' _ _ hc9, paired_t (Same.t g15') pk9⟩
  have ngl : ∀ a ∈ [p1, f1, e1, p2, f2, e2, ln1, le1, ln2, le2, tn, tr, D0], a ≠ gl := by
    intro a ha
    simp only [List.mem_cons, List.not_mem_nil, or_false] at ha
    have h14 := g14 _ _ (g13 _ _ (g12 _ _ hgl2))
    rcases ha with rfl | rfl | rfl | rfl | rfl | rfl | rfl | rfl | rfl | rfl | rfl | rfl | rfl
    · exact ne_of_none T1.hp hgl
    · exact ne_of_none T1.hf hgl
    · exact ne_of_none T1.he hgl
    · exact ne_of_none T2.hp hgl
    · exact ne_of_none T2.hf hgl
    · exact ne_of_none T2.he hgl
    · exact (ne_of_none hgl2 nln1).symm
    · exact (ne_of_none hgl2 nle1).symm
    · exact (ne_of_none h14 nln2).symm
    · exact (ne_of_none h14 nle2).symm
    · exact ne_of_none nm9.n hgl
    · exact ne_of_none nm9.r hgl
    · exact ne_of_none hc9 hgl
  have nel : ∀ a ∈ [p1, f1, e1, p2, f2, e2, ln1, le1, ln2, le2, tn, tr, D0], a ≠ el := by
    intro a ha
    simp only [List.mem_cons, List.not_mem_nil, or_false] at ha
    have h14 := g14 _ _ (g13 _ _ (g12 _ _ (upd_same (H := upd H9 gl (.lst (rowsV rows1))) (a := el) (o := .lst (edsV eds1)))))
    rcases ha with rfl | rfl | rfl | rfl | rfl | rfl | rfl | rfl | rfl | rfl | rfl | rfl | rfl
    · exact ne_of_none T1a.hp hel
    · exact ne_of_none T1a.hf hel
    · exact ne_of_none T1a.he hel
    · exact ne_of_none (s10 _ _ T2.hp) hel
    · exact ne_of_none (s10 _ _ T2.hf) hel
    · exact ne_of_none (s10 _ _ T2.he) hel
    · exact (ne_of_none upd_same nln1).symm
    · exact (ne_of_none upd_same nle1).symm
    · exact (ne_of_none h14 nln2).symm
    · exact (ne_of_none h14 nle2).symm
    · exact ne_of_none (s10 _ _ nm9.n) hel
    · exact ne_of_none (s10 _ _ nm9.r) hel
    · exact ne_of_none (s10 _ _ hc9) hel
  have mr1 : (rowsV rows1).length = rows1.length := by simp [rowsV]
  have me1 : (edsV eds1).length = eds1.length := by simp [edsV]
  -- what was handed in is changed
  refine ⟨_, rfl, .inl ⟨rfl, _, SqL.of gl15⟩, (by show 1 ≤ sizeLine; decide), fun t1 ht1 => ⟨gl, _, _, rfl, rfl, same_new ht1 _ _ _ gl15, by rw [mr1]; exact small1000 (by omega), ?_⟩⟩
  have know16 := (know15.same (same_new ht1 (.tup [V.str "q"]))).put (ys := rowsV rows1 ++ [V.ref t1]) (same_new ht1 _ _ _ gl15) ngl
  have C116 := (C115.same (same_new ht1 (.tup [V.str "q"]))).put (ys := rowsV rows1 ++ [V.ref t1]) (same_new ht1 _ _ _ gl15)
  have C216 := (C215.same (same_new ht1 (.tup [V.str "q"]))).put (ys := rowsV rows1 ++ [V.ref t1]) (same_new ht1 _ _ _ gl15)
  have el16 : (upd (upd H15 t1 (.tup [V.str "q"])) gl (.lst (rowsV rows1 ++ [V.ref t1]))) el = some (.lst (edsV eds1)) := by
    rw [upd_ne glel.symm]
    exact same_new ht1 _ _ _ el15
  refine ⟨_, rfl, .inl ⟨rfl, _, SqL.of el16⟩, (by show 3 ≤ sizeLine; decide), fun t2 ht2 => ⟨el, _, _, rfl, rfl, same_new ht2 _ _ _ el16, by rw [me1]; exact small1000 (by omega), ?_⟩⟩
  have know17 := (know16.same (same_new ht2 (.tup [V.int 0, V.str "q", V.int 0]))).put (ys := edsV eds1 ++ [V.ref t2]) (same_new ht2 _ _ _ el16) nel
  have C117 := (C116.same (same_new ht2 (.tup [V.int 0, V.str "q", V.int 0]))).put (ys := edsV eds1 ++ [V.ref t2]) (same_new ht2 _ _ _ el16)
  have C217 := (C216.same (same_new ht2 (.tup [V.int 0, V.str "q", V.int 0]))).put (ys := edsV eds1 ++ [V.ref t2]) (same_new ht2 _ _ _ el16)
  -- the worlds are as drawn
  refine ⟨_, rfl, _, rfl, _, rfl, x1, ln1, le1, p1, f1, e1, ds1, rows1, eds1, D0, ksf, wsf, N, R, rfl, know17.w1, C117, know17.t1, know17.hc, know17.pk, vo.toVocab, fine, by omega, by omega, fun H18 b18 C118 => ⟨_, rfl, iteF ?_⟩⟩
  have know18 := know17.nk (nkC C117.c b18)
  have C218 := C217.other C117 b18 ds12.symm
  refine ⟨_, rfl, _, rfl, _, rfl, x2, ln2, le2, p2, f2, e2, ds2, rows2, eds2, D0, ksf, wsf, N, R, rfl, know18.w2, C218, know18.t2, know18.hc, know18.pk, vo.toVocab, fine, by omega, by omega, fun H19 b19 C219 => ⟨_, rfl, iteF ?_⟩⟩
  have know19 := know18.nk (nkC C218.c b19)
  have C119 := C118.other C218 b19 ds12
  -- what is handed out is changed
  obtain ⟨dxa, dka, gra, hxa⟩ := know19.w1.dx
  refine ⟨_, rfl, x1, dxa, _, rfl, hxa, wf_no (by decide +kernel) (by decide +kernel) (by decide +kernel) (by decide +kernel), x1, ln1, le1, _, _, rfl, know19.w1, fun pa ra hpa rata rma => ⟨.inl ⟨rfl, _, SqL.of upd_same⟩, (by show 1 ≤ sizeLine; decide), fun t3 ht3 => ⟨pa, _, _, rfl, rfl, same_new ht3 _ _ _ upd_same, ?_, ?_⟩⟩⟩
  · have := congrArg List.length rma
    rw [List.length_map, List.length_map] at this
    rw [show (rowsV ra).length = ra.length by simp [rowsV]]
    exact small1000 (by omega)
  have s20 := (same_app (o2 := .tup [V.str "q"]) (o3 := .lst (rowsV ra ++ [V.ref t3])) hpa ht3)
  have know20 := know19.same s20
  have C120 := C119.same s20
  obtain ⟨dxb, dkb, grb, hxb⟩ := know20.w1.dx
  refine ⟨_, rfl, x1, dxb, _, rfl, hxb, wf_no (by decide +kernel) (by decide +kernel) (by decide +kernel) (by decide +kernel), x1, ln1, le1, _, _, rfl, know20.w1, fun pb eb hpb eatb emb => ⟨.inl ⟨rfl, _, SqL.of upd_same⟩, (by show 3 ≤ sizeLine; decide), fun t4 ht4 => ⟨pb, _, _, rfl, rfl, same_new ht4 _ _ _ upd_same, ?_, ?_⟩⟩⟩
  · have := congrArg List.length emb
    rw [List.length_map, List.length_map] at this
    rw [show (edsV eb).length = eb.length by simp [edsV]]
    exact small1000 (by omega)
  have s21 := (same_app (o2 := .tup [V.int 0, V.str "q", V.int 0]) (o3 := .lst (edsV eb ++ [V.ref t4])) hpb ht4)
  have know21 := know20.same s21
  have C121 := C120.same s21
  obtain ⟨dxc, dkc, grc, hxc⟩ := know21.w1.dx
  refine ⟨_, rfl, x1, dxc, _, rfl, hxc, wf_no (by decide +kernel) (by decide +kernel) (by decide +kernel) (by decide +kernel), x1, ln1, le1, _, _, .str "all", .atom "all", N, R, ds1, rfl, know21.w1, C121, ⟨rfl, by decide +kernel⟩, vo.toVocab, fine_all, fun H22 pc_ b22 C122 hpc hpcl => ⟨.inl ⟨rfl, _, SqL.of hpcl⟩, pc_, _, _, rfl, rfl, hpcl, ?_, ?_⟩⟩
  · rw [List.length_map]
    have := List.length_filter_le (fun i => hol (rows1.map (·.2)) (eds1.map (·.2)) (.atom "all") i) (List.range (rows1.map (·.2)).length)
    rw [List.length_range, List.length_map] at this
    exact small1000 (by unfold things; rw [List.length_map]; omega)
  have know23 := know21.nk (nk_put (o := .lst ((things (rows1.map (·.2)) (eds1.map (·.2)) (.atom "all")).map (fun i => V.int (i : Nat)) ++ [V.int 9])) (nkC C121.c b22) hpc)
  have C123 := C122.put (ys := ((things (rows1.map (·.2)) (eds1.map (·.2)) (.atom "all")).map (fun i => V.int (i : Nat)) ++ [V.int 9])) hpcl
  -- the product
  have b2 : ∀ e ∈ eds2.map (·.2), e.a < rows2.length ∧ e.b < rows2.length := fun e he => by
    obtain ⟨x, hx, rfl⟩ := List.mem_map.mp he
    exact ⟨(ok2 x hx).1, (ok2 x hx).2.1⟩
  have lm1 : (rows1.map (·.2)).length = rows1.length := List.length_map ..
  have lm2 : (rows2.map (·.2)).length = rows2.length := List.length_map ..
  have le1_ : (eds1.map (·.2)).length = eds1.length := List.length_map ..
  have le2_ : (eds2.map (·.2)).length = eds2.length := List.length_map ..
  have r3 : ∀ l ∈ rows1.map (·.2), l.length ≤ 3 := fun l hl => by
    obtain ⟨x, hx, rfl⟩ := List.mem_map.mp hl
    exact (ro1 x hx).2
  refine ⟨_, rfl, _, rfl, x1, ln1, le1, _, _, x2, ln2, le2, _, _, rfl, know23.w1, know23.w2, by omega, by omega, by omega, by omega, r3, fun H24 x3 ln3 le3 ds3 ed3 g24 nx3 nln3 nle3 nds3 V3 CV3 mem3 => ?_⟩
  have know24 := know23.same g24
  have C124 := C123.same g24
  have ds13 : ds1 ≠ ds3 := C123.ne nds3
  have C324 := CV3 R
  refine ⟨_, rfl, _, rfl, _, rfl, x1, ln1, le1, p1, f1, e1, ds1, rows1, eds1, D0, ksf, wsf, N, R, rfl, know24.w1, C124, know24.t1, know24.hc, know24.pk, vo.toVocab, fine, by omega, by omega, fun H25 b25 C125 => ⟨_, rfl, iteF ?_⟩⟩
  have n25 := nkC C124.c b25
  have know25 := know24.nk n25
  have C325 := C324.other C124 b25 ds13.symm
  refine ⟨_, rfl, _, rfl, _, rfl, p1, f1, e1, p2, f2, e2, rows1, rows2, eds1, eds2, rfl, know25.t1, know25.t2, by omega, by omega, by omega, by omega, fun r hr => (ro1 r hr).2, fun e he => ⟨by have := (ok1 e he).1; omega, by have := (ok1 e he).2.1; omega⟩, fun e he => ⟨by have := (ok2 e he).1; omega, by have := (ok2 e he).2.1; omega⟩, fun H26 pP fP eP rowsP edsP g26 npP nfP neP TP hmP emP => ?_⟩
  have know26 := know25.same g26
  have nd1 : (eds1.map (·.2)).Nodup := asc1.nodup
  have nd2 : (eds2.map (·.2)).Nodup := asc2.nodup
  have eqE : ed3 = edsP.map (·.2) := by
    rw [emP]
    refine ascE_uniq V3.asc (sortE_asc (prodE_nodup nd1 nd2 b2)) fun x => ?_
    rw [mem_sortE, mem3 x, lm2]
    exact pairE_mem b2 x
  have lP : rowsP.length ≤ 36 := by
    have := congrArg List.length hmP
    rw [List.length_map, prodN_len, lm1, lm2] at this
    rw [this]
    exact Nat.le_trans (Nat.mul_le_mul (show rows1.length ≤ 9 by omega) (show rows2.length ≤ 4 by omega)) (by decide)
  have lE : edsP.length ≤ 324 := by
    have := congrArg List.length emP
    rw [List.length_map, (List.mergeSort_perm _ leE).length_eq] at this
    have h2 := prodE_len rows2.length (eds1.map (·.2)) (eds2.map (·.2))
    rw [le1_, le2_] at h2
    rw [this]
    exact Nat.le_trans h2 (Nat.le_trans (Nat.mul_le_mul (show eds1.length ≤ 27 by omega) (show eds2.length ≤ 12 by omega)) (by decide))
  have V3' : WAt D.wC D.gC H26 x3 ln3 le3 (rowsP.map (·.2)) (edsP.map (·.2)) := by
    rw [hmP, ← eqE]
    exact (V3.nk n25).same g26
  have C326 : CAt D.wC D.gC H26 x3 ds3 (edsP.map (·.2)) R := by
    rw [← eqE]
    exact C325.same g26
  refine ⟨_, rfl, x3, ln3, le3, pP, fP, eP, ds3, rowsP, edsP, D0, ksf, wsf, N, R, rfl, V3', C326, TP, know26.hc, know26.pk, vo.toVocab, fine, by omega, by omega, fun H27 b27 C327 => ⟨_, rfl, iteF ?_⟩⟩
  have know27 := know26.nk (nkC C326.c b27)
  have qT : ∀ (b : Bool) (H' : Hp), b = true → Q (.bl b) H' := fun b H' h => h ▸ q H'
  clear C115 C116 C117 C118 C119 C120 C121 C122 C123 C124 C125 C215 C216 C217 C218 C219 C324 C325 C326 C327 CV1 CV2 CV3 ds12 ds13
  clear know15 know16 know17 know18 know19 know20 know21 know23 know24 know25 know26 V3' V3 TP mem3 eqE hmP emP lP lE ngl nel T1 T2 T1a T1b T2a T2b T2c V1 V2 W2 hxa hxb hxc
  -- edges in the first world
  refine ⟨_, rfl, p1, _, _, _, rfl, rfl, SqL.of know27.t1.hp, atI_nat (j := 0) rfl, f1, rowsV rows1, rfl, .inl (SqL.of know27.t1.hf), _, rfl, (by rw [mr1]; show -(2 ^ 62) ≤ ((rows1.length : Nat) : Int); omega), (by rw [mr1]; show ((rows1.length : Nat) : Int) < 2 ^ 62; omega), for_range (lo := 0) (n := (((rowsV rows1).length : Nat) : Int).toNat) (fun i σ H' => ∃ o12 o13, σ = [some (.ref a0), some (.ref d), some (.ref tn), some (.ref tr), some (.ref D0), some (.ref p1), some (.ref p2), some (.ref gl), some (.ref el), some (.ref x1), some (.ref x2), some (.ref x3), o12, o13, none, none, none, none, none, none, none, none] ∧ Same H27 H') ⟨none, none, rfl, Same.refl _⟩ ?_ ?_⟩
  · rintro i σ H28 hi ⟨o12, o13, rfl, s28⟩
    have know28 := know27.same s28
    have il : i < rows1.length := by rw [Int.toNat_natCast, mr1] at hi; exact hi
    refine ⟨_, rfl, (by show 1 ≤ sizeLine; decide), fun q1 hq1 => ⟨tr, q1, _, _, rfl, rfl, same_new hq1 _ _ _ know28.hr, upd_same, (by rw [List.length_map]; exact Nat.le_of_lt (small1000 (by show R.length + 1 ≤ 1000; omega))), fun q2 hq2 => ⟨q2, rfl, ⟨_, SqL.of upd_same⟩, for_list (K := K) (a := q2) (xs := R.map V.str ++ [V.str "q"]) (fun j σ H' => ∃ o13, σ = [some (.ref a0), some (.ref d), some (.ref tn), some (.ref tr), some (.ref D0), some (.ref p1), some (.ref p2), some (.ref gl), some (.ref el), some (.ref x1), some (.ref x2), some (.ref x3), some (.int (0 + (i : Nat))), o13, none, none, none, none, none, none, none, none] ∧ Same H27 H' ∧ H' q2 = some (.lst (R.map V.str ++ [V.str "q"]))) ⟨o13, rfl, s28.trans ((same_new hq1 _).trans (same_new hq2 _)), upd_same⟩ (fun j σ H' _ h => ?_) ?_ ?_⟩⟩⟩
    · obtain ⟨_, _, _, h⟩ := h
      exact SqL.of h
    · rintro j y σ H29 hj ⟨o13, rfl, s29, hq29⟩
      obtain ⟨rw_, rfl, okw⟩ : ∃ s : Str, y = .str s ∧ wordOk s = true := by
        rcases List.mem_append.mp (List.mem_of_getElem? hj) with z | z
        · obtain ⟨s, hs, rfl⟩ := List.mem_map.mp z
          exact ⟨s, rfl, okR s hs⟩
        · exact ⟨"q", List.mem_singleton.mp z, by decide +kernel⟩
      have know29 := know27.same s29
      obtain ⟨dxa, dka, gra, hxa⟩ := know29.w1.dx
      have ev : ([V.int (0 + (i : Nat)), V.str rw_, V.int 0] : List V) = edgeV ⟨i, rw_, 0⟩ := by unfold edgeV; rw [Int.zero_add]; rfl
      have eok : EdgeOk rows1.length ⟨i, rw_, 0⟩ := ⟨il, (by show 0 < rows1.length; omega), okw⟩
      refine ⟨_, rfl, _, rfl, (by show 3 ≤ sizeLine; decide), fun t5 ht5 => ?_⟩
      have s30 := same_new ht5 (.tup [V.int (0 + (i : Nat)), V.str rw_, V.int 0])
      refine ⟨_, rfl, x1, dxa, _, rfl, s30 _ _ hxa, x1, ln1, le1, _, _, t5, ⟨i, rw_, 0⟩, rfl, know29.w1.same s30, by rw [← ev]; exact upd_same, by rw [lm1]; exact eok, _, rfl, ?_⟩
      refine ⟨_, rfl, _, rfl, (by show 3 ≤ sizeLine; decide), fun t6 ht6 => ?_⟩
      have s31 := s30.trans (same_new ht6 (.tup [V.int (0 + (i : Nat)), V.str rw_, V.int 0]))
      have know31 := know29.same s31
      refine ⟨_, rfl, p1, _, _, _, rfl, rfl, SqL.of know31.t1.hp, atI_nat (j := 1) rfl, edgeD ⟨i, rw_, 0⟩, (eds1.map (·.2)).map edgeD, dp_edge (by rw [← ev]; exact upd_same), dp_eds know31.t1.he know31.t1.eat, shaped_of (lay_edge eok (by omega)) (by simp [edgeD, PyData.depth, PyData.depthAll]), shaped_eds know31.w1.nl know31.w1.eok, rfl, _, rfl, iteFe (by rw [any_edge]; simp) ⟨_, rfl, s29.trans s31, s31 _ _ hq29⟩⟩
    · rintro σ H29 ⟨o13, rfl, s29, _⟩
      exact ⟨_, _, rfl, s29⟩
  rintro σ H32 ⟨o12, o13, rfl, s32⟩
  have know32 := know27.same s32
  -- what is due
  refine ⟨(by show 0 ≤ sizeLine; decide), fun dA hdA => ⟨(by show 0 ≤ sizeLine; decide), fun dB hdB => ⟨(by show 2 ≤ sizeLine; decide), fun dl hdl => ?_⟩⟩⟩
  have sA := same_new hdA (.lst [])
  have sB := sA.trans (same_new hdB (.lst []))
  have sL := sB.trans (same_new hdl (.lst [.ref dA, .ref dB]))
  have dAB : dA ≠ dB := ne_of_none upd_same hdB
  have hA2 : (upd (upd H32 dA (.lst [])) dB (.lst [])) dA = some (.lst []) := by rw [upd_ne dAB]; exact upd_same
  have dAl : dA ≠ dl := ne_of_none hA2 hdl
  have dBl : dB ≠ dl := ne_of_none upd_same hdl
  have know33 := know32.same sL
  have nA := know32.nof hdA
  have nB := (know32.same sA).nof hdB
  have nL := (know32.same sB).nof hdl
  have hA33 : (upd (upd (upd H32 dA (.lst [])) dB (.lst [])) dl (.lst [.ref dA, .ref dB])) dA = some (.lst []) := by rw [upd_ne dAl]; exact hA2
  have hB33 : (upd (upd (upd H32 dA (.lst [])) dB (.lst [])) dl (.lst [.ref dA, .ref dB])) dB = some (.lst []) := by rw [upd_ne dBl]; exact upd_same
  refine ⟨_, rfl, p1, _, _, _, rfl, rfl, SqL.of know33.t1.hp, atI_nat (j := 0) rfl, f1, rfl, ⟨_, SqL.of know33.t1.hf⟩, for_list (K := K) (a := f1) (xs := rowsV rows1) (fun i σ H' => ∃ o15, σ = [some (.ref a0), some (.ref d), some (.ref tn), some (.ref tr), some (.ref D0), some (.ref p1), some (.ref p2), some (.ref gl), some (.ref el), some (.ref x1), some (.ref x2), some (.ref x3), o12, o13, some (.ref dl), o15, none, none, none, none, none, none] ∧
      But [dA] (upd (upd (upd H32 dA (.lst [])) dB (.lst [])) dl (.lst [.ref dA, .ref dB])) H' ∧ H' dA = some (.lst ((K2.flatR (rows1.take i)).map V.str))) ⟨none, rfl, But.refl _, hA33⟩ (fun i σ H' _ h => ?_) ?_ ?_⟩
  · obtain ⟨_, _, b, _⟩ := h
    exact SqL.of (know33.but b hA33 nA).t1.hf
  · rintro i y σ H34 hi ⟨o15, rfl, b34, hA34⟩
    unfold rowsV at hi
    rw [List.getElem?_map] at hi
    obtain ⟨r, hri, rfl⟩ := Option.map_eq_some_iff.mp hi
    have mr := List.mem_of_getElem? hri
    have know34 := know33.but b34 hA33 nA
    refine ⟨_, rfl, dl, _, _, _, rfl, rfl, SqL.of (b34 _ _ (by simpa using dAl.symm) upd_same), atI_nat (j := 0) rfl, .inl ⟨rfl, _, SqL.of hA34⟩, _, rfl, dA, r.1, _, _, rfl, rfl, hA34, know34.t1.rat r mr, ?_, ⟨_, rfl, b34.trans but_put, ?_⟩⟩
    · rw [List.length_map, List.length_map]
      have := K2.flatR_le rows1 i
      have := (ro1 r mr).2
      exact Nat.le_of_lt (small1000 (by omega))
    · rw [upd_same, K2.flatR_take rows1 i r hri, List.map_append]
  rintro σ H35 ⟨o15, rfl, b35, hA35⟩
  rw [mr1, List.take_length] at hA35
  have know35 := know33.but b35 hA33 nA
  have hB35 : H35 dB = some (.lst []) := b35 _ _ (by simpa using dAB.symm) hB33
  have hl35 : H35 dl = some (.lst [.ref dA, .ref dB]) := b35 _ _ (by simpa using dAl.symm) upd_same
  refine ⟨_, rfl, dl, _, _, _, rfl, rfl, SqL.of hl35, atI_nat (j := 1) rfl, .inl ⟨rfl, _, SqL.of hB35⟩, _, rfl, p1, _, _, _, rfl, rfl, SqL.of know35.t1.hp, atI_nat (j := 1) rfl, e1, rfl, ⟨_, SqL.of know35.t1.he⟩, fun D1 hD1 => ?_⟩
  have e1D := ne_of_none know35.t1.he hD1
  refine lc_list (K := K) (a := e1) (xs := edsV eds1) (fun i H' => But [D1] (upd H35 D1 (.lst [])) H' ∧ H' D1 = some (.lst (((eds1.take i).map (·.2.r)).map V.str))) ⟨But.refl _, upd_same⟩
    (fun i H' _ h => SqL.of (h.1 _ _ (by simpa using e1D) (by rw [upd_ne e1D]; exact know35.t1.he))) ?_ ?_
  · rintro j y H36 hj ⟨b36, h36⟩
    unfold edsV at hj
    rw [List.getElem?_map] at hj
    obtain ⟨e, hej, rfl⟩ := Option.map_eq_some_iff.mp hj
    have me := List.mem_of_getElem? hej
    have he36 := same_of b36 hD1 _ _ (know35.t1.eat e me)
    refine ⟨rfl, _, rfl, e.1, _, _, _, rfl, rfl, SqT.of he36, atI_nat (j := 1) rfl, _, h36, ?_, b36.trans (But.put (by simp)), ?_⟩
    · rw [List.length_map, List.length_map, List.length_take]
      exact small1000 (by omega)
    · rw [upd_same, List.take_add_one, hej, List.map_append, List.map_append]
      rfl
  rintro H37 ⟨b37, h37⟩
  rw [me1, List.take_length] at h37
  have s37 : Same H35 H37 := same_of b37 hD1
  refine ⟨dB, D1, _, _, rfl, rfl, s37 _ _ hB35, h37, (by rw [List.length_map, List.length_map]; exact Nat.le_of_lt (small1000 (by show 0 + eds1.length ≤ 1000; omega))), ?_⟩
  have know38 := (know35.same s37).put (ys := [] ++ (eds1.map (·.2.r)).map V.str) (s37 _ _ hB35) nB
  -- the words that are due
  have hl38 : (upd H37 dB (.lst ([] ++ (eds1.map (·.2.r)).map V.str))) dl = some (.lst [.ref dA, .ref dB]) := by rw [upd_ne dBl.symm]; exact s37 _ _ hl35
  have hA38 : (upd H37 dB (.lst ([] ++ (eds1.map (·.2.r)).map V.str))) dA = some (.lst ((K2.flatR rows1).map V.str)) := by rw [upd_ne dAB]; exact s37 _ _ hA35
  have hB38 : (upd H37 dB (.lst ([] ++ (eds1.map (·.2.r)).map V.str))) dB = some (.lst ((eds1.map (·.2.r)).map V.str)) := upd_same
  clear know27 know32 know33 know35 nA nB nL sA sB sL hA2 hA33 hB33 hA35 hB35 hl35 b35 b37 h37 b2 r3 nm9 b79 bf9 bf7 bfg nm8 nm7 nmg
  refine ⟨_, rfl, dl, rfl, ⟨_, SqL.of hl38⟩, fun DW hDW => ?_⟩
  have dlD := ne_of_none hl38 hDW
  refine lc_list (K := K) (a := dl) (xs := [V.ref dA, V.ref dB]) (fun i H' => But [DW] (upd (upd H37 dB (.lst ([] ++ (eds1.map (·.2.r)).map V.str))) DW (.lst [])) H' ∧ ∃ qs : List (Addr × List Str), H' DW = some (.lst (rowsV qs)) ∧ RowsAt H' qs ∧ qs.map (·.2) = ([K2.flatR rows1, eds1.map (·.2.r)].take i).map fun row => ((N ++ R).mergeSort leS).filter fun x => decide (x ∈ row))
    ⟨But.refl _, [], upd_same, fun x hx => by simp at hx, rfl⟩ (fun i H' _ h => SqL.of (h.1 _ _ (by simpa using dlD) (by rw [upd_ne dlD]; exact hl38))) ?_ ?_
  · rintro i x H39 hi ⟨b39, qs, q1, q2, q3⟩
    have s39 : Same (upd H37 dB (.lst ([] ++ (eds1.map (·.2.r)).map V.str))) H39 := same_of b39 hDW
    obtain ⟨dd, row, rfl, hrow, hi2⟩ : ∃ dd row, x = .ref dd ∧ H39 dd = some (.lst (row.map V.str)) ∧ [K2.flatR rows1, eds1.map (·.2.r)][i]? = some row := by
      match i, hi with
      | 0, hi => exact ⟨dA, _, (Option.some.inj hi).symm, s39 _ _ hA38, rfl⟩
      | 1, hi => exact ⟨dB, _, (Option.some.inj hi).symm, s39 _ _ hB38, rfl⟩
      | n + 2, hi => simp at hi
    have i2 : i < 2 := by have := (List.getElem?_eq_some_iff.mp hi2).1; simpa using this
    have know39 := know38.same s39
    have lq : qs.length ≤ 2 := by
      have := congrArg List.length q3
      rw [List.length_map, List.length_map, List.length_take] at this
      simp at this
      omega
    have lNR : ((N ++ R).mergeSort leS).length ≤ 5 := by rw [(List.mergeSort_perm _ leS).length_eq, List.length_append]; omega
    refine ⟨rfl, _, rfl, _, rfl, tn, tr, _, _, rfl, rfl, know39.hn, know39.hr, (by rw [List.length_map, List.length_map]; exact Nat.le_of_lt (small1000 (by omega))), fun c1 hc1 => ⟨c1, N ++ R, rfl, SqL.of (by rw [upd_same, List.map_append]), fun s1 hs1 => ⟨s1, rfl, ⟨_, SqL.of upd_same⟩, fun D3 hD3 => ?_⟩⟩⟩
    have gS := (same_new hc1 (.lst (N.map V.str ++ R.map V.str))).trans (same_new hs1 (.lst (((N ++ R).mergeSort leS).map V.str)))
    have s1D := ne_of_none upd_same hD3
    have ddD := ne_of_none (gS _ _ hrow) hD3
    refine lc_list (K := K) (a := s1) (xs := ((N ++ R).mergeSort leS).map V.str) (fun k H6 => But [D3] (upd (upd (upd H39 c1 (.lst (N.map V.str ++ R.map V.str))) s1 (.lst (((N ++ R).mergeSort leS).map V.str))) D3 (.lst [])) H6 ∧ H6 D3 = some (.lst (((((N ++ R).mergeSort leS).take k).filter fun x => decide (x ∈ row)).map V.str))) ⟨But.refl _, upd_same⟩
      (fun i H6 _ h => SqL.of (h.1 _ _ (by simpa using s1D) (by rw [upd_ne s1D]; exact upd_same))) ?_ ?_
    · rintro k z H6 hi6 ⟨b6, h6⟩
      rw [List.getElem?_map] at hi6
      obtain ⟨st, hst, rfl⟩ := Option.map_eq_some_iff.mp hi6
      have s6 := same_of b6 hD3
      have lf : ((((N ++ R).mergeSort leS).take k).filter fun x => decide (x ∈ row)).length ≤ 5 := Nat.le_trans (List.length_filter_le _ _) (by rw [List.length_take]; omega)
      refine ⟨rfl, _, rfl, _, rfl, st, dd, row, rfl, rfl, .inl (SqL.of (s6 _ _ (gS _ _ hrow))), _, rfl, ?_⟩
      have etk : (((N ++ R).mergeSort leS).take (k + 1)) = ((N ++ R).mergeSort leS).take k ++ [st] := by rw [List.take_add_one, hst]; rfl
      refine ite2 (c := decide (st ∈ row) = true) (fun h1 => ?_) (fun h1 => ?_)
      · refine ⟨_, rfl, _, h6, ?_, b6.trans (But.put (by simp)), ?_⟩
        · rw [List.length_map]
          exact small1000 (by omega)
        · rw [upd_same, etk, List.filter_append, List.filter_cons, if_pos h1, List.map_append]
          rfl
      · refine ⟨b6, ?_⟩
        rw [etk, List.filter_append, List.filter_cons, if_neg h1, List.filter_nil, List.append_nil]
        exact h6
    · rintro H6 ⟨b6, h6⟩
      have s6 := same_of b6 hD3
      rw [List.length_map, List.take_length] at h6
      refine ⟨D3, _, rfl, .inl ⟨SqL.of h6, fun t ht => ?_⟩⟩
      have st7 := same_new ht (.tup ((((N ++ R).mergeSort leS).filter fun x => decide (x ∈ row)).map V.str))
      have h5 := s6 _ _ (gS _ _ q1)
      have h7 := st7 _ _ h5
      have tD : t ≠ DW := fun z => by rw [z, h5] at ht; cases ht
      refine ⟨_, h7, ?_, (b39.trans (But.of ((gS.trans s6).trans st7))).trans (But.put (by simp)), qs ++ [(t, ((N ++ R).mergeSort leS).filter fun x => decide (x ∈ row))], ?_, ?_, ?_⟩
      · rw [show (rowsV qs).length = qs.length by simp [rowsV]]
        exact small1000 (by omega)
      · rw [upd_same]
        simp [rowsV]
      · intro y hy
        rcases List.mem_append.mp hy with z | z
        · have y4 := st7 _ _ (s6 _ _ (gS _ _ (q2 y z)))
          rw [upd_ne (fun e => by rw [e, h7] at y4; cases y4)]
          exact y4
        · rw [List.mem_singleton.mp z]
          show upd _ DW _ t = _
          rw [upd_ne tD]
          exact upd_same
      · rw [List.map_append, q3, List.take_add_one, hi2, List.map_append]
        rfl
  rintro H40 ⟨b40, qs, q1, q2, q3⟩
  have s40 := same_of b40 hDW
  have know40 := know38.same s40
  refine ⟨DW, _, rfl, .inl ⟨SqL.of q1, fun pw hpw => ?_⟩⟩
  have s41 := same_new hpw (.tup (rowsV qs))
  have know41 := know40.same s41
  have lq : qs.length = 2 := by
    have := congrArg List.length q3
    rw [List.length_map, List.length_map, List.length_take] at this
    simpa using this
  -- each word once
  refine ⟨_, rfl, pw, rfl, ⟨_, SqT.of upd_same⟩, fun DV hDV => ?_⟩
  have pwD := ne_of_none (upd_same (H := H40) (a := pw) (o := .tup (rowsV qs))) hDV
  have mq : (rowsV qs).length = qs.length := by simp [rowsV]
  refine lc_tup (K := K) (a := pw) (xs := rowsV qs) (fun i H' => But [DV] (upd (upd H40 pw (.tup (rowsV qs))) DV (.lst [])) H' ∧ ∃ us : List (Addr × List Str), H' DV = some (.lst (rowsV us)) ∧ RowsAt H' us ∧ us.map (·.2) = ((qs.map (·.2)).take i).map fun l => firsts l l.length)
    ⟨But.refl _, [], upd_same, fun x hx => by simp at hx, rfl⟩ (fun i H' _ h => SqT.of (h.1 _ _ (by simpa using pwD) (by rw [upd_ne pwD]; exact upd_same))) ?_ ?_
  · rintro i x H42 hi ⟨b42, us, u1, u2, u3⟩
    unfold rowsV at hi
    rw [List.getElem?_map] at hi
    obtain ⟨r, hri, rfl⟩ := Option.map_eq_some_iff.mp hi
    have mr := List.mem_of_getElem? hri
    have il := (List.getElem?_eq_some_iff.mp hri).1
    have s42 := same_of b42 hDV
    have hr42 := s42 _ _ (s41 _ _ (q2 r mr))
    have qsi : (qs.map (·.2))[i]? = some r.2 := by rw [List.getElem?_map, hri]; rfl
    have lr5 : r.2.length ≤ 5 := by
      rw [q3] at qsi
      obtain ⟨row, _, hrow⟩ := List.mem_map.mp (List.mem_of_getElem? qsi)
      rw [← hrow]
      refine Nat.le_trans (List.length_filter_le _ _) ?_
      rw [(List.mergeSort_perm _ leS).length_eq, List.length_append]
      omega
    have lu : us.length ≤ 2 := by
      have := congrArg List.length u3
      rw [List.length_map, List.length_map, List.length_take, List.length_map] at this
      omega
    refine ⟨rfl, _, rfl, r.1, _, rfl, SqT.of hr42, fun D4 hD4 => ?_⟩
    have r4D := ne_of_none hr42 hD4
    refine lc_it K2.walk_enumT (fun k H6 => But [D4] (upd H42 D4 (.lst [])) H6 ∧ H6 D4 = some (.lst ((firsts r.2 k).map V.str))) ⟨But.refl _, upd_same⟩
      (fun k H6 _ h => SqT.of (h.1 _ _ (by simpa using r4D) (by rw [upd_ne r4D]; exact hr42))) ?_ ?_
    · rintro k z H6 H7 hk ⟨b6, h6⟩ ⟨T7, xv, yv, rfl, hT7, rfl, ex, ey⟩
      have ex' := Option.some.inj ex
      subst ex'
      have ey' : (r.2.map V.str)[k]? = some yv := ey
      rw [List.getElem?_map] at ey'
      obtain ⟨st, hst, rfl⟩ := Option.map_eq_some_iff.mp ey'
      rw [List.length_map] at hk
      have g7 := same_new hT7 (.tup [V.int (k : Nat), V.str st])
      have b7 := b6.trans (But.of (D := [D4]) g7)
      have h67 := g7 _ _ h6
      have hr7 := g7 _ _ (same_of b6 hD4 _ _ hr42)
      refine ⟨T7, _, rfl, SqT.of upd_same, rfl, _, _, rfl, _, _, rfl, rfl, rfl, _, rfl, _, rfl, _, rfl, _, rfl, r.1, _, rfl, SqT.of hr7, ?_, fun sl hsl => ?_⟩
      · rintro ⟨_, z⟩
        rw [HT.sIx_nat, List.length_map] at z
        omega
      have g8 := same_new hsl (.tup (cutV (r.2.map V.str) none (some ((k : Nat) : Int))))
      have ct : cutV (r.2.map V.str) none (some ((k : Nat) : Int)) = (r.2.take k).map V.str := by rw [cut_to _ _ (by rw [List.length_map]; omega), List.map_take]
      have h68 := g8 _ _ h67
      have b8 := b7.trans (But.of (D := [D4]) g8)
      have lf := firsts_len r.2 k
      refine ⟨st, sl, r.2.take k, rfl, rfl, .inr (SqT.of (by rw [upd_same, ct])), _, rfl, ?_⟩
      by_cases c : st ∈ r.2.take k
      · refine iteFe (by rw [decide_eq_true c]; rfl) ⟨b8, ?_⟩
        rw [firsts_in hst c]
        exact h68
      · refine iteTe (by rw [decide_eq_false c]; rfl) ⟨_, rfl, _, h68, ?_, b8.trans (But.put (by simp)), ?_⟩
        · rw [List.length_map]
          exact small1000 (by omega)
        · rw [upd_same, firsts_new hst c, List.map_append]
          rfl
    · rintro H6 ⟨b6, h6⟩
      rw [List.length_map] at h6
      have s6 := same_of b6 hD4
      refine ⟨D4, _, rfl, .inl ⟨SqL.of h6, fun t ht => ?_⟩⟩
      have st7 := same_new ht (.tup ((firsts r.2 r.2.length).map V.str))
      have h5 := s6 _ _ u1
      have h7 := st7 _ _ h5
      have tD : t ≠ DV := fun z => by rw [z, h5] at ht; cases ht
      refine ⟨_, h7, ?_, (b42.trans (But.of (s6.trans st7))).trans (But.put (by simp)), us ++ [(t, firsts r.2 r.2.length)], ?_, ?_, ?_⟩
      · rw [show (rowsV us).length = us.length by simp [rowsV]]
        exact small1000 (by omega)
      · rw [upd_same]
        simp [rowsV]
      · intro y hy
        rcases List.mem_append.mp hy with z | z
        · have y4 := st7 _ _ (s6 _ _ (u2 y z))
          rw [upd_ne (fun e => by rw [e, h7] at y4; cases y4)]
          exact y4
        · rw [List.mem_singleton.mp z]
          show upd _ DV _ t = _
          rw [upd_ne tD]
          exact upd_same
      · rw [List.map_append, u3, List.take_add_one, qsi, List.map_append]
        rfl
  rintro H43 ⟨b43, us, u1, u2, u3⟩
  have s43 := same_of b43 hDV
  have know43 := know41.same s43
  rw [mq, ← List.length_map (f := fun x : Addr × List Str => x.2) (as := qs), List.take_length] at u3
  refine ⟨DV, _, rfl, .inl ⟨SqL.of u1, fun pv_ hpv => ?_⟩⟩
  have s44 := same_new hpv (.tup (rowsV us))
  have know44 := know43.same s44
  -- the words, and equality
  have lu2 : us.length = 2 := by
    have := congrArg List.length u3
    rw [List.length_map, List.length_map, List.length_map] at this
    omega
  obtain ⟨ua, ub, rfl⟩ : ∃ ua ub, us = [ua, ub] := by
    match us, lu2 with
    | [x, y], _ => exact ⟨x, y, rfl⟩
  rw [q3] at u3
  have u3a : ua.2 = firsts (((N ++ R).mergeSort leS).filter fun x => decide (x ∈ K2.flatR rows1)) (((N ++ R).mergeSort leS).filter fun x => decide (x ∈ K2.flatR rows1)).length := (List.cons.inj u3).1
  have u3b : ub.2 = firsts (((N ++ R).mergeSort leS).filter fun x => decide (x ∈ eds1.map (·.2.r))) (((N ++ R).mergeSort leS).filter fun x => decide (x ∈ eds1.map (·.2.r))).length := (List.cons.inj (List.cons.inj u3).2).1
  obtain ⟨dxw, dkw, grw, hxw⟩ := know44.w1.dx
  refine ⟨_, rfl, x1, dxw, _, rfl, hxw, wf_no (by decide +kernel) (by decide +kernel) (by decide +kernel) (by decide +kernel), x1, ln1, le1, _, _, rfl, know44.w1, (by show (K2.flatR rows1).length < 64; omega), (by omega), fun H45 pw2 ys zs g45 hT ay az my mz => ?_⟩
  have know45 := know44.same g45
  have subA : ∀ s ∈ K2.flatR rows1, s ∈ N ++ R := fun s hs => by
    obtain ⟨l, hl, hsl⟩ := List.mem_flatten.mp hs
    obtain ⟨x, hx, rfl⟩ := List.mem_map.mp hl
    exact List.mem_append.mpr (.inl ((W1.rok x hx).2.1 s hsl))
  have subB : ∀ s ∈ eds1.map (·.2.r), s ∈ N ++ R := fun s hs => by
    obtain ⟨x, hx, rfl⟩ := List.mem_map.mp hs
    exact List.mem_append.mpr (.inr (W1.eok x hx).2.2)
  have mz' : ∀ s, s ∈ zs ↔ s ∈ eds1.map (·.2.r) := fun s => by
    rw [mz s, List.map_map]
    exact Iff.rfl
  have eA : ua.2 = ys := u3a.trans (words_asc ay my subA)
  have eB : ub.2 = zs := u3b.trans (words_asc az mz' subB)
  have okys : ∀ x ∈ ys, PyData.strOk x = true := fun x hx => by
    obtain ⟨l, hl, hsl⟩ := List.mem_flatten.mp ((my x).mp hx)
    obtain ⟨r, hr_, rfl⟩ := List.mem_map.mp hl
    exact word_strOk (okN _ ((W1.rok r hr_).2.1 x hsl))
  have okzs : ∀ x ∈ zs, PyData.strOk x = true := fun x hx => by
    obtain ⟨e, he, rfl⟩ := List.mem_map.mp ((mz' x).mp hx)
    exact word_strOk (okR _ (W1.eok e he).2.2)
  have hU : ToldAt H45 pv_ ys zs := by
    rw [← eA, ← eB]
    exact ⟨ua.1, ub.1, g45 _ _ upd_same, g45 _ _ (s44 _ _ (u2 ua (by simp))), g45 _ _ (s44 _ _ (u2 ub (by simp)))⟩
  refine ⟨_, rfl, _, _, dp_told hT, dp_told hU, shaped_told okys okzs, shaped_told okys okzs, _, rfl, iteFe (ne_told _ _) ?_⟩
  obtain ⟨dxa, dka, gra, hxa⟩ := know45.w1.dx
  obtain ⟨dxb, dkb, grb, hxb⟩ := know45.w2.dx
  have sh1 : SeqAt.shaped (twoD (rows1.map (·.2)) (eds1.map (·.2))) = true := shaped_two know45.w1.nl know45.w1.nok know45.w1.eok
  have sh2 : SeqAt.shaped (twoD (rows2.map (·.2)) (eds2.map (·.2))) = true := shaped_two know45.w2.nl know45.w2.nok know45.w2.eok
  refine ⟨_, rfl, _, rfl, x1, x2, dxa, dxb, _, _, rfl, rfl, hxa, hxb, x1, ln1, le1, _, _, x2, ln2, le2, _, _, rfl, know45.w1, know45.w2, _, rfl, _, rfl, _, rfl, _, _, dp_two know45.t1, dp_two know45.t2, sh1, sh2, rfl, _, rfl, iteFe (by rw [eqv_two]; simp) ?_⟩
  refine ⟨_, rfl, _, rfl, p1, _, _, _, rfl, rfl, SqL.of know45.t1.hp, atI_nat (j := 0) rfl, _, rfl, p1, _, _, _, rfl, rfl, SqL.of know45.t1.hp, atI_nat (j := 1) rfl, fun x4 dx4 nx4 ndx4 nxd4 => make_w (.inl know45.t1.hf) know45.t1.rat (.inl know45.t1.he) know45.t1.eat (by omega) (by omega) (by omega) ok1 (fun r hr => (ro1 r hr).1) nr1 asc1 nx4 ndx4 nxd4 fun H46 ln4 le4 ds4 g46 nln4 nle4 nds4 V4 CV4 => ⟨rfl, ?_⟩⟩
  have know46 := know45.same g46
  obtain ⟨dxd, dkd, grd, hxd⟩ := V4.dx
  refine ⟨x1, x4, dxa, dxd, _, _, rfl, rfl, g46 _ _ hxa, hxd, x1, ln1, le1, _, _, x4, ln4, le4, _, _, rfl, know46.w1, V4, _, rfl, _, rfl, iteFe (by simp) ?_⟩
  -- one thing more
  refine ⟨_, rfl, p1, _, _, _, rfl, rfl, SqL.of know46.t1.hp, atI_nat (j := 0) rfl, (by show 0 ≤ sizeLine; decide), fun te_ hte => ⟨(by show 1 ≤ sizeLine; decide), fun l_ hl_ => ?_⟩⟩
  have s47 := (same_new hte (.tup [])).trans (same_new hl_ (.lst [.ref te_]))
  have know47 := know46.same s47
  refine ⟨f1, l_, _, _, rfl, rfl, know47.t1.hf, upd_same, (by rw [mr1]; exact Nat.le_of_lt (small1000 (by show rows1.length + 1 ≤ 1000; omega))), fun cc hcc => ?_⟩
  have s48 := same_new hcc (.lst (rowsV rows1 ++ [V.ref te_]))
  have know48 := know47.same s48
  have hte48 := s48 _ _ (same_new hl_ (.lst [.ref te_]) _ _ (upd_same (H := H46) (a := te_) (o := .tup [])))
  have flm : (K2.flatR (rows1 ++ [(te_, [])])).length ≤ 27 := by
    rw [K2.flatR_snoc]
    simpa using fl1
  refine ⟨_, rfl, p1, _, _, _, rfl, rfl, SqL.of know48.t1.hp, atI_nat (j := 1) rfl, fun x5 dx5 nx5 ndx5 nxd5 => make_w (rows := rows1 ++ [(te_, [])]) (eds := eds1) (.inl (by rw [upd_same]; simp [rowsV])) (fun r hr => ?_) (.inl know48.t1.he) know48.t1.eat (by rw [List.length_append]; show rows1.length + 1 ≤ 1000; omega) (by omega) (by omega) (fun e he => ?_) (fun r hr => ?_) (by simp) asc1 nx5 ndx5 nxd5 fun H49 ln5 le5 ds5 g49 nln5 nle5 nds5 V5 CV5 => ⟨rfl, ?_⟩⟩
  · rcases List.mem_append.mp hr with z | z
    · exact know48.t1.rat r z
    · rw [List.mem_singleton.mp z]
      exact hte48
  · have := ok1 e he
    rw [List.length_append]
    exact ⟨Nat.lt_of_lt_of_le this.1 (Nat.le_add_right _ _), Nat.lt_of_lt_of_le this.2.1 (Nat.le_add_right _ _), this.2.2⟩
  · rcases List.mem_append.mp hr with z | z
    · exact (ro1 r z).1
    · rw [List.mem_singleton.mp z]
      exact ⟨fun x hx => by simp at hx, List.Pairwise.nil, by simp⟩
  have know49 := know48.same g49
  obtain ⟨dxe, dke, gre, hxe⟩ := know49.w1.dx
  obtain ⟨dxf, dkf, grf, hxf⟩ := V5.dx
  have nem : (rows1 ++ [((te_, []) : Addr × List Str)]).map (·.2) ≠ rows1.map (·.2) := fun z => by
    have := congrArg List.length z
    rw [List.length_map, List.length_map, List.length_append] at this
    simp at this
  refine ⟨_, rfl, _, rfl, x5, x1, dxf, dxe, _, _, rfl, rfl, hxf, hxe, x5, ln5, le5, _, _, x1, ln1, le1, _, _, rfl, V5, know49.w1, _, rfl, _, rfl, iteTe (by rw [decide_eq_false (fun z => nem z.1)]; rfl) ?_⟩
  refine ⟨_, rfl, x5, dxf, _, rfl, hxf, x5, ln5, le5, _, _, rfl, V5, _, rfl, x1, dxe, _, rfl, hxe, x1, ln1, le1, _, _, rfl, know49.w1, _, _, rfl, rfl, rfl, _, rfl, iteTe (by rw [List.length_map, List.length_map, List.length_append]; simp) ?_⟩
  refine ⟨(by show 1 ≤ sizeLine; decide), fun ta hta => ⟨(by show 1 ≤ sizeLine; decide), fun la hla => ⟨(by show 0 ≤ sizeLine; decide), fun lb hlb => fun x6 dx6 nx6 ndx6 nxd6 => ?_⟩⟩⟩
  have lab := ne_of_none (upd_same (H := upd H49 ta (.tup [V.str "q"])) (a := la) (o := .lst [.ref ta])) hlb
  have tala := ne_of_none (upd_same (H := H49) (a := ta) (o := .tup [V.str "q"])) hla
  have talb := ne_of_none (same_new hla (.lst [.ref ta]) _ _ (upd_same (H := H49) (a := ta) (o := .tup [V.str "q"]))) hlb
  refine make_w (rows := [(ta, ["q"])]) (eds := []) (.inl (by rw [upd_ne lab]; exact upd_same)) (fun r hr => ?_) (.inl upd_same) (fun e he => by simp at he) (by simp) (by simp [K2.flatR]) (by simp) (fun e he => by simp at he) (fun r hr => ?_) (by simp) List.Pairwise.nil nx6 ndx6 nxd6 fun H50 ln6 le6 ds6 g50 nln6 nle6 nds6 V6 CV6 => ⟨rfl, ?_⟩
  · rw [List.mem_singleton.mp hr]
    show upd _ lb _ ta = _
    rw [upd_ne talb, upd_ne tala]
    exact upd_same
  · rw [List.mem_singleton.mp hr]
    exact ⟨fun x hx => by rw [List.mem_singleton.mp hx]; decide +kernel, List.pairwise_singleton _ _, by simp⟩
  refine ⟨(by show 0 ≤ sizeLine; decide), fun tc htc => ⟨(by show 1 ≤ sizeLine; decide), fun lc_ hlc => ⟨(by show 0 ≤ sizeLine; decide), fun ld hld => fun x7 dx7 nx7 ndx7 nxd7 => ?_⟩⟩⟩
  have lcd := ne_of_none (upd_same (H := upd H50 tc (.tup [])) (a := lc_) (o := .lst [.ref tc])) hld
  have tclc := ne_of_none (upd_same (H := H50) (a := tc) (o := .tup [])) hlc
  have tcld := ne_of_none (same_new hlc (.lst [.ref tc]) _ _ (upd_same (H := H50) (a := tc) (o := .tup []))) hld
  have s51 := ((same_new htc (.tup [])).trans (same_new hlc (.lst [.ref tc]))).trans (same_new hld (.lst []))
  refine make_w (rows := [(tc, [])]) (eds := []) (.inl (by rw [upd_ne lcd]; exact upd_same)) (fun r hr => ?_) (.inl upd_same) (fun e he => by simp at he) (by simp) (by simp [K2.flatR]) (by simp) (fun e he => by simp at he) (fun r hr => ?_) (by simp) List.Pairwise.nil nx7 ndx7 nxd7 fun H51 ln7 le7 ds7 g51 nln7 nle7 nds7 V7 CV7 => ⟨rfl, ?_⟩
  · rw [List.mem_singleton.mp hr]
    show upd _ ld _ tc = _
    rw [upd_ne tcld, upd_ne tclc]
    exact upd_same
  · rw [List.mem_singleton.mp hr]
    exact ⟨fun x hx => by simp at hx, List.Pairwise.nil, by simp⟩
  have V6' := (V6.same s51).same g51
  obtain ⟨dxg, dkg, grg, hxg⟩ := V6'.dx
  obtain ⟨dxh, dkh, grh, hxh⟩ := V7.dx
  exact ⟨x6, x7, dxg, dxh, _, _, rfl, rfl, hxg, hxh, x6, ln6, le6, _, _, x7, ln7, le7, _, _, rfl, V6', V7, _, rfl, qT _ _ (by simp)⟩
end
end K1
namespace K1
open PySem L2
set_option maxHeartbeats 0 in
theorem defs_mk {K : PySem.W.Frag} {h : Heap} {mg : Str → Option Value} (X : K.In h) (G : h.Ns mainGlobals mg)
    {f0 f1 f2 f3 f4 f5 f6 f7 f8 f9 f10 f11 f12 f13 f14 f15 f16 f17 f18 f19 f20 f21 f22 f23 f24 f25 f26 f27 f28 f29 f30 f31 f32 f33 f34 f35 f36 f37 f38 f39 f40 f41 f42 f43 f44 f45 f46 f47 nw gC wC sp : Addr} {od0 an0 od1 an1 od2 an2 od3 an3 od4 an4 od5 an5 od6 an6 od7 an7 od8 an8 od9 an9 od10 an10 od11 an11 od12 an12 od13 an13 od14 an14 od15 an15 od16 an16 od17 an17 od18 an18 od19 an19 od20 an20 od21 an21 od22 an22 od23 an23 od24 an24 od25 an25 od26 an26 od27 an27 od28 an28 od29 an29 od30 an30 od31 an31 od32 an32 od33 an33 od34 an34 od35 an35 od36 an36 od37 an37 od38 an38 od39 an39 od40 an40 od41 an41 od42 an42 od43 an43 od44 an44 od45 an45 od46 an46 od47 an47 ddN : Option Addr} {sl0 sl1 sl2 sl3 sl4 sl5 sl6 sl7 sl8 sl9 sl10 sl11 sl12 sl13 sl14 sl15 sl16 sl17 sl18 sl19 sl20 sl21 sl22 sl23 sl24 sl25 sl26 sl27 sl28 sl29 sl30 sl31 sl32 sl33 sl34 sl35 sl36 sl37 sl38 sl39 sl40 sl41 sl42 sl43 sl44 sl45 sl46 sl47 slN : Array (Option Value)} {nN : Nat} {tk1 tk2 tk3 tkL tkD : Tok} {spr : List Value}
    {oc0 kV0 dc0 pm0 cd0 ct0 oc1 kV1 dc1 pm1 cd1 ct1 oc2 kV2 dc2 pm2 cd2 ct2 oc3 kV3 dc3 pm3 cd3 ct3 oc4 kV4 dc4 pm4 cd4 ct4 oc5 kV5 dc5 pm5 cd5 ct5 oc6 kV6 dc6 pm6 cd6 ct6 oc7 kV7 dc7 pm7 cd7 ct7 oc8 kV8 dc8 pm8 cd8 ct8 oc9 kV9 dc9 pm9 cd9 ct9 oc10 kV10 dc10 pm10 cd10 ct10 oc11 kV11 dc11 pm11 cd11 ct11 oc12 kV12 dc12 pm12 cd12 ct12 oc13 kV13 dc13 pm13 cd13 ct13 oc14 kV14 dc14 pm14 cd14 ct14 oc15 kV15 dc15 pm15 cd15 ct15 oc16 kV16 dc16 pm16 cd16 ct16 oc17 kV17 dc17 pm17 cd17 ct17 oc18 kV18 dc18 pm18 cd18 ct18 oc19 kV19 dc19 pm19 cd19 ct19 oc20 kV20 dc20 pm20 cd20 ct20 oc21 kV21 dc21 pm21 cd21 ct21 oc22 kV22 dc22 pm22 cd22 ct22 oc23 kV23 dc23 pm23 cd23 ct23 oc24 kV24 dc24 pm24 cd24 ct24 oc25 kV25 dc25 pm25 cd25 ct25 oc26 kV26 dc26 pm26 cd26 ct26 oc27 kV27 dc27 pm27 cd27 ct27 oc28 kV28 dc28 pm28 cd28 ct28 oc29 kV29 dc29 pm29 cd29 ct29 oc30 kV30 dc30 pm30 cd30 ct30 oc31 kV31 dc31 pm31 cd31 ct31 oc32 kV32 dc32 pm32 cd32 ct32 oc33 kV33 dc33 pm33 cd33 ct33 oc34 kV34 dc34 pm34 cd34 ct34 oc35 kV35 dc35 pm35 cd35 ct35 oc36 kV36 dc36 pm36 cd36 ct36 oc37 kV37 dc37 pm37 cd37 ct37 oc38 kV38 dc38 pm38 cd38 ct38 oc39 kV39 dc39 pm39 cd39 ct39 oc40 kV40 dc40 pm40 cd40 ct40 oc41 kV41 dc41 pm41 cd41 ct41 oc42 kV42 dc42 pm42 cd42 ct42 oc43 kV43 dc43 pm43 cd43 ct43 oc44 kV44 dc44 pm44 cd44 ct44 oc45 kV45 dc45 pm45 cd45 ct45 oc46 kV46 dc46 pm46 cd46 ct46 oc47 kV47 dc47 pm47 cd47 ct47 : Value}
    (m_gC : PySem.W.nsIn K mainGlobals "Graph" = some (some (.ref gC)))
    (pg_gC : PySem.W.plainGet K gC Str.empty = true)
    (hd_gC : PySem.W.hasDictIn K gC = true)
    (po_gC : PySem.W.plainOver K gC = true)
    (sa_gC : PySem.W.findIn K (.ref gC) "__setattr__" = some (some (.builtin "object.__setattr__")))
    (mk_gC : PySem.W.makesIn K gC = true)
    (kp_gC : PySem.W.keepIn K (.ref gC) = true)
    (n_gCeverything : PySem.W.findIn K (.ref gC) "everything" = some none)
    (n_gCnamed : PySem.W.findIn K (.ref gC) "named" = some none)
    (n_gCahead : PySem.W.findIn K (.ref gC) "ahead" = some none)
    (n_gC_sources : PySem.W.findIn K (.ref gC) "_sources" = some none)
    (m_wC : PySem.W.nsIn K mainGlobals "World" = some (some (.ref wC)))
    (pg_wC : PySem.W.plainGet K wC Str.empty = true)
    (hd_wC : PySem.W.hasDictIn K wC = true)
    (po_wC : PySem.W.plainOver K wC = true)
    (sa_wC : PySem.W.findIn K (.ref wC) "__setattr__" = some (some (.builtin "object.__setattr__")))
    (mk_wC : PySem.W.makesIn K wC = true)
    (kp_wC : PySem.W.keepIn K (.ref wC) = true)
    (n_wC_names : PySem.W.findIn K (.ref wC) "_names" = some none)
    (n_wC_edges : PySem.W.findIn K (.ref wC) "_edges" = some none)
    (n_wC_known : PySem.W.findIn K (.ref wC) "_known" = some none)
    (n_wC_graph : PySem.W.findIn K (.ref wC) "_graph" = some none)
    (a0 : PySem.W.nsIn K mainGlobals "is_word" = some (some (.ref f0)))
    (l0 : K.lookup f0 = some ⟨oc0, od0, .func (PySem.W.fnOf "is_word" "is_word" (defArgs s_is_word) (defBody s_is_word) (defScope s_is_word) .none kV0 dc0 pm0 an0 cd0 ct0), sl0⟩)
    (c0 : PySem.W.codeIn K cd0 "is_word" = true)
    (k0 : PySem.W.keepIn K (.ref f0) = true)
    (a1 : PySem.W.nsIn K mainGlobals "is_concept" = some (some (.ref f1)))
    (l1 : K.lookup f1 = some ⟨oc1, od1, .func (PySem.W.fnOf "is_concept" "is_concept" (defArgs s_is_concept) (defBody s_is_concept) (defScope s_is_concept) .none kV1 dc1 pm1 an1 cd1 ct1), sl1⟩)
    (c1 : PySem.W.codeIn K cd1 "is_concept" = true)
    (k1 : PySem.W.keepIn K (.ref f1) = true)
    (a2 : PySem.W.nsIn K mainGlobals "_is_nested" = some (some (.ref f2)))
    (l2 : K.lookup f2 = some ⟨oc2, od2, .func (PySem.W.fnOf "_is_nested" "_is_nested" (defArgs s_is_nested) (defBody s_is_nested) (defScope s_is_nested) .none kV2 dc2 pm2 an2 cd2 ct2), sl2⟩)
    (c2 : PySem.W.codeIn K cd2 "_is_nested" = true)
    (k2 : PySem.W.keepIn K (.ref f2) = true)
    (a3 : PySem.W.nsIn K mainGlobals "need_concept" = some (some (.ref f3)))
    (l3 : K.lookup f3 = some ⟨oc3, od3, .func (PySem.W.fnOf "need_concept" "need_concept" (defArgs s_need_concept) (defBody s_need_concept) (defScope s_need_concept) .none kV3 dc3 pm3 an3 cd3 ct3), sl3⟩)
    (c3 : PySem.W.codeIn K cd3 "need_concept" = true)
    (k3 : PySem.W.keepIn K (.ref f3) = true)
    (a4 : PySem.W.nsIn K mainGlobals "is_ascending" = some (some (.ref f4)))
    (l4 : K.lookup f4 = some ⟨oc4, od4, .func (PySem.W.fnOf "is_ascending" "is_ascending" (defArgs s_is_ascending) (defBody s_is_ascending) (defScope s_is_ascending) .none kV4 dc4 pm4 an4 cd4 ct4), sl4⟩)
    (c4 : PySem.W.codeIn K cd4 "is_ascending" = true)
    (k4 : PySem.W.keepIn K (.ref f4) = true)
    (a5 : PySem.W.nsIn K mainGlobals "are_words" = some (some (.ref f5)))
    (l5 : K.lookup f5 = some ⟨oc5, od5, .func (PySem.W.fnOf "are_words" "are_words" (defArgs s_are_words) (defBody s_are_words) (defScope s_are_words) .none kV5 dc5 pm5 an5 cd5 ct5), sl5⟩)
    (c5 : PySem.W.codeIn K cd5 "are_words" = true)
    (k5 : PySem.W.keepIn K (.ref f5) = true)
    (a6 : PySem.W.nsIn K mainGlobals "inner" = some (some (.ref f6)))
    (l6 : K.lookup f6 = some ⟨oc6, od6, .func (PySem.W.fnOf "inner" "inner" (defArgs s_inner) (defBody s_inner) (defScope s_inner) .none kV6 dc6 pm6 an6 cd6 ct6), sl6⟩)
    (c6 : PySem.W.codeIn K cd6 "inner" = true)
    (k6 : PySem.W.keepIn K (.ref f6) = true)
    (a7 : PySem.W.nsIn K mainGlobals "told_words" = some (some (.ref f7)))
    (l7 : K.lookup f7 = some ⟨oc7, od7, .func (PySem.W.fnOf "told_words" "told_words" (defArgs s_told_words) (defBody s_told_words) (defScope s_told_words) .none kV7 dc7 pm7 an7 cd7 ct7), sl7⟩)
    (c7 : PySem.W.codeIn K cd7 "told_words" = true)
    (k7 : PySem.W.keepIn K (.ref f7) = true)
    (a8 : PySem.W.nsIn K mainGlobals "bits" = some (some (.ref f8)))
    (l8 : K.lookup f8 = some ⟨oc8, od8, .func (PySem.W.fnOf "bits" "bits" (defArgs s_bits) (defBody s_bits) (defScope s_bits) .none kV8 dc8 pm8 an8 cd8 ct8), sl8⟩)
    (c8 : PySem.W.codeIn K cd8 "bits" = true)
    (k8 : PySem.W.keepIn K (.ref f8) = true)
    (a9 : PySem.W.findIn K (.ref gC) "__init__" = some (some (.ref f9)))
    (i9 : PySem.W.isFn K (.ref f9) = true)
    (l9 : K.lookup f9 = some ⟨oc9, od9, .func (PySem.W.fnOf "__init__" "Graph.__init__" (defArgs s_g_init) (defBody s_g_init) (defScope s_g_init) .none kV9 dc9 pm9 an9 cd9 ct9), sl9⟩)
    (c9 : PySem.W.codeIn K cd9 "Graph.__init__" = true)
    (k9 : PySem.W.keepIn K (.ref f9) = true)
    (a10 : PySem.W.findIn K (.ref gC) "put_edges" = some (some (.ref f10)))
    (i10 : PySem.W.isFn K (.ref f10) = true)
    (l10 : K.lookup f10 = some ⟨oc10, od10, .func (PySem.W.fnOf "put_edges" "Graph.put_edges" (defArgs s_g_put_edges) (defBody s_g_put_edges) (defScope s_g_put_edges) .none kV10 dc10 pm10 an10 cd10 ct10), sl10⟩)
    (c10 : PySem.W.codeIn K cd10 "Graph.put_edges" = true)
    (k10 : PySem.W.keepIn K (.ref f10) = true)
    (a11 : PySem.W.findIn K (.ref gC) "behind" = some (some (.ref f11)))
    (i11 : PySem.W.isFn K (.ref f11) = true)
    (l11 : K.lookup f11 = some ⟨oc11, od11, .func (PySem.W.fnOf "behind" "Graph.behind" (defArgs s_g_behind) (defBody s_g_behind) (defScope s_g_behind) .none kV11 dc11 pm11 an11 cd11 ct11), sl11⟩)
    (c11 : PySem.W.codeIn K cd11 "Graph.behind" = true)
    (k11 : PySem.W.keepIn K (.ref f11) = true)
    (a12 : PySem.W.findIn K (.ref gC) "sources" = some (some (.ref f12)))
    (i12 : PySem.W.isFn K (.ref f12) = true)
    (l12 : K.lookup f12 = some ⟨oc12, od12, .func (PySem.W.fnOf "sources" "Graph.sources" (defArgs s_g_sources) (defBody s_g_sources) (defScope s_g_sources) .none kV12 dc12 pm12 an12 cd12 ct12), sl12⟩)
    (c12 : PySem.W.codeIn K cd12 "Graph.sources" = true)
    (k12 : PySem.W.keepIn K (.ref f12) = true)
    (a13 : PySem.W.findIn K (.ref gC) "holding" = some (some (.ref f13)))
    (i13 : PySem.W.isFn K (.ref f13) = true)
    (l13 : K.lookup f13 = some ⟨oc13, od13, .func (PySem.W.fnOf "holding" "Graph.holding" (defArgs s_g_holding) (defBody s_g_holding) (defScope s_g_holding) .none kV13 dc13 pm13 an13 cd13 ct13), sl13⟩)
    (c13 : PySem.W.codeIn K cd13 "Graph.holding" = true)
    (k13 : PySem.W.keepIn K (.ref f13) = true)
    (a14 : PySem.W.findIn K (.ref gC) "targets" = some (some (.ref f14)))
    (i14 : PySem.W.isFn K (.ref f14) = true)
    (l14 : K.lookup f14 = some ⟨oc14, od14, .func (PySem.W.fnOf "targets" "Graph.targets" (defArgs s_g_targets) (defBody s_g_targets) (defScope s_g_targets) .none kV14 dc14 pm14 an14 cd14 ct14), sl14⟩)
    (c14 : PySem.W.codeIn K cd14 "Graph.targets" = true)
    (k14 : PySem.W.keepIn K (.ref f14) = true)
    (a15 : PySem.W.nsIn K mainGlobals "is_number" = some (some (.ref f15)))
    (l15 : K.lookup f15 = some ⟨oc15, od15, .func (PySem.W.fnOf "is_number" "is_number" (defArgs s_is_number) (defBody s_is_number) (defScope s_is_number) .none kV15 dc15 pm15 an15 cd15 ct15), sl15⟩)
    (c15 : PySem.W.codeIn K cd15 "is_number" = true)
    (k15 : PySem.W.keepIn K (.ref f15) = true)
    (a16 : PySem.W.nsIn K mainGlobals "is_thing" = some (some (.ref f16)))
    (l16 : K.lookup f16 = some ⟨oc16, od16, .func (PySem.W.fnOf "is_thing" "is_thing" (defArgs s_is_thing) (defBody s_is_thing) (defScope s_is_thing) .none kV16 dc16 pm16 an16 cd16 ct16), sl16⟩)
    (c16 : PySem.W.codeIn K cd16 "is_thing" = true)
    (k16 : PySem.W.keepIn K (.ref f16) = true)
    (a17 : PySem.W.nsIn K mainGlobals "is_edge" = some (some (.ref f17)))
    (l17 : K.lookup f17 = some ⟨oc17, od17, .func (PySem.W.fnOf "is_edge" "is_edge" (defArgs s_is_edge) (defBody s_is_edge) (defScope s_is_edge) .none kV17 dc17 pm17 an17 cd17 ct17), sl17⟩)
    (c17 : PySem.W.codeIn K cd17 "is_edge" = true)
    (k17 : PySem.W.keepIn K (.ref f17) = true)
    (a18 : PySem.W.nsIn K mainGlobals "_are_names" = some (some (.ref f18)))
    (l18 : K.lookup f18 = some ⟨oc18, od18, .func (PySem.W.fnOf "_are_names" "_are_names" (defArgs s_are_names) (defBody s_are_names) (defScope s_are_names) .none kV18 dc18 pm18 an18 cd18 ct18), sl18⟩)
    (c18 : PySem.W.codeIn K cd18 "_are_names" = true)
    (k18 : PySem.W.keepIn K (.ref f18) = true)
    (a19 : PySem.W.nsIn K mainGlobals "_are_edges" = some (some (.ref f19)))
    (l19 : K.lookup f19 = some ⟨oc19, od19, .func (PySem.W.fnOf "_are_edges" "_are_edges" (defArgs s_are_edges) (defBody s_are_edges) (defScope s_are_edges) .none kV19 dc19 pm19 an19 cd19 ct19), sl19⟩)
    (c19 : PySem.W.codeIn K cd19 "_are_edges" = true)
    (k19 : PySem.W.keepIn K (.ref f19) = true)
    (a20 : PySem.W.findIn K (.ref wC) "__init__" = some (some (.ref f20)))
    (i20 : PySem.W.isFn K (.ref f20) = true)
    (l20 : K.lookup f20 = some ⟨oc20, od20, .func (PySem.W.fnOf "__init__" "World.__init__" (defArgs s_w_init) (defBody s_w_init) (defScope s_w_init) .none kV20 dc20 pm20 an20 cd20 ct20), sl20⟩)
    (c20 : PySem.W.codeIn K cd20 "World.__init__" = true)
    (k20 : PySem.W.keepIn K (.ref f20) = true)
    (a21 : PySem.W.findIn K (.ref wC) "size" = some (some (.ref sp)))
    (pg21 : PySem.W.specialIn K (.ref sp) "__get__" = some (some (.builtin "property.__get__")))
    (pt21 : PySem.W.takesIn K (.ref sp) = some true)
    (pr21 : PySem.W.recIn K sp "property" = some (.ref f21 :: spr))
    (l21 : K.lookup f21 = some ⟨oc21, od21, .func (PySem.W.fnOf "size" "World.size" (defArgs s_w_size) (defBody s_w_size) (defScope s_w_size) .none kV21 dc21 pm21 an21 cd21 ct21), sl21⟩)
    (c21 : PySem.W.codeIn K cd21 "World.size" = true)
    (k21 : PySem.W.keepIn K (.ref f21) = true)
    (a22 : PySem.W.findIn K (.ref wC) "names" = some (some (.ref f22)))
    (i22 : PySem.W.isFn K (.ref f22) = true)
    (l22 : K.lookup f22 = some ⟨oc22, od22, .func (PySem.W.fnOf "names" "World.names" (defArgs s_w_names) (defBody s_w_names) (defScope s_w_names) .none kV22 dc22 pm22 an22 cd22 ct22), sl22⟩)
    (c22 : PySem.W.codeIn K cd22 "World.names" = true)
    (k22 : PySem.W.keepIn K (.ref f22) = true)
    (a23 : PySem.W.findIn K (.ref wC) "edges" = some (some (.ref f23)))
    (i23 : PySem.W.isFn K (.ref f23) = true)
    (l23 : K.lookup f23 = some ⟨oc23, od23, .func (PySem.W.fnOf "edges" "World.edges" (defArgs s_w_edges) (defBody s_w_edges) (defScope s_w_edges) .none kV23 dc23 pm23 an23 cd23 ct23), sl23⟩)
    (c23 : PySem.W.codeIn K cd23 "World.edges" = true)
    (k23 : PySem.W.keepIn K (.ref f23) = true)
    (a24 : PySem.W.findIn K (.ref wC) "graph" = some (some (.ref f24)))
    (i24 : PySem.W.isFn K (.ref f24) = true)
    (l24 : K.lookup f24 = some ⟨oc24, od24, .func (PySem.W.fnOf "graph" "World.graph" (defArgs s_w_graph) (defBody s_w_graph) (defScope s_w_graph) .none kV24 dc24 pm24 an24 cd24 ct24), sl24⟩)
    (c24 : PySem.W.codeIn K cd24 "World.graph" = true)
    (k24 : PySem.W.keepIn K (.ref f24) = true)
    (a25 : PySem.W.findIn K (.ref wC) "things_in" = some (some (.ref f25)))
    (i25 : PySem.W.isFn K (.ref f25) = true)
    (l25 : K.lookup f25 = some ⟨oc25, od25, .func (PySem.W.fnOf "things_in" "World.things_in" (defArgs s_w_things_in) (defBody s_w_things_in) (defScope s_w_things_in) .none kV25 dc25 pm25 an25 cd25 ct25), sl25⟩)
    (c25 : PySem.W.codeIn K cd25 "World.things_in" = true)
    (k25 : PySem.W.keepIn K (.ref f25) = true)
    (a26 : PySem.W.findIn K (.ref wC) "words" = some (some (.ref f26)))
    (i26 : PySem.W.isFn K (.ref f26) = true)
    (l26 : K.lookup f26 = some ⟨oc26, od26, .func (PySem.W.fnOf "words" "World.words" (defArgs s_w_words) (defBody s_w_words) (defScope s_w_words) .none kV26 dc26 pm26 an26 cd26 ct26), sl26⟩)
    (c26 : PySem.W.codeIn K cd26 "World.words" = true)
    (k26 : PySem.W.keepIn K (.ref f26) = true)
    (a27 : PySem.W.findIn K (.ref wC) "__len__" = some (some (.ref f27)))
    (i27 : PySem.W.isFn K (.ref f27) = true)
    (l27 : K.lookup f27 = some ⟨oc27, od27, .func (PySem.W.fnOf "__len__" "World.__len__" (defArgs s_w_len) (defBody s_w_len) (defScope s_w_len) .none kV27 dc27 pm27 an27 cd27 ct27), sl27⟩)
    (c27 : PySem.W.codeIn K cd27 "World.__len__" = true)
    (k27 : PySem.W.keepIn K (.ref f27) = true)
    (a28 : PySem.W.findIn K (.ref wC) "__iter__" = some (some (.ref f28)))
    (i28 : PySem.W.isFn K (.ref f28) = true)
    (l28 : K.lookup f28 = some ⟨oc28, od28, .func (PySem.W.fnOf "__iter__" "World.__iter__" (defArgs s_w_iter) (defBody s_w_iter) (defScope s_w_iter) .none kV28 dc28 pm28 an28 cd28 ct28), sl28⟩)
    (c28 : PySem.W.codeIn K cd28 "World.__iter__" = true)
    (k28 : PySem.W.keepIn K (.ref f28) = true)
    (a29 : PySem.W.findIn K (.ref wC) "__contains__" = some (some (.ref f29)))
    (i29 : PySem.W.isFn K (.ref f29) = true)
    (l29 : K.lookup f29 = some ⟨oc29, od29, .func (PySem.W.fnOf "__contains__" "World.__contains__" (defArgs s_w_contains) (defBody s_w_contains) (defScope s_w_contains) .none kV29 dc29 pm29 an29 cd29 ct29), sl29⟩)
    (c29 : PySem.W.codeIn K cd29 "World.__contains__" = true)
    (k29 : PySem.W.keepIn K (.ref f29) = true)
    (a30 : PySem.W.findIn K (.ref wC) "__eq__" = some (some (.ref f30)))
    (i30 : PySem.W.isFn K (.ref f30) = true)
    (l30 : K.lookup f30 = some ⟨oc30, od30, .func (PySem.W.fnOf "__eq__" "World.__eq__" (defArgs s_w_eq) (defBody s_w_eq) (defScope s_w_eq) .none kV30 dc30 pm30 an30 cd30 ct30), sl30⟩)
    (c30 : PySem.W.codeIn K cd30 "World.__eq__" = true)
    (k30 : PySem.W.keepIn K (.ref f30) = true)
    (a31 : PySem.W.nsIn K mainGlobals "need_world" = some (some (.ref f31)))
    (l31 : K.lookup f31 = some ⟨oc31, od31, .func (PySem.W.fnOf "need_world" "need_world" (defArgs s_need_world) (defBody s_need_world) (defScope s_need_world) .none kV31 dc31 pm31 an31 cd31 ct31), sl31⟩)
    (c31 : PySem.W.codeIn K cd31 "need_world" = true)
    (k31 : PySem.W.keepIn K (.ref f31) = true)
    (a32 : PySem.W.nsIn K mainGlobals "pair_edges" = some (some (.ref f32)))
    (l32 : K.lookup f32 = some ⟨oc32, od32, .func (PySem.W.fnOf "pair_edges" "pair_edges" (defArgs s_pair_edges) (defBody s_pair_edges) (defScope s_pair_edges) .none kV32 dc32 pm32 an32 cd32 ct32), sl32⟩)
    (c32 : PySem.W.codeIn K cd32 "pair_edges" = true)
    (k32 : PySem.W.keepIn K (.ref f32) = true)
    (a33 : PySem.W.nsIn K mainGlobals "product" = some (some (.ref f33)))
    (l33 : K.lookup f33 = some ⟨oc33, od33, .func (PySem.W.fnOf "product" "product" (defArgs s_product) (defBody s_product) (defScope s_product) .none kV33 dc33 pm33 an33 cd33 ct33), sl33⟩)
    (c33 : PySem.W.codeIn K cd33 "product" = true)
    (k33 : PySem.W.keepIn K (.ref f33) = true)
    (a34 : PySem.W.nsIn K mainGlobals "_law_cell_at" = some (some (.ref f34)))
    (l34 : K.lookup f34 = some ⟨oc34, od34, .func (PySem.W.fnOf "_law_cell_at" "_law_cell_at" (defArgs s_law_cell_at) (defBody s_law_cell_at) (defScope s_law_cell_at) .none kV34 dc34 pm34 an34 cd34 ct34), sl34⟩)
    (c34 : PySem.W.codeIn K cd34 "_law_cell_at" = true)
    (k34 : PySem.W.keepIn K (.ref f34) = true)
    (a35 : PySem.W.nsIn K mainGlobals "_law_draw" = some (some (.ref f35)))
    (l35 : K.lookup f35 = some ⟨oc35, od35, .func (PySem.W.fnOf "_law_draw" "_law_draw" (defArgs s_law_draw) (defBody s_law_draw) (defScope s_law_draw) .none kV35 dc35 pm35 an35 cd35 ct35), sl35⟩)
    (c35 : PySem.W.codeIn K cd35 "_law_draw" = true)
    (k35 : PySem.W.keepIn K (.ref f35) = true)
    (a36 : PySem.W.nsIn K mainGlobals "_law_number" = some (some (.ref f36)))
    (l36 : K.lookup f36 = some ⟨oc36, od36, .func (PySem.W.fnOf "_law_number" "_law_number" (defArgs s_law_number) (defBody s_law_number) (defScope s_law_number) .none kV36 dc36 pm36 an36 cd36 ct36), sl36⟩)
    (c36 : PySem.W.codeIn K cd36 "_law_number" = true)
    (k36 : PySem.W.keepIn K (.ref f36) = true)
    (a37 : PySem.W.nsIn K mainGlobals "_law_next" = some (some (.ref f37)))
    (l37 : K.lookup f37 = some ⟨oc37, od37, .func (PySem.W.fnOf "_law_next" "_law_next" (defArgs s_law_next) (defBody s_law_next) (defScope s_law_next) .none kV37 dc37 pm37 an37 cd37 ct37), sl37⟩)
    (c37 : PySem.W.codeIn K cd37 "_law_next" = true)
    (k37 : PySem.W.keepIn K (.ref f37) = true)
    (a38 : PySem.W.nsIn K mainGlobals "_law_pick" = some (some (.ref f38)))
    (l38 : K.lookup f38 = some ⟨oc38, od38, .func (PySem.W.fnOf "_law_pick" "_law_pick" (defArgs s_law_pick) (defBody s_law_pick) (defScope s_law_pick) .none kV38 dc38 pm38 an38 cd38 ct38), sl38⟩)
    (c38 : PySem.W.codeIn K cd38 "_law_pick" = true)
    (k38 : PySem.W.keepIn K (.ref f38) = true)
    (a39 : PySem.W.nsIn K mainGlobals "_law_word" = some (some (.ref f39)))
    (l39 : K.lookup f39 = some ⟨oc39, od39, .func (PySem.W.fnOf "_law_word" "_law_word" (defArgs s_law_word) (defBody s_law_word) (defScope s_law_word) .none kV39 dc39 pm39 an39 cd39 ct39), sl39⟩)
    (c39 : PySem.W.codeIn K cd39 "_law_word" = true)
    (k39 : PySem.W.keepIn K (.ref f39) = true)
    (a40 : PySem.W.nsIn K mainGlobals "_law_vocab" = some (some (.ref f40)))
    (l40 : K.lookup f40 = some ⟨oc40, od40, .func (PySem.W.fnOf "_law_vocab" "_law_vocab" (defArgs s_law_vocab) (defBody s_law_vocab) (defScope s_law_vocab) .none kV40 dc40 pm40 an40 cd40 ct40), sl40⟩)
    (c40 : PySem.W.codeIn K cd40 "_law_vocab" = true)
    (k40 : PySem.W.keepIn K (.ref f40) = true)
    (a41 : PySem.W.nsIn K mainGlobals "_law_atom" = some (some (.ref f41)))
    (l41 : K.lookup f41 = some ⟨oc41, od41, .func (PySem.W.fnOf "_law_atom" "_law_atom" (defArgs s_law_atom) (defBody s_law_atom) (defScope s_law_atom) .none kV41 dc41 pm41 an41 cd41 ct41), sl41⟩)
    (c41 : PySem.W.codeIn K cd41 "_law_atom" = true)
    (k41 : PySem.W.keepIn K (.ref f41) = true)
    (a42 : PySem.W.nsIn K mainGlobals "_law_concept" = some (some (.ref f42)))
    (l42 : K.lookup f42 = some ⟨oc42, od42, .func (PySem.W.fnOf "_law_concept" "_law_concept" (defArgs s_law_concept) (defBody s_law_concept) (defScope s_law_concept) .none kV42 dc42 pm42 an42 cd42 ct42), sl42⟩)
    (c42 : PySem.W.codeIn K cd42 "_law_concept" = true)
    (k42 : PySem.W.keepIn K (.ref f42) = true)
    (a43 : PySem.W.nsIn K mainGlobals "_law_marks" = some (some (.ref f43)))
    (l43 : K.lookup f43 = some ⟨oc43, od43, .func (PySem.W.fnOf "_law_marks" "_law_marks" (defArgs s_law_marks) (defBody s_law_marks) (defScope s_law_marks) .none kV43 dc43 pm43 an43 cd43 ct43), sl43⟩)
    (c43 : PySem.W.codeIn K cd43 "_law_marks" = true)
    (k43 : PySem.W.keepIn K (.ref f43) = true)
    (a44 : PySem.W.nsIn K mainGlobals "_law_world" = some (some (.ref f44)))
    (l44 : K.lookup f44 = some ⟨oc44, od44, .func (PySem.W.fnOf "_law_world" "_law_world" (defArgs s_law_world) (defBody s_law_world) (defScope s_law_world) .none kV44 dc44 pm44 an44 cd44 ct44), sl44⟩)
    (c44 : PySem.W.codeIn K cd44 "_law_world" = true)
    (k44 : PySem.W.keepIn K (.ref f44) = true)
    (a45 : PySem.W.nsIn K mainGlobals "_law_product" = some (some (.ref f45)))
    (l45 : K.lookup f45 = some ⟨oc45, od45, .func (PySem.W.fnOf "_law_product" "_law_product" (defArgs s_law_product) (defBody s_law_product) (defScope s_law_product) .none kV45 dc45 pm45 an45 cd45 ct45), sl45⟩)
    (c45 : PySem.W.codeIn K cd45 "_law_product" = true)
    (k45 : PySem.W.keepIn K (.ref f45) = true)
    (a46 : PySem.W.nsIn K mainGlobals "_law_same" = some (some (.ref f46)))
    (l46 : K.lookup f46 = some ⟨oc46, od46, .func (PySem.W.fnOf "_law_same" "_law_same" (defArgs s_law_same) (defBody s_law_same) (defScope s_law_same) .none kV46 dc46 pm46 an46 cd46 ct46), sl46⟩)
    (c46 : PySem.W.codeIn K cd46 "_law_same" = true)
    (k46 : PySem.W.keepIn K (.ref f46) = true)
    (a47 : PySem.W.nsIn K mainGlobals "law" = some (some (.ref f47)))
    (l47 : K.lookup f47 = some ⟨oc47, od47, .func (PySem.W.fnOf "law" "law" (defArgs s_law) (defBody s_law) (defScope s_law) .none kV47 dc47 pm47 an47 cd47 ct47), sl47⟩)
    (c47 : PySem.W.codeIn K cd47 "law" = true)
    (k47 : PySem.W.keepIn K (.ref f47) = true)
    (wne : PySem.W.findIn K (.ref wC) "__ne__" = some (some (.builtin "object.__ne__")))
    (wob : PySem.W.mroIn K wC (.type "object") = some true)
    (wcls : PySem.W.findIn K (.ref wC) "__class__" = some (some (.builtin "object.__class__")))
    (ocg : PySem.W.specialIn K (.builtin "object.__class__") "__get__" = some (some (.builtin "getset_descriptor.__get__")))
    (oct_ : PySem.W.takesIn K (.builtin "object.__class__") = some true)
    (aN : PySem.W.nsIn K mainGlobals "NO_WORDS" = some (some (.ref nw)))
    (lN : K.lookup nw = some ⟨.type "tuple", ddN, .seq #[.str "all" tk1, .str "none" tk2, .str "some" tk3] nN, slN⟩)
    (aL : PySem.W.nsIn K mainGlobals "LONGEST" = some (some (.int 12 tkL)))
    (aD : PySem.W.nsIn K mainGlobals "DEEPEST" = some (some (.int 100 tkD)))
    (z_isinstance : PySem.W.nsIn K mainGlobals "isinstance" = some none)
    (z_str : PySem.W.nsIn K mainGlobals "str" = some none)
    (z_len : PySem.W.nsIn K mainGlobals "len" = some none)
    (z_tuple : PySem.W.nsIn K mainGlobals "tuple" = some none)
    (z_list : PySem.W.nsIn K mainGlobals "list" = some none)
    (z_int : PySem.W.nsIn K mainGlobals "int" = some none)
    (z_bool : PySem.W.nsIn K mainGlobals "bool" = some none)
    (z_sorted : PySem.W.nsIn K mainGlobals "sorted" = some none)
    (z_range : PySem.W.nsIn K mainGlobals "range" = some none)
    (z_enumerate : PySem.W.nsIn K mainGlobals "enumerate" = some none)
    (z_all : PySem.W.nsIn K mainGlobals "all" = some none)
    (z_iter : PySem.W.nsIn K mainGlobals "iter" = some none) : Nonempty (Defs K mg) := by
  have F0 := fun_mk (st := s_is_word) l0 c0 k0
  have b0 := F0.binds (ps := ["thing"]) fun _ _ _ _ _ _ us hl => match us, hl with | [_], _ => rfl
  have F1 := fun_mk (st := s_is_concept) l1 c1 k1
  have b1 := F1.binds (ps := ["thing"]) fun _ _ _ _ _ _ us hl => match us, hl with | [_], _ => rfl
  have F2 := fun_mk (st := s_is_nested) l2 c2 k2
  have b2 := F2.binds (ps := ["thing", "levels"]) fun _ _ _ _ _ _ us hl => match us, hl with | [_, _], _ => rfl
  have F3 := fun_mk (st := s_need_concept) l3 c3 k3
  have b3 := F3.binds (ps := ["thing"]) fun _ _ _ _ _ _ us hl => match us, hl with | [_], _ => rfl
  have F4 := fun_mk (st := s_is_ascending) l4 c4 k4
  have b4 := F4.binds (ps := ["things"]) fun _ _ _ _ _ _ us hl => match us, hl with | [_], _ => rfl
  have F5 := fun_mk (st := s_are_words) l5 c5 k5
  have b5 := F5.binds (ps := ["thing"]) fun _ _ _ _ _ _ us hl => match us, hl with | [_], _ => rfl
  have F6 := fun_mk (st := s_inner) l6 c6 k6
  have b6 := F6.binds (ps := ["concept"]) fun _ _ _ _ _ _ us hl => match us, hl with | [_], _ => rfl
  have F7 := fun_mk (st := s_told_words) l7 c7 k7
  have b7 := F7.binds (ps := ["names", "roles"]) fun _ _ _ _ _ _ us hl => match us, hl with | [_, _], _ => rfl
  have F8 := fun_mk (st := s_bits) l8 c8 k8
  have b8 := F8.binds (ps := ["mask"]) fun _ _ _ _ _ _ us hl => match us, hl with | [_], _ => rfl
  have F9 := fun_mk (st := s_g_init) l9 c9 k9
  have b9 := F9.binds (ps := ["self", "names", "edges"]) fun _ _ _ _ _ _ us hl => match us, hl with | [_, _, _], _ => rfl
  have F10 := fun_mk (st := s_g_put_edges) l10 c10 k10
  have b10 := F10.binds (ps := ["self", "thing", "role", "ends"]) fun _ _ _ _ _ _ us hl => match us, hl with | [_, _, _, _], _ => rfl
  have F11 := fun_mk (st := s_g_behind) l11 c11 k11
  have b11 := F11.binds (ps := ["self", "role", "mask"]) fun _ _ _ _ _ _ us hl => match us, hl with | [_, _, _], _ => rfl
  have F12 := fun_mk (st := s_g_sources) l12 c12 k12
  have b12 := F12.binds (ps := ["self", "role"]) fun _ _ _ _ _ _ us hl => match us, hl with | [_, _], _ => rfl
  have F13 := fun_mk (st := s_g_holding) l13 c13 k13
  have b13 := F13.binds (ps := ["self", "concept"]) fun _ _ _ _ _ _ us hl => match us, hl with | [_, _], _ => rfl
  have F14 := fun_mk (st := s_g_targets) l14 c14 k14
  have b14 := F14.binds (ps := ["self", "role", "thing"]) fun _ _ _ _ _ _ us hl => match us, hl with | [_, _, _], _ => rfl
  have F15 := fun_mk (st := s_is_number) l15 c15 k15
  have b15 := F15.binds (ps := ["thing"]) fun _ _ _ _ _ _ us hl => match us, hl with | [_], _ => rfl
  have F16 := fun_mk (st := s_is_thing) l16 c16 k16
  have b16 := F16.binds (ps := ["thing", "many"]) fun _ _ _ _ _ _ us hl => match us, hl with | [_, _], _ => rfl
  have F17 := fun_mk (st := s_is_edge) l17 c17 k17
  have b17 := F17.binds (ps := ["thing", "many"]) fun _ _ _ _ _ _ us hl => match us, hl with | [_, _], _ => rfl
  have F18 := fun_mk (st := s_are_names) l18 c18 k18
  have b18 := F18.binds (ps := ["names"]) fun _ _ _ _ _ _ us hl => match us, hl with | [_], _ => rfl
  have F19 := fun_mk (st := s_are_edges) l19 c19 k19
  have b19 := F19.binds (ps := ["edges", "many"]) fun _ _ _ _ _ _ us hl => match us, hl with | [_, _], _ => rfl
  have F20 := fun_mk (st := s_w_init) l20 c20 k20
  have b20 := F20.binds (ps := ["self", "names", "edges"]) fun _ _ _ _ _ _ us hl => match us, hl with | [_, _, _], _ => rfl
  have F21 := fun_mk (st := s_w_size) l21 c21 k21
  have b21 := F21.binds (ps := ["self"]) fun _ _ _ _ _ _ us hl => match us, hl with | [_], _ => rfl
  have F22 := fun_mk (st := s_w_names) l22 c22 k22
  have b22 := F22.binds (ps := ["self"]) fun _ _ _ _ _ _ us hl => match us, hl with | [_], _ => rfl
  have F23 := fun_mk (st := s_w_edges) l23 c23 k23
  have b23 := F23.binds (ps := ["self"]) fun _ _ _ _ _ _ us hl => match us, hl with | [_], _ => rfl
  have F24 := fun_mk (st := s_w_graph) l24 c24 k24
  have b24 := F24.binds (ps := ["self"]) fun _ _ _ _ _ _ us hl => match us, hl with | [_], _ => rfl
  have F25 := fun_mk (st := s_w_things_in) l25 c25 k25
  have b25 := F25.binds (ps := ["self", "concept"]) fun _ _ _ _ _ _ us hl => match us, hl with | [_, _], _ => rfl
  have F26 := fun_mk (st := s_w_words) l26 c26 k26
  have b26 := F26.binds (ps := ["self"]) fun _ _ _ _ _ _ us hl => match us, hl with | [_], _ => rfl
  have F27 := fun_mk (st := s_w_len) l27 c27 k27
  have b27 := F27.binds (ps := ["self"]) fun _ _ _ _ _ _ us hl => match us, hl with | [_], _ => rfl
  have F28 := fun_mk (st := s_w_iter) l28 c28 k28
  have b28 := F28.binds (ps := ["self"]) fun _ _ _ _ _ _ us hl => match us, hl with | [_], _ => rfl
  have F29 := fun_mk (st := s_w_contains) l29 c29 k29
  have b29 := F29.binds (ps := ["self", "edge"]) fun _ _ _ _ _ _ us hl => match us, hl with | [_, _], _ => rfl
  have F30 := fun_mk (st := s_w_eq) l30 c30 k30
  have b30 := F30.binds (ps := ["self", "other"]) fun _ _ _ _ _ _ us hl => match us, hl with | [_, _], _ => rfl
  have F31 := fun_mk (st := s_need_world) l31 c31 k31
  have b31 := F31.binds (ps := ["thing"]) fun _ _ _ _ _ _ us hl => match us, hl with | [_], _ => rfl
  have F32 := fun_mk (st := s_pair_edges) l32 c32 k32
  have b32 := F32.binds (ps := ["ahead", "others_ahead", "many"]) fun _ _ _ _ _ _ us hl => match us, hl with | [_, _, _], _ => rfl
  have F33 := fun_mk (st := s_product) l33 c33 k33
  have b33 := F33.binds (ps := ["first", "second"]) fun _ _ _ _ _ _ us hl => match us, hl with | [_, _], _ => rfl
  have F34 := fun_mk (st := s_law_cell_at) l34 c34 k34
  have b34 := F34.binds (ps := ["script", "k"]) fun _ _ _ _ _ _ us hl => match us, hl with | [_, _], _ => rfl
  have F35 := fun_mk (st := s_law_draw) l35 c35 k35
  have b35 := F35.binds (ps := ["cell", "k", "bound"]) fun _ _ _ _ _ _ us hl => match us, hl with | [_, _, _], _ => rfl
  have F36 := fun_mk (st := s_law_number) l36 c36 k36
  have b36 := F36.binds (ps := ["cell", "k", "bound"]) fun _ _ _ _ _ _ us hl => match us, hl with | [_, _, _], _ => rfl
  have F37 := fun_mk (st := s_law_next) l37 c37 k37
  have b37 := F37.binds (ps := ["draw", "bound"]) fun _ _ _ _ _ _ us hl => match us, hl with | [_, _], _ => rfl
  have F38 := fun_mk (st := s_law_pick) l38 c38 k38
  have b38 := F38.binds (ps := ["draw", "things"]) fun _ _ _ _ _ _ us hl => match us, hl with | [_, _], _ => rfl
  have F39 := fun_mk (st := s_law_word) l39 c39 k39
  have b39 := F39.binds (ps := ["draw"]) fun _ _ _ _ _ _ us hl => match us, hl with | [_], _ => rfl
  have F40 := fun_mk (st := s_law_vocab) l40 c40 k40
  have b40 := F40.binds (ps := ["draw", "many"]) fun _ _ _ _ _ _ us hl => match us, hl with | [_, _], _ => rfl
  have F41 := fun_mk (st := s_law_atom) l41 c41 k41
  have b41 := F41.binds (ps := ["draw", "names"]) fun _ _ _ _ _ _ us hl => match us, hl with | [_, _], _ => rfl
  have F42 := fun_mk (st := s_law_concept) l42 c42 k42
  have b42 := F42.binds (ps := ["draw", "names", "roles", "deep"]) fun _ _ _ _ _ _ us hl => match us, hl with | [_, _, _, _], _ => rfl
  have F43 := fun_mk (st := s_law_marks) l43 c43 k43
  have b43 := F43.binds (ps := ["names", "edges", "concept"]) fun _ _ _ _ _ _ us hl => match us, hl with | [_, _, _], _ => rfl
  have F44 := fun_mk (st := s_law_world) l44 c44 k44
  have b44 := F44.binds (ps := ["draw", "names", "roles", "many"]) fun _ _ _ _ _ _ us hl => match us, hl with | [_, _, _, _], _ => rfl
  have F45 := fun_mk (st := s_law_product) l45 c45 k45
  have b45 := F45.binds (ps := ["one", "two"]) fun _ _ _ _ _ _ us hl => match us, hl with | [_, _], _ => rfl
  have F46 := fun_mk (st := s_law_same) l46 c46 k46
  have b46 := F46.binds (ps := ["world", "due", "concepts"]) fun _ _ _ _ _ _ us hl => match us, hl with | [_, _, _], _ => rfl
  have F47 := fun_mk (st := s_law) l47 c47 k47
  have b47 := F47.binds (ps := ["script"]) fun _ _ _ _ _ _ us hl => match us, hl with | [_], _ => rfl
  exact ⟨{
    gC := gC, wC := wC
    d_is_word := ⟨f0, _, F0, PySem.W.mg_of X G a0, b0⟩
    d_is_concept := ⟨f1, _, F1, PySem.W.mg_of X G a1, b1⟩
    d_is_nested := ⟨f2, _, F2, PySem.W.mg_of X G a2, b2⟩
    d_need_concept := ⟨f3, _, F3, PySem.W.mg_of X G a3, b3⟩
    d_is_ascending := ⟨f4, _, F4, PySem.W.mg_of X G a4, b4⟩
    d_are_words := ⟨f5, _, F5, PySem.W.mg_of X G a5, b5⟩
    d_inner := ⟨f6, _, F6, PySem.W.mg_of X G a6, b6⟩
    d_told_words := ⟨f7, _, F7, PySem.W.mg_of X G a7, b7⟩
    d_bits := ⟨f8, _, F8, PySem.W.mg_of X G a8, b8⟩
    d_g_init := ⟨f9, _, F9, ⟨a9, i9, k9⟩, b9⟩
    d_g_put_edges := ⟨f10, _, F10, ⟨a10, i10, k10⟩, b10⟩
    d_g_behind := ⟨f11, _, F11, ⟨a11, i11, k11⟩, b11⟩
    d_g_sources := ⟨f12, _, F12, ⟨a12, i12, k12⟩, b12⟩
    d_g_holding := ⟨f13, _, F13, ⟨a13, i13, k13⟩, b13⟩
    d_g_targets := ⟨f14, _, F14, ⟨a14, i14, k14⟩, b14⟩
    d_is_number := ⟨f15, _, F15, PySem.W.mg_of X G a15, b15⟩
    d_is_thing := ⟨f16, _, F16, PySem.W.mg_of X G a16, b16⟩
    d_is_edge := ⟨f17, _, F17, PySem.W.mg_of X G a17, b17⟩
    d_are_names := ⟨f18, _, F18, PySem.W.mg_of X G a18, b18⟩
    d_are_edges := ⟨f19, _, F19, PySem.W.mg_of X G a19, b19⟩
    d_w_init := ⟨f20, _, F20, ⟨a20, i20, k20⟩, b20⟩
    w_size_p := sp, w_size_f := f21, w_size_fd := _, w_size_F := F21, w_size_b := b21, w_size_at := ⟨a21, pg21, pt21, _, pr21⟩
    d_w_names := ⟨f22, _, F22, ⟨a22, i22, k22⟩, b22⟩
    d_w_edges := ⟨f23, _, F23, ⟨a23, i23, k23⟩, b23⟩
    d_w_graph := ⟨f24, _, F24, ⟨a24, i24, k24⟩, b24⟩
    d_w_things_in := ⟨f25, _, F25, ⟨a25, i25, k25⟩, b25⟩
    d_w_words := ⟨f26, _, F26, ⟨a26, i26, k26⟩, b26⟩
    d_w_len := ⟨f27, _, F27, ⟨a27, i27, k27⟩, b27⟩
    d_w_iter := ⟨f28, _, F28, ⟨a28, i28, k28⟩, b28⟩
    d_w_contains := ⟨f29, _, F29, ⟨a29, i29, k29⟩, b29⟩
    d_w_eq := ⟨f30, _, F30, ⟨a30, i30, k30⟩, b30⟩
    d_need_world := ⟨f31, _, F31, PySem.W.mg_of X G a31, b31⟩
    d_pair_edges := ⟨f32, _, F32, PySem.W.mg_of X G a32, b32⟩
    d_product := ⟨f33, _, F33, PySem.W.mg_of X G a33, b33⟩
    d_law_cell_at := ⟨f34, _, F34, PySem.W.mg_of X G a34, b34⟩
    d_law_draw := ⟨f35, _, F35, PySem.W.mg_of X G a35, b35⟩
    d_law_number := ⟨f36, _, F36, PySem.W.mg_of X G a36, b36⟩
    d_law_next := ⟨f37, _, F37, PySem.W.mg_of X G a37, b37⟩
    d_law_pick := ⟨f38, _, F38, PySem.W.mg_of X G a38, b38⟩
    d_law_word := ⟨f39, _, F39, PySem.W.mg_of X G a39, b39⟩
    d_law_vocab := ⟨f40, _, F40, PySem.W.mg_of X G a40, b40⟩
    d_law_atom := ⟨f41, _, F41, PySem.W.mg_of X G a41, b41⟩
    d_law_concept := ⟨f42, _, F42, PySem.W.mg_of X G a42, b42⟩
    d_law_marks := ⟨f43, _, F43, PySem.W.mg_of X G a43, b43⟩
    d_law_world := ⟨f44, _, F44, PySem.W.mg_of X G a44, b44⟩
    d_law_product := ⟨f45, _, F45, PySem.W.mg_of X G a45, b45⟩
    d_law_same := ⟨f46, _, F46, PySem.W.mg_of X G a46, b46⟩
    d_law := ⟨f47, _, F47, PySem.W.mg_of X G a47, b47⟩
    gC_m := PySem.W.mg_of X G m_gC, gC_cl := ⟨pg_gC, hd_gC, po_gC, sa_gC⟩, gC_mk := mk_gC, gC_kp := kp_gC
    gC_neverything := n_gCeverything, gC_nnamed := n_gCnamed, gC_nahead := n_gCahead, gC_n_sources := n_gC_sources
    wC_m := PySem.W.mg_of X G m_wC, wC_cl := ⟨pg_wC, hd_wC, po_wC, sa_wC⟩, wC_mk := mk_wC, wC_kp := kp_wC
    wC_n_names := n_wC_names, wC_n_edges := n_wC_edges, wC_n_known := n_wC_known, wC_n_graph := n_wC_graph
    wC_ne := wne, wC_ob := wob, wC_cls := wcls, oc_get := ocg, oc_tk := oct_
    law_b := fun _ _ => .of_eq rfl
    nw := nw, nw_m := PySem.W.mg_of X G aN
    nw_l := .inr ⟨_, _, _, lN, rfl, rfl, (by show 3 ≤ sizeLine; decide), .cons ⟨_, rfl⟩ (.cons ⟨_, rfl⟩ (.cons ⟨_, rfl⟩ .nil))⟩
    lo_m := ⟨_, PySem.W.mg_of X G aL⟩, de_m := ⟨_, PySem.W.mg_of X G aD⟩
    z_isinstance := PySem.W.mg_none_of X G z_isinstance
    z_str := PySem.W.mg_none_of X G z_str
    z_len := PySem.W.mg_none_of X G z_len
    z_tuple := PySem.W.mg_none_of X G z_tuple
    z_list := PySem.W.mg_none_of X G z_list
    z_int := PySem.W.mg_none_of X G z_int
    z_bool := PySem.W.mg_none_of X G z_bool
    z_sorted := PySem.W.mg_none_of X G z_sorted
    z_range := PySem.W.mg_none_of X G z_range
    z_enumerate := PySem.W.mg_none_of X G z_enumerate
    z_all := PySem.W.mg_none_of X G z_all
    z_iter := PySem.W.mg_none_of X G z_iter
  }⟩
end K1
namespace K1
open PySem L2
theorem walk {l : PySem.W.OpenLaw} {q : Program} {loose : List Str} {XP : (Str → Option Value) → Heap → Prop} {YP : World → Heap → Prop} {d : DefRec} {K : Params → PySem.W.Frag} (hn : l.most = some 63) (hdf : d.params.defaults = []) (hnm : d.name = "law")
    (hY : ∀ (w : World) (h : Heap), YP w h → (K w.params).In h)
    (F : ∀ (w : World) (mg : Str → Option Value) (h : Heap), (K w.params).In h → h.Ns mainGlobals mg → Nonempty (Defs (K w.params) mg)) :
    PySem.W.WalkO q loose XP YP l.row.toRowW d [] (fun f vs => PySem.call f vs) :=
  L2.walk_of (n := 63) (k := lawK) (x := "script") (CX := fun _ => CX0) (sp := fun w => spLaw (K w.params)) hn (by decide) hdf ⟨rfl, by decide, by decide⟩ hY
    (fun w mg fa h KX G hfa => by
      obtain ⟨D⟩ := F w mg h KX G
      rw [hnm] at hfa
      have e := hfa.symm.trans D.d_law.m
      cases e
      exact ⟨D.d_law.fd, D.law_b, fun base _ _ => ok_law D⟩)
    (fun _ _ a ns hl _ hS => ⟨a, ns, rfl, hS, hl, fun _ => rfl⟩) fun _ _ _ _ _ z => z
end K1
open PySem PySem.W PyProof.Rows
set_option maxRecDepth 100000 in
set_option maxHeartbeats 0 in
theorem PySem.Challenge.cw_conceptworlds_k02_whole_worlds_holds : PySem.Challenge.rw_conceptworlds_k02_whole_worlds.Holds := by
  w_on; o_law; k_head; (case hw => w_witness2)
  k_fill
  refine K1.walk (l := PySem.Challenge.rw_conceptworlds_k02_whole_worlds) rfl rfl rfl (fun w h Y => PySem.W.kIn_of Y) ?F
  case F =>
    intro w mg h KX G
    refine' K1.defs_mk KX G ?m_gC ?pg_gC ?hd_gC ?po_gC ?sa_gC ?mk_gC ?kp_gC ?n_gCeverything ?n_gCnamed ?n_gCahead ?n_gC_sources ?m_wC ?pg_wC ?hd_wC ?po_wC ?sa_wC ?mk_wC ?kp_wC ?n_wC_names ?n_wC_edges ?n_wC_known ?n_wC_graph ?a0 ?l0 ?c0 ?k0 ?a1 ?l1 ?c1 ?k1 ?a2 ?l2 ?c2 ?k2 ?a3 ?l3 ?c3 ?k3 ?a4 ?l4 ?c4 ?k4 ?a5 ?l5 ?c5 ?k5 ?a6 ?l6 ?c6 ?k6 ?a7 ?l7 ?c7 ?k7 ?a8 ?l8 ?c8 ?k8 ?a9 ?i9 ?l9 ?c9 ?k9 ?a10 ?i10 ?l10 ?c10 ?k10 ?a11 ?i11 ?l11 ?c11 ?k11 ?a12 ?i12 ?l12 ?c12 ?k12 ?a13 ?i13 ?l13 ?c13 ?k13 ?a14 ?i14 ?l14 ?c14 ?k14 ?a15 ?l15 ?c15 ?k15 ?a16 ?l16 ?c16 ?k16 ?a17 ?l17 ?c17 ?k17 ?a18 ?l18 ?c18 ?k18 ?a19 ?l19 ?c19 ?k19 ?a20 ?i20 ?l20 ?c20 ?k20 ?a21 ?pg21 ?pt21 ?pr21 ?l21 ?c21 ?k21 ?a22 ?i22 ?l22 ?c22 ?k22 ?a23 ?i23 ?l23 ?c23 ?k23 ?a24 ?i24 ?l24 ?c24 ?k24 ?a25 ?i25 ?l25 ?c25 ?k25 ?a26 ?i26 ?l26 ?c26 ?k26 ?a27 ?i27 ?l27 ?c27 ?k27 ?a28 ?i28 ?l28 ?c28 ?k28 ?a29 ?i29 ?l29 ?c29 ?k29 ?a30 ?i30 ?l30 ?c30 ?k30 ?a31 ?l31 ?c31 ?k31 ?a32 ?l32 ?c32 ?k32 ?a33 ?l33 ?c33 ?k33 ?a34 ?l34 ?c34 ?k34 ?a35 ?l35 ?c35 ?k35 ?a36 ?l36 ?c36 ?k36 ?a37 ?l37 ?c37 ?k37 ?a38 ?l38 ?c38 ?k38 ?a39 ?l39 ?c39 ?k39 ?a40 ?l40 ?c40 ?k40 ?a41 ?l41 ?c41 ?k41 ?a42 ?l42 ?c42 ?k42 ?a43 ?l43 ?c43 ?k43 ?a44 ?l44 ?c44 ?k44 ?a45 ?l45 ?c45 ?k45 ?a46 ?l46 ?c46 ?k46 ?a47 ?l47 ?c47 ?k47 ?wne ?wob ?wcls ?ocg ?oct_ ?aN ?lN ?aL ?aD ?z_isinstance ?z_str ?z_len ?z_tuple ?z_list ?z_int ?z_bool ?z_sorted ?z_range ?z_enumerate ?z_all ?z_iter
    (case m_gC => k_is)
    (case pg_gC => k_is)
    (case hd_gC => k_is)
    (case po_gC => k_is)
    (case sa_gC => k_is)
    (case mk_gC => k_is)
    (case kp_gC => k_is)
    (case n_gCeverything => k_is)
    (case n_gCnamed => k_is)
    (case n_gCahead => k_is)
    (case n_gC_sources => k_is)
    (case m_wC => k_is)
    (case pg_wC => k_is)
    (case hd_wC => k_is)
    (case po_wC => k_is)
    (case sa_wC => k_is)
    (case mk_wC => k_is)
    (case kp_wC => k_is)
    (case n_wC_names => k_is)
    (case n_wC_edges => k_is)
    (case n_wC_known => k_is)
    (case n_wC_graph => k_is)
    (case a0 => k_is)
    (case l0 => k_is)
    (case c0 => k_is)
    (case k0 => k_is)
    (case a1 => k_is)
    (case l1 => k_is)
    (case c1 => k_is)
    (case k1 => k_is)
    (case a2 => k_is)
    (case l2 => k_is)
    (case c2 => k_is)
    (case k2 => k_is)
    (case a3 => k_is)
    (case l3 => k_is)
    (case c3 => k_is)
    (case k3 => k_is)
    (case a4 => k_is)
    (case l4 => k_is)
    (case c4 => k_is)
    (case k4 => k_is)
    (case a5 => k_is)
    (case l5 => k_is)
    (case c5 => k_is)
    (case k5 => k_is)
    (case a6 => k_is)
    (case l6 => k_is)
    (case c6 => k_is)
    (case k6 => k_is)
    (case a7 => k_is)
    (case l7 => k_is)
    (case c7 => k_is)
    (case k7 => k_is)
    (case a8 => k_is)
    (case l8 => k_is)
    (case c8 => k_is)
    (case k8 => k_is)
    (case a9 => k_is)
    (case i9 => k_is)
    (case l9 => k_is)
    (case c9 => k_is)
    (case k9 => k_is)
    (case a10 => k_is)
    (case i10 => k_is)
    (case l10 => k_is)
    (case c10 => k_is)
    (case k10 => k_is)
    (case a11 => k_is)
    (case i11 => k_is)
    (case l11 => k_is)
    (case c11 => k_is)
    (case k11 => k_is)
    (case a12 => k_is)
    (case i12 => k_is)
    (case l12 => k_is)
    (case c12 => k_is)
    (case k12 => k_is)
    (case a13 => k_is)
    (case i13 => k_is)
    (case l13 => k_is)
    (case c13 => k_is)
    (case k13 => k_is)
    (case a14 => k_is)
    (case i14 => k_is)
    (case l14 => k_is)
    (case c14 => k_is)
    (case k14 => k_is)
    (case a15 => k_is)
    (case l15 => k_is)
    (case c15 => k_is)
    (case k15 => k_is)
    (case a16 => k_is)
    (case l16 => k_is)
    (case c16 => k_is)
    (case k16 => k_is)
    (case a17 => k_is)
    (case l17 => k_is)
    (case c17 => k_is)
    (case k17 => k_is)
    (case a18 => k_is)
    (case l18 => k_is)
    (case c18 => k_is)
    (case k18 => k_is)
    (case a19 => k_is)
    (case l19 => k_is)
    (case c19 => k_is)
    (case k19 => k_is)
    (case a20 => k_is)
    (case i20 => k_is)
    (case l20 => k_is)
    (case c20 => k_is)
    (case k20 => k_is)
    (case a21 => k_is)
    (case pg21 => k_is)
    (case pt21 => k_is)
    (case pr21 => k_is)
    (case l21 => k_is)
    (case c21 => k_is)
    (case k21 => k_is)
    (case a22 => k_is)
    (case i22 => k_is)
    (case l22 => k_is)
    (case c22 => k_is)
    (case k22 => k_is)
    (case a23 => k_is)
    (case i23 => k_is)
    (case l23 => k_is)
    (case c23 => k_is)
    (case k23 => k_is)
    (case a24 => k_is)
    (case i24 => k_is)
    (case l24 => k_is)
    (case c24 => k_is)
    (case k24 => k_is)
    (case a25 => k_is)
    (case i25 => k_is)
    (case l25 => k_is)
    (case c25 => k_is)
    (case k25 => k_is)
    (case a26 => k_is)
    (case i26 => k_is)
    (case l26 => k_is)
    (case c26 => k_is)
    (case k26 => k_is)
    (case a27 => k_is)
    (case i27 => k_is)
    (case l27 => k_is)
    (case c27 => k_is)
    (case k27 => k_is)
    (case a28 => k_is)
    (case i28 => k_is)
    (case l28 => k_is)
    (case c28 => k_is)
    (case k28 => k_is)
    (case a29 => k_is)
    (case i29 => k_is)
    (case l29 => k_is)
    (case c29 => k_is)
    (case k29 => k_is)
    (case a30 => k_is)
    (case i30 => k_is)
    (case l30 => k_is)
    (case c30 => k_is)
    (case k30 => k_is)
    (case a31 => k_is)
    (case l31 => k_is)
    (case c31 => k_is)
    (case k31 => k_is)
    (case a32 => k_is)
    (case l32 => k_is)
    (case c32 => k_is)
    (case k32 => k_is)
    (case a33 => k_is)
    (case l33 => k_is)
    (case c33 => k_is)
    (case k33 => k_is)
    (case a34 => k_is)
    (case l34 => k_is)
    (case c34 => k_is)
    (case k34 => k_is)
    (case a35 => k_is)
    (case l35 => k_is)
    (case c35 => k_is)
    (case k35 => k_is)
    (case a36 => k_is)
    (case l36 => k_is)
    (case c36 => k_is)
    (case k36 => k_is)
    (case a37 => k_is)
    (case l37 => k_is)
    (case c37 => k_is)
    (case k37 => k_is)
    (case a38 => k_is)
    (case l38 => k_is)
    (case c38 => k_is)
    (case k38 => k_is)
    (case a39 => k_is)
    (case l39 => k_is)
    (case c39 => k_is)
    (case k39 => k_is)
    (case a40 => k_is)
    (case l40 => k_is)
    (case c40 => k_is)
    (case k40 => k_is)
    (case a41 => k_is)
    (case l41 => k_is)
    (case c41 => k_is)
    (case k41 => k_is)
    (case a42 => k_is)
    (case l42 => k_is)
    (case c42 => k_is)
    (case k42 => k_is)
    (case a43 => k_is)
    (case l43 => k_is)
    (case c43 => k_is)
    (case k43 => k_is)
    (case a44 => k_is)
    (case l44 => k_is)
    (case c44 => k_is)
    (case k44 => k_is)
    (case a45 => k_is)
    (case l45 => k_is)
    (case c45 => k_is)
    (case k45 => k_is)
    (case a46 => k_is)
    (case l46 => k_is)
    (case c46 => k_is)
    (case k46 => k_is)
    (case a47 => k_is)
    (case l47 => k_is)
    (case c47 => k_is)
    (case k47 => k_is)
    (case wne => k_is)
    (case wob => k_is)
    (case wcls => k_is)
    (case ocg => k_is)
    (case oct_ => k_is)
    (case aN => k_is)
    (case lN => k_is)
    (case aL => k_is)
    (case aD => k_is)
    (case z_isinstance => k_is)
    (case z_str => k_is)
    (case z_len => k_is)
    (case z_tuple => k_is)
    (case z_list => k_is)
    (case z_int => k_is)
    (case z_bool => k_is)
    (case z_sorted => k_is)
    (case z_range => k_is)
    (case z_enumerate => k_is)
    (case z_all => k_is)
    (case z_iter => k_is)
#print axioms PySem.Challenge.cw_conceptworlds_k02_whole_worlds_holds
