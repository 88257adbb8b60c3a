import PyProof.Rows.All
import Wide.All
import OpenK.AllK
import Wide.FinOn
import HandS.ForMost
import HandS.More
import HandS.IsInst
import HandS.FStr
import HandS.Star
import HandS.Wide
import HandS.TupAny
import HandS.Walk
import HandS.Deep
import HandS.StrMore
import HandS.Exc
import HandS.ExcOwn
import HandS.TryOnly
import HandS.WordsExc
import HandS.Flow
import PySem.Challenge.RW_conceptworlds_k65_whole_texts
set_option Elab.async false
set_option maxRecDepth 100000
set_option linter.all false
namespace K1
open PySem L2
def top (i : Nat) : Stmt := PySem.Challenge.pw_conceptworlds_k65_whole_texts.main.body.getD i (.Pass ⟨0, 0, 0, 0⟩)
/-- a def of the program's top: where it stands, and that its name names it -/
structure Tx (K : PySem.W.Frag) (mg : Str → Option Value) (x : Str) (st : Stmt) (ps : List Str) : Type where
  f : Addr
  fd : FuncData
  F : Fun K x x st f fd
  m : mg x = some (.ref f)
  b : Binds K fd ps []
/-- a method of the class at C -/
structure Tm (K : PySem.W.Frag) (C : Addr) (x qual : Str) (st : Stmt) (ps : List Str) : Type where
  f : Addr
  fd : FuncData
  F : Fun K x qual st f fd
  me : Meth K C x f
  b : Binds K fd ps []
abbrev s_is_word : Stmt := top 8
theorem sc_is_word : FnScope ["thing", "sign"] ["thing"] (defScope s_is_word) := ⟨rfl, rfl, rfl, by decide +kernel, rfl, by decide +kernel, by decide +kernel⟩
abbrev s_is_concept : Stmt := top 9
theorem sc_is_concept : FnScope ["thing"] ["thing"] (defScope s_is_concept) := ⟨rfl, rfl, rfl, by decide +kernel, rfl, by decide +kernel, by decide +kernel⟩
abbrev s_is_nested : Stmt := top 10
theorem sc_is_nested : FnScope ["thing", "levels", "part"] ["thing", "levels"] (defScope s_is_nested) := ⟨rfl, rfl, rfl, by decide +kernel, rfl, by decide +kernel, by decide +kernel⟩
abbrev s_need_concept : Stmt := top 11
theorem sc_need_concept : FnScope ["thing"] ["thing"] (defScope s_need_concept) := ⟨rfl, rfl, rfl, by decide +kernel, rfl, by decide +kernel, by decide +kernel⟩
abbrev s_inner : Stmt := top 12
theorem sc_inner : FnScope ["concept"] ["concept"] (defScope s_inner) := ⟨rfl, rfl, rfl, by decide +kernel, rfl, by decide +kernel, by decide +kernel⟩
abbrev s_gather : Stmt := top 13
theorem sc_gather : FnScope ["concept", "found", "told", "pieces", "part", "piece"] ["concept", "found"] (defScope s_gather) := ⟨rfl, rfl, rfl, by decide +kernel, rfl, by decide +kernel, by decide +kernel⟩
abbrev s_text_of : Stmt := top 14
theorem sc_text_of : FnScope ["concept"] ["concept"] (defScope s_text_of) := ⟨rfl, rfl, rfl, by decide +kernel, rfl, by decide +kernel, by decide +kernel⟩
abbrev s_text : Stmt := top 15
theorem sc_text : FnScope ["concept"] ["concept"] (defScope s_text) := ⟨rfl, rfl, rfl, by decide +kernel, rfl, by decide +kernel, by decide +kernel⟩
abbrev s_r_init : Stmt := inClass (top 17) 0
theorem sc_r_init : FnScope ["self", "told"] ["self", "told"] (defScope s_r_init) := ⟨rfl, rfl, rfl, by decide +kernel, rfl, by decide +kernel, by decide +kernel⟩
abbrev s_r_read_all : Stmt := inClass (top 17) 1
theorem sc_r_read_all : FnScope ["self", "found"] ["self"] (defScope s_r_read_all) := ⟨rfl, rfl, rfl, by decide +kernel, rfl, by decide +kernel, by decide +kernel⟩
abbrev s_r_takes : Stmt := inClass (top 17) 2
theorem sc_r_takes : FnScope ["self", "sign", "found"] ["self", "sign"] (defScope s_r_takes) := ⟨rfl, rfl, rfl, by decide +kernel, rfl, by decide +kernel, by decide +kernel⟩
abbrev s_r_read_word : Stmt := inClass (top 17) 3
theorem sc_r_read_word : FnScope ["self", "start"] ["self"] (defScope s_r_read_word) := ⟨rfl, rfl, rfl, by decide +kernel, rfl, by decide +kernel, by decide +kernel⟩
abbrev s_r_read_items : Stmt := inClass (top 17) 4
theorem sc_r_read_items : FnScope ["self", "levels", "items"] ["self", "levels"] (defScope s_r_read_items) := ⟨rfl, rfl, rfl, by decide +kernel, rfl, by decide +kernel, by decide +kernel⟩
abbrev s_r_read_item : Stmt := inClass (top 17) 5
theorem sc_r_read_item : FnScope ["self", "levels", "found", "word", "role"] ["self", "levels"] (defScope s_r_read_item) := ⟨rfl, rfl, rfl, by decide +kernel, rfl, by decide +kernel, by decide +kernel⟩
abbrev s_read : Stmt := top 18
theorem sc_read : FnScope ["told", "found"] ["told"] (defScope s_read) := ⟨rfl, rfl, rfl, by decide +kernel, rfl, by decide +kernel, by decide +kernel⟩
abbrev s_law_cell_at : Stmt := top 20
theorem sc_law_cell_at : FnScope ["script", "k"] ["script", "k"] (defScope s_law_cell_at) := ⟨rfl, rfl, rfl, by decide +kernel, rfl, by decide +kernel, by decide +kernel⟩
abbrev s_law_draw : Stmt := top 21
theorem sc_law_draw : FnScope ["cell", "k", "bound", "primes"] ["cell", "k", "bound"] (defScope s_law_draw) := ⟨rfl, rfl, rfl, by decide +kernel, rfl, by decide +kernel, by decide +kernel⟩
abbrev s_law_number : Stmt := top 22
theorem sc_law_number : FnScope ["cell", "k", "bound", "power", "lap", "remains", "small"] ["cell", "k", "bound"] (defScope s_law_number) := ⟨rfl, rfl, rfl, by decide +kernel, rfl, by decide +kernel, by decide +kernel⟩
abbrev s_law_next : Stmt := top 23
theorem sc_law_next : FnScope ["draw", "bound", "at", "cell"] ["draw", "bound"] (defScope s_law_next) := ⟨rfl, rfl, rfl, by decide +kernel, rfl, by decide +kernel, by decide +kernel⟩
abbrev s_law_pick : Stmt := top 24
theorem sc_law_pick : FnScope ["draw", "things"] ["draw", "things"] (defScope s_law_pick) := ⟨rfl, rfl, rfl, by decide +kernel, rfl, by decide +kernel, by decide +kernel⟩
abbrev s_law_words : Stmt := top 25
theorem sc_law_words : FnScope ["draw", "many", "letters", "front", "rest", "found", "turn", "own", "at"] ["draw", "many"] (defScope s_law_words) := ⟨rfl, rfl, rfl, by decide +kernel, rfl, by decide +kernel, by decide +kernel⟩
abbrev s_law_alphabet : Stmt := top 26
theorem sc_law_alphabet : FnScope ["draw", "words", "names", "roles"] ["draw"] (defScope s_law_alphabet) := ⟨rfl, rfl, rfl, by decide +kernel, rfl, by decide +kernel, by decide +kernel⟩
abbrev s_law_concept : Stmt := top 27
theorem sc_law_concept : FnScope ["draw", "names", "roles", "deep", "kind", "many", "turn"] ["draw", "names", "roles", "deep"] (defScope s_law_concept) := ⟨rfl, rfl, rfl, by decide +kernel, rfl, by decide +kernel, by decide +kernel⟩
abbrev s_law_none : Stmt := top 28
theorem sc_law_none : FnScope ["draw", "concept", "odds", "kind"] ["draw", "concept", "odds"] (defScope s_law_none) := ⟨rfl, rfl, rfl, by decide +kernel, rfl, by decide +kernel, by decide +kernel⟩
abbrev s_law_text : Stmt := top 29
theorem sc_law_text : FnScope ["concept", "some", "part"] ["concept"] (defScope s_law_text) := ⟨rfl, rfl, rfl, by decide +kernel, rfl, by decide +kernel, by decide +kernel⟩
abbrev s_law_read : Stmt := top 30
theorem sc_law_read : FnScope ["told", "found"] ["told"] (defScope s_law_read) := ⟨rfl, rfl, rfl, by decide +kernel, rfl, by decide +kernel, by decide +kernel⟩
abbrev s_law_token : Stmt := top 31
theorem sc_law_token : FnScope ["told", "at", "end", "turn"] ["told", "at"] (defScope s_law_token) := ⟨rfl, rfl, rfl, by decide +kernel, rfl, by decide +kernel, by decide +kernel⟩
abbrev s_law_is_word : Stmt := top 32
theorem sc_law_is_word : FnScope ["word", "sign"] ["word"] (defScope s_law_is_word) := ⟨rfl, rfl, rfl, by decide +kernel, rfl, by decide +kernel, by decide +kernel⟩
abbrev s_law_is_and : Stmt := top 33
theorem sc_law_is_and : FnScope ["concept"] ["concept"] (defScope s_law_is_and) := ⟨rfl, rfl, rfl, by decide +kernel, rfl, by decide +kernel, by decide +kernel⟩
abbrev s_law_item : Stmt := top 34
theorem sc_law_item : FnScope ["told", "at", "depth", "word", "found", "behind", "role", "last"] ["told", "at", "depth"] (defScope s_law_item) := ⟨rfl, rfl, rfl, by decide +kernel, rfl, by decide +kernel, by decide +kernel⟩
abbrev s_law_whole : Stmt := top 35
theorem sc_law_whole : FnScope ["told", "at", "depth", "found", "here", "turn", "one"] ["told", "at", "depth"] (defScope s_law_whole) := ⟨rfl, rfl, rfl, by decide +kernel, rfl, by decide +kernel, by decide +kernel⟩
abbrev s_law_due : Stmt := top 36
theorem sc_law_due : FnScope ["told", "found"] ["told"] (defScope s_law_due) := ⟨rfl, rfl, rfl, by decide +kernel, rfl, by decide +kernel, by decide +kernel⟩
abbrev s_law : Stmt := top 37
theorem sc_law : FnScope ["script", "draw", "names", "roles", "turn", "concept", "told", "change", "at", "kind", "sign", "late", "one"] ["script"] (defScope s_law) := ⟨rfl, rfl, rfl, by decide +kernel, rfl, by decide +kernel, by decide +kernel⟩
/-- what the top has written -/
structure Defs (K : PySem.W.Frag) (mg : Str → Option Value) : Type where
  rC : Addr
  bT : Addr
  d_is_word : Tx K mg "is_word" s_is_word ["thing"]
  d_is_concept : Tx K mg "is_concept" s_is_concept ["thing"]
  d_is_nested : Tx K mg "_is_nested" s_is_nested ["thing", "levels"]
  d_need_concept : Tx K mg "need_concept" s_need_concept ["thing"]
  d_inner : Tx K mg "inner" s_inner ["concept"]
  d_gather : Tx K mg "gather" s_gather ["concept", "found"]
  d_text_of : Tx K mg "text_of" s_text_of ["concept"]
  d_text : Tx K mg "text" s_text ["concept"]
  d_r_init : Tm K rC "__init__" "Reader.__init__" s_r_init ["self", "told"]
  d_r_read_all : Tm K rC "read_all" "Reader.read_all" s_r_read_all ["self"]
  d_r_takes : Tm K rC "_takes" "Reader._takes" s_r_takes ["self", "sign"]
  d_r_read_word : Tm K rC "_read_word" "Reader._read_word" s_r_read_word ["self"]
  d_r_read_items : Tm K rC "_read_items" "Reader._read_items" s_r_read_items ["self", "levels"]
  d_r_read_item : Tm K rC "_read_item" "Reader._read_item" s_r_read_item ["self", "levels"]
  d_read : Tx K mg "read" s_read ["told"]
  d_law_cell_at : Tx K mg "_law_cell_at" s_law_cell_at ["script", "k"]
  d_law_draw : Tx K mg "_law_draw" s_law_draw ["cell", "k", "bound"]
  d_law_number : Tx K mg "_law_number" s_law_number ["cell", "k", "bound"]
  d_law_next : Tx K mg "_law_next" s_law_next ["draw", "bound"]
  d_law_pick : Tx K mg "_law_pick" s_law_pick ["draw", "things"]
  d_law_words : Tx K mg "_law_words" s_law_words ["draw", "many"]
  d_law_alphabet : Tx K mg "_law_alphabet" s_law_alphabet ["draw"]
  d_law_concept : Tx K mg "_law_concept" s_law_concept ["draw", "names", "roles", "deep"]
  d_law_none : Tx K mg "_law_none" s_law_none ["draw", "concept", "odds"]
  d_law_text : Tx K mg "_law_text" s_law_text ["concept"]
  d_law_read : Tx K mg "_law_read" s_law_read ["told"]
  d_law_token : Tx K mg "_law_token" s_law_token ["told", "at"]
  d_law_is_word : Tx K mg "_law_is_word" s_law_is_word ["word"]
  d_law_is_and : Tx K mg "_law_is_and" s_law_is_and ["concept"]
  d_law_item : Tx K mg "_law_item" s_law_item ["told", "at", "depth"]
  d_law_whole : Tx K mg "_law_whole" s_law_whole ["told", "at", "depth"]
  d_law_due : Tx K mg "_law_due" s_law_due ["told"]
  d_law : Tx K mg "law" s_law ["script"]
  rC_m : mg "Reader" = some (.ref rC)
  rC_cl : Cls K rC
  rC_mk : PySem.W.makesIn K rC = true
  rC_kp : PySem.W.keepIn K (.ref rC) = true
  rC_n_told : NoAttr K rC "_told"
  rC_n_at : NoAttr K rC "_at"
  bT_m : mg "BadText" = some (.ref bT)
  bT_x : PySem.W.excIn K bT [.type "ValueError", .type "Exception", .type "BaseException", .type "object"] "ValueError.__new__" = true
  bT_k : PySem.W.keepIn K (.ref bT) = true
  bT_b : PySem.W.subIn K (.ref bT) (.type "BaseException") = some true
  bT_t : PySem.W.typeIn K (.ref bT) = some (.type "type")
  bT_i : PySem.W.isClsIn K bT = true
  bT_s : PySem.W.subIn K (.ref bT) (.ref bT) = some true
  law_b : ∀ (s : Shared) (v : Value), BindsTo s d_law.fd ⟨[v], []⟩ [("script", v)]
  nw : Addr
  nw_m : mg "NO_WORDS" = some (.ref nw)
  nw_l : SqT K (fun _ => none) nw [.str "all", .str "none", .str "some"]
  lo_m : ∃ t, mg "LONGEST" = some (.int 12 t)
  de_m : ∃ t, mg "DEEPEST" = some (.int 100 t)
  z_isinstance : mg "isinstance" = none
  z_str : mg "str" = none
  z_len : mg "len" = none
  z_tuple : mg "tuple" = none
  z_int : mg "int" = none
  z_range : mg "range" = none
  z_all : mg "all" = none
end K1
namespace K1
open PySem L2
/-! ### the data: concepts as trees -/
inductive Con where
  | atom (s : Str)
  | ex (r : Str) (c : Con)
  | and2 (a b : Con)
  | and3 (a b c : Con)
abbrev cs (x : Str) : List Nat := x.cps.toList
theorem str_ext {a b : Str} (h : cs a = cs b) : a = b := by
  cases a; cases b
  simp only [cs, Array.toList_inj] at h
  rw [h]
def letters (l : List Nat) : Bool := l.all fun c => decide (97 ≤ c) && decide (c ≤ 122)
def noWords : List Str := ["all", "none", "some"]
def wordOk (s : Str) : Bool := decide (1 ≤ s.length) && decide (s.length ≤ 12) && !decide (s ∈ noWords) && letters (cs s)
def nest : Con → Nat
  | .atom _ => 0
  | .ex _ c => nest c + 1
  | .and2 a b => max (nest a) (nest b) + 1
  | .and3 a b c => max (nest a) (max (nest b) (nest c)) + 1
def nodes : Con → Nat
  | .atom _ => 1
  | .ex _ c => nodes c + 1
  | .and2 a b => nodes a + nodes b + 1
  | .and3 a b c => nodes a + (nodes b + nodes c) + 1
/-- the words of a concept are told ones -/
def In (N R : List Str) : Con → Prop
  | .atom s => s = "all" ∨ s = "none" ∨ s ∈ N
  | .ex r c => r ∈ R ∧ In N R c
  | .and2 a b => In N R a ∧ In N R b
  | .and3 a b c => In N R a ∧ In N R b ∧ In N R c
def Good (c : Con) : Prop := ∃ N R, (∀ x ∈ N, wordOk x = true) ∧ (∀ x ∈ R, wordOk x = true) ∧ In N R c
/-- texts -/
def isAnd : Con → Bool
  | .and2 _ _ => true
  | .and3 _ _ _ => true
  | _ => false
def wrap (b : Bool) (l : List Nat) : List Nat := if b then 40 :: (l ++ [41]) else l
def txt : Con → List Nat
  | .atom s => cs s
  | .ex r c => [115, 111, 109, 101, 32] ++ (cs r ++ (32 :: wrap (isAnd c) (txt c)))
  | .and2 a b => wrap (isAnd a) (txt a) ++ ([32, 38, 32] ++ wrap (isAnd b) (txt b))
  | .and3 a b c => wrap (isAnd a) (txt a) ++ ([32, 38, 32] ++ (wrap (isAnd b) (txt b) ++ ([32, 38, 32] ++ wrap (isAnd c) (txt c))))
abbrev par (c : Con) : List Nat := wrap (isAnd c) (txt c)
def End (x : List Nat) : Prop := ∀ c r, x = c :: r → c = 32 ∨ c = 41
theorem end_nil : End [] := fun _ _ h => nomatch h
theorem end_32 {x} : End (32 :: x) := fun c r h => .inl (by injection h with h _; exact h.symm)
theorem end_41 {x} : End (41 :: x) := fun c r h => .inr (by injection h with h _; exact h.symm)
theorem split_letters : ∀ {s t x y : List Nat}, letters s = true → letters t = true → End x → End y → s ++ x = t ++ y → s = t ∧ x = y
  | [], [], x, y, _, _, _, _, h => ⟨rfl, h⟩
  | [], d :: t, x, y, _, ht, ex, _, h => by
    simp [letters] at ht
    rcases ex d (t ++ y) h with rfl | rfl <;> omega
  | c :: s, [], x, y, hs, _, _, ey, h => by
    simp [letters] at hs
    rcases ey c (s ++ x) h.symm with rfl | rfl <;> omega
  | c :: s, d :: t, x, y, hs, ht, ex, ey, h => by
    simp only [List.cons_append, List.cons.injEq] at h
    simp only [letters, List.all_cons, Bool.and_eq_true] at hs ht
    obtain ⟨h1, h2⟩ := split_letters (s := s) (t := t) hs.2 ht.2 ex ey h.2
    exact ⟨by rw [h.1, h1], h2⟩
/-- what a word of a concept is -/
def Wd (s : Str) : Prop := letters (cs s) = true ∧ cs s ≠ [] ∧ cs s ≠ [115, 111, 109, 101]
def Wf : Con → Prop
  | .atom s => Wd s
  | .ex r c => Wd r ∧ Wf c
  | .and2 a b => Wf a ∧ Wf b
  | .and3 a b c => Wf a ∧ Wf b ∧ Wf c
theorem par_atom {s : Str} : par (.atom s) = cs s := rfl
theorem par_ex {r : Str} {c : Con} : par (.ex r c) = [115, 111, 109, 101, 32] ++ (cs r ++ (32 :: par c)) := rfl
theorem par_and2 {a b : Con} : par (.and2 a b) = 40 :: ((par a ++ ([32, 38, 32] ++ par b)) ++ [41]) := rfl
theorem par_and3 {a b c : Con} : par (.and3 a b c) = 40 :: ((par a ++ ([32, 38, 32] ++ (par b ++ ([32, 38, 32] ++ par c)))) ++ [41]) := rfl
theorem atom_ex {s r : Str} {c : Con} {x y : List Nat} (hs : Wd s) (ex : End x) (h : par (.atom s) ++ x = par (.ex r c) ++ y) : False := by
  rw [par_atom, par_ex] at h
  have h' : cs s ++ x = [115, 111, 109, 101] ++ (32 :: (cs r ++ (32 :: par c) ++ y)) := by rw [h]; simp
  exact hs.2.2 (split_letters hs.1 (by decide) ex end_32 h').1
theorem atom_40 {s : Str} {x y : List Nat} (hs : Wd s) (h : cs s ++ x = 40 :: y) : False := by
  cases e : cs s with
  | nil => exact hs.2.1 e
  | cons c l =>
    rw [e] at h
    have h1 := hs.1
    rw [e] at h1
    simp only [List.cons_append, List.cons.injEq] at h
    simp [letters] at h1
    omega
theorem par_inj : ∀ (a b : Con) (x y : List Nat), Wf a → Wf b → End x → End y → par a ++ x = par b ++ y → a = b ∧ x = y
  | .atom s, .atom t, x, y, ha, hb, ex, ey, h => by
    obtain ⟨h1, h2⟩ := split_letters (show letters (cs s) = true from ha.1) (show letters (cs t) = true from hb.1) ex ey h
    exact ⟨by rw [str_ext h1], h2⟩
  | .atom s, .ex r c, x, y, ha, _, ex, _, h => (atom_ex ha ex h).elim
  | .atom s, .and2 p q, x, y, ha, _, ex, _, h => (atom_40 ha (show cs s ++ x = 40 :: _ from h)).elim
  | .atom s, .and3 p q r, x, y, ha, _, ex, _, h => (atom_40 ha (show cs s ++ x = 40 :: _ from h)).elim
  | .ex r c, .atom t, x, y, _, hb, _, ey, h => (atom_ex hb ey h.symm).elim
  | .ex r c, .ex r' c', x, y, ha, hb, ex, ey, h => by
    rw [par_ex, par_ex] at h
    simp only [List.append_assoc, List.cons_append, List.nil_append, List.cons.injEq, true_and] at h
    obtain ⟨h1, h2⟩ := split_letters ha.1.1 hb.1.1 end_32 end_32 h
    simp only [List.cons.injEq, true_and] at h2
    obtain ⟨h3, h4⟩ := par_inj c c' x y ha.2 hb.2 ex ey h2
    exact ⟨by rw [str_ext h1, h3], h4⟩
  | .ex r c, .and2 p q, x, y, _, _, _, _, h => by
    rw [par_ex, par_and2] at h
    simp at h
  | .ex r c, .and3 p q s, x, y, _, _, _, _, h => by
    rw [par_ex, par_and3] at h
    simp at h
  | .and2 p q, .atom t, x, y, _, hb, _, ey, h => (atom_40 hb (show cs t ++ y = 40 :: _ from h.symm)).elim
  | .and2 p q, .ex r c, x, y, _, _, _, _, h => by
    rw [par_ex, par_and2] at h
    simp at h
  | .and2 p q, .and2 p' q', x, y, ha, hb, ex, ey, h => by
    rw [par_and2, par_and2] at h
    simp only [List.append_assoc, List.cons_append, List.nil_append, List.cons.injEq, true_and] at h
    obtain ⟨h1, h2⟩ := par_inj p p' _ _ ha.1 hb.1 end_32 end_32 h
    simp only [List.cons.injEq, true_and] at h2
    obtain ⟨h3, h4⟩ := par_inj q q' _ _ ha.2 hb.2 end_41 end_41 h2
    simp only [List.cons.injEq, true_and] at h4
    exact ⟨by rw [h1, h3], h4⟩
  | .and2 p q, .and3 p' q' s, x, y, ha, hb, ex, ey, h => by
    rw [par_and2, par_and3] at h
    simp only [List.append_assoc, List.cons_append, List.nil_append, List.cons.injEq, true_and] at h
    obtain ⟨h1, h2⟩ := par_inj p p' _ _ ha.1 hb.1 end_32 end_32 h
    simp only [List.cons.injEq, true_and] at h2
    obtain ⟨h3, h4⟩ := par_inj q q' _ _ ha.2 hb.2.1 end_41 end_32 h2
    simp at h4
  | .and3 p q s, .atom t, x, y, _, hb, _, ey, h => (atom_40 hb (show cs t ++ y = 40 :: _ from h.symm)).elim
  | .and3 p q s, .ex r c, x, y, _, _, _, _, h => by
    rw [par_ex, par_and3] at h
    simp at h
  | .and3 p q s, .and2 p' q', x, y, ha, hb, ex, ey, h => by
    rw [par_and2, par_and3] at h
    simp only [List.append_assoc, List.cons_append, List.nil_append, List.cons.injEq, true_and] at h
    obtain ⟨h1, h2⟩ := par_inj p p' _ _ ha.1 hb.1 end_32 end_32 h
    simp only [List.cons.injEq, true_and] at h2
    obtain ⟨h3, h4⟩ := par_inj q q' _ _ ha.2.1 hb.2 end_32 end_41 h2
    simp at h4
  | .and3 p q s, .and3 p' q' s', x, y, ha, hb, ex, ey, h => by
    rw [par_and3, par_and3] at h
    simp only [List.append_assoc, List.cons_append, List.nil_append, List.cons.injEq, true_and] at h
    obtain ⟨h1, h2⟩ := par_inj p p' _ _ ha.1 hb.1 end_32 end_32 h
    simp only [List.cons.injEq, true_and] at h2
    obtain ⟨h3, h4⟩ := par_inj q q' _ _ ha.2.1 hb.2.1 end_32 end_32 h2
    simp only [List.cons.injEq, true_and] at h4
    obtain ⟨h5, h6⟩ := par_inj s s' _ _ ha.2.2 hb.2.2 end_41 end_41 h4
    simp only [List.cons.injEq, true_and] at h6
    exact ⟨by rw [h1, h3, h5], h6⟩
/-- an and's text begins with its first part's and goes on with a blank -/
theorem txt_and {a : Con} (h : isAnd a = true) : ∃ p r, txt a = par p ++ (32 :: r) ∧ (Wf a → Wf p) := by
  cases a with
  | atom s => cases h
  | ex r c => cases h
  | and2 p q => exact ⟨p, 38 :: 32 :: par q, rfl, fun w => w.1⟩
  | and3 p q s => exact ⟨p, 38 :: 32 :: (par q ++ ([32, 38, 32] ++ par s)), rfl, fun w => w.1⟩
theorem par_no {c : Con} (h : isAnd c = false) : par c = txt c := by
  unfold par wrap
  rw [h]
  rfl
theorem txt_inj {a b : Con} (ha : Wf a) (hb : Wf b) (h : txt a = txt b) : a = b := by
  have key : ∀ c d : Con, Wf c → Wf d → isAnd c = true → isAnd d = false → txt c = txt d → False := by
    intro c d hc hd h1 h2 e
    obtain ⟨p, r, e1, w⟩ := txt_and h1
    have z : par p ++ (32 :: r) = par d ++ [] := by rw [List.append_nil, par_no h2, ← e, e1]
    have z2 := (par_inj p d _ _ (w hc) hd end_32 end_nil z).2
    cases z2
  cases h1 : isAnd a with
  | true =>
    cases h2 : isAnd b with
    | true =>
      have z : par a ++ [] = par b ++ [] := by
        unfold par wrap
        rw [h1, h2, h]
      exact (par_inj a b _ _ ha hb end_nil end_nil z).1
    | false => exact (key a b ha hb h1 h2 h).elim
  | false =>
    cases h2 : isAnd b with
    | true => exact (key b a hb ha h2 h1 h.symm).elim
    | false =>
      have z : par a ++ [] = par b ++ [] := by rw [List.append_nil, List.append_nil, par_no h1, par_no h2, h]
      exact (par_inj a b _ _ ha hb end_nil end_nil z).1
theorem wd_of {s : Str} (h : wordOk s = true) : Wd s := by
  unfold wordOk at h
  simp only [Bool.and_eq_true, decide_eq_true_eq, Bool.not_eq_true', decide_eq_false_iff_not] at h
  obtain ⟨⟨⟨h1, h2⟩, h3⟩, h4⟩ := h
  refine ⟨h4, fun e => ?_, fun e => ?_⟩
  · have : s.length = (cs s).length := rfl
    rw [e] at this
    simp at this
    omega
  · have : s = ("some" : Str) := str_ext (by rw [e]; decide +kernel)
    exact h3 (by rw [this]; decide +kernel)
theorem wf_of {N R : List Str} (hN : ∀ x ∈ N, wordOk x = true) (hR : ∀ x ∈ R, wordOk x = true) : ∀ {c : Con}, In N R c → Wf c
  | .atom s, h => by
    rcases h with h | h | h
    · rw [h]; exact ⟨by decide +kernel, by decide +kernel, by decide +kernel⟩
    · rw [h]; exact ⟨by decide +kernel, by decide +kernel, by decide +kernel⟩
    · exact wd_of (hN _ h)
  | .ex r c, h => ⟨wd_of (hR _ h.1), wf_of hN hR h.2⟩
  | .and2 a b, h => ⟨wf_of hN hR h.1, wf_of hN hR h.2⟩
  | .and3 a b c, h => ⟨wf_of hN hR h.1, wf_of hN hR h.2.1, wf_of hN hR h.2.2⟩
/-! ### ascending lists -/
def ltb (a b : Str) : Bool := PySem.Spec.ltCps (cs a) (cs b)
theorem ltc_irrefl : ∀ a : List Nat, PySem.Spec.ltCps a a = false
  | [] => rfl
  | a :: r => by simp [PySem.Spec.ltCps, ltc_irrefl r]
theorem ltc_trans : ∀ {a b c : List Nat}, PySem.Spec.ltCps a b = true → PySem.Spec.ltCps b c = true → PySem.Spec.ltCps a c = true
  | [], [], _, h, _ => by simp [PySem.Spec.ltCps] at h
  | [], _ :: _, [], _, h => by simp [PySem.Spec.ltCps] at h
  | [], _ :: _, _ :: _, _, _ => rfl
  | _ :: _, [], _, h, _ => by simp [PySem.Spec.ltCps] at h
  | _ :: _, _ :: _, [], _, h => by simp [PySem.Spec.ltCps] at h
  | a :: r, b :: t, c :: u, h1, h2 => by
    simp only [PySem.Spec.ltCps, Bool.or_eq_true, Bool.and_eq_true, decide_eq_true_eq, beq_iff_eq] at h1 h2 ⊢
    rcases h1 with h1 | ⟨rfl, h1⟩
    · rcases h2 with h2 | ⟨rfl, h2⟩
      · exact .inl (by omega)
      · exact .inl h1
    · rcases h2 with h2 | ⟨rfl, h2⟩
      · exact .inl h2
      · exact .inr ⟨rfl, ltc_trans h1 h2⟩
theorem ltc_total : ∀ {a b : List Nat}, PySem.Spec.ltCps a b = false → PySem.Spec.ltCps b a = false → a = b
  | [], [], _, _ => rfl
  | [], _ :: _, h, _ => by simp [PySem.Spec.ltCps] at h
  | _ :: _, [], _, h => by simp [PySem.Spec.ltCps] at h
  | a :: r, b :: t, h1, h2 => by
    simp only [PySem.Spec.ltCps, Bool.or_eq_false_iff, Bool.and_eq_false_imp, decide_eq_false_iff_not, beq_iff_eq] at h1 h2
    have e : a = b := by omega
    subst e
    rw [ltc_total (h1.2 rfl) (h2.2 rfl)]
theorem ltb_irrefl (a : Str) : ltb a a = false := ltc_irrefl _
theorem ltb_trans {a b c : Str} (h : ltb a b = true) (h' : ltb b c = true) : ltb a c = true := ltc_trans h h'
theorem ltb_total {a b : Str} (h : ltb a b = false) (h' : ltb b a = false) : a = b := str_ext (ltc_total h h')
theorem leb_trans {a b c : Str} (h : ltb b a = false) (h' : ltb c b = false) : ltb c a = false := by
  cases q : ltb c a with
  | false => rfl
  | true =>
    cases q2 : ltb b c with
    | true => rw [ltb_trans q2 q] at h; cases h
    | false =>
      have e := ltb_total h' q2
      subst e
      rw [h] at q
      cases q
def Asc (l : List Str) : Prop := l.Pairwise fun a b => ltb a b = true
def Weak (l : List Str) : Prop := l.Pairwise fun a b => ltb b a = false
theorem rising_weak : ∀ {p : Str} {l : List Str}, PyProof.Rows.risingS p l = true → Weak (p :: l)
  | p, [], _ => List.pairwise_singleton _ _
  | p, x :: r, h => by
    unfold PyProof.Rows.risingS at h
    simp only [Bool.and_eq_true, Bool.not_eq_true'] at h
    have ih := rising_weak h.2
    refine List.pairwise_cons.mpr ⟨fun y hy => ?_, ih⟩
    rcases List.mem_cons.mp hy with rfl | hy
    · exact h.1
    · exact leb_trans h.1 ((List.pairwise_cons.mp ih).1 y hy)
theorem weak_of {l : List Str} (h : PyProof.Rows.sortedS l = true) : Weak l := by
  cases l with
  | nil => exact List.Pairwise.nil
  | cons x r => exact rising_weak h
theorem asc_of {l : List Str} (h : Weak l) (nd : l.Nodup) : Asc l := by
  refine (h.and nd).imp ?_
  intro a b ⟨h1, h2⟩
  cases q : ltb a b with
  | true => rfl
  | false => exact (h2 (ltb_total q h1)).elim
theorem asc_uniq : ∀ {l m : List Str}, Asc l → Asc m → (∀ x, x ∈ l ↔ x ∈ m) → l = m
  | [], [], _, _, _ => rfl
  | [], y :: m, _, _, h => absurd ((h y).mpr (List.mem_cons_self ..)) (by simp)
  | x :: l, [], _, _, h => absurd ((h x).mp (List.mem_cons_self ..)) (by simp)
  | x :: l, y :: m, h1, h2, h => by
    have a1 := List.pairwise_cons.mp h1
    have a2 := List.pairwise_cons.mp h2
    have e : x = y := by
      rcases List.mem_cons.mp ((h x).mp (List.mem_cons_self ..)) with e | e
      · exact e
      · rcases List.mem_cons.mp ((h y).mpr (List.mem_cons_self ..)) with e' | e'
        · exact e'.symm
        · have q := ltb_trans (a1.1 y e') (a2.1 x e)
          rw [ltb_irrefl] at q
          cases q
    subst e
    rw [asc_uniq a1.2 a2.2 fun z => ?_]
    constructor
    · intro hz
      rcases List.mem_cons.mp ((h z).mp (List.mem_cons_of_mem _ hz)) with e | e
      · subst e
        have q := a1.1 z hz
        rw [ltb_irrefl] at q
        cases q
      · exact e
    · intro hz
      rcases List.mem_cons.mp ((h z).mpr (List.mem_cons_of_mem _ hz)) with e | e
      · subst e
        have q := a2.1 z hz
        rw [ltb_irrefl] at q
        cases q
      · exact e
/-! ### sizes -/
theorem nest_le_nodes : ∀ c : Con, nest c ≤ nodes c
  | .atom _ => Nat.zero_le _
  | .ex _ c => Nat.succ_le_succ (nest_le_nodes c)
  | .and2 a b => by have := nest_le_nodes a; have := nest_le_nodes b; unfold nest nodes; omega
  | .and3 a b c => by have := nest_le_nodes a; have := nest_le_nodes b; have := nest_le_nodes c; unfold nest nodes; omega
theorem nodes_pos : ∀ c : Con, 1 ≤ nodes c
  | .atom _ => Nat.le_refl _
  | .ex _ c => by unfold nodes; omega
  | .and2 a b => by unfold nodes; omega
  | .and3 a b c => by unfold nodes; omega
theorem word_len {s : Str} (h : wordOk s = true) : (cs s).length ≤ 12 := by
  unfold wordOk at h
  simp only [Bool.and_eq_true, decide_eq_true_eq] at h
  exact h.1.1.2
theorem wrap_len (b : Bool) (l : List Nat) : (wrap b l).length ≤ l.length + 2 := by
  unfold wrap
  split <;> simp
theorem txt_len {N R : List Str} (hN : ∀ x ∈ N, wordOk x = true) (hR : ∀ x ∈ R, wordOk x = true) : ∀ {c : Con}, In N R c → (txt c).length + 2 ≤ 24 * nodes c
  | .atom s, h => by
    have : (cs s).length ≤ 12 := by
      rcases h with h | h | h
      · rw [h]; decide +kernel
      · rw [h]; decide +kernel
      · exact word_len (hN _ h)
    simp only [txt, nodes]
    omega
  | .ex r c, h => by
    have := txt_len hN hR h.2
    have := word_len (hR _ h.1)
    have := wrap_len (isAnd c) (txt c)
    simp only [txt, nodes, List.length_append, List.length_cons, List.length_nil]
    omega
  | .and2 a b, h => by
    have := txt_len hN hR h.1
    have := txt_len hN hR h.2
    have := wrap_len (isAnd a) (txt a)
    have := wrap_len (isAnd b) (txt b)
    simp only [txt, nodes, List.length_append, List.length_cons, List.length_nil]
    omega
  | .and3 a b c, h => by
    have := txt_len hN hR h.1
    have := txt_len hN hR h.2.1
    have := txt_len hN hR h.2.2
    have := wrap_len (isAnd a) (txt a)
    have := wrap_len (isAnd b) (txt b)
    have := wrap_len (isAnd c) (txt c)
    simp only [txt, nodes, List.length_append, List.length_cons, List.length_nil]
    omega
/-! ### parts, depth, size, words -/
def prt : Con → List Con
  | .atom s => [.atom s]
  | .ex r c => .ex r c :: prt c
  | .and2 a b => .and2 a b :: (prt a ++ prt b)
  | .and3 a b c => .and3 a b c :: (prt a ++ (prt b ++ prt c))
theorem prt_len : ∀ c : Con, (prt c).length = nodes c
  | .atom _ => rfl
  | .ex r c => by simp [prt, nodes, prt_len c]
  | .and2 a b => by simp [prt, nodes, prt_len a, prt_len b]
  | .and3 a b c => by simp [prt, nodes, prt_len a, prt_len b, prt_len c]
theorem prt_self : ∀ c : Con, c ∈ prt c
  | .atom _ => by simp [prt]
  | .ex r c => by simp [prt]
  | .and2 a b => by simp [prt]
  | .and3 a b c => by simp [prt]
theorem prt_in {N R : List Str} : ∀ {c : Con}, In N R c → ∀ p ∈ prt c, In N R p
  | .atom s, h, p, hp => by simp only [prt, List.mem_singleton] at hp; subst hp; exact h
  | .ex r c, h, p, hp => by
    simp only [prt, List.mem_cons] at hp
    rcases hp with rfl | hp
    · exact h
    · exact prt_in h.2 p hp
  | .and2 a b, h, p, hp => by
    simp only [prt, List.mem_cons, List.mem_append] at hp
    rcases hp with rfl | hp | hp
    · exact h
    · exact prt_in h.1 p hp
    · exact prt_in h.2 p hp
  | .and3 a b c, h, p, hp => by
    simp only [prt, List.mem_cons, List.mem_append] at hp
    rcases hp with rfl | hp | hp | hp
    · exact h
    · exact prt_in h.1 p hp
    · exact prt_in h.2.1 p hp
    · exact prt_in h.2.2 p hp
def dep : Con → Int
  | .atom _ => 0
  | .ex _ c => dep c + 1
  | .and2 a b => max (dep a) (dep b)
  | .and3 a b c => max (dep a) (max (dep b) (dep c))
theorem dep_nn : ∀ c : Con, 0 ≤ dep c
  | .atom _ => Int.le_refl _
  | .ex _ c => by have := dep_nn c; unfold dep; omega
  | .and2 a b => by have := dep_nn a; unfold dep; omega
  | .and3 a b c => by have := dep_nn a; unfold dep; omega
def siz : Con → Int
  | .atom s => if s = "all" ∨ s = "none" then 0 else 1
  | .ex _ c => 1 + siz c
  | .and2 a b => siz a + siz b
  | .and3 a b c => siz a + siz b + siz c
/-- a name that a concept is -/
def isName (s : Str) : Prop := ¬ (s = "all" ∨ s = "none")
def nms : Con → List Str
  | .atom s => if s = "all" ∨ s = "none" then [] else [s]
  | .ex _ c => nms c
  | .and2 a b => nms a ++ nms b
  | .and3 a b c => nms a ++ (nms b ++ nms c)
def rls : Con → List Str
  | .atom _ => []
  | .ex r c => r :: rls c
  | .and2 a b => rls a ++ rls b
  | .and3 a b c => rls a ++ (rls b ++ rls c)
theorem nms_in {N R : List Str} : ∀ {c : Con}, In N R c → ∀ x ∈ nms c, x ∈ N
  | .atom s, h, x, hx => by
    unfold nms at hx
    split at hx
    · simp at hx
    · rename_i q
      simp only [List.mem_singleton] at hx
      subst hx
      rcases h with h | h | h
      · exact (q (.inl h)).elim
      · exact (q (.inr h)).elim
      · exact h
  | .ex r c, h, x, hx => nms_in h.2 x hx
  | .and2 a b, h, x, hx => by
    simp only [nms, List.mem_append] at hx
    rcases hx with hx | hx
    · exact nms_in h.1 x hx
    · exact nms_in h.2 x hx
  | .and3 a b c, h, x, hx => by
    simp only [nms, List.mem_append] at hx
    rcases hx with hx | hx | hx
    · exact nms_in h.1 x hx
    · exact nms_in h.2.1 x hx
    · exact nms_in h.2.2 x hx
theorem rls_in {N R : List Str} : ∀ {c : Con}, In N R c → ∀ x ∈ rls c, x ∈ R
  | .atom s, h, x, hx => by simp [rls] at hx
  | .ex r c, h, x, hx => by
    simp only [rls, List.mem_cons] at hx
    rcases hx with rfl | hx
    · exact h.1
    · exact rls_in h.2 x hx
  | .and2 a b, h, x, hx => by
    simp only [rls, List.mem_append] at hx
    rcases hx with hx | hx
    · exact rls_in h.1 x hx
    · exact rls_in h.2 x hx
  | .and3 a b c, h, x, hx => by
    simp only [rls, List.mem_append] at hx
    rcases hx with hx | hx | hx
    · exact rls_in h.1 x hx
    · exact rls_in h.2.1 x hx
    · exact rls_in h.2.2 x hx
/-- a list without repeats whose members are all in another one is no longer than it -/
theorem nodup_le : ∀ {l m : List Str}, l.Nodup → (∀ x ∈ l, x ∈ m) → l.length ≤ m.length
  | [], _, _, _ => Nat.zero_le _
  | x :: l, m, nd, h => by
    have h1 := List.nodup_cons.mp nd
    have hx := h x (List.mem_cons_self ..)
    have ih := nodup_le (l := l) (m := m.erase x) h1.2 fun y hy => by
      have ne : y ≠ x := fun e => h1.1 (e ▸ hy)
      exact (List.mem_erase_of_ne ne).mpr (h y (List.mem_cons_of_mem _ hy))
    rw [List.length_erase_of_mem hx] at ih
    have pos : 0 < m.length := List.length_pos_of_mem hx
    rw [List.length_cons]
    omega
end K1
namespace K1
open PySem L2
/-! ### what stands in the heap -/
theorem same_new {H : Hp} {p : Addr} (h : H p = none) (o : HO) : Same H (upd H p o) := fun b u q => by rw [upd_ne (ne_of_none q h)]; exact q
theorem Same.tup {H H' : Hp} {K : PySem.W.Frag} {a : Addr} {xs : List V} (e : Same H H') (h : SqT K H a xs) : SqT K H' a xs := by
  rcases h with (h | ⟨o, h⟩) | h
  · exact .inl (.inl (e _ _ h))
  · exact .inl (.inr ⟨o, e _ _ h⟩)
  · exact .inr h
theorem sqt_k {H' : Hp} {K : PySem.W.Frag} {a : Addr} {xs : List V} (h : SqT K (fun _ => none) a xs) : SqT K H' a xs := by
  rcases h with (h | ⟨o, h⟩) | h
  · cases h
  · cases h
  · exact .inr h
theorem take_more {α : Type} : ∀ {l : List α} {i : Nat} {x : α}, l[i]? = some x → l.take (i + 1) = l.take i ++ [x]
  | [], i, x, h => by simp at h
  | a :: l, 0, x, h => by
    have e : a = x := Option.some.inj h
    subst e
    rfl
  | a :: l, i + 1, x, h => by
    have ih := take_more (l := l) (i := i) (x := x) h
    show a :: l.take (i + 1) = a :: l.take i ++ [x]
    rw [ih]
    rfl
theorem paired_get {α β : Type} {F : α → β → Prop} : ∀ {xs : List α} {us : List β} {i : Nat} {u : β}, Paired F xs us → us[i]? = some u → ∃ x, xs[i]? = some x ∧ F x u
  | _, _, _, _, .nil, e => by simp at e
  | _, _, 0, _, .cons r _, e => by simp at e; subst e; exact ⟨_, rfl, r⟩
  | _, _, i + 1, u, .cons _ t, e => by
    obtain ⟨x, h1, h2⟩ := paired_get (i := i) (u := u) t (by simpa using e)
    exact ⟨x, by simpa using h1, h2⟩
theorem paired_get2 {α β : Type} {F : α → β → Prop} : ∀ {xs : List α} {us : List β} {i : Nat} {x : α}, Paired F xs us → xs[i]? = some x → ∃ u, us[i]? = some u ∧ F x u
  | _, _, _, _, .nil, e => by simp at e
  | _, _, 0, _, .cons r _, e => by simp at e; subst e; exact ⟨_, rfl, r⟩
  | _, _, i + 1, x, .cons _ t, e => by
    obtain ⟨u, h1, h2⟩ := paired_get2 (i := i) (x := x) t (by simpa using e)
    exact ⟨u, by simpa using h1, h2⟩
theorem paired_len {α β : Type} {F : α → β → Prop} : ∀ {xs : List α} {us : List β}, Paired F xs us → xs.length = us.length
  | _, _, .nil => rfl
  | _, _, .cons _ t => by simp [paired_len t]
theorem paired_snoc {α β : Type} {F : α → β → Prop} {x : α} {u : β} (h : F x u) : ∀ {xs : List α} {us : List β}, Paired F xs us → Paired F (xs ++ [x]) (us ++ [u])
  | _, _, .nil => .cons h .nil
  | _, _, .cons r t => .cons r (paired_snoc h t)
/-- a value that isinstance may be asked of -/
def Pl (H : Hp) : V → Prop
  | .non => True
  | .bl _ => True
  | .int _ => True
  | .str s => s.length ≤ 1000
  | .ref a => (∃ xs, H a = some (.lst xs)) ∨ ∃ xs, H a = some (.tup xs)
  | _ => False
theorem Pl.same {H H' : Hp} (e : Same H H') : ∀ {v : V}, Pl H v → Pl H' v
  | .non, h => h
  | .bl _, h => h
  | .int _, h => h
  | .str _, h => h
  | .ref a, h => by
    rcases h with ⟨xs, h⟩ | ⟨xs, h⟩
    · exact .inl ⟨xs, e _ _ h⟩
    · exact .inr ⟨xs, e _ _ h⟩
  | .byt _, h => h.elim
  | .flt _, h => h.elim
  | .ty _, h => h.elim
def isStr : V → Bool
  | .str _ => true
  | _ => false
def isTup (H : Hp) : V → Bool
  | .ref a => match H a with
    | some (.tup _) => true
    | _ => false
  | _ => false
theorem kbs1 : kitB "NoneType" "str" = some false := by decide +kernel
theorem kbs2 : kitB "bool" "str" = some false := by decide +kernel
theorem kbs3 : kitB "int" "str" = some false := by decide +kernel
theorem kbs4 : kitB "str" "str" = some true := by decide +kernel
theorem kbs5 : kitB "list" "str" = some false := by decide +kernel
theorem kbs6 : kitB "tuple" "str" = some false := by decide +kernel
theorem kbt1 : kitB "NoneType" "tuple" = some false := by decide +kernel
theorem kbt2 : kitB "bool" "tuple" = some false := by decide +kernel
theorem kbt3 : kitB "int" "tuple" = some false := by decide +kernel
theorem kbt4 : kitB "str" "tuple" = some false := by decide +kernel
theorem kbt5 : kitB "list" "tuple" = some false := by decide +kernel
theorem kbt6 : kitB "tuple" "tuple" = some true := by decide +kernel
theorem isTup_lst {H : Hp} {a : Addr} {xs : List V} (h : H a = some (.lst xs)) : isTup H (.ref a) = false := by simp [isTup, h]
theorem isTup_tup {H : Hp} {a : Addr} {xs : List V} (h : H a = some (.tup xs)) : isTup H (.ref a) = true := by simp [isTup, h]
theorem pl_str {K : PySem.W.Frag} {H : Hp} : ∀ {v : V}, Pl H v → ∃ t, TyX K H v t ∧ PySem.W.kitOne K t (.type "str") = some (isStr v)
  | .non, _ => ⟨_, .base .non, kit_ty kbs1⟩
  | .bl b, _ => ⟨_, .base (.bl b), kit_ty kbs2⟩
  | .int i, _ => ⟨_, .base (.int i), kit_ty kbs3⟩
  | .str s, _ => ⟨_, .base (.str s), kit_ty kbs4⟩
  | .ref a, h => by
    rcases h with ⟨xs, h⟩ | ⟨xs, h⟩
    · exact ⟨_, .base (.lst h), kit_ty kbs5⟩
    · exact ⟨_, .base (.tup h), kit_ty kbs6⟩
  | .byt _, h => h.elim
  | .flt _, h => h.elim
  | .ty _, h => h.elim
theorem pl_tup {K : PySem.W.Frag} {H : Hp} : ∀ {v : V}, Pl H v → ∃ t, TyX K H v t ∧ PySem.W.kitOne K t (.type "tuple") = some (isTup H v)
  | .non, _ => ⟨_, .base .non, kit_ty kbt1⟩
  | .bl b, _ => ⟨_, .base (.bl b), kit_ty kbt2⟩
  | .int i, _ => ⟨_, .base (.int i), kit_ty kbt3⟩
  | .str s, _ => ⟨_, .base (.str s), kit_ty kbt4⟩
  | .ref a, h => by
    rcases h with ⟨xs, h⟩ | ⟨xs, h⟩
    · exact ⟨_, .base (.lst h), by rw [isTup_lst h]; exact kit_ty kbt5⟩
    · exact ⟨_, .base (.tup h), by rw [isTup_tup h]; exact kit_ty kbt6⟩
  | .byt _, h => h.elim
  | .flt _, h => h.elim
  | .ty _, h => h.elim
def isWordV : V → Bool
  | .str s => wordOk s
  | _ => false
/-- what _is_nested answers -/
def nestedB (H : Hp) : Nat → V → Bool
  | 0, .str s => decide (s = "all" ∨ s = "none") || wordOk s
  | 0, _ => false
  | n + 1, .str s => decide (s = "all" ∨ s = "none") || wordOk s
  | n + 1, .ref a => match H a with
    | some (.tup (.str k :: x :: y :: r)) =>
      if k = "some" then decide (r = []) && (isWordV x && nestedB H n y)
      else if k = "and" then (x :: y :: r).all (nestedB H n) else false
    | _ => false
  | _ + 1, _ => false
theorem nestedB_str {H : Hp} {n : Nat} {s : Str} : nestedB H n (.str s) = (decide (s = "all" ∨ s = "none") || wordOk s) := by cases n <;> rfl
/-- known so deep that it can be asked -/
def Kn (H : Hp) : Nat → V → Prop
  | 0, v => Pl H v ∧ ∀ a xs, v = .ref a → H a ≠ some (.tup xs)
  | m + 1, v => Pl H v ∧ ∀ a xs, v = .ref a → H a = some (.tup xs) → ∀ x ∈ xs, Kn H m x
theorem Kn.pl {H : Hp} : ∀ {m : Nat} {v : V}, Kn H m v → Pl H v
  | 0, _, h => h.1
  | _ + 1, _, h => h.1
theorem Kn.same {H H' : Hp} (e : Same H H') : ∀ {m : Nat} {v : V}, Kn H m v → Kn H' m v
  | 0, v, h => ⟨h.1.same e, fun a xs hv q => by
    subst hv
    rcases h.1 with ⟨ys, g⟩ | ⟨ys, g⟩
    · rw [e _ _ g] at q; cases q
    · exact h.2 _ _ rfl g⟩
  | m + 1, v, h => ⟨h.1.same e, fun a xs hv q x hx => by
    subst hv
    rcases h.1 with ⟨ys, g⟩ | ⟨ys, g⟩
    · rw [e _ _ g] at q; cases q
    · have q' := e _ _ g
      rw [q] at q'
      cases q'
      exact Kn.same e (h.2 _ _ rfl g x hx)⟩
theorem nestedB_same {H H' : Hp} (e : Same H H') : ∀ {n m : Nat} {v : V}, Kn H m v → nestedB H' n v = nestedB H n v
  | n, m, .str s, _ => by rw [nestedB_str, nestedB_str]
  | 0, m, .ref a, _ => rfl
  | n + 1, m, .ref a, h => by
    rcases h.pl with ⟨ys, g⟩ | ⟨ys, g⟩
    · simp only [nestedB, g, e _ _ g]
    · have hk : ∀ x ∈ ys, ∃ m', Kn H m' x := by
        cases m with
        | zero => exact (h.2 _ _ rfl g).elim
        | succ m => exact fun x hx => ⟨m, h.2 _ _ rfl g x hx⟩
      simp only [nestedB, g, e _ _ g]
      split
      · rename_i k x y r hz
        cases hz
        have key : ∀ z ∈ (x :: y :: r), nestedB H' n z = nestedB H n z := fun z hz => by
          obtain ⟨m', q⟩ := hk z (List.mem_cons_of_mem _ hz)
          exact nestedB_same e q
        rw [key y (by simp)]
        have e2 : (x :: y :: r).all (nestedB H' n) = (x :: y :: r).all (nestedB H n) := by
          rw [Bool.eq_iff_iff, List.all_eq_true, List.all_eq_true]
          exact ⟨fun z w hw => (key w hw) ▸ z w hw, fun z w hw => (key w hw).symm ▸ z w hw⟩
        rw [e2]
      · rfl
  | 0, m, .non, _ => rfl
  | 0, m, .bl _, _ => rfl
  | 0, m, .int _, _ => rfl
  | 0, m, .byt _, _ => rfl
  | 0, m, .flt _, _ => rfl
  | 0, m, .ty _, _ => rfl
  | n + 1, m, .non, _ => rfl
  | n + 1, m, .bl _, _ => rfl
  | n + 1, m, .int _, _ => rfl
  | n + 1, m, .byt _, _ => rfl
  | n + 1, m, .flt _, _ => rfl
  | n + 1, m, .ty _, _ => rfl
/-- the value v stands for the concept c -/
def ConAt (H : Hp) : Con → V → Prop
  | .atom s, v => v = .str s ∧ s.length ≤ 12
  | .ex r c, v => ∃ p u, v = .ref p ∧ H p = some (.tup [.str "some", .str r, u]) ∧ ConAt H c u ∧ r.length ≤ 12
  | .and2 a b, v => ∃ p u1 u2, v = .ref p ∧ H p = some (.tup [.str "and", u1, u2]) ∧ ConAt H a u1 ∧ ConAt H b u2
  | .and3 a b c, v => ∃ p u1 u2 u3, v = .ref p ∧ H p = some (.tup [.str "and", u1, u2, u3]) ∧ ConAt H a u1 ∧ ConAt H b u2 ∧ ConAt H c u3
theorem ConAt.same {H H' : Hp} (e : Same H H') : ∀ {c : Con} {v : V}, ConAt H c v → ConAt H' c v
  | .atom s, v, h => h
  | .ex r c, v, ⟨p, u, h1, h2, h3, h9⟩ => ⟨p, u, h1, e _ _ h2, h3.same e, h9⟩
  | .and2 a b, v, ⟨p, u1, u2, h1, h2, h3, h4⟩ => ⟨p, u1, u2, h1, e _ _ h2, h3.same e, h4.same e⟩
  | .and3 a b c, v, ⟨p, u1, u2, u3, h1, h2, h3, h4, h5⟩ => ⟨p, u1, u2, u3, h1, e _ _ h2, h3.same e, h4.same e, h5.same e⟩
def kids : Con → List Con
  | .atom _ => []
  | .ex _ c => [c]
  | .and2 a b => [a, b]
  | .and3 a b c => [a, b, c]
theorem con_pl {H : Hp} : ∀ {c : Con} {v : V}, ConAt H c v → Pl H v
  | .atom s, v, h => by
    obtain ⟨rfl, h⟩ := h
    exact Nat.le_trans h (by decide)
  | .ex r c, v, ⟨p, u, h1, h2, h3, h9⟩ => by subst h1; exact .inr ⟨_, h2⟩
  | .and2 a b, v, ⟨p, u1, u2, h1, h2, _⟩ => by subst h1; exact .inr ⟨_, h2⟩
  | .and3 a b c, v, ⟨p, u1, u2, u3, h1, h2, _⟩ => by subst h1; exact .inr ⟨_, h2⟩
theorem kn_str {H : Hp} {m : Nat} {s : Str} (h : s.length ≤ 1000) : Kn H m (.str s) := by
  cases m with
  | zero => exact ⟨h, fun _ _ z => nomatch z⟩
  | succ m => exact ⟨h, fun _ _ z => nomatch z⟩
theorem con_kn {H : Hp} : ∀ {c : Con} {v : V} {m : Nat}, ConAt H c v → nest c ≤ m → Kn H m v
  | .atom s, v, m, h, _ => by
    obtain ⟨rfl, h⟩ := h
    exact kn_str (Nat.le_trans h (by decide))
  | .ex r c, v, m, ⟨p, u, h1, h2, h3, h9⟩, hm => by
    subst h1
    cases m with
    | zero => exact absurd hm (by simp [nest])
    | succ m =>
      refine ⟨.inr ⟨_, h2⟩, fun a xs e q x hx => ?_⟩
      cases e
      rw [h2] at q
      cases q
      simp only [List.mem_cons, List.not_mem_nil, or_false] at hx
      rcases hx with rfl | rfl | rfl
      · exact kn_str (by decide +kernel)
      · exact kn_str (Nat.le_trans h9 (by decide))
      · exact con_kn h3 (by simp only [nest] at hm; omega)
  | .and2 a b, v, m, ⟨p, u1, u2, h1, h2, h3, h4⟩, hm => by
    subst h1
    cases m with
    | zero => exact absurd hm (by simp [nest])
    | succ m =>
      refine ⟨.inr ⟨_, h2⟩, fun a xs e q x hx => ?_⟩
      cases e
      rw [h2] at q
      cases q
      simp only [List.mem_cons, List.not_mem_nil, or_false] at hx
      simp only [nest] at hm
      rcases hx with rfl | rfl | rfl
      · exact kn_str (by decide +kernel)
      · exact con_kn h3 (by omega)
      · exact con_kn h4 (by omega)
  | .and3 a b c, v, m, ⟨p, u1, u2, u3, h1, h2, h3, h4, h5⟩, hm => by
    subst h1
    cases m with
    | zero => exact absurd hm (by simp [nest])
    | succ m =>
      refine ⟨.inr ⟨_, h2⟩, fun a xs e q x hx => ?_⟩
      cases e
      rw [h2] at q
      cases q
      simp only [List.mem_cons, List.not_mem_nil, or_false] at hx
      simp only [nest] at hm
      rcases hx with rfl | rfl | rfl | rfl
      · exact kn_str (by decide +kernel)
      · exact con_kn h3 (by omega)
      · exact con_kn h4 (by omega)
      · exact con_kn h5 (by omega)
theorem con_nested {N R : List Str} (hN : ∀ x ∈ N, wordOk x = true) (hR : ∀ x ∈ R, wordOk x = true) {H : Hp} : ∀ {c : Con} {v : V} {n : Nat}, In N R c → ConAt H c v → nest c ≤ n → nestedB H n v = true
  | .atom s, v, n, hi, h, _ => by
    obtain ⟨rfl, h'⟩ := h
    rw [nestedB_str]
    rcases hi with h | h | h
    · rw [h]; decide +kernel
    · rw [h]; decide +kernel
    · rw [hN _ h, Bool.or_true]
  | .ex r c, v, n, hi, ⟨p, u, h1, h2, h3, h9⟩, hm => by
    subst h1
    cases n with
    | zero => exact absurd hm (by simp [nest])
    | succ n =>
      have ih := con_nested hN hR hi.2 h3 (n := n) (by simp only [nest] at hm; omega)
      simp [nestedB, h2, isWordV, hR _ hi.1, ih]
  | .and2 a b, v, n, hi, ⟨p, u1, u2, h1, h2, h3, h4⟩, hm => by
    subst h1
    cases n with
    | zero => exact absurd hm (by simp [nest])
    | succ n =>
      simp only [nest] at hm
      have i1 := con_nested hN hR hi.1 h3 (n := n) (by omega)
      have i2 := con_nested hN hR hi.2 h4 (n := n) (by omega)
      have e : ¬ (("and" : Str) = "some") := by decide +kernel
      simp [nestedB, h2, i1, i2, e]
  | .and3 a b c, v, n, hi, ⟨p, u1, u2, u3, h1, h2, h3, h4, h5⟩, hm => by
    subst h1
    cases n with
    | zero => exact absurd hm (by simp [nest])
    | succ n =>
      simp only [nest] at hm
      have i1 := con_nested hN hR hi.1 h3 (n := n) (by omega)
      have i2 := con_nested hN hR hi.2.1 h4 (n := n) (by omega)
      have i3 := con_nested hN hR hi.2.2 h5 (n := n) (by omega)
      have e : ¬ (("and" : Str) = "some") := by decide +kernel
      simp [nestedB, h2, i1, i2, i3, e]
end K1
namespace K1
open PySem L2
theorem inV_str (s : Str) : ∀ l : List Str, inV (.str s) (l.map V.str) = decide (s ∈ l)
  | [] => by simp [inV]
  | x :: l => by
    have ih := inV_str s l
    unfold inV at ih ⊢
    rw [List.map_cons, List.any_cons, ih]
    by_cases h : x = s
    · subst h; simp [eqV]
    · have h' : ¬ s = x := fun e => h e.symm
      simp [eqV, h, h']
theorem flat_strs : ∀ l : List Str, (l.map V.str).all flatV = true
  | [] => rfl
  | x :: l => by rw [List.map_cons, List.all_cons, flat_strs l]; rfl
section
variable {X : Cx}
/-- a text in a list or tuple of texts -/
def rInT (K : PySem.W.Frag) (neg : Bool) : R2 := fun x y H Q => ∃ (s : Str) (p : Addr) (l : List Str), x = .str s ∧ y = .ref p ∧ (SqL K H p (l.map V.str) ∨ SqT K H p (l.map V.str)) ∧ Q (.bl (if neg then !decide (s ∈ l) else decide (s ∈ l))) H
theorem op_inT : OpR X (compareOp .In) (rInT X.K false) := by
  intro pins s σ H x y v u Q I rx ry h
  obtain ⟨z, p, l, rfl, rfl, hq, q⟩ := h
  exact op_in_seq pins s σ H _ _ v u Q I rx ry ⟨p, l.map V.str, rfl, hq, rfl, flat_strs l, by rw [inV_str]; exact q⟩
theorem op_notInT : OpR X (compareOp .NotIn) (rInT X.K true) := by
  intro pins s σ H x y v u Q I rx ry h
  obtain ⟨z, p, l, rfl, rfl, hq, q⟩ := h
  exact op_notIn_seq pins s σ H _ _ v u Q I rx ry ⟨p, l.map V.str, rfl, hq, rfl, flat_strs l, by rw [inV_str]; exact q⟩
end
/-- the same within a comprehension -/
theorem op_inTK {X : Cx} {K : PySem.W.Frag} (h : X.K = K) : OpR X (compareOp .In) (rInT K false) := by subst h; exact op_inT
theorem op_notInTK {X : Cx} {K : PySem.W.Frag} (h : X.K = K) : OpR X (compareOp .NotIn) (rInT K true) := by subst h; exact op_notInT
theorem ix_listK {X : Cx} {K : PySem.W.Frag} (h : X.K = K) : IxR X (rIxL K) := by subst h; exact ix_list
theorem lt_a (c : Nat) : decide (([c] : List Nat) < ("a" : Str).cps.toList) = decide (c < 97) := by
  have e : ("a" : Str).cps.toList = [97] := by decide +kernel
  rw [e]
  by_cases h : c < 97
  · rw [decide_eq_true h]
    exact decide_eq_true (List.Lex.rel h)
  · rw [decide_eq_false h, decide_eq_false]
    intro z
    cases z with
    | rel z => exact h z
    | cons z => cases z
theorem lt_z (c : Nat) : decide (("z" : Str).cps.toList < ([c] : List Nat)) = decide (122 < c) := by
  have e : ("z" : Str).cps.toList = [122] := by decide +kernel
  rw [e]
  by_cases h : 122 < c
  · rw [decide_eq_true h]
    exact decide_eq_true (List.Lex.rel h)
  · rw [decide_eq_false h, decide_eq_false]
    intro z
    cases z with
    | rel z => exact h z
    | cons z => cases z
theorem letters_snoc {l : List Nat} {c : Nat} : letters (l ++ [c]) = (letters l && (decide (97 ≤ c) && decide (c ≤ 122))) := by
  unfold letters
  rw [List.all_append]
  simp
theorem letters_get {l : List Nat} {i c : Nat} (h : letters l = true) (hc : l[i]? = some c) : 97 ≤ c ∧ c ≤ 122 := by
  unfold letters at h
  rw [List.all_eq_true] at h
  have := h c (List.mem_of_getElem? hc)
  simpa using this
end K1
namespace K1
open PySem L2
section
variable {P : Program} {w : World} {K : PySem.W.Frag} {mg : Str → Option Value} {base : Heap}
/-! ### is_word -/
def spIsWord : Sp := fun vs H Q _ => ∃ v, vs = [v] ∧ Pl H v ∧ Q (.bl (isWordV v)) H
theorem ok_is_word (D : Defs K mg) : FnOk P w K mg base CX0 1 D.d_is_word.f D.d_is_word.fd ["thing"] spIsWord := by
  refine D.d_is_word.F.ok sc_is_word (fun vs H Q E h => ?_) (fun cdv A outer s H vs Q E hr h => ?_)
  · obtain ⟨v, rfl, _⟩ := h
    rfl
  obtain ⟨v, rfl, hp, q⟩ := h
  obtain ⟨tL, hL⟩ := D.lo_m
  refine ⟨_, pss_cons (ps_if (PW.pt (pw_or (pt_not (pt_val (pe_callB call_isi (by rfl) D.z_isinstance (by decide +kernel) (pa_cons (pv 0) (pa_cons (pe_bltn (v := .ty "str") (by rfl) D.z_str (by decide +kernel) rfl) pa_nil)))))
      (pw_or (pt_not (pt_chain op_le op_le pe_int (pe_callB call_len_str (by rfl) D.z_len PySem.boot_len (pa_cons (pv 0) pa_nil)) (pe_glob (v := .int 12) (by rfl) hL ⟨_, rfl⟩)))
        (pw_or1 (pt_cmpR op_inT (pv 0) (pe_glob (v := .ref D.nw) (by rfl) D.nw_m rfl) (by rfl))))))
      (pss_one (ps_ret pe_bl)) pss_nil)
    (pss_cons (ps_for PassesOwn.never rfl (pi_str (pv 0)) (pg_name (i := 1) sc_is_word.nd rfl (Or.inl rfl))
        (pss_one (ps_if (pt_not (pt_chain op_le_str op_le_str pe_str (pv 1) pe_str)) (pss_one (ps_ret pe_bl)) pss_nil)))
    (pss_one (ps_ret pe_bl))), ?_⟩
  obtain ⟨t, ty, kt⟩ := pl_str (K := K) hp
  refine ⟨_, rfl, _, _, _, _, _, rfl, .ty _, ty, kt, _, rfl, ?_⟩
  cases e : isStr v with
  | false =>
    refine iteT (iteT ?_)
    have e2 : isWordV v = false := by cases v <;> first | rfl | (cases e)
    rw [← e2]
    exact q
  | true =>
    obtain ⟨s, rfl⟩ : ∃ s, v = .str s := by cases v <;> first | exact ⟨_, rfl⟩ | (cases e)
    have hl : s.length ≤ 1000 := hp
    refine iteF ?_
    refine ⟨_, rfl, _, rfl, Nat.le_of_lt (small1000 hl), _, _, rfl, rfl, _, rfl, ?_⟩
    have ret : ∀ b, wordOk s = b → Q (.bl b) H := fun b hb => by rw [← hb]; exact q
    by_cases c1 : (1 : Int) ≤ (s.length : Int)
    · rw [decide_eq_true c1]
      refine iteT ⟨_, _, rfl, rfl, _, rfl, ?_⟩
      by_cases c2 : (s.length : Int) ≤ 12
      · rw [decide_eq_true c2]
        refine iteF ⟨_, rfl, s, D.nw, noWords, rfl, rfl, .inr (sqt_k D.nw_l), _, rfl, ?_⟩
        by_cases c3 : s ∈ noWords
        · rw [decide_eq_true c3]
          refine iteT ?_
          refine ret _ ?_
          unfold wordOk
          rw [decide_eq_true c3]
          simp
        rw [decide_eq_false c3]
        refine iteF ?_
        have all : letters (cs s) = true → wordOk s = true := fun hz => by
          unfold wordOk
          rw [decide_eq_true (show 1 ≤ s.length by omega), decide_eq_true (show s.length ≤ 12 by omega), decide_eq_false c3, hz]
          rfl
        have some_no : letters (cs s) = false → wordOk s = false := fun hz => by
          unfold wordOk
          rw [hz, Bool.and_false]
        refine ⟨_, rfl, s, rfl, for_it walk_str (fun i σ H2 => H2 = H ∧ (∃ o, σ = [some (.str s), o]) ∧ letters ((cs s).take i) = true) ⟨rfl, ⟨none, rfl⟩, rfl⟩ (fun _ _ _ _ _ => trivial) ?_ ?_⟩
        · rintro i x σ H1 H2 hi ⟨rfl, ⟨o, rfl⟩, hle⟩ ⟨rfl, c, hc, rfl⟩
          have hc' : (cs s)[i]? = some c := by rw [Array.getElem?_toList]; exact hc
          refine ⟨_, rfl, _, _, rfl, rfl, _, rfl, ?_⟩
          rw [lt_a]
          by_cases d1 : c < 97
          · rw [decide_eq_true d1]
            refine iteF ⟨_, rfl, ?_⟩
            refine iteT (ret _ (some_no ?_))
            cases hz : letters (cs s) with
            | false => rfl
            | true => have := letters_get hz hc'; omega
          · rw [decide_eq_false d1]
            refine iteT ⟨_, _, rfl, rfl, _, rfl, ?_⟩
            rw [lt_z]
            by_cases d2 : 122 < c
            · rw [decide_eq_true d2]
              refine iteT (ret _ (some_no ?_))
              cases hz : letters (cs s) with
              | false => rfl
              | true => have := letters_get hz hc'; omega
            · rw [decide_eq_false d2]
              refine iteF ⟨rfl, ⟨_, rfl⟩, ?_⟩
              rw [take_more hc', letters_snoc, hle, decide_eq_true (show 97 ≤ c by omega), decide_eq_true (show c ≤ 122 by omega)]
              rfl
        · rintro σ H1 ⟨rfl, ⟨o, rfl⟩, hle⟩
          refine ret _ (all ?_)
          have e : (cs s).take s.cps.size = cs s := by rw [List.take_of_length_le]; simp
          rw [e] at hle
          exact hle
      · rw [decide_eq_false c2]
        refine iteT (iteT ?_)
        refine ret _ ?_
        unfold wordOk
        rw [decide_eq_false (show ¬ s.length ≤ 12 by omega)]
        simp
    · rw [decide_eq_false c1]
      refine iteF ⟨_, rfl, ?_⟩
      refine iteT (iteT ?_)
      refine ret _ ?_
      unfold wordOk
      rw [decide_eq_false (show ¬ 1 ≤ s.length by omega)]
      simp
end
end K1
namespace K1
open PySem L2
section
variable {P : Program} {w : World} {K : PySem.W.Frag} {mg : Str → Option Value} {base : Heap}
theorem none_left {CX : CXT} {k : Nat} {f : Addr} {fd : FuncData} {ps : List Str} {sp : Sp} (no : ∀ vs H Q E, ¬ sp vs H Q E) : FnOk P w K mg base CX k f fd ps sp :=
  ⟨fun vs H Q E h => absurd h (no vs H Q E), fun A outer s H args us vs Q E _ _ _ _ h => absurd h (no vs H Q E)⟩
/-! ### _is_nested -/
def spN : Nat → Sp
  | 0 => fun _ _ _ _ => False
  | n + 1 => fun vs H Q _ => ∃ (v : V) (L : Nat), vs = [v, .int (L : Int)] ∧ Kn H n v ∧ ∀ H', Same H H' → Q (.bl (nestedB H L v)) H'
theorem ok_nested (D : Defs K mg) : ∀ n, FnOk P w K mg base CX0 (n + 1) D.d_is_nested.f D.d_is_nested.fd ["thing", "levels"] (spN n)
  | 0 => none_left fun _ _ _ _ h => h
  | n + 1 => by
    have G := ok_nested D n
    have GW := ok_is_word (P := P) (w := w) (base := base) D
    refine D.d_is_nested.F.ok sc_is_nested (fun vs H Q E h => ?_) (fun cdv A outer s H vs Q E hr h => ?_)
    · obtain ⟨v, L, rfl, _⟩ := h
      rfl
    obtain ⟨v, L, rfl, hk, q⟩ := h
    have hr1 : Room 1 _ := hr.mono (by omega)
    refine ⟨_, pss_cons (ps_if (pt_val (pe_callB call_isi (by rfl) D.z_isinstance (by decide +kernel) (pa_cons (pv 0) (pa_cons (pe_bltn (v := .ty "str") (by rfl) D.z_str (by decide +kernel) rfl) pa_nil))))
        (pss_one (ps_ret (pe_or (pe_cmpR op_inT (pv 0) (pe_tup (pa_cons pe_str (pa_cons pe_str pa_nil))) (by rfl)) (pe_one (pe_call GW hr1 rfl D.d_is_word.m D.d_is_word.F.kp D.d_is_word.b .nil pass0 (pa_cons (pv 0) pa_nil)))))) pss_nil)
      (pss_cons (ps_if (PW.pt (pw_or (pt_not (pt_val (pe_callB call_isi (by rfl) D.z_isinstance (by decide +kernel) (pa_cons (pv 0) (pa_cons (pe_bltn (v := .ty "tuple") (by rfl) D.z_tuple (by decide +kernel) rfl) pa_nil)))))
          (pw_or (pt_cmpR op_eq (pv 1) pe_int (nomark _))
          (pw_or (pt_cmpR op_lt (pe_callB call_len_seq (by rfl) D.z_len PySem.boot_len (pa_cons (pv 0) pa_nil)) pe_int (nomark _))
          (pw_or1 (pt_not (pt_val (pe_callB call_isi (by rfl) D.z_isinstance (by decide +kernel) (pa_cons (pe_ix ix_tup (pv 0) pe_int (fun _ _ => rfl)) (pa_cons (pe_bltn (v := .ty "str") (by rfl) D.z_str (by decide +kernel) rfl) pa_nil))))))))))
        (pss_one (ps_ret pe_bl)) pss_nil)
      (pss_cons (ps_if (pt_cmpR op_eq (pe_ix ix_tup (pv 0) pe_int (fun _ _ => rfl)) pe_str (nomark _))
        (pss_one (ps_ret (pe_and (pe_cmpR op_eq (pe_callB call_len_seq (by rfl) D.z_len PySem.boot_len (pa_cons (pv 0) pa_nil)) pe_int (nomark _))
          (pe_and (pe_call GW hr1 rfl D.d_is_word.m D.d_is_word.F.kp D.d_is_word.b .nil pass0 (pa_cons (pe_ix ix_tup (pv 0) pe_int (fun _ _ => rfl)) pa_nil))
          (pe_one (pe_call G hr rfl D.d_is_nested.m D.d_is_nested.F.kp D.d_is_nested.b .nil pass0 (pa_cons (pe_ix ix_tup (pv 0) pe_int (fun _ _ => rfl)) (pa_cons (pe_op op_sub (pv 1) pe_int) pa_nil)))))))) pss_nil)
      (pss_cons (ps_if (pt_cmpR op_ne (pe_ix ix_tup (pv 0) pe_int (fun _ _ => rfl)) pe_str (nomark _)) (pss_one (ps_ret pe_bl)) pss_nil)
      (pss_cons (ps_for PassesOwn.never rfl (pi_tup (pe_slice sl_tup (pv 0) (po_some pe_int) po_none)) (pg_name (i := 2) sc_is_nested.nd rfl (Or.inl rfl))
        (pss_one (ps_if (pt_not (pt_val (pe_call G hr rfl D.d_is_nested.m D.d_is_nested.F.kp D.d_is_nested.b .nil pass0 (pa_cons (pv 2) (pa_cons (pe_op op_sub (pv 1) pe_int) pa_nil))))) (pss_one (ps_ret pe_bl)) pss_nil)))
      (pss_one (ps_ret pe_bl)))))), ?_⟩
    obtain ⟨t, ty, kt⟩ := pl_str (K := K) hk.pl
    refine ⟨_, rfl, _, _, _, _, _, rfl, .ty _, ty, kt, _, rfl, ?_⟩
    cases e : isStr v with
    | true =>
      obtain ⟨s, rfl⟩ : ∃ s, v = .str s := by cases v <;> first | exact ⟨_, rfl⟩ | (cases e)
      rw [nestedB_str] at q
      refine iteT ⟨_, rfl, (by show 2 ≤ sizeLine; decide), fun p hp => ⟨s, p, ["all", "none"], rfl, rfl, .inr (SqT.of upd_same), _, rfl, ?_⟩⟩
      have em : decide (s ∈ (["all", "none"] : List Str)) = decide (s = "all" ∨ s = "none") := by simp
      by_cases c : s = "all" ∨ s = "none"
      · rw [em, decide_eq_true c]
        refine iteT ?_
        rw [decide_eq_true c] at q
        exact q _ (same_new hp _)
      · rw [em, decide_eq_false c]
        refine iteF ⟨_, rfl, _, rfl, hk.pl.same (same_new hp _), ?_⟩
        rw [decide_eq_false c] at q
        exact q _ (same_new hp _)
    | false =>
      refine iteF ?_
      obtain ⟨t2, ty2, kt2⟩ := pl_tup (K := K) hk.pl
      refine ⟨_, rfl, _, _, _, _, _, rfl, .ty _, ty2, kt2, _, rfl, ?_⟩
      have ret : ∀ b, nestedB H L v = b → Q (.bl b) H := fun b hb => by rw [← hb]; exact q H (Same.refl H)
      cases e2 : isTup H v with
      | false =>
        refine iteT (iteT (ret _ ?_))
        cases L with
        | zero => cases v <;> first | rfl | (cases e)
        | succ L =>
          cases v <;> first | rfl | (cases e) | skip
          rename_i a
          rcases hk.pl with ⟨xs, g⟩ | ⟨xs, g⟩
          · simp [nestedB, g]
          · rw [isTup_tup g] at e2
            cases e2
      | true =>
        obtain ⟨a, xs, rfl, ha⟩ : ∃ a xs, v = .ref a ∧ H a = some (.tup xs) := by
          cases v <;> first | (cases e2) | skip
          rename_i a
          rcases hk.pl with ⟨xs, g⟩ | ⟨xs, g⟩
          · rw [isTup_lst g] at e2
            cases e2
          · exact ⟨a, xs, rfl, g⟩
        refine iteF ⟨_, rfl, rfl, _, rfl, ?_⟩
        cases L with
        | zero =>
          rw [decide_eq_true (show V.int ((0 : Nat) : Int) = V.int 0 from rfl)]
          exact iteT (iteT (ret _ rfl))
        | succ L =>
          rw [decide_eq_false (show ¬ V.int ((L + 1 : Nat) : Int) = V.int 0 from fun z => by injection z with z; omega)]
          refine iteF ⟨_, rfl, a, xs, rfl, .inr (SqT.of ha), _, _, rfl, rfl, _, rfl, ?_⟩
          by_cases c3 : (xs.length : Int) < 3
          · rw [decide_eq_true c3]
            refine iteT (iteT (ret _ ?_))
            rcases xs with _ | ⟨x0, _ | ⟨x1, _ | ⟨x2, r⟩⟩⟩
            · simp [nestedB, ha]
            · cases x0 <;> simp [nestedB, ha]
            · cases x0 <;> simp [nestedB, ha]
            · simp only [List.length_cons] at c3; omega
          · rw [decide_eq_false c3]
            refine iteF ?_
            rcases xs with _ | ⟨x0, _ | ⟨x1, _ | ⟨x2, r⟩⟩⟩
            · exact absurd (by decide : ((0 : Nat) : Int) < 3) c3
            · exact absurd (by decide : ((1 : Nat) : Int) < 3) c3
            · exact absurd (by decide : ((2 : Nat) : Int) < 3) c3
            cases n with
            | zero => exact (hk.2 _ _ rfl ha).elim
            | succ n =>
              have hx := hk.2 _ _ rfl ha
              obtain ⟨t3, ty3, kt3⟩ := pl_str (K := K) (hx x0 (by simp)).pl
              refine ⟨_, rfl, a, _, _, x0, rfl, rfl, SqT.of ha, atI_nat (j := 0) rfl, _, _, _, _, _, rfl, .ty _, ty3, kt3, _, rfl, ?_⟩
              cases e4 : isStr x0 with
              | false =>
                refine iteT (ret _ ?_)
                cases x0 <;> first | (simp [nestedB, ha]; done) | (cases e4)
              | true =>
                obtain ⟨k, rfl⟩ : ∃ s, x0 = .str s := by cases x0 <;> first | exact ⟨_, rfl⟩ | (cases e4)
                refine iteF ?_
                refine ⟨_, rfl, a, _, _, _, rfl, rfl, SqT.of ha, atI_nat (j := 0) rfl, rfl, _, rfl, ?_⟩
                have lev : ((L + 1 : Nat) : Int) - 1 = (L : Int) := by omega
                have levs : ∀ x : V, ([x, V.int (((L + 1 : Nat) : Int) - 1)] ++ []) = [x, V.int (L : Int)] := fun x => by rw [lev]; rfl
                by_cases ck : k = "some"
                · subst ck
                  rw [decide_eq_true (show V.str ("some" : Str) = V.str "some" from rfl)]
                  refine iteT ⟨_, rfl, a, _, rfl, .inr (SqT.of ha), rfl, _, rfl, ?_⟩
                  have eN : nestedB H (L + 1) (.ref a) = (decide (r = []) && (isWordV x1 && nestedB H L x2)) := by simp [nestedB, ha]
                  by_cases cr : r = []
                  · subst cr
                    rw [decide_eq_true (by rfl)]
                    refine iteT ⟨_, rfl, a, _, _, x1, rfl, rfl, SqT.of ha, atI_nat (j := 1) rfl, _, rfl, (hx x1 (by simp)).pl, _, rfl, ?_⟩
                    cases cw : isWordV x1 with
                    | false =>
                      refine iteF (ret _ ?_)
                      rw [eN, cw]
                      rfl
                    | true =>
                      refine iteT ⟨_, rfl, a, _, _, x2, rfl, rfl, SqT.of ha, atI_nat (j := 2) rfl, _, rfl, _, _, rfl, rfl, x2, L, levs x2, hx x2 (by simp), fun H' g => ?_⟩
                      have z := q H' g
                      rw [eN, cw] at z
                      exact z
                  · have nz : ¬ V.int ((((V.str "some" :: x1 :: x2 :: r).length : Nat) : Int)) = V.int 3 := fun z => by
                      injection z with z
                      simp only [List.length_cons] at z
                      exact cr (List.length_eq_zero_iff.mp (by omega))
                    rw [decide_eq_false nz]
                    refine iteF (ret _ ?_)
                    rw [eN, decide_eq_false cr]
                    rfl
                · rw [decide_eq_false (show ¬ V.str k = V.str "some" from fun z => ck (by injection z))]
                  refine iteF ⟨_, rfl, a, _, _, _, rfl, rfl, SqT.of ha, atI_nat (j := 0) rfl, rfl, _, rfl, ?_⟩
                  by_cases ca : k = "and"
                  · subst ca
                    rw [decide_eq_true (show V.str ("and" : Str) = V.str "and" from rfl)]
                    refine iteF ?_
                    have eN : nestedB H (L + 1) (.ref a) = (x1 :: x2 :: r).all (nestedB H L) := by simp [nestedB, ha, ck]
                    refine ⟨_, rfl, _, rfl, a, _, rfl, SqT.of ha, (by rintro ⟨z, _⟩; simp [HT.sIx] at z), fun p hp => ?_⟩
                    have eC : cutV (V.str "and" :: x1 :: x2 :: r) (some 1) none = x1 :: x2 :: r := by simp [cutV, HT.sIx]
                    have g0 : Same H (upd H p (.tup (cutV (V.str "and" :: x1 :: x2 :: r) (some 1) none))) := same_new hp _
                    rw [eC] at g0
                    have hp' : (upd H p (.tup (cutV (V.str "and" :: x1 :: x2 :: r) (some 1) none))) = upd H p (.tup (x1 :: x2 :: r)) := by rw [eC]
                    rw [hp']
                    refine ⟨p, rfl, ⟨_, SqT.of upd_same⟩, for_tup (xs := x1 :: x2 :: r) (fun i σ H2 => Same (upd H p (.tup (x1 :: x2 :: r))) H2 ∧ (∃ o, σ = [some (.ref a), some (.int ((L + 1 : Nat) : Int)), o]) ∧ ((x1 :: x2 :: r).take i).all (nestedB H L) = true)
                      ⟨Same.refl _, ⟨none, rfl⟩, rfl⟩ (fun i σ H2 _ hh => SqT.of (hh.1 _ _ upd_same)) ?_ ?_⟩
                    · rintro i x σ H2 hi ⟨g, ⟨o, rfl⟩, hall⟩
                      have gg := g0.trans g
                      have hkx : Kn H n x := hx x (List.mem_cons_of_mem _ (List.mem_of_getElem? hi))
                      refine ⟨_, rfl, _, rfl, _, _, rfl, rfl, x, L, levs x, hkx.same gg, fun H3 g3 => ⟨_, rfl, ?_⟩⟩
                      rw [nestedB_same gg hkx]
                      cases cx : nestedB H L x with
                      | false =>
                        refine iteT ?_
                        have z := q H3 (gg.trans g3)
                        rw [eN] at z
                        have e0 : (x1 :: x2 :: r).all (nestedB H L) = false := by
                          rw [← Bool.not_eq_true, List.all_eq_true]
                          intro zz
                          have := zz x (List.mem_of_getElem? hi)
                          rw [cx] at this
                          cases this
                        rw [e0] at z
                        exact z
                      | true =>
                        refine iteF ⟨g.trans g3, ⟨_, rfl⟩, ?_⟩
                        rw [take_more hi, List.all_append, hall]
                        simp [cx]
                    · rintro σ H2 ⟨g, ⟨o, rfl⟩, hall⟩
                      have z := q H2 (g0.trans g)
                      rw [eN] at z
                      rw [List.take_length] at hall
                      rw [hall] at z
                      exact z
                  · rw [decide_eq_false (show ¬ V.str k = V.str "and" from fun z => ca (by injection z))]
                    refine iteT (ret _ ?_)
                    simp [nestedB, ha, ck, ca]
end
end K1
namespace K1
open PySem L2
section
variable {P : Program} {w : World} {K : PySem.W.Frag} {mg : Str → Option Value} {base : Heap}
/-! ### is_concept, need_concept, need_concepts -/
def spIsC : Sp := fun vs H Q _ => ∃ v, vs = [v] ∧ Kn H 9 v ∧ ∀ H', Same H H' → Q (.bl (nestedB H 100 v)) H'
theorem ok_is_concept (D : Defs K mg) : FnOk P w K mg base CX0 12 D.d_is_concept.f D.d_is_concept.fd ["thing"] spIsC := by
  have G := ok_nested (P := P) (w := w) (base := base) D 10
  obtain ⟨tD, hD⟩ := D.de_m
  refine D.d_is_concept.F.ok sc_is_concept (fun vs H Q E h => ?_) (fun cdv A outer s H vs Q E hr h => ?_)
  · obtain ⟨v, rfl, _⟩ := h
    rfl
  obtain ⟨v, rfl, hk, q⟩ := h
  refine ⟨_, pss_one (ps_ret (pe_call G hr rfl D.d_is_nested.m D.d_is_nested.F.kp D.d_is_nested.b .nil pass0 (pa_cons (pv 0) (pa_cons (pe_glob (v := .int 100) (by rfl) hD ⟨_, rfl⟩) pa_nil)))), ?_⟩
  exact ⟨_, rfl, v, 100, rfl, hk, q⟩
def spNeed : Sp := fun vs H Q _ => ∃ v, vs = [v] ∧ Kn H 9 v ∧ nestedB H 100 v = true ∧ ∀ H', Same H H' → Q .non H'
theorem ok_need (D : Defs K mg) : FnOk P w K mg base CX0 13 D.d_need_concept.f D.d_need_concept.fd ["thing"] spNeed := by
  have G := ok_is_concept (P := P) (w := w) (base := base) D
  refine D.d_need_concept.F.ok sc_need_concept (fun vs H Q E h => ?_) (fun cdv A outer s H vs Q E hr h => ?_)
  · obtain ⟨v, rfl, _⟩ := h
    rfl
  obtain ⟨v, rfl, hk, hn, q⟩ := h
  refine ⟨_, pss_one (ps_if (pt_not (pt_val (pe_call G hr rfl D.d_is_concept.m D.d_is_concept.F.kp D.d_is_concept.b .nil pass0 (pa_cons (pv 0) pa_nil)))) (pss_one ps_never) pss_nil), ?_⟩
  refine ⟨_, rfl, v, rfl, hk, fun H' g => ⟨_, rfl, ?_⟩⟩
  rw [hn]
  exact iteF (q H' g)
def spNeeds : Sp := fun vs H Q _ => ∃ p ws, vs = [.ref p] ∧ H p = some (.tup ws) ∧ (∀ v ∈ ws, Kn H 9 v ∧ nestedB H 100 v = true) ∧ ∀ H', Same H H' → Q .non H'
/-! ### inner -/
def KidsAt (H : Hp) (c : Con) (ws : List V) : Prop := Paired (ConAt H) (kids c) ws
theorem kids_same {H H' : Hp} (e : Same H H') : ∀ {ks : List Con} {ws : List V}, Paired (ConAt H) ks ws → Paired (ConAt H') ks ws
  | _, _, .nil => .nil
  | _, _, .cons r t => .cons (r.same e) (kids_same e t)
def spInner : Sp := fun vs H Q _ => ∃ v c, vs = [v] ∧ ConAt H c v ∧ ∀ p ws H', Same H H' → H' p = some (.tup ws) → Paired (ConAt H') (kids c) ws → Q (.ref p) H'
theorem ok_inner (D : Defs K mg) : FnOk P w K mg base CX0 1 D.d_inner.f D.d_inner.fd ["concept"] spInner := by
  refine D.d_inner.F.ok sc_inner (fun vs H Q E h => ?_) (fun cdv A outer s H vs Q E hr h => ?_)
  · obtain ⟨v, c, rfl, _⟩ := h
    rfl
  obtain ⟨v, c, rfl, hc, q⟩ := h
  refine ⟨_, pss_cons (ps_if (pt_val (pe_callB call_isi (by rfl) D.z_isinstance (by decide +kernel) (pa_cons (pv 0) (pa_cons (pe_bltn (v := .ty "str") (by rfl) D.z_str (by decide +kernel) rfl) pa_nil)))) (pss_one (ps_ret (pe_tup pa_nil))) pss_nil)
    (pss_one (ps_ret (pe_ifExp (pt_cmpR op_eq (pe_ix ix_tup (pv 0) pe_int (fun _ _ => rfl)) pe_str (nomark _)) (pe_slice sl_tup (pv 0) (po_some pe_int) po_none) (pe_slice sl_tup (pv 0) (po_some pe_int) po_none)))), ?_⟩
  obtain ⟨t, ty, kt⟩ := pl_str (K := K) (con_pl hc)
  refine ⟨_, rfl, _, _, _, _, _, rfl, .ty _, ty, kt, _, rfl, ?_⟩
  have sl1 : ∀ (x : V) (xs : List V), cutV (x :: xs) (some 1) none = xs := fun x xs => by simp [cutV, HT.sIx]
  have sl2 : ∀ (x y : V) (xs : List V), cutV (x :: y :: xs) (some 2) none = xs := fun x y xs => by simp [cutV, HT.sIx]
  cases c with
  | atom a =>
    obtain ⟨rfl, hl⟩ := hc
    refine iteT ⟨(by show 0 ≤ sizeLine; decide), fun p hp => ?_⟩
    exact q p [] _ (same_new hp _) upd_same .nil
  | ex r c =>
    obtain ⟨a, u, rfl, ha, hu, hl⟩ := hc
    refine iteF ⟨_, rfl, a, _, _, _, rfl, rfl, SqT.of ha, atI_nat (j := 0) rfl, rfl, _, rfl, ?_⟩
    rw [decide_eq_true (show V.str ("some" : Str) = V.str "some" from rfl)]
    refine iteT ⟨_, rfl, _, rfl, a, _, rfl, SqT.of ha, (by rintro ⟨z, _⟩; simp [HT.sIx] at z), fun p hp => ?_⟩
    rw [sl2]
    exact q p [u] _ (same_new hp _) upd_same (.cons (hu.same (same_new hp _)) .nil)
  | and2 x y =>
    obtain ⟨a, u1, u2, rfl, ha, h1, h2⟩ := hc
    refine iteF ⟨_, rfl, a, _, _, _, rfl, rfl, SqT.of ha, atI_nat (j := 0) rfl, rfl, _, rfl, ?_⟩
    rw [decide_eq_false (show ¬ V.str ("and" : Str) = V.str "some" from fun z => absurd (V.str.inj z) (by decide +kernel))]
    refine iteF ⟨_, rfl, _, rfl, a, _, rfl, SqT.of ha, (by rintro ⟨z, _⟩; simp [HT.sIx] at z), fun p hp => ?_⟩
    rw [sl1]
    exact q p [u1, u2] _ (same_new hp _) upd_same (.cons (h1.same (same_new hp _)) (.cons (h2.same (same_new hp _)) .nil))
  | and3 x y z =>
    obtain ⟨a, u1, u2, u3, rfl, ha, h1, h2, h3⟩ := hc
    refine iteF ⟨_, rfl, a, _, _, _, rfl, rfl, SqT.of ha, atI_nat (j := 0) rfl, rfl, _, rfl, ?_⟩
    rw [decide_eq_false (show ¬ V.str ("and" : Str) = V.str "some" from fun z => absurd (V.str.inj z) (by decide +kernel))]
    refine iteF ⟨_, rfl, _, rfl, a, _, rfl, SqT.of ha, (by rintro ⟨z, _⟩; simp [HT.sIx] at z), fun p hp => ?_⟩
    rw [sl1]
    exact q p [u1, u2, u3] _ (same_new hp _) upd_same (.cons (h1.same (same_new hp _)) (.cons (h2.same (same_new hp _)) (.cons (h3.same (same_new hp _)) .nil)))
end
end K1
namespace K1
open PySem L2
/-! ### texts as Str -/
def sOf (l : List Nat) : Str := ⟨l.toArray⟩
theorem cs_sOf (l : List Nat) : cs (sOf l) = l := by simp [sOf, cs]
theorem sOf_cs (s : Str) : sOf (cs s) = s := str_ext (cs_sOf _)
theorem len_sOf (l : List Nat) : (sOf l).length = l.length := by simp [sOf, Str.length]
theorem len_cs (s : Str) : s.length = (cs s).length := rfl
theorem cs_app (a b : Str) : cs (a ++ b) = cs a ++ cs b := PyProof.Rows.cps_toList_append a b
theorem len_app (a b : Str) : (a ++ b).length = a.length + b.length := by
  rw [len_cs, cs_app, List.length_append]
  rfl
def tS (c : Con) : Str := sOf (txt c)
def pS (c : Con) : Str := sOf (par c)
theorem tS_atom {s : Str} : tS (.atom s) = s := sOf_cs s
theorem pS_eq {c : Con} (h : isAnd c = false) : pS c = tS c := by unfold pS tS; rw [par_no h]
theorem cs_empty : cs Str.empty = [] := rfl
theorem cs_some : cs ("some " : Str) = [115, 111, 109, 101, 32] := by decide +kernel
theorem cs_sp : cs (" " : Str) = [32] := by decide +kernel
theorem cs_lp : cs ("(" : Str) = [40] := by decide +kernel
theorem cs_rp : cs (")" : Str) = [41] := by decide +kernel
theorem cs_amp : cs (" & " : Str) = [32, 38, 32] := by decide +kernel
/-- f'({piece})' -/
theorem paren_is {c : Con} (h : isAnd c = true) : Str.empty ++ "(" ++ tS c ++ ")" = pS c := str_ext (by
  rw [cs_app, cs_app, cs_app, cs_empty, cs_lp, cs_rp]
  unfold tS pS
  rw [cs_sOf, cs_sOf]
  unfold par wrap
  rw [h]
  rfl)
theorem paren_is2 {c : Con} (h : isAnd c = true) : ("(" : Str) ++ tS c ++ ")" = pS c := str_ext (by
  rw [cs_app, cs_app, cs_lp, cs_rp]
  unfold tS pS
  rw [cs_sOf, cs_sOf]
  unfold par wrap
  rw [h]
  rfl)
theorem ex_is {r : Str} {c : Con} : Str.empty ++ "some " ++ r ++ " " ++ pS c = tS (.ex r c) := str_ext (by
  rw [cs_app, cs_app, cs_app, cs_app, cs_empty, cs_some, cs_sp]
  unfold tS pS
  rw [cs_sOf, cs_sOf]
  simp [txt])
theorem ex_is2 {r : Str} {c : Con} : ("some " : Str) ++ r ++ " " ++ pS c = tS (.ex r c) := str_ext (by
  rw [cs_app, cs_app, cs_app, cs_some, cs_sp]
  unfold tS pS
  rw [cs_sOf, cs_sOf]
  simp [txt])
theorem join2 {a b : Con} : PySem.Txt.join " & " [pS a, pS b] = tS (.and2 a b) := str_ext (by
  rw [TL.join_eq]
  show TL.tl (Str.join " & " [pS a, pS b]) = _
  rw [TL.tl_join]
  show TL.joinL (cs " & ") [cs (pS a), cs (pS b)] = _
  rw [cs_amp]
  unfold tS pS
  rw [cs_sOf, cs_sOf, cs_sOf]
  rfl)
theorem join3 {a b c : Con} : PySem.Txt.join " & " [pS a, pS b, pS c] = tS (.and3 a b c) := str_ext (by
  rw [TL.join_eq]
  show TL.tl (Str.join " & " [pS a, pS b, pS c]) = _
  rw [TL.tl_join]
  show TL.joinL (cs " & ") [cs (pS a), cs (pS b), cs (pS c)] = _
  rw [cs_amp]
  unfold tS pS
  rw [cs_sOf, cs_sOf, cs_sOf, cs_sOf]
  rfl)
theorem con_len {H : Hp} : ∀ {c : Con} {v : V}, ConAt H c v → (txt c).length + 2 ≤ 24 * nodes c
  | .atom s, v, ⟨_, h⟩ => by
    have : (cs s).length ≤ 12 := h
    simp only [txt, nodes]
    omega
  | .ex r c, v, ⟨_, _, _, _, h, hr⟩ => by
    have := con_len h
    have : (cs r).length ≤ 12 := hr
    have := wrap_len (isAnd c) (txt c)
    simp only [txt, nodes, List.length_append, List.length_cons, List.length_nil]
    omega
  | .and2 a b, v, ⟨_, _, _, _, _, h1, h2⟩ => by
    have := con_len h1
    have := con_len h2
    have := wrap_len (isAnd a) (txt a)
    have := wrap_len (isAnd b) (txt b)
    simp only [txt, nodes, List.length_append, List.length_cons, List.length_nil]
    omega
  | .and3 a b c, v, ⟨_, _, _, _, _, _, h1, h2, h3⟩ => by
    have := con_len h1
    have := con_len h2
    have := con_len h3
    have := wrap_len (isAnd a) (txt a)
    have := wrap_len (isAnd b) (txt b)
    have := wrap_len (isAnd c) (txt c)
    simp only [txt, nodes, List.length_append, List.length_cons, List.length_nil]
    omega
theorem tS_inj {a b : Con} (ha : Wf a) (hb : Wf b) (h : tS a = tS b) : a = b := txt_inj ha hb (by have := congrArg cs h; unfold tS at this; rwa [cs_sOf, cs_sOf] at this)
/-! ### heaps that keep what stands, but for a few places -/
/-- tuples stay -/
def TSame (H H' : Hp) : Prop := ∀ b xs, H b = some (.tup xs) → H' b = some (.tup xs)
theorem Same.t {H H' : Hp} (e : Same H H') : TSame H H' := fun b xs h => e b _ h
theorem TSame.trans {H H1 H2 : Hp} (a : TSame H H1) (b : TSame H1 H2) : TSame H H2 := fun c xs h => b c xs (a c xs h)
theorem TSame.refl (H : Hp) : TSame H H := fun _ _ h => h
theorem ConAt.t {H H' : Hp} (e : TSame H H') : ∀ {c : Con} {v : V}, ConAt H c v → ConAt H' c v
  | .atom s, v, h => h
  | .ex r c, v, ⟨p, u, h1, h2, h3, h9⟩ => ⟨p, u, h1, e _ _ h2, h3.t e, h9⟩
  | .and2 a b, v, ⟨p, u1, u2, h1, h2, h3, h4⟩ => ⟨p, u1, u2, h1, e _ _ h2, h3.t e, h4.t e⟩
  | .and3 a b c, v, ⟨p, u1, u2, u3, h1, h2, h3, h4, h5⟩ => ⟨p, u1, u2, u3, h1, e _ _ h2, h3.t e, h4.t e, h5.t e⟩
theorem paired_t {H H' : Hp} (e : TSame H H') : ∀ {ks : List Con} {ws : List V}, Paired (ConAt H) ks ws → Paired (ConAt H') ks ws
  | _, _, .nil => .nil
  | _, _, .cons r t => .cons (r.t e) (paired_t e t)
/-- all but what stands at the places of D -/
def But (D : List Addr) (H H' : Hp) : Prop := ∀ b o, b ∉ D → H b = some o → H' b = some o
theorem But.of {D : List Addr} {H H' : Hp} (e : Same H H') : But D H H' := fun b o _ h => e b o h
theorem But.trans {D : List Addr} {H H1 H2 : Hp} (a : But D H H1) (b : But D H1 H2) : But D H H2 := fun c o n h => b c o n (a c o n h)
theorem But.refl {D : List Addr} (H : Hp) : But D H H := fun _ _ _ h => h
theorem But.put {D : List Addr} {H : Hp} {d : Addr} {o : HO} (hd : d ∈ D) : But D H (L2.upd H d o) := fun b u n h => by
  rw [upd_ne (fun e => n (by rw [e]; exact hd))]
  exact h
theorem But.new {D : List Addr} {H : Hp} {d : Addr} {o : HO} (hd : H d = none) : But D H (L2.upd H d o) := But.of (same_new hd o)
theorem But.mono {D D' : List Addr} {H H' : Hp} (a : But D H H') (h : ∀ x ∈ D, x ∈ D') : But D' H H' := fun b o n q => a b o (fun z => n (h b z)) q
/-- a place that was not there may be changed -/
theorem But.drop {D : List Addr} {l : Addr} {H H' : Hp} (a : But (l :: D) H H') (h : H l = none) : But D H H' := fun b o n q => a b o (fun z => by
  rcases List.mem_cons.mp z with rfl | z
  · rw [h] at q; cases q
  · exact n z) q
theorem But.t {D : List Addr} {H H' : Hp} (a : But D H H') (h : ∀ d ∈ D, ∀ xs, H d ≠ some (.tup xs)) : TSame H H' := fun b xs q => a b _ (fun z => h b z xs q) q
/-! ### a dict of texts -/
structure Dk (H : Hp) (d : Addr) (ks : List Str) (kvs : List (Key × V)) : Prop where
  at_ : H d = some (.dK kvs)
  keys : kvs.map (·.1) = ks.map Sum.inr
  nd : ks.Nodup
theorem Dk.len {H : Hp} {d : Addr} {ks : List Str} {kvs : List (Key × V)} (h : Dk H d ks kvs) : kvs.length = ks.length := by
  have := congrArg List.length h.keys
  simpa using this
def addS (ks : List Str) (s : Str) : List Str := if s ∈ ks then ks else ks ++ [s]
theorem mem_addS {ks : List Str} {s x : Str} : x ∈ addS ks s ↔ x ∈ ks ∨ x = s := by
  unfold addS
  split
  · constructor
    · exact .inl
    · rintro (h | rfl)
      · exact h
      · assumption
  · simp
theorem nd_addS {ks : List Str} {s : Str} (h : ks.Nodup) : (addS ks s).Nodup := by
  unfold addS
  split
  · exact h
  · rename_i n
    exact List.nodup_append.mpr ⟨h, by simp, fun a ha b hb e => n (by simp only [List.mem_singleton] at hb; rw [← hb, ← e]; exact ha)⟩
theorem len_addS {ks : List Str} {s : Str} : (addS ks s).length ≤ ks.length + 1 := by
  unfold addS
  split <;> simp
theorem Dk.any {H : Hp} {d : Addr} {ks : List Str} {kvs : List (Key × V)} (h : Dk H d ks kvs) (s : Str) : (kvs.any fun kv => decide (kv.1 = (Sum.inr s : Key))) = decide (s ∈ ks) := by
  rw [Bool.eq_iff_iff, List.any_eq_true, decide_eq_true_eq]
  have hk : (Sum.inr s : Key) ∈ kvs.map (·.1) ↔ s ∈ ks := by
    rw [h.keys, List.mem_map]
    constructor
    · rintro ⟨x, hx, e⟩
      cases e
      exact hx
    · exact fun hx => ⟨s, hx, rfl⟩
  rw [← hk, List.mem_map]
  constructor
  · rintro ⟨kv, h1, h2⟩
    exact ⟨kv, h1, of_decide_eq_true h2⟩
  · rintro ⟨kv, h1, h2⟩
    exact ⟨kv, h1, decide_eq_true h2⟩
theorem Dk.put {H : Hp} {d : Addr} {ks : List Str} {kvs : List (Key × V)} (h : Dk H d ks kvs) (s : Str) (v : V) : Dk (upd H d (.dK (putK kvs (Sum.inr s) v))) d (addS ks s) (putK kvs (Sum.inr s) v) := by
  refine ⟨upd_same, ?_, nd_addS h.nd⟩
  unfold putK addS
  rw [h.any s]
  by_cases c : s ∈ ks
  · rw [if_pos (decide_eq_true c), if_pos c, ← h.keys, List.map_map]
    refine List.map_congr_left fun kv _ => ?_
    show (if kv.1 = (Sum.inr s : Key) then (kv.1, v) else kv).1 = kv.1
    split <;> rfl
  · rw [decide_eq_false c, if_neg Bool.false_ne_true, if_neg c, List.map_append, h.keys, List.map_append]
    rfl
theorem Dk.some {H : Hp} {d : Addr} {ks : List Str} {kvs : List (Key × V)} (h : Dk H d ks kvs) {s : Str} (hs : s ∈ ks) : ∃ v, valV kvs (Sum.inr s : Key) = some v := by
  have := valV_any (Sum.inr s : Key) kvs
  rw [h.any s, decide_eq_true hs] at this
  exact Option.isSome_iff_exists.mp this.symm
theorem Dk.same {H H' : Hp} {d : Addr} {ks : List Str} {kvs : List (Key × V)} (h : Dk H d ks kvs) (e : H' d = H d) : Dk H' d ks kvs := ⟨e.trans h.at_, h.keys, h.nd⟩
end K1
namespace K1
open PySem L2
/-! ### the draws of the law -/
structure DrawAt (H : Hp) (d a : Addr) : Prop where
  ex : ∃ (ns : List Int) (n : Int), H d = some (.lst [.ref a, .int 0, .int n]) ∧ H a = some (.lst (ns.map V.int)) ∧ 0 ≤ n
theorem draw_ne {H : Hp} {a d : Addr} {ns : List Int} {n : Int} (h1 : H d = some (.lst [.ref a, .int 0, .int n])) (h2 : H a = some (.lst (ns.map V.int))) : a ≠ d := by
  rintro rfl
  rw [h1] at h2
  cases ns with
  | nil => cases h2
  | cons x r => cases h2
theorem DrawAt.same {H H' : Hp} {d a : Addr} (h : DrawAt H d a) (e : Same H H') : DrawAt H' d a := by
  obtain ⟨ns, n, h1, h2, h3⟩ := h.ex
  exact ⟨ns, n, e _ _ h1, e _ _ h2, h3⟩
theorem DrawAt.new {H : Hp} {d a l : Addr} (h : DrawAt H d a) (hl : H l = none) : l ≠ d ∧ l ≠ a := by
  obtain ⟨ns, n, h1, h2, h3⟩ := h.ex
  exact ⟨(ne_of_none h1 hl).symm, (ne_of_none h2 hl).symm⟩
theorem DrawAt.upd {H : Hp} {d a l : Addr} {o : HO} (h : DrawAt H d a) (n1 : l ≠ d) (n2 : l ≠ a) : DrawAt (L2.upd H l o) d a := by
  obtain ⟨ns, n, h1, h2, h3⟩ := h.ex
  exact ⟨ns, n, by rw [upd_ne n1.symm]; exact h1, by rw [upd_ne n2.symm]; exact h2, h3⟩
theorem DrawAt.nt {H : Hp} {d a : Addr} (h : DrawAt H d a) : ∀ e ∈ [d], ∀ xs, H e ≠ some (.tup xs) := fun e he xs z => by
  simp only [List.mem_singleton] at he
  subst he
  obtain ⟨ns, n, h1, _⟩ := h.ex
  rw [h1] at z
  cases z
def primesL : List Int := [1000003, 1000033, 1000037, 1000039, 1000081, 1000099, 1000117, 1000121, 1000133, 1000151, 1000159, 1000171, 1000183, 1000187, 1000193, 1000199]
theorem prime_get : ∀ j : Fin 16, ∃ p : Int, primesL[j.val]? = some p ∧ 0 < p := by
  intro j
  have h : ∀ j : Fin 16, primesL[j.val]? = some (primesL.getD j.val 0) ∧ 0 < primesL.getD j.val 0 := by decide +kernel
  exact ⟨_, h j⟩
theorem pow_small : ∀ i : Nat, 0 < (1009 : Int) ^ i ∧ ((1009 : Int) ^ i).natAbs < 2 ^ (10 * i + 1)
  | 0 => by decide
  | i + 1 => by
    obtain ⟨h1, h2⟩ := pow_small i
    constructor
    · rw [Int.pow_succ]; omega
    · rw [Int.pow_succ, Int.natAbs_mul, show 10 * (i + 1) + 1 = (10 * i + 1) + 10 from by omega, Nat.pow_add]
      have : (1009 : Int).natAbs < 2 ^ 10 := by decide
      exact Nat.mul_lt_mul'' h2 this
section
variable {P : Program} {w : World} {K : PySem.W.Frag} {mg : Str → Option Value} {base : Heap}
def spCell : Sp := fun vs H Q _ => ∃ (a : Addr) (ns : List Int) (k : Int), vs = [.ref a, .int k] ∧ H a = some (.lst (ns.map V.int)) ∧ 0 ≤ k ∧ ∀ z : Int, Q (.int z) H
theorem ok_cell_at (D : Defs K mg) : FnOk P w K mg base CX0 1 D.d_law_cell_at.f D.d_law_cell_at.fd ["script", "k"] spCell := by
  refine D.d_law_cell_at.F.ok sc_law_cell_at (fun vs H Q E h => ?_) (fun cdv A outer s H vs Q E hr h => ?_)
  · obtain ⟨a, ns, k, rfl, _⟩ := h
    rfl
  obtain ⟨a, ns, k, rfl, ha, hk, q⟩ := h
  refine ⟨_, (pss_cons (ps_if (pt_cmpR op_lt (pv 1) (pe_callB call_len_seq (by rfl) D.z_len (by decide +kernel) (pa_cons (pv 0) pa_nil)) (nomark _)) (pss_one (ps_ret (pe_ix ix_list (pv 0) (pv 1) (fun _ _ => rfl)))) pss_nil)
      (pss_one (ps_ret pe_int))), ?_⟩
  refine ⟨_, rfl, _, rfl, a, _, rfl, .inl (SqL.of ha), _, _, rfl, rfl, _, rfl, ?_⟩
  refine ite2 (fun c => ?_) (fun c => q 0)
  have c' : k < (((ns.map V.int).length : Nat) : Int) := of_decide_eq_true c
  rw [List.length_map] at c'
  have hk2 : k.toNat < ns.length := by omega
  have ek : k = ((k.toNat : Nat) : Int) := by omega
  have z : atI (ns.map V.int) ((k.toNat : Nat) : Int) = some (.int ns[k.toNat]) := atI_nat (by rw [List.getElem?_map, List.getElem?_eq_getElem hk2] <;> rfl)
  rw [← ek] at z
  exact ⟨_, rfl, _, rfl, a, _, _, _, rfl, rfl, SqL.of ha, z, q _⟩
def spDraw : Sp := fun vs H Q _ => ∃ (c k b : Int), vs = [.int c, .int k, .int b] ∧ 0 < b ∧ ∀ H' (r : Int), Same H H' → 0 ≤ r → r < b → Q (.int r) H'
theorem ok_draw (D : Defs K mg) : FnOk P w K mg base CX0 1 D.d_law_draw.f D.d_law_draw.fd ["cell", "k", "bound"] spDraw := by
  refine D.d_law_draw.F.ok sc_law_draw (fun vs H Q E h => ?_) (fun cdv A outer s H vs Q E hr h => ?_)
  · obtain ⟨c, k, b, rfl, _⟩ := h
    rfl
  obtain ⟨c, k, b, rfl, hb, q⟩ := h
  refine ⟨_, (pss_cons (ps_set (i := 3) sc_law_draw.nd rfl (Or.inl rfl) (pe_tup (pa_cons pe_int (pa_cons pe_int (pa_cons pe_int (pa_cons pe_int (pa_cons pe_int (pa_cons pe_int (pa_cons pe_int (pa_cons pe_int (pa_cons pe_int (pa_cons pe_int (pa_cons pe_int (pa_cons pe_int (pa_cons pe_int (pa_cons pe_int (pa_cons pe_int (pa_cons pe_int pa_nil))))))))))))))))))
      (pss_one (ps_ret (pe_op op_mod (pe_op op_mod (pe_callTy call_int1 (by rfl) D.z_int (by decide +kernel) (pa_cons (pe_op op_add (pe_op op_mul (pv 0) pe_int) (pe_op op_mul (pv 1) pe_int)) pa_nil)) (pe_ix ix_tup (pv 3) (pe_op op_mod (pe_callTy call_int1 (by rfl) D.z_int (by decide +kernel) (pa_cons (pv 1) pa_nil)) pe_int) (fun _ _ => rfl))) (pv 2))))), ?_⟩
  refine ⟨(by show 16 ≤ sizeLine; decide), fun p hp => ?_⟩
  have h0 : 0 ≤ k % 16 := Int.emod_nonneg _ (by decide)
  have h1 : k % 16 < 16 := Int.emod_lt_of_pos _ (by decide)
  obtain ⟨m, e1, e2⟩ := prime_get ⟨(k % 16).toNat, by omega⟩
  have z : atI (primesL.map V.int) (((k % 16).toNat : Nat) : Int) = some (.int m) := atI_nat (by rw [List.getElem?_map, e1] <;> rfl)
  rw [show (((k % 16).toNat : Nat) : Int) = k % 16 by omega] at z
  refine ⟨_, rfl, _, _, rfl, rfl, .inr ⟨by decide, by decide⟩, _, rfl, _, _, rfl, rfl, .inr ⟨by decide, by decide⟩, _, _, rfl, rfl, .inl ⟨_, rfl, ?_⟩⟩
  refine ⟨_, rfl, _, rfl, .inl ⟨_, rfl, _, _, rfl, rfl, (by show (0 : Int) < 16; decide), p, primesL.map V.int, _, .int m, rfl, rfl, SqT.of upd_same, z, _, _, rfl, rfl, e2, _, rfl, _, _, rfl, rfl, hb, ?_⟩⟩
  exact q _ _ (same_new hp _) (Int.emod_nonneg _ (by omega)) (Int.emod_lt_of_pos _ hb)
def spNumber : Sp := fun vs H Q _ => ∃ (c k b : Int), vs = [.int c, .int k, .int b] ∧ 0 < b ∧ 0 ≤ k ∧ k ≤ 100 ∧ ∀ H' (r : Int), Same H H' → 0 ≤ r → r < b → Q (.int r) H'
theorem ok_number (D : Defs K mg) : FnOk P w K mg base CX0 2 D.d_law_number.f D.d_law_number.fd ["cell", "k", "bound"] spNumber := by
  have G := ok_draw (P := P) (w := w) (base := base) D
  refine D.d_law_number.F.ok sc_law_number (fun vs H Q E h => ?_) (fun cdv A outer s H vs Q E hr h => ?_)
  · obtain ⟨c, k, b, rfl, _⟩ := h
    rfl
  obtain ⟨c, k, b, rfl, hb, hk0, hk1, q⟩ := h
  refine ⟨_, (pss_cons (ps_set (i := 3) sc_law_number.nd rfl (Or.inl rfl) pe_int)
      (pss_cons (ps_for PassesOwn.never rfl (pi_range1 rfl D.z_range (pa_cons (pe_op op_mod (pe_callTy call_int1 (by rfl) D.z_int (by decide +kernel) (pa_cons (pv 1) pa_nil)) pe_int) pa_nil)) (pg_name (i := 4) sc_law_number.nd rfl (Or.inl rfl)) (pss_one (ps_set (i := 3) sc_law_number.nd rfl (Or.inl rfl) (pe_op op_mul (pv 3) pe_int))))
      (pss_cons (ps_set (i := 5) sc_law_number.nd rfl (Or.inl rfl) (pe_op op_fdivW (pe_op op_sub (pv 0) (pe_op op_pow pe_int pe_int)) (pv 3)))
      (pss_cons (ps_if (pt_cmpR op_gt (pv 5) pe_int (nomark _)) (pss_one (ps_ret (pe_op op_mod (pe_op op_mod (pe_callTy call_int1 (by rfl) D.z_int (by decide +kernel) (pa_cons (pv 5) pa_nil)) pe_int) (pv 2)))) pss_nil)
      (pss_cons (ps_set (i := 6) sc_law_number.nd rfl (Or.inl rfl) (pe_op op_mod (pe_callTy call_int1 (by rfl) D.z_int (by decide +kernel) (pa_cons (pv 0) pa_nil)) pe_int))
      (pss_one (ps_ret (pe_op op_mod (pe_call G hr rfl D.d_law_draw.m D.d_law_draw.F.kp D.d_law_draw.b .nil pass0 (pa_cons (pe_op op_mul (pe_op op_add (pv 6) (pe_op op_mul pe_int (pv 1))) (pe_op op_add (pe_op op_add (pv 6) (pe_op op_mul pe_int (pv 1))) pe_int)) (pa_cons (pe_op op_add (pe_op op_mod (pe_callTy call_int1 (by rfl) D.z_int (by decide +kernel) (pa_cons (pv 1) pa_nil)) pe_int) pe_int) (pa_cons pe_int pa_nil)))) (pv 2))))))))), ?_⟩
  have h0 : 0 ≤ k % 24 := Int.emod_nonneg _ (by decide)
  have h1 : k % 24 < 24 := Int.emod_lt_of_pos _ (by decide)
  refine ⟨_, rfl, .inl ⟨_, rfl, _, _, rfl, rfl, (by show (0 : Int) < 24; decide), _, rfl, ?_, ?_, for_range (lo := 0) (n := (k % 24).toNat) (fun i σ H2 => H2 = H ∧ ∃ o, σ = [some (.int c), some (.int k), some (.int b), some (.int (1009 ^ i)), o, none, none]) ⟨rfl, none, rfl⟩ ?_ ?_⟩⟩
  · show -(2 ^ 62) ≤ k % 24
    omega
  · show k % 24 < 2 ^ 62
    omega
  · rintro i σ H2 hi ⟨rfl, o, rfl⟩
    exact ⟨_, rfl, _, _, rfl, rfl, .inr ⟨by decide, by decide⟩, rfl, _, by rw [Int.pow_succ]; rfl⟩
  · rintro σ H2 ⟨rfl, o, rfl⟩
    obtain ⟨p0, p1⟩ := pow_small (k % 24).toNat
    refine ⟨_, rfl, _, _, rfl, rfl, ⟨by decide, by decide, by decide⟩, _, _, rfl, rfl, _, rfl, _, _, rfl, rfl, wide_div p0 p1 (by omega) (by omega), ?_⟩
    refine ⟨_, rfl, _, _, rfl, rfl, _, rfl, ?_⟩
    refine ite2 (fun _ => ?_) (fun _ => ?_)
    · refine ⟨_, rfl, .inl ⟨_, rfl, _, _, rfl, rfl, (by show (0 : Int) < 1009; decide), _, rfl, _, _, rfl, rfl, hb, ?_⟩⟩
      exact q _ _ (Same.refl _) (Int.emod_nonneg _ (by omega)) (Int.emod_lt_of_pos _ hb)
    · refine ⟨_, rfl, .inl ⟨_, rfl, _, _, rfl, rfl, (by show (0 : Int) < 1000003; decide), ?_⟩⟩
      have s0 : 0 ≤ c % 1000003 := Int.emod_nonneg _ (by decide)
      have s1 : c % 1000003 < 1000003 := Int.emod_lt_of_pos _ (by decide)
      refine ⟨_, rfl, _, rfl, _, _, rfl, rfl, .inl ⟨by decide, by decide⟩, _, _, rfl, rfl, _, rfl, _, rfl, _, _, rfl, rfl, .inl ⟨by decide, by decide⟩, _, _, rfl, rfl, _, _, rfl, rfl, _, _, rfl, rfl, .inl ⟨?_, ?_⟩, ?_⟩
      · show -(2 ^ 64) < c % 1000003 + 977 * k
        omega
      · show c % 1000003 + 977 * k < 2 ^ 64
        omega
      refine ⟨_, rfl, .inl ⟨_, rfl, _, _, rfl, rfl, (by show (0 : Int) < 9; decide), _, _, rfl, rfl, _, _, _, rfl, (by show (0 : Int) < 999983; decide), fun H3 r g r0 r1 => ⟨_, rfl, _, _, rfl, rfl, hb, ?_⟩⟩⟩
      exact q _ _ g (Int.emod_nonneg _ (by omega)) (Int.emod_lt_of_pos _ hb)
def spNext : Sp := fun vs H Q _ => ∃ (d a : Addr) (b : Int), vs = [.ref d, .int b] ∧ 0 < b ∧ DrawAt H d a ∧ ∀ H' (r : Int), But [d] H H' → DrawAt H' d a → 0 ≤ r → r < b → Q (.int r) H'
theorem ok_next (D : Defs K mg) : FnOk P w K mg base CX0 3 D.d_law_next.f D.d_law_next.fd ["draw", "bound"] spNext := by
  have GC := ok_cell_at (P := P) (w := w) (base := base) D
  have GN := ok_number (P := P) (w := w) (base := base) D
  refine D.d_law_next.F.ok sc_law_next (fun vs H Q E h => ?_) (fun cdv A outer s H vs Q E hr h => ?_)
  · obtain ⟨d, a, b, rfl, _⟩ := h
    rfl
  obtain ⟨d, a, b, rfl, hb, hd, q⟩ := h
  have hr1 : Room 1 _ := hr.mono (by omega)
  refine ⟨_, (pss_cons (ps_asg (pe_op op_add (pe_ix ix_list (pv 0) pe_int (fun _ _ => rfl)) pe_int) (pg_sub (pv 0) pe_int set_list))
      (pss_cons (ps_set (i := 2) sc_law_next.nd rfl (Or.inl rfl) (pe_op op_fdiv (pe_ix ix_list (pv 0) pe_int (fun _ _ => rfl)) pe_int))
      (pss_cons (ps_set (i := 3) sc_law_next.nd rfl (Or.inl rfl) (pe_op op_add (pe_call GC hr1 rfl D.d_law_cell_at.m D.d_law_cell_at.F.kp D.d_law_cell_at.b .nil pass0 (pa_cons (pe_ix ix_list (pv 0) pe_int (fun _ _ => rfl)) (pa_cons (pe_op op_add (pe_ix ix_list (pv 0) pe_int (fun _ _ => rfl)) (pv 2)) pa_nil))) (pe_op op_mul pe_int (pv 2))))
      (pss_one (ps_ret (pe_call GN hr rfl D.d_law_number.m D.d_law_number.F.kp D.d_law_number.b .nil pass0 (pa_cons (pv 3) (pa_cons (pe_op op_add (pe_op op_mod (pe_callTy call_int1 (by rfl) D.z_int (by decide +kernel) (pa_cons (pe_ix ix_list (pv 0) pe_int (fun _ _ => rfl)) pa_nil)) pe_int) pe_int) (pa_cons (pv 1) pa_nil))))))))), ?_⟩
  obtain ⟨ns, n, h1, h2, h3⟩ := hd.ex
  have ne := draw_ne h1 h2
  refine ⟨_, rfl, d, _, _, _, rfl, rfl, SqL.of h1, atI_nat (j := 2) rfl, _, _, rfl, rfl, _, rfl, d, _, _, 2, rfl, rfl, h1, rfl, ?_⟩
  have e1 : upd H d (.lst ([V.ref a, V.int 0, V.int n].set 2 (V.int (n + 1)))) d = some (.lst [.ref a, .int 0, .int (n + 1)]) := upd_same
  have e2 : upd H d (.lst ([V.ref a, V.int 0, V.int n].set 2 (V.int (n + 1)))) a = some (.lst (ns.map V.int)) := by rw [upd_ne ne]; exact h2
  have b1 : But [d] H (upd H d (.lst ([V.ref a, V.int 0, V.int n].set 2 (V.int (n + 1))))) := But.put (by simp)
  refine ⟨_, rfl, d, _, _, _, rfl, rfl, SqL.of e1, atI_nat (j := 2) rfl, _, _, rfl, rfl, ⟨by decide, by decide⟩, ?_⟩
  have p0 : 0 ≤ (n + 1) / 12 := Int.ediv_nonneg (by omega) (by decide)
  refine ⟨_, rfl, d, _, _, _, rfl, rfl, SqL.of e1, atI_nat (j := 0) rfl, _, rfl, d, _, _, _, rfl, rfl, SqL.of e1, atI_nat (j := 1) rfl, _, rfl, _, _, rfl, rfl, a, ns, _, rfl, e2, (by show (0 : Int) ≤ 0 + (n + 1) / 12; omega), fun z => ⟨_, rfl, _, _, rfl, rfl, .inl ⟨by decide, by decide⟩, _, _, rfl, rfl, ?_⟩⟩
  have m0 : 0 ≤ (n + 1) % 12 := Int.emod_nonneg _ (by decide)
  have m1 : (n + 1) % 12 < 12 := Int.emod_lt_of_pos _ (by decide)
  refine ⟨_, rfl, _, rfl, d, _, _, _, rfl, rfl, SqL.of e1, atI_nat (j := 2) rfl, .inl ⟨_, rfl, _, _, rfl, rfl, (by show (0 : Int) < 12; decide), _, _, rfl, rfl, _, rfl, _, _, _, rfl, hb, ?_, ?_, fun H' r g r0 r1 => ?_⟩⟩
  · show 0 ≤ (n + 1) % 12 + 1
    omega
  · show (n + 1) % 12 + 1 ≤ 100
    omega
  exact q H' r (b1.trans (But.of g)) ⟨ns, n + 1, g _ _ e1, g _ _ e2, by omega⟩ r0 r1
def spPick : Sp := fun vs H Q _ => ∃ (d a t : Addr) (xs : List L2.V), vs = [.ref d, .ref t] ∧ DrawAt H d a ∧ H t = some (.lst xs) ∧ t ≠ d ∧ 0 < xs.length ∧ ∀ H' x, x ∈ xs → But [d] H H' → DrawAt H' d a → Q x H'
theorem ok_pick (D : Defs K mg) : FnOk P w K mg base CX0 4 D.d_law_pick.f D.d_law_pick.fd ["draw", "things"] spPick := by
  have G := ok_next (P := P) (w := w) (base := base) D
  refine D.d_law_pick.F.ok sc_law_pick (fun vs H Q E h => ?_) (fun cdv A outer s H vs Q E hr h => ?_)
  · obtain ⟨d, a, t, xs, rfl, _⟩ := h
    rfl
  obtain ⟨d, a, t, xs, rfl, hd, ht, ne, pos, q⟩ := h
  refine ⟨_, (pss_one (ps_ret (pe_ix ix_list (pv 1) (pe_call G hr rfl D.d_law_next.m D.d_law_next.F.kp D.d_law_next.b .nil pass0 (pa_cons (pv 0) (pa_cons (pe_callB call_len_seq (by rfl) D.z_len (by decide +kernel) (pa_cons (pv 1) pa_nil)) pa_nil))) (fun _ _ => rfl)))), ?_⟩
  refine ⟨_, rfl, _, rfl, _, rfl, t, _, rfl, .inl (SqL.of ht), d, a, _, rfl, (by show (0 : Int) < (xs.length : Int); omega), hd, fun H' r b hd' r0 r1 => ?_⟩
  have hr2 : r.toNat < xs.length := by omega
  have er : r = ((r.toNat : Nat) : Int) := by omega
  have z : atI xs ((r.toNat : Nat) : Int) = some xs[r.toNat] := atI_nat (by rw [List.getElem?_eq_getElem hr2])
  rw [← er] at z
  refine ⟨t, xs, r, _, rfl, rfl, SqL.of (b _ _ (by simpa using ne) ht), z, q H' _ (List.getElem_mem hr2) b hd'⟩
end
end K1
namespace K1
open PySem L2
/-! ### data for == -/
theorem letters_strOk {s : Str} (h : letters (cs s) = true) : PyData.strOk s = true := by
  unfold PyData.strOk
  rw [Array.all_eq_true_iff_forall_mem]
  intro x hx
  unfold letters at h
  rw [List.all_eq_true] at h
  have := h x (Array.mem_toList_iff.mpr hx)
  simp only [Bool.and_eq_true, decide_eq_true_eq] at this ⊢
  omega
def strsD (l : List Str) : List PyData := l.map PyData.str
theorem dp_strs {K : PySem.W.Frag} {H : Hp} : ∀ l : List Str, DpAll K H (l.map V.str) (strsD l)
  | [] => .nil
  | x :: l => .cons (.str x) (dp_strs l)
theorem lay_strs : ∀ {l : List Str}, (∀ x ∈ l, PyData.strOk x = true) → PyData.canLayAll0 (strsD l) = true
  | [], _ => rfl
  | x :: l, h => by
    show (PyData.canLay0 (.str x) && PyData.canLayAll0 (strsD l)) = true
    rw [lay_strs fun y hy => h y (List.mem_cons_of_mem _ hy), Bool.and_true]
    exact h x (List.mem_cons_self ..)
theorem depth_strs : ∀ l : List Str, PyData.depthAll (strsD l) = 0
  | [] => rfl
  | x :: l => by
    show max (PyData.depth (.str x)) (PyData.depthAll (strsD l)) = 0
    rw [depth_strs l]
    rfl
theorem shaped_of {d : PyData} (h1 : d.canLay0 = true) (h2 : d.depth ≤ 64) : SeqAt.shaped d = true := by
  unfold SeqAt.shaped
  rw [h1, decide_eq_true h2]
  rfl
/-- a concept as data -/
def conD : Con → PyData
  | .atom s => .str s
  | .ex r c => .tuple [.str "some", .str r, conD c]
  | .and2 a b => .tuple [.str "and", conD a, conD b]
  | .and3 a b c => .tuple [.str "and", conD a, conD b, conD c]
theorem dp_con {K : PySem.W.Frag} {H : Hp} : ∀ {c : Con} {v : V}, ConAt H c v → Dp K H v (conD c)
  | .atom s, v, ⟨h, _⟩ => by subst h; exact .str s
  | .ex r c, v, ⟨p, u, h1, h2, h3, _⟩ => by subst h1; exact .tup (SqT.of h2) (.cons (.str _) (.cons (.str _) (.cons (dp_con h3) .nil)))
  | .and2 a b, v, ⟨p, u1, u2, h1, h2, h3, h4⟩ => by subst h1; exact .tup (SqT.of h2) (.cons (.str _) (.cons (dp_con h3) (.cons (dp_con h4) .nil)))
  | .and3 a b c, v, ⟨p, u1, u2, u3, h1, h2, h3, h4, h5⟩ => by subst h1; exact .tup (SqT.of h2) (.cons (.str _) (.cons (dp_con h3) (.cons (dp_con h4) (.cons (dp_con h5) .nil))))
theorem ok_some_str : PyData.strOk ("some" : Str) = true := by decide +kernel
theorem ok_and_str : PyData.strOk ("and" : Str) = true := by decide +kernel
theorem lay_con : ∀ {c : Con}, Wf c → (conD c).canLay0 = true
  | .atom s, h => letters_strOk h.1
  | .ex r c, h => by simp [conD, PyData.canLay0, PyData.canLayAll0, ok_some_str, letters_strOk h.1.1, lay_con h.2]
  | .and2 a b, h => by simp [conD, PyData.canLay0, PyData.canLayAll0, ok_and_str, lay_con h.1, lay_con h.2]
  | .and3 a b c, h => by simp [conD, PyData.canLay0, PyData.canLayAll0, ok_and_str, lay_con h.1, lay_con h.2.1, lay_con h.2.2]
theorem depth_con : ∀ c : Con, (conD c).depth ≤ nest c
  | .atom s => Nat.le_refl _
  | .ex r c => by have := depth_con c; simp only [conD, PyData.depth, PyData.depthAll, nest]; omega
  | .and2 a b => by have := depth_con a; have := depth_con b; simp only [conD, PyData.depth, PyData.depthAll, nest]; omega
  | .and3 a b c => by have := depth_con a; have := depth_con b; have := depth_con c; simp only [conD, PyData.depth, PyData.depthAll, nest]; omega
theorem dp_cons {K : PySem.W.Frag} {H : Hp} : ∀ {cl : List Con} {ws : List V}, Paired (ConAt H) cl ws → DpAll K H ws (cl.map conD)
  | _, _, .nil => .nil
  | _, _, .cons r t => .cons (dp_con r) (dp_cons t)
theorem lay_cons : ∀ {cl : List Con}, (∀ c ∈ cl, Wf c) → PyData.canLayAll0 (cl.map conD) = true
  | [], _ => rfl
  | c :: cl, h => by
    show ((conD c).canLay0 && PyData.canLayAll0 (cl.map conD)) = true
    rw [lay_con (h c (List.mem_cons_self ..)), lay_cons fun y hy => h y (List.mem_cons_of_mem _ hy)]
    rfl
theorem depth_cons {n : Nat} : ∀ {cl : List Con}, (∀ c ∈ cl, nest c ≤ n) → PyData.depthAll (cl.map conD) ≤ n
  | [], _ => Nat.zero_le _
  | c :: cl, h => by
    show max (conD c).depth (PyData.depthAll (cl.map conD)) ≤ n
    have := depth_con c
    have := h c (List.mem_cons_self ..)
    have := depth_cons (n := n) fun y hy => h y (List.mem_cons_of_mem _ hy)
    omega
def boolsD (l : List Bool) : List PyData := l.map PyData.bool
theorem dp_bools {K : PySem.W.Frag} {H : Hp} : ∀ l : List Bool, DpAll K H (l.map V.bl) (boolsD l)
  | [] => .nil
  | x :: l => .cons (.bl x) (dp_bools l)
theorem lay_bools : ∀ l : List Bool, PyData.canLayAll0 (boolsD l) = true
  | [] => rfl
  | x :: l => by
    show (PyData.canLay0 (.bool x) && PyData.canLayAll0 (boolsD l)) = true
    rw [lay_bools l]
    rfl
theorem depth_bools : ∀ l : List Bool, PyData.depthAll (boolsD l) = 0
  | [] => rfl
  | x :: l => by
    show max (PyData.depth (.bool x)) (PyData.depthAll (boolsD l)) = 0
    rw [depth_bools l]
    rfl
/-- told words as data -/
def toldD (ys zs : List Str) : PyData := .tuple [.tuple (strsD ys), .tuple (strsD zs)]
theorem shaped_told {ys zs : List Str} (h1 : ∀ x ∈ ys, PyData.strOk x = true) (h2 : ∀ x ∈ zs, PyData.strOk x = true) : SeqAt.shaped (toldD ys zs) = true := by
  refine shaped_of ?_ ?_
  · simp [toldD, PyData.canLay0, PyData.canLayAll0, lay_strs h1, lay_strs h2]
  · simp [toldD, PyData.depth, PyData.depthAll, depth_strs]
theorem word_strOk {s : Str} (h : wordOk s = true) : PyData.strOk s = true := letters_strOk (wd_of h).1
section
variable {X : Cx}
/-- 'z' * 12 -/
theorem op_mul_str : OpR X (binaryOp .Mult) (fun x y H Q => ∃ (s : Str) (n : Int), x = .str s ∧ y = .int n ∧ MulOk s n ∧ Q (.str (PySem.Txt.mul s n)) H) := by
  intro pins s σ H x y v u Q I rx ry h
  obtain ⟨z, n, rfl, rfl, ok, q⟩ := h
  obtain ⟨t, rfl⟩ := rx
  obtain ⟨t', rfl⟩ := ry
  exact SB.mul ok fun tk k => ⟨.str _, H, I.tok k, ⟨_, rfl⟩, q⟩
end
end K1
namespace K1
open PySem L2
/-! concepts with ands of any length, their texts -/
inductive T where
  | atom (s : Str)
  | ex (r : Str) (t : T)
  | and (l : List T)
def isAndT : T → Bool
  | .and _ => true
  | _ => false
def amp : List Nat := [32, 38, 32]
mutual
def tx : T → List Nat
  | .atom s => cs s
  | .ex r t => [115, 111, 109, 101, 32] ++ (cs r ++ (32 :: wrap (isAndT t) (tx t)))
  | .and l => TL.joinL amp (txs l)
def txs : List T → List (List Nat)
  | [] => []
  | t :: l => wrap (isAndT t) (tx t) :: txs l
end
abbrev pr (t : T) : List Nat := wrap (isAndT t) (tx t)
theorem txs_eq : ∀ l : List T, txs l = l.map pr
  | [] => by simp [txs]
  | t :: l => by rw [txs, txs_eq l]; rfl
mutual
/-- it is a concept, but for how deep it is -/
def CW : T → Prop
  | .atom s => s = "all" ∨ s = "none" ∨ wordOk s = true
  | .ex r t => wordOk r = true ∧ CW t
  | .and l => 2 ≤ l.length ∧ CWs l
def CWs : List T → Prop
  | [] => True
  | t :: l => CW t ∧ CWs l
end
theorem CWs_iff : ∀ {l : List T}, CWs l ↔ ∀ t ∈ l, CW t
  | [] => by simp [CWs]
  | t :: l => by rw [CWs, CWs_iff (l := l)]; simp
mutual
def ns : T → Nat
  | .atom _ => 0
  | .ex _ t => ns t + 1
  | .and l => nss l + 1
def nss : List T → Nat
  | [] => 0
  | t :: l => max (ns t) (nss l)
end
theorem nss_le : ∀ {l : List T} {t : T}, t ∈ l → ns t ≤ nss l
  | [], t, h => by cases h
  | u :: l, t, h => by
    rw [nss]
    rcases List.mem_cons.mp h with h | h
    · rw [h]; exact Nat.le_max_left _ _
    · exact Nat.le_trans (nss_le h) (Nat.le_max_right _ _)
theorem nss_bound {n : Nat} : ∀ {l : List T}, (∀ t ∈ l, ns t ≤ n) → nss l ≤ n
  | [], _ => Nat.zero_le _
  | u :: l, h => by
    rw [nss]
    exact Nat.max_le.mpr ⟨h u List.mem_cons_self, nss_bound fun t ht => h t (List.mem_cons_of_mem _ ht)⟩
/-! ### letters and signs -/
def lower (c : Nat) : Bool := decide (97 ≤ c) && decide (c ≤ 122)
def special (c : Nat) : Bool := decide (c = 32) || decide (c = 38) || decide (c = 40) || decide (c = 41)
theorem lower_not_special {c : Nat} (h : lower c = true) : special c = false := by
  unfold lower at h
  unfold special
  simp only [Bool.and_eq_true, decide_eq_true_eq] at h
  simp only [Bool.or_eq_false_iff, decide_eq_false_iff_not]
  omega
def someL : List Nat := [115, 111, 109, 101]
theorem cs_someL : cs ("some" : Str) = someL := by decide +kernel
/-- a word of letters: what a concept's atoms and roles are -/
structure Wl (l : List Nat) : Prop where
  ne : l ≠ []
  lo : ∀ c ∈ l, lower c = true
theorem Wl.of_word {s : Str} (h : wordOk s = true) : Wl (cs s) ∧ cs s ≠ someL := by
  unfold wordOk at h
  simp only [Bool.and_eq_true, decide_eq_true_eq, Bool.not_eq_true', decide_eq_false_iff_not] at h
  obtain ⟨⟨⟨h1, h2⟩, h3⟩, h4⟩ := h
  refine ⟨⟨fun z => ?_, fun c hc => ?_⟩, fun z => h3 ?_⟩
  · have : s.length = (cs s).length := rfl
    rw [this, z] at h1
    simp at h1
  · unfold letters at h4
    rw [List.all_eq_true] at h4
    exact h4 c hc
  · have : s = "some" := str_ext (z.trans cs_someL.symm)
    rw [this]; decide +kernel
theorem atom_wl {s : Str} (h : s = "all" ∨ s = "none" ∨ wordOk s = true) : Wl (cs s) ∧ cs s ≠ someL := by
  rcases h with rfl | rfl | h
  · exact ⟨⟨by decide +kernel, by decide +kernel⟩, by decide +kernel⟩
  · exact ⟨⟨by decide +kernel, by decide +kernel⟩, by decide +kernel⟩
  · exact Wl.of_word h
/-- the first of a list, if any, is not so -/
def NoHead (f : Nat → Bool) (l : List Nat) : Prop := ∀ c r, l = c :: r → f c = false
theorem take_all {f : Nat → Bool} : ∀ {l rest : List Nat}, (∀ c ∈ l, f c = true) → NoHead f rest → (l ++ rest).takeWhile f = l ∧ (l ++ rest).dropWhile f = rest
  | [], rest, _, h => by
    cases rest with
    | nil => simp
    | cons c r => have := h c r rfl; simp [List.takeWhile, List.dropWhile, this]
  | c :: l, rest, h1, h2 => by
    have := take_all (l := l) (fun c hc => h1 c (List.mem_cons_of_mem _ hc)) h2
    have hc := h1 c List.mem_cons_self
    simp [List.takeWhile, List.dropWhile, hc, this]
def one (l : List T) : T := match l with | [t] => t | l => .and l
/-! ### the program's reader -/
mutual
def rItem : Nat → List Nat → Option (T × List Nat)
  | 0, _ => none
  | n + 1, u =>
    if u.head? = some 40 then
      match rItems n u.tail with
      | some (l, 41 :: w) => some (one l, w)
      | _ => none
    else if u.takeWhile lower = someL ∧ (u.dropWhile lower).head? = some 32 then
      if ((u.dropWhile lower).tail.dropWhile lower).head? = some 32 then
        match rItem n ((u.dropWhile lower).tail.dropWhile lower).tail with
        | some (t, x) => some (.ex (sOf ((u.dropWhile lower).tail.takeWhile lower)) t, x)
        | none => none
      else none
    else some (.atom (sOf (u.takeWhile lower)), u.dropWhile lower)
def rItems : Nat → List Nat → Option (List T × List Nat)
  | 0, _ => none
  | n + 1, u => match rItem n u with
    | none => none
    | some (t, v) => if amp.isPrefixOf v = true then (match rItems n (v.drop 3) with | some (l, x) => some (t :: l, x) | none => none) else some ([t], v)
end
/-! ### the statement's own reader -/
def tok (u : List Nat) : List Nat := match u with
  | [] => []
  | c :: r => if special c then [c] else (c :: r).takeWhile fun c => !special c
mutual
def dItem : Nat → Nat → List Nat → Option (T × List Nat)
  | 0, _, _ => none
  | n + 1, d, u =>
    if u = [] ∨ 60 < d then none
    else if tok u = [40] then
      match dItems n (d + 1) u.tail with
      | some (l, 41 :: w) => if l.length = 1 then none else some (.and l, w)
      | _ => none
    else if tok u ≠ someL then
      if sOf (tok u) = "all" ∨ sOf (tok u) = "none" ∨ wordOk (sOf (tok u)) = true then some (.atom (sOf (tok u)), u.drop (tok u).length) else none
    else if (u.drop 4).head? = some 32 ∧ (u.drop 5) ≠ [] ∧ wordOk (sOf (tok (u.drop 5))) = true ∧ ((u.drop 5).drop (tok (u.drop 5)).length).head? = some 32 then
      match dItem n (d + 1) ((u.drop 5).drop (tok (u.drop 5)).length).tail with
      | some (t, x) => some (.ex (sOf (tok (u.drop 5))) t, x)
      | none => none
    else none
def dItems : Nat → Nat → List Nat → Option (List T × List Nat)
  | 0, _, _ => none
  | n + 1, d, u => match dItem n d u with
    | none => none
    | some (t, v) => if amp.isPrefixOf v = true then (match dItems n d (v.drop 3) with | some (l, x) => some (t :: l, x) | none => none) else some ([t], v)
end
/-- the whole text, by the program's reader and by the statement's -/
def rWhole (n : Nat) (u : List Nat) : Option (T × List Nat) := match rItems n u with
  | some (l, v) => some (one l, v)
  | none => none
def dWhole (n d : Nat) (u : List Nat) : Option (T × List Nat) := match dItems n d u with
  | some ([t], v) => if isAndT t = true then none else some (t, v)
  | some (l, v) => some (.and l, v)
  | none => none
theorem pr_not {t : T} (h : isAndT t = false) : pr t = tx t := by unfold pr wrap; rw [h]; rfl
theorem pr_and (l : List T) : pr (.and l) = 40 :: (tx (.and l) ++ [41]) := rfl
theorem tx_and (l : List T) : tx (.and l) = TL.joinL amp (l.map pr) := by rw [tx, txs_eq]
theorem tx_ex (r : Str) (t : T) : tx (.ex r t) = someL ++ (32 :: (cs r ++ (32 :: pr t))) := by rw [tx]; rfl
theorem join_one (x : List Nat) : TL.joinL amp [x] = x := by simp [TL.joinL]
theorem join_cons {x y : List Nat} {l : List (List Nat)} : TL.joinL amp (x :: y :: l) = x ++ (amp ++ TL.joinL amp (y :: l)) := by simp [TL.joinL]
/-- behind an item: nothing, a blank or a parenthesis -/
def Stop (l : List Nat) : Prop := ∀ c r, l = c :: r → special c = true
theorem Stop.noLower {l : List Nat} (h : Stop l) : NoHead lower l := fun c r e => by
  have := h c r e
  cases q : lower c with
  | false => rfl
  | true => rw [lower_not_special q] at this; cases this
theorem Stop.noWord {l : List Nat} (h : Stop l) : NoHead (fun c => !special c) l := fun c r e => by simp [h c r e]
theorem stop_nil : Stop [] := fun c r e => by cases e
theorem stop_cons {c : Nat} {r : List Nat} (h : special c = true) : Stop (c :: r) := fun c' r' e => by cases e; exact h
theorem stop_amp {v : List Nat} : Stop (amp ++ v) := stop_cons (c := 32) (r := 38 :: 32 :: v) rfl
theorem wl_head {l rest : List Nat} (h : Wl l) : ∃ c r, l ++ rest = c :: r ∧ lower c = true ∧ c ≠ 40 ∧ special c = false := by
  obtain ⟨c, r, rfl⟩ : ∃ c r, l = c :: r := by
    cases l with
    | nil => exact (h.ne rfl).elim
    | cons c r => exact ⟨c, r, rfl⟩
  have hc := h.lo c List.mem_cons_self
  refine ⟨c, r ++ rest, rfl, hc, fun z => ?_, lower_not_special hc⟩
  rw [z] at hc; exact absurd hc (by decide)
theorem someL_wl : Wl someL := ⟨by decide, by decide⟩
theorem amp_no {v : List Nat} : amp.isPrefixOf (amp ++ v) = true := by simp [amp, List.isPrefixOf]
mutual
/-- the program's reader reads the text of a concept -/
theorem rItem_pr : ∀ (t : T), CW t → ∀ (n : Nat) (rest : List Nat), 2 * (pr t).length + 1 ≤ n → Stop rest → rItem n (pr t ++ rest) = some (t, rest)
  | .atom s, h, n, rest, hn, hs => by
    obtain ⟨wl, nsome⟩ := atom_wl h
    cases n with
    | zero => omega
    | succ n =>
      have e : pr (.atom s) = cs s := by rw [pr_not rfl]; simp [tx]
      rw [e]
      obtain ⟨c, r, hcr, lc, n40, _⟩ := wl_head (rest := rest) wl
      obtain ⟨t1, t2⟩ := take_all (f := lower) wl.lo hs.noLower
      rw [rItem, if_neg (by rw [hcr]; simp [n40]), t1, t2, if_neg (fun z => nsome z.1), sOf_cs]
  | .ex r t, h, n, rest, hn, hs => by
    obtain ⟨hr, ht⟩ := (by simpa [CW] using h : wordOk r = true ∧ CW t)
    obtain ⟨wl, _⟩ := Wl.of_word hr
    cases n with
    | zero => omega
    | succ n =>
      have e : pr (.ex r t) ++ rest = someL ++ (32 :: (cs r ++ (32 :: (pr t ++ rest)))) := by rw [pr_not rfl, tx_ex]; simp
      have el : (pr (.ex r t)).length = 4 + (1 + ((cs r).length + (1 + (pr t).length))) := by rw [pr_not rfl, tx_ex]; simp [someL]; omega
      rw [e]
      obtain ⟨c, r', hcr, lc, n40, _⟩ := wl_head (rest := 32 :: (cs r ++ (32 :: (pr t ++ rest)))) someL_wl
      obtain ⟨t1, t2⟩ := take_all (f := lower) (rest := 32 :: (cs r ++ (32 :: (pr t ++ rest)))) someL_wl.lo (fun c r e => by cases e; rfl)
      obtain ⟨t3, t4⟩ := take_all (f := lower) (rest := 32 :: (pr t ++ rest)) wl.lo (fun c r e => by cases e; rfl)
      rw [rItem, if_neg (by rw [hcr]; simp [n40]), t1, t2, if_pos ⟨rfl, rfl⟩, List.tail_cons, t3, t4, if_pos List.head?_cons, List.tail_cons, rItem_pr t ht n rest (by omega) hs, sOf_cs]
  | .and l, h, n, rest, hn, hs => by
    obtain ⟨h2, hl⟩ := (by simpa [CW] using h : 2 ≤ l.length ∧ CWs l)
    cases n with
    | zero => omega
    | succ n =>
      have e : pr (.and l) ++ rest = 40 :: (TL.joinL amp (txs l) ++ (41 :: rest)) := by rw [pr_and, tx_and, txs_eq]; simp
      have el : (pr (.and l)).length = (TL.joinL amp (txs l)).length + 2 := by rw [pr_and, tx_and, txs_eq]; simp
      have ne : l ≠ [] := fun z => by rw [z] at h2; simp at h2
      rw [e, rItem, if_pos List.head?_cons, List.tail_cons, rItems_pr l hl ne n (41 :: rest) (by omega) (stop_cons rfl) (by simp [amp, List.isPrefixOf])]
      have : one l = .and l := by
        match l, h2 with
        | _ :: _ :: _, _ => rfl
      show some (one l, rest) = some (.and l, rest)
      rw [this]
theorem rItems_pr : ∀ (l : List T), CWs l → l ≠ [] → ∀ (n : Nat) (rest : List Nat), 2 * (TL.joinL amp (txs l)).length + 2 ≤ n → Stop rest → amp.isPrefixOf rest = false → rItems n (TL.joinL amp (txs l) ++ rest) = some (l, rest)
  | [], _, ne, _, _, _, _, _ => (ne rfl).elim
  | [t], h, _, n, rest, hn, hs, hp => by
    cases n with
    | zero => omega
    | succ n =>
      have e : TL.joinL amp (txs [t]) = pr t := by rw [txs_eq]; exact join_one _
      rw [e] at hn ⊢
      rw [rItems, rItem_pr t (by simpa [CWs] using h) n rest (by omega) hs]
      simp [hp]
  | t :: u :: l, h, _, n, rest, hn, hs, hp => by
    cases n with
    | zero => omega
    | succ n =>
      have e : TL.joinL amp (txs (t :: u :: l)) = pr t ++ (amp ++ TL.joinL amp (txs (u :: l))) := by rw [txs_eq, txs_eq]; exact join_cons
      obtain ⟨h1, h2⟩ := (by simpa [CWs] using h : CW t ∧ CW u ∧ CWs l)
      rw [e] at hn
      simp only [List.length_append] at hn
      have la : amp.length = 3 := rfl
      rw [e, List.append_assoc, List.append_assoc, rItems, rItem_pr t h1 n _ (by omega) stop_amp]
      have e2 : (amp ++ (TL.joinL amp (txs (u :: l)) ++ rest)).drop 3 = TL.joinL amp (txs (u :: l)) ++ rest := rfl
      simp only [amp_no, if_true, e2]
      rw [rItems_pr (u :: l) (by simpa [CWs] using h2) (by simp) n rest (by omega) hs hp]
end
theorem tok_split (u : List Nat) : u = tok u ++ u.drop (tok u).length := by
  obtain ⟨s, hs⟩ : ∃ s, u = tok u ++ s := by
    cases u with
    | nil => exact ⟨[], rfl⟩
    | cons c r =>
      show ∃ s, c :: r = (if special c = true then [c] else (c :: r).takeWhile fun c => !special c) ++ s
      by_cases h : special c = true
      · rw [if_pos h]; exact ⟨r, rfl⟩
      · rw [if_neg h]; exact ⟨_, (List.takeWhile_append_dropWhile).symm⟩
  have e : u.drop (tok u).length = s := by
    generalize tok u = p at hs
    subst hs
    simp
  rw [e]; exact hs
theorem tok_wl {l rest : List Nat} (h : Wl l) (hs : Stop rest) : tok (l ++ rest) = l := by
  obtain ⟨c, r, e, lc, _, sc⟩ := wl_head (rest := rest) h
  have : tok (l ++ rest) = (l ++ rest).takeWhile fun c => !special c := by rw [e]; unfold tok; simp only [sc]; rfl
  rw [this]
  exact (take_all (f := fun c => !special c) (fun c hc => by simp [lower_not_special (h.lo c hc)]) hs.noWord).1
theorem tok_paren {u : List Nat} (h : tok u = [40]) : u = 40 :: u.tail := by
  cases u with
  | nil => cases h
  | cons c r =>
    have := tok_split (c :: r)
    rw [h] at this
    have e : c = 40 := by
      have := congrArg List.head? this
      simpa using this
    rw [e]; rfl
theorem wl_not_paren {l : List Nat} (h : Wl l) : l ≠ [40] := fun z => by
  have := h.lo 40 (by rw [z]; simp)
  exact absurd this (by decide)
mutual
/-- the statement's reader reads the text of a concept -/
theorem dItem_pr : ∀ (t : T), CW t → ∀ (n d : Nat) (rest : List Nat), 2 * (pr t).length + 1 ≤ n → d + ns t ≤ 60 → Stop rest → dItem n d (pr t ++ rest) = some (t, rest)
  | .atom s, h, n, d, rest, hn, hd, hs => by
    obtain ⟨wl, nsome⟩ := atom_wl h
    cases n with
    | zero => omega
    | succ n =>
      have e : pr (.atom s) = cs s := by rw [pr_not rfl]; simp [tx]
      rw [e]
      obtain ⟨c, r, hcr, _⟩ := wl_head (rest := rest) wl
      have h' : s = "all" ∨ s = "none" ∨ wordOk s = true := h
      rw [dItem, if_neg (by rw [hcr]; simp; omega), tok_wl wl hs, if_neg (wl_not_paren wl), if_pos nsome, sOf_cs, if_pos h', List.drop_left]
  | .ex r t, h, n, d, rest, hn, hd, hs => by
    obtain ⟨hr, ht⟩ := (by simpa [CW] using h : wordOk r = true ∧ CW t)
    obtain ⟨wl, _⟩ := Wl.of_word hr
    cases n with
    | zero => omega
    | succ n =>
      have e : pr (.ex r t) ++ rest = someL ++ (32 :: (cs r ++ (32 :: (pr t ++ rest)))) := by rw [pr_not rfl, tx_ex]; simp
      have el : (pr (.ex r t)).length = 4 + (1 + ((cs r).length + (1 + (pr t).length))) := by rw [pr_not rfl, tx_ex]; simp [someL]; omega
      rw [e]
      have hd' : d + (ns t + 1) ≤ 60 := by simpa [ns] using hd
      obtain ⟨c, r', hcr, _⟩ := wl_head (rest := 32 :: (cs r ++ (32 :: (pr t ++ rest)))) someL_wl
      have e1 : tok (someL ++ (32 :: (cs r ++ (32 :: (pr t ++ rest))))) = someL := tok_wl someL_wl (stop_cons rfl)
      have e2 : tok (cs r ++ (32 :: (pr t ++ rest))) = cs r := tok_wl wl (stop_cons rfl)
      have e3 : (someL ++ (32 :: (cs r ++ (32 :: (pr t ++ rest))))).drop 4 = 32 :: (cs r ++ (32 :: (pr t ++ rest))) := rfl
      have e4 : (someL ++ (32 :: (cs r ++ (32 :: (pr t ++ rest))))).drop 5 = cs r ++ (32 :: (pr t ++ rest)) := rfl
      rw [dItem, if_neg (by rw [hcr]; simp; omega), e1, if_neg (by decide), if_neg (by simp), e3, e4, e2, sOf_cs, List.drop_left,
        if_pos ⟨List.head?_cons, by simp, hr, List.head?_cons⟩, List.tail_cons, dItem_pr t ht n (d + 1) rest (by omega) (by omega) hs]
  | .and l, h, n, d, rest, hn, hd, hs => by
    obtain ⟨h2, hl⟩ := (by simpa [CW] using h : 2 ≤ l.length ∧ CWs l)
    cases n with
    | zero => omega
    | succ n =>
      have e : pr (.and l) ++ rest = 40 :: (TL.joinL amp (txs l) ++ (41 :: rest)) := by rw [pr_and, tx_and, txs_eq]; simp
      have el : (pr (.and l)).length = (TL.joinL amp (txs l)).length + 2 := by rw [pr_and, tx_and, txs_eq]; simp
      have ne : l ≠ [] := fun z => by rw [z] at h2; simp at h2
      have hd' : d + (nss l + 1) ≤ 60 := by simpa [ns] using hd
      have e1 : tok (40 :: (TL.joinL amp (txs l) ++ (41 :: rest))) = [40] := rfl
      rw [e, dItem, if_neg (by simp; omega), if_pos e1, List.tail_cons, dItems_pr l hl ne n (d + 1) (41 :: rest) (by omega) (by omega) (stop_cons rfl) (by simp [amp, List.isPrefixOf])]
      show (if l.length = 1 then none else some (T.and l, rest)) = _
      rw [if_neg (by omega)]
theorem dItems_pr : ∀ (l : List T), CWs l → l ≠ [] → ∀ (n d : Nat) (rest : List Nat), 2 * (TL.joinL amp (txs l)).length + 2 ≤ n → d + nss l ≤ 60 → Stop rest → amp.isPrefixOf rest = false → dItems n d (TL.joinL amp (txs l) ++ rest) = some (l, rest)
  | [], _, ne, _, _, _, _, _, _, _ => (ne rfl).elim
  | [t], h, _, n, d, rest, hn, hd, hs, hp => by
    cases n with
    | zero => omega
    | succ n =>
      have e : TL.joinL amp (txs [t]) = pr t := by rw [txs_eq]; exact join_one _
      rw [e] at hn ⊢
      have hd' : d + ns t ≤ 60 := by simpa [nss] using hd
      rw [dItems, dItem_pr t (by simpa [CWs] using h) n d rest (by omega) hd' hs]
      simp [hp]
  | t :: u :: l, h, _, n, d, rest, hn, hd, hs, hp => by
    cases n with
    | zero => omega
    | succ n =>
      have e : TL.joinL amp (txs (t :: u :: l)) = pr t ++ (amp ++ TL.joinL amp (txs (u :: l))) := by rw [txs_eq, txs_eq]; exact join_cons
      obtain ⟨h1, h2⟩ := (by simpa [CWs] using h : CW t ∧ CW u ∧ CWs l)
      rw [e] at hn
      simp only [List.length_append] at hn
      have la : amp.length = 3 := rfl
      have hd' : d + max (ns t) (nss (u :: l)) ≤ 60 := by rw [nss] at hd; exact hd
      rw [e, List.append_assoc, List.append_assoc, dItems, dItem_pr t h1 n d _ (by omega) (by omega) stop_amp]
      have e2 : (amp ++ (TL.joinL amp (txs (u :: l)) ++ rest)).drop 3 = TL.joinL amp (txs (u :: l)) ++ rest := rfl
      simp only [amp_no, if_true, e2]
      rw [dItems_pr (u :: l) (by simpa [CWs] using h2) (by simp) n d rest (by omega) (by omega) hs hp]
end
theorem amp_of {v : List Nat} (h : amp.isPrefixOf v = true) : v = amp ++ v.drop 3 := by
  rw [List.isPrefixOf_iff_prefix] at h
  obtain ⟨s, rfl⟩ := h
  rfl
theorem head_of {v : List Nat} {c : Nat} (h : v.head? = some c) : v = c :: v.tail := by
  cases v with
  | nil => cases h
  | cons x r => simp at h; rw [h]; rfl
mutual
/-- what the statement's reader reads is a concept, and what it read is its text -/
theorem dItem_sound : ∀ (n d : Nat) (u : List Nat) (t : T) (v : List Nat), dItem n d u = some (t, v) → CW t ∧ u = pr t ++ v
  | 0, _, _, _, _, h => by simp [dItem] at h
  | n + 1, d, u, t, v, h => by
    rw [dItem] at h
    split at h
    · cases h
    split at h
    · rename_i hp
      have eu := tok_paren hp
      split at h
      · rename_i l w hl
        split at h
        · cases h
        · rename_i hne
          cases h
          obtain ⟨c1, c2, c3⟩ := dItems_sound n (d + 1) u.tail l (41 :: v) hl
          refine ⟨?_, ?_⟩
          · rw [CW]
            refine ⟨?_, c1⟩
            cases l with
            | nil => exact (c2 rfl).elim
            | cons a r => cases r with
              | nil => exact (hne rfl).elim
              | cons b r => simp
          · rw [eu, c3, pr_and, tx_and, txs_eq]
            simp
      · cases h
    split at h
    · split at h
      · rename_i hok
        cases h
        refine ⟨by rw [CW]; exact hok, ?_⟩
        rw [pr_not rfl, tx, cs_sOf]
        exact tok_split u
      · cases h
    · rename_i hsome
      have hs : tok u = someL := by
        by_cases z : tok u = someL
        · exact z
        · exact (hsome z).elim
      split at h
      · rename_i hc
        obtain ⟨h1, h2, h3, h4⟩ := hc
        split at h
        · rename_i t' x hi
          cases h
          obtain ⟨c1, c2⟩ := dItem_sound n (d + 1) _ t' v hi
          refine ⟨by rw [CW]; exact ⟨h3, c1⟩, ?_⟩
          have e1 := tok_split u
          rw [hs] at e1
          have e2 : u.drop 4 = 32 :: u.drop 5 := by
            have := head_of h1
            rwa [List.tail_drop] at this
          have e3 := tok_split (u.drop 5)
          have e4 := head_of h4
          rw [e4, c2] at e3
          rw [pr_not rfl, tx_ex, cs_sOf]
          have e1' : u = someL ++ u.drop 4 := e1
          calc u = someL ++ u.drop 4 := e1'
            _ = someL ++ (32 :: u.drop 5) := congrArg (fun z => someL ++ z) e2
            _ = someL ++ (32 :: (tok (u.drop 5) ++ (32 :: (pr t' ++ v)))) := congrArg (fun z => someL ++ (32 :: z)) e3
            _ = _ := by simp
        · cases h
      · cases h
theorem dItems_sound : ∀ (n d : Nat) (u : List Nat) (l : List T) (v : List Nat), dItems n d u = some (l, v) → CWs l ∧ l ≠ [] ∧ u = TL.joinL amp (txs l) ++ v
  | 0, _, _, _, _, h => by simp [dItems] at h
  | n + 1, d, u, l, v, h => by
    rw [dItems] at h
    split at h
    · cases h
    · rename_i t w hi
      obtain ⟨c1, c2⟩ := dItem_sound n d u t w hi
      split at h
      · rename_i ha
        split at h
        · rename_i l' x hl
          cases h
          obtain ⟨d1, d2, d3⟩ := dItems_sound n d _ l' v hl
          refine ⟨by rw [CWs]; exact ⟨c1, d1⟩, by simp, ?_⟩
          cases l' with
          | nil => exact (d2 rfl).elim
          | cons b r =>
            have e : TL.joinL amp (txs (t :: b :: r)) = pr t ++ (amp ++ TL.joinL amp (txs (b :: r))) := by rw [txs_eq, txs_eq]; exact join_cons
            rw [e, c2, amp_of ha, d3]
            simp [amp]
        · cases h
      · cases h
        refine ⟨by rw [CWs]; exact ⟨c1, by rw [CWs]; trivial⟩, by simp, ?_⟩
        rw [txs_eq]
        show u = TL.joinL amp [pr t] ++ v
        rw [join_one]; exact c2
end
end K1
namespace K1
open PySem L2
/-! how deep a text can go, and that the two readers agree -/
abbrev sp (l : List Nat) : Nat := l.count 32
theorem sp_pr (t : T) : sp (pr t) = sp (tx t) := by
  unfold pr wrap
  split
  · simp [sp]
  · rfl
theorem sp_join : ∀ (xs : List (List Nat)) (x : List Nat), x ∈ xs → 2 ≤ xs.length → sp x + 2 ≤ sp (TL.joinL amp xs)
  | [], x, h, _ => by cases h
  | [y], x, h, l => by simp at l
  | [y, z], x, h, _ => by
    rw [join_cons, join_one]
    simp only [sp, List.count_append]
    have : List.count 32 amp = 2 := rfl
    simp only [List.mem_cons, List.not_mem_nil, or_false] at h
    rcases h with rfl | rfl <;> omega
  | y :: z :: w :: l, x, h, _ => by
    rw [join_cons]
    simp only [sp, List.count_append]
    have e : List.count 32 amp = 2 := rfl
    rcases List.mem_cons.mp h with h | h
    · rw [h]; omega
    · have := sp_join (z :: w :: l) x h (by simp)
      simp only [sp] at this
      omega
mutual
theorem ns_sp : ∀ (t : T), CW t → 2 * ns t ≤ sp (tx t)
  | .atom s, _ => by simp [ns]
  | .ex r t, h => by
    have ht : CW t := by rw [CW] at h; exact h.2
    have ih := ns_sp t ht
    rw [ns, tx_ex]
    simp only [sp, List.count_append, List.count_cons]
    have := sp_pr t
    simp only [sp] at this ih
    rw [this]
    simp
    omega
  | .and l, h => by
    have hl : 2 ≤ l.length ∧ CWs l := by rw [CW] at h; exact h
    rw [ns, tx_and]
    have : nss l ≤ (sp (TL.joinL amp (l.map pr)) - 2) / 2 := nss_bound fun t ht => by
      have h1 := nss_sp l hl.2 t ht
      have h2 := sp_join (l.map pr) (pr t) (List.mem_map.mpr ⟨t, ht, rfl⟩) (by rw [List.length_map]; exact hl.1)
      rw [sp_pr] at h2
      omega
    have : 2 ≤ sp (TL.joinL amp (l.map pr)) := by
      obtain ⟨t, ht⟩ : ∃ t, t ∈ l := by
        cases l with
        | nil => simp at hl
        | cons a r => exact ⟨a, List.mem_cons_self⟩
      have h2 := sp_join (l.map pr) (pr t) (List.mem_map.mpr ⟨t, ht, rfl⟩) (by rw [List.length_map]; exact hl.1)
      omega
    omega
theorem nss_sp : ∀ (l : List T), CWs l → ∀ t ∈ l, 2 * ns t ≤ sp (tx t)
  | [], _, t, h => by cases h
  | u :: l, hw, t, h => by
    have hw' : CW u ∧ CWs l := by rw [CWs] at hw; exact hw
    rcases List.mem_cons.mp h with h | h
    · rw [h]; exact ns_sp u hw'.1
    · exact nss_sp l hw'.2 t h
end
theorem amp_nil : amp.isPrefixOf ([] : List Nat) = false := rfl
/-- what is the text of a concept is read so by the program -/
theorem rWhole_tx {t : T} (h : CW t) {n : Nat} (hn : 2 * (tx t).length + 2 ≤ n) : rWhole n (tx t) = some (t, []) := by
  unfold rWhole
  cases t with
  | and l =>
    have hl : 2 ≤ l.length ∧ CWs l := by rw [CW] at h; exact h
    have ne : l ≠ [] := fun z => by rw [z] at hl; simp at hl
    have e : tx (.and l) = TL.joinL amp (txs l) := by rw [tx_and, txs_eq]
    rw [e] at hn ⊢
    have := rItems_pr l hl.2 ne n [] hn stop_nil amp_nil
    rw [List.append_nil] at this
    rw [this]
    have : one l = .and l := by
      match l, hl.1 with
      | _ :: _ :: _, _ => rfl
    show some (one l, []) = _
    rw [this]
  | atom s =>
    have e : tx (.atom s) = TL.joinL amp (txs [.atom s]) := by rw [txs_eq]; show _ = TL.joinL amp [pr (.atom s)]; rw [join_one, pr_not rfl]
    rw [e] at hn ⊢
    have := rItems_pr [.atom s] (by rw [CWs]; exact ⟨h, by rw [CWs]; trivial⟩) (by simp) n [] hn stop_nil amp_nil
    rw [List.append_nil] at this
    rw [this]; rfl
  | ex r t =>
    have e : tx (.ex r t) = TL.joinL amp (txs [.ex r t]) := by rw [txs_eq]; show _ = TL.joinL amp [pr (.ex r t)]; rw [join_one, pr_not rfl]
    rw [e] at hn ⊢
    have := rItems_pr [.ex r t] (by rw [CWs]; exact ⟨h, by rw [CWs]; trivial⟩) (by simp) n [] hn stop_nil amp_nil
    rw [List.append_nil] at this
    rw [this]; rfl
theorem dWhole_tx {t : T} (h : CW t) {n : Nat} (hn : 2 * (tx t).length + 2 ≤ n) (hd : ns t ≤ 60) : dWhole n 0 (tx t) = some (t, []) := by
  unfold dWhole
  cases t with
  | and l =>
    have hl : 2 ≤ l.length ∧ CWs l := by rw [CW] at h; exact h
    have ne : l ≠ [] := fun z => by rw [z] at hl; simp at hl
    have e : tx (.and l) = TL.joinL amp (txs l) := by rw [tx_and, txs_eq]
    rw [e] at hn ⊢
    have hd' : nss l + 1 ≤ 60 := by rw [ns] at hd; exact hd
    have := dItems_pr l hl.2 ne n 0 [] hn (by omega) stop_nil amp_nil
    rw [List.append_nil] at this
    rw [this]
    match l, hl.1 with
    | _ :: _ :: _, _ => rfl
  | atom s =>
    have e : tx (.atom s) = TL.joinL amp (txs [.atom s]) := by rw [txs_eq]; show _ = TL.joinL amp [pr (.atom s)]; rw [join_one, pr_not rfl]
    rw [e] at hn ⊢
    have := dItems_pr [.atom s] (by rw [CWs]; exact ⟨h, by rw [CWs]; trivial⟩) (by simp) n 0 [] hn (by simp [nss, ns]) stop_nil amp_nil
    rw [List.append_nil] at this
    rw [this]; rfl
  | ex r t =>
    have e : tx (.ex r t) = TL.joinL amp (txs [.ex r t]) := by rw [txs_eq]; show _ = TL.joinL amp [pr (.ex r t)]; rw [join_one, pr_not rfl]
    rw [e] at hn ⊢
    have := dItems_pr [.ex r t] (by rw [CWs]; exact ⟨h, by rw [CWs]; trivial⟩) (by simp) n 0 [] hn (by simp only [nss, Nat.zero_add]; omega) stop_nil amp_nil
    rw [List.append_nil] at this
    rw [this]; rfl
theorem dWhole_sound {n d : Nat} {u v : List Nat} {t : T} (h : dWhole n d u = some (t, v)) : CW t ∧ u = tx t ++ v := by
  unfold dWhole at h
  split at h
  · rename_i t' v' hi
    split at h
    · cases h
    · rename_i na
      cases h
      obtain ⟨c1, c2, c3⟩ := dItems_sound _ _ _ _ _ hi
      have hc : CW t := by rw [CWs] at c1; exact c1.1
      have na' : isAndT t = false := by cases z : isAndT t with | false => rfl | true => exact (na z).elim
      refine ⟨hc, ?_⟩
      rw [c3, txs_eq]
      show TL.joinL amp [pr t] ++ v = _
      rw [join_one, pr_not na']
  · rename_i l v' hne hi
    cases h
    obtain ⟨c1, c2, c3⟩ := dItems_sound _ _ _ _ _ hi
    refine ⟨?_, by rw [c3, tx_and, txs_eq]⟩
    rw [CW]
    refine ⟨?_, c1⟩
    cases l with
    | nil => exact (c2 rfl).elim
    | cons a r => cases r with
      | nil => exact (hne a rfl).elim
      | cons b r => simp
  · cases h
/-- what the program gives back: the concept, if any, whose text it is -/
def IsTx (u : List Nat) (t : T) : Prop := CW t ∧ ns t ≤ 100 ∧ tx t = u
theorem due_iff {u : List Nat} {n : Nat} (hn : 2 * u.length + 2 ≤ n) (hs : sp u ≤ 112) (t : T) : dWhole n 0 u = some (t, []) ↔ IsTx u t := by
  constructor
  · intro h
    obtain ⟨c1, c2⟩ := dWhole_sound h
    rw [List.append_nil] at c2
    have := ns_sp t c1
    rw [← c2] at this
    exact ⟨c1, by omega, c2.symm⟩
  · rintro ⟨c1, c2, rfl⟩
    have := ns_sp t c1
    exact dWhole_tx c1 hn (by omega)
theorem read_iff {u : List Nat} {n : Nat} (hn : 2 * u.length + 2 ≤ n) (t : T) : (rWhole n u = some (t, []) ∧ IsTx u t) ↔ IsTx u t := by
  constructor
  · exact fun h => h.2
  · intro h
    refine ⟨?_, h⟩
    rw [← h.2.2] at hn ⊢
    exact rWhole_tx h.1 hn
theorem tx_inj {a b : T} (ha : CW a) (hb : CW b) (h : tx a = tx b) : a = b := by
  have h1 := rWhole_tx ha (Nat.le_refl _)
  have h2 := rWhole_tx hb (Nat.le_refl _)
  rw [h, h2] at h1
  cases h1
  rfl
end K1
namespace K1
open PySem L2
/-! concepts with ands of any length, in the heap and as data -/
mutual
def TAt (H : Hp) : T → V → Prop
  | .atom s, v => v = .str s ∧ s.length ≤ 1000
  | .ex r t, v => ∃ p u, v = .ref p ∧ H p = some (.tup [.str "some", .str r, u]) ∧ TAt H t u ∧ r.length ≤ 1000
  | .and l, v => ∃ p us, v = .ref p ∧ H p = some (.tup (.str "and" :: us)) ∧ TsAt H l us
def TsAt (H : Hp) : List T → List V → Prop
  | [], us => us = []
  | t :: l, us => ∃ u us', us = u :: us' ∧ TAt H t u ∧ TsAt H l us'
end
theorem TsAt.pair {H : Hp} : ∀ {l : List T} {us : List V}, TsAt H l us → Paired (TAt H) l us
  | [], us, h => by rw [TsAt] at h; subst h; exact .nil
  | t :: l, us, h => by
    rw [TsAt] at h
    obtain ⟨u, us', rfl, h1, h2⟩ := h
    exact .cons h1 (TsAt.pair h2)
theorem TsAt.of {H : Hp} : ∀ {l : List T} {us : List V}, Paired (TAt H) l us → TsAt H l us
  | _, _, .nil => by rw [TsAt]
  | _, _, .cons r t => by rw [TsAt]; exact ⟨_, _, rfl, r, TsAt.of t⟩
mutual
theorem TAt.t {H H' : Hp} (e : TSame H H') : ∀ {t : T} {v : V}, TAt H t v → TAt H' t v
  | .atom s, v, h => by rw [TAt] at h ⊢; exact h
  | .ex r t, v, h => by
    rw [TAt] at h ⊢
    obtain ⟨p, u, h1, h2, h3, h4⟩ := h
    exact ⟨p, u, h1, e _ _ h2, TAt.t e h3, h4⟩
  | .and l, v, h => by
    rw [TAt] at h ⊢
    obtain ⟨p, us, h1, h2, h3⟩ := h
    exact ⟨p, us, h1, e _ _ h2, TsAt.t e h3⟩
theorem TsAt.t {H H' : Hp} (e : TSame H H') : ∀ {l : List T} {us : List V}, TsAt H l us → TsAt H' l us
  | [], us, h => by rw [TsAt] at h ⊢; exact h
  | t :: l, us, h => by
    rw [TsAt] at h ⊢
    obtain ⟨u, us', h1, h2, h3⟩ := h
    exact ⟨u, us', h1, TAt.t e h2, TsAt.t e h3⟩
end
theorem TAt.same {H H' : Hp} (e : Same H H') {t : T} {v : V} (h : TAt H t v) : TAt H' t v := h.t (Same.t e)
theorem pairT_t {H H' : Hp} (e : TSame H H') : ∀ {l : List T} {us : List V}, Paired (TAt H) l us → Paired (TAt H') l us
  | _, _, .nil => .nil
  | _, _, .cons r t => .cons (r.t e) (pairT_t e t)
theorem TAt.pl {H : Hp} {t : T} {v : V} (h : TAt H t v) : Pl H v := by
  cases t with
  | atom s => rw [TAt] at h; obtain ⟨rfl, h⟩ := h; exact h
  | ex r t => rw [TAt] at h; obtain ⟨p, u, rfl, h2, _⟩ := h; exact .inr ⟨_, h2⟩
  | and l => rw [TAt] at h; obtain ⟨p, us, rfl, h2, _⟩ := h; exact .inr ⟨_, h2⟩
mutual
theorem TAt.kn {H : Hp} : ∀ {t : T} {v : V} {m : Nat}, TAt H t v → ns t ≤ m → Kn H m v
  | .atom s, v, m, h, _ => by rw [TAt] at h; obtain ⟨rfl, h⟩ := h; exact kn_str h
  | .ex r t, v, m, h, hm => by
    rw [TAt] at h
    obtain ⟨p, u, rfl, h2, h3, h9⟩ := h
    rw [ns] at hm
    cases m with
    | zero => omega
    | succ m =>
      refine ⟨.inr ⟨_, h2⟩, fun a xs e q x hx => ?_⟩
      cases e
      rw [h2] at q
      cases q
      simp only [List.mem_cons, List.not_mem_nil, or_false] at hx
      rcases hx with rfl | rfl | rfl
      · exact kn_str (by decide +kernel)
      · exact kn_str h9
      · exact TAt.kn h3 (by omega)
  | .and l, v, m, h, hm => by
    rw [TAt] at h
    obtain ⟨p, us, rfl, h2, h3⟩ := h
    rw [ns] at hm
    cases m with
    | zero => omega
    | succ m =>
      refine ⟨.inr ⟨_, h2⟩, fun a xs e q x hx => ?_⟩
      cases e
      rw [h2] at q
      cases q
      rcases List.mem_cons.mp hx with rfl | hx
      · exact kn_str (by decide +kernel)
      · exact TsAt.kn h3 (by omega) x hx
theorem TsAt.kn {H : Hp} : ∀ {l : List T} {us : List V} {m : Nat}, TsAt H l us → nss l ≤ m → ∀ x ∈ us, Kn H m x
  | [], us, m, h, _ => by rw [TsAt] at h; subst h; intro x hx; cases hx
  | t :: l, us, m, h, hm => by
    rw [TsAt] at h
    obtain ⟨u, us', rfl, h1, h2⟩ := h
    rw [nss] at hm
    intro x hx
    rcases List.mem_cons.mp hx with rfl | hx
    · exact TAt.kn h1 (by omega)
    · exact TsAt.kn h2 (by omega) x hx
end
theorem and_not_some : ¬ ("and" : Str) = "some" := by decide +kernel
mutual
/-- is_concept tells just the concepts that are not too deep -/
theorem TAt.nested {H : Hp} : ∀ {t : T} {v : V} (n : Nat), TAt H t v → (nestedB H n v = true ↔ CW t ∧ ns t ≤ n)
  | .atom s, v, n, h => by
    rw [TAt] at h
    obtain ⟨rfl, _⟩ := h
    rw [nestedB_str, CW, ns, Bool.or_eq_true, decide_eq_true_eq]
    constructor
    · rintro (h | h)
      · exact ⟨h.elim .inl fun h => .inr (.inl h), Nat.zero_le _⟩
      · exact ⟨.inr (.inr h), Nat.zero_le _⟩
    · rintro ⟨h | h | h, _⟩
      · exact .inl (.inl h)
      · exact .inl (.inr h)
      · exact .inr h
  | .ex r t, v, n, h => by
    rw [TAt] at h
    obtain ⟨p, u, rfl, h2, h3, h9⟩ := h
    rw [CW, ns]
    cases n with
    | zero => simp [nestedB]
    | succ n =>
      have ih := TAt.nested n h3
      have : nestedB H (n + 1) (.ref p) = (wordOk r && nestedB H n u) := by simp [nestedB, h2, isWordV]
      rw [this, Bool.and_eq_true, ih]
      constructor
      · rintro ⟨a, b, c⟩; exact ⟨⟨a, b⟩, by omega⟩
      · rintro ⟨⟨a, b⟩, c⟩; exact ⟨a, b, by omega⟩
  | .and l, v, n, h => by
    rw [TAt] at h
    obtain ⟨p, us, rfl, h2, h3⟩ := h
    rw [CW, ns]
    cases n with
    | zero => simp [nestedB]
    | succ n =>
      have ih := TsAt.nested n h3
      have hl := paired_len h3.pair
      match us, h2, h3, ih, hl with
      | [], h2, _, _, hl =>
        simp only [nestedB, h2]
        simp only [List.length_nil] at hl
        constructor
        · intro z; cases z
        · rintro ⟨⟨a, _⟩, _⟩; omega
      | [x], h2, _, _, hl =>
        simp only [nestedB, h2]
        simp only [List.length_cons, List.length_nil] at hl
        constructor
        · intro z; cases z
        · rintro ⟨⟨a, _⟩, _⟩; omega
      | x :: y :: r, h2, _, ih, hl =>
        have : nestedB H (n + 1) (.ref p) = (x :: y :: r).all (nestedB H n) := by simp only [nestedB, h2]; rw [if_neg and_not_some]; simp
        rw [this, List.all_eq_true, ih]
        simp only [List.length_cons] at hl
        constructor
        · rintro ⟨a, b⟩; exact ⟨⟨by omega, a⟩, by omega⟩
        · rintro ⟨⟨_, a⟩, b⟩; exact ⟨a, by omega⟩
theorem TsAt.nested {H : Hp} : ∀ {l : List T} {us : List V} (n : Nat), TsAt H l us → ((∀ x ∈ us, nestedB H n x = true) ↔ CWs l ∧ nss l ≤ n)
  | [], us, n, h => by rw [TsAt] at h; subst h; simp [CWs, nss]
  | t :: l, us, n, h => by
    rw [TsAt] at h
    obtain ⟨u, us', rfl, h1, h2⟩ := h
    have a := TAt.nested n h1
    have b := TsAt.nested n h2
    rw [CWs, nss, List.forall_mem_cons, a, b]
    constructor
    · rintro ⟨⟨a, b⟩, c, d⟩; exact ⟨⟨a, c⟩, Nat.max_le.mpr ⟨b, d⟩⟩
    · rintro ⟨⟨a, c⟩, d⟩; exact ⟨⟨a, (Nat.max_le.mp d).1⟩, c, (Nat.max_le.mp d).2⟩
end
mutual
def datT : T → PyData
  | .atom s => .str s
  | .ex r t => .tuple [.str "some", .str r, datT t]
  | .and l => .tuple (.str "and" :: datTs l)
def datTs : List T → List PyData
  | [] => []
  | t :: l => datT t :: datTs l
end
mutual
theorem dp_T {K : PySem.W.Frag} {H : Hp} : ∀ {t : T} {v : V}, TAt H t v → Dp K H v (datT t)
  | .atom s, v, h => by rw [TAt] at h; obtain ⟨rfl, _⟩ := h; rw [datT]; exact .str s
  | .ex r t, v, h => by
    rw [TAt] at h
    obtain ⟨p, u, rfl, h2, h3, _⟩ := h
    rw [datT]
    exact .tup (SqT.of h2) (.cons (.str _) (.cons (.str _) (.cons (dp_T h3) .nil)))
  | .and l, v, h => by
    rw [TAt] at h
    obtain ⟨p, us, rfl, h2, h3⟩ := h
    rw [datT]
    exact .tup (SqT.of h2) (.cons (.str _) (dp_Ts h3))
theorem dp_Ts {K : PySem.W.Frag} {H : Hp} : ∀ {l : List T} {us : List V}, TsAt H l us → DpAll K H us (datTs l)
  | [], us, h => by rw [TsAt] at h; subst h; rw [datTs]; exact .nil
  | t :: l, us, h => by
    rw [TsAt] at h
    obtain ⟨u, us', rfl, h1, h2⟩ := h
    rw [datTs]
    exact .cons (dp_T h1) (dp_Ts h2)
end
theorem strOk_atom {s : Str} (h : s = "all" ∨ s = "none" ∨ wordOk s = true) : PyData.strOk s = true := by
  rcases h with rfl | rfl | h
  · decide +kernel
  · decide +kernel
  · exact word_strOk h
mutual
theorem lay_T : ∀ {t : T}, CW t → (datT t).canLay0 = true
  | .atom s, h => by rw [CW] at h; rw [datT]; exact strOk_atom h
  | .ex r t, h => by
    rw [CW] at h
    rw [datT]
    simp [PyData.canLay0, PyData.canLayAll0, ok_some_str, word_strOk h.1, lay_T h.2]
  | .and l, h => by
    rw [CW] at h
    rw [datT]
    simp [PyData.canLay0, PyData.canLayAll0, ok_and_str, lay_Ts h.2]
theorem lay_Ts : ∀ {l : List T}, CWs l → PyData.canLayAll0 (datTs l) = true
  | [], _ => by rw [datTs]; rfl
  | t :: l, h => by
    rw [CWs] at h
    rw [datTs]
    simp [PyData.canLayAll0, lay_T h.1, lay_Ts h.2]
end
mutual
theorem depth_T : ∀ t : T, (datT t).depth ≤ ns t
  | .atom s => by rw [datT]; exact Nat.zero_le _
  | .ex r t => by have := depth_T t; rw [datT, ns]; simp only [PyData.depth, PyData.depthAll]; omega
  | .and l => by have := depth_Ts l; rw [datT, ns]; simp only [PyData.depth, PyData.depthAll]; omega
theorem depth_Ts : ∀ l : List T, PyData.depthAll (datTs l) ≤ nss l
  | [] => by rw [datTs]; exact Nat.zero_le _
  | t :: l => by have := depth_T t; have := depth_Ts l; rw [datTs, nss]; simp only [PyData.depthAll]; omega
end
theorem shaped_T {t : T} (h : CW t) (n : ns t ≤ 64) : SeqAt.shaped (datT t) = true := shaped_of (lay_T h) (Nat.le_trans (depth_T t) n)
mutual
theorem eqv_T : ∀ t : T, PyData.eqv (datT t) (datT t) = true
  | .atom s => by rw [datT]; simp [PyData.eqv]
  | .ex r t => by rw [datT]; simp [PyData.eqv, PyData.eqvAll, eqv_T t]
  | .and l => by rw [datT]; simp [PyData.eqv, PyData.eqvAll, eqv_Ts l]
theorem eqv_Ts : ∀ l : List T, PyData.eqvAll (datTs l) (datTs l) = true
  | [] => by rw [datTs]; simp [PyData.eqvAll]
  | t :: l => by rw [datTs]; simp [PyData.eqvAll, eqv_T t, eqv_Ts l]
end
def kidsT : T → List T
  | .atom _ => []
  | .ex _ t => [t]
  | .and l => l
mutual
def nd : T → Nat
  | .atom _ => 1
  | .ex _ t => nd t + 1
  | .and l => nds l + 1
def nds : List T → Nat
  | [] => 0
  | t :: l => nd t + nds l
end
theorem nds_append : ∀ (l m : List T), nds (l ++ m) = nds l + nds m
  | [], m => by simp [nds]
  | t :: l, m => by rw [List.cons_append, nds, nds, nds_append l m]; omega
theorem nd_kids (t : T) : nds (kidsT t) + 1 = nd t := by
  cases t with
  | atom s => simp [kidsT, nds, nd]
  | ex r t => simp [kidsT, nds, nd]
  | and l => simp [kidsT, nd]
theorem ns_kids {t k : T} (h : k ∈ kidsT t) : ns k + 1 ≤ ns t := by
  cases t with
  | atom s => cases h
  | ex r t => rw [List.mem_singleton.mp h, ns]; exact Nat.le_refl _
  | and l => rw [ns]; exact Nat.succ_le_succ (nss_le h)
theorem cw_kids {t k : T} (hw : CW t) (h : k ∈ kidsT t) : CW k := by
  cases t with
  | atom s => cases h
  | ex r t => rw [CW] at hw; rw [List.mem_singleton.mp h]; exact hw.2
  | and l => rw [CW] at hw; exact CWs_iff.mp hw.2 k h
/-- the text as Str -/
def sT (t : T) : Str := sOf (tx t)
def sP (t : T) : Str := sOf (pr t)
theorem cs_sT (t : T) : cs (sT t) = tx t := cs_sOf _
theorem sT_atom {s : Str} : sT (.atom s) = s := by unfold sT; rw [tx]; exact sOf_cs s
theorem len_sT (t : T) : (sT t).length = (tx t).length := len_sOf _
theorem len_sP (t : T) : (sP t).length = (pr t).length := len_sOf _
theorem pr_len (t : T) : (pr t).length ≤ (tx t).length + 2 := wrap_len _ _
theorem tx_len_pr (t : T) : (tx t).length ≤ (pr t).length := by
  unfold pr wrap
  split
  · simp; omega
  · exact Nat.le_refl _
theorem join_len : ∀ (xs : List (List Nat)) (x : List Nat), x ∈ xs → x.length ≤ (TL.joinL amp xs).length
  | [], x, h => by cases h
  | [y], x, h => by rw [List.mem_singleton.mp h, join_one]; exact Nat.le_refl _
  | y :: z :: l, x, h => by
    rw [join_cons]
    simp only [List.length_append]
    rcases List.mem_cons.mp h with h | h
    · rw [h]; omega
    · have := join_len (z :: l) x h; omega
theorem kid_len {t k : T} (h : k ∈ kidsT t) : (pr k).length ≤ (tx t).length := by
  cases t with
  | atom s => cases h
  | ex r t => rw [List.mem_singleton.mp h, tx_ex]; simp only [List.length_append, List.length_cons]; omega
  | and l => rw [tx_and]; exact join_len _ _ (List.mem_map.mpr ⟨k, h, rfl⟩)
theorem join_sum : ∀ (xs : List (List Nat)), (xs.map List.length).sum + 3 * (xs.length - 1) = (TL.joinL amp xs).length
  | [] => rfl
  | [y] => by rw [join_one]; simp
  | y :: z :: l => by
    have := join_sum (z :: l)
    rw [join_cons]
    simp only [List.length_append, List.map_cons, List.sum_cons, List.length_cons] at this ⊢
    have la : amp.length = 3 := rfl
    omega
mutual
/-- as many nodes as letters at most -/
theorem nd_len : ∀ {t : T}, CW t → nd t ≤ 2 * (tx t).length
  | .atom s, h => by
    rw [CW] at h
    have := (atom_wl h).1.ne
    rw [nd, tx]
    have : 0 < (cs s).length := List.length_pos_iff.mpr this
    omega
  | .ex r t, h => by
    rw [CW] at h
    have := nd_len h.2
    have := tx_len_pr t
    rw [nd, tx_ex]
    simp only [List.length_append, List.length_cons]
    omega
  | .and l, h => by
    rw [CW] at h
    have a := nds_len h.2
    have b := join_sum (l.map pr)
    rw [nd, tx_and]
    rw [List.length_map] at b
    omega
theorem nds_len : ∀ {l : List T}, CWs l → nds l ≤ 2 * ((l.map pr).map List.length).sum
  | [], _ => by simp [nds]
  | t :: l, h => by
    rw [CWs] at h
    have := nd_len h.1
    have := tx_len_pr t
    have := nds_len h.2
    rw [nds]
    simp only [List.map_cons, List.sum_cons]
    omega
end
end K1
namespace K1
open PySem L2
theorem and_ne_some : ¬ V.str ("and" : Str) = V.str "some" := fun z => absurd (V.str.inj z) (by decide +kernel)
theorem one_ne_and (c : Nat) : ¬ V.str ⟨#[c]⟩ = V.str "and" := fun z => by
  have e := congrArg Str.length (V.str.inj z)
  have e2 : ("and" : Str).length = 3 := by decide +kernel
  rw [e2] at e
  exact absurd (show (1 : Nat) = 3 from e) (by decide)
theorem atomT_or (t : T) : (∃ s, t = .atom s) ∨ ∀ s, t ≠ .atom s := by
  cases t with
  | atom s => exact .inl ⟨s, rfl⟩
  | ex r t => exact .inr fun s h => nomatch h
  | and l => exact .inr fun s h => nomatch h
def isExT : T → Bool
  | .ex _ _ => true
  | _ => false
theorem some_isT : decide (V.str ("some" : Str) = V.str "some") = true := by decide +kernel
theorem and_isT : decide (V.str ("and" : Str) = V.str "some") = false := by decide +kernel
theorem T_str {H : Hp} {t : T} {v : V} (h : TAt H t v) (n : ∀ s, t ≠ .atom s) : isStr v = false := by
  cases t with
  | atom s => exact (n s rfl).elim
  | ex r t => rw [TAt] at h; obtain ⟨p, u, rfl, _⟩ := h; rfl
  | and l => rw [TAt] at h; obtain ⟨p, us, rfl, _⟩ := h; rfl
/-- f'({piece})' -/
theorem parenT {t : T} (h : isAndT t = true) : Str.empty ++ "(" ++ sT t ++ ")" = sP t := str_ext (by
  rw [cs_app, cs_app, cs_app, cs_empty, cs_lp, cs_rp, cs_sT]
  unfold sP
  rw [cs_sOf]
  unfold pr wrap
  rw [h]
  rfl)
theorem sP_eq {t : T} (h : isAndT t = false) : sP t = sT t := by unfold sP sT; rw [pr_not h]
theorem exT_is {r : Str} {t : T} : Str.empty ++ "some " ++ r ++ " " ++ sP t = sT (.ex r t) := str_ext (by
  rw [cs_app, cs_app, cs_app, cs_app, cs_empty, cs_some, cs_sp]
  unfold sP sT
  rw [cs_sOf, cs_sOf, tx_ex]
  simp [someL])
theorem joinT_is {l : List T} : PySem.Txt.join " & " (l.map sP) = sT (.and l) := str_ext (by
  rw [TL.join_eq]
  show TL.tl (Str.join " & " (l.map sP)) = _
  rw [TL.tl_join]
  show TL.joinL (cs " & ") ((l.map sP).map cs) = _
  rw [cs_amp, cs_sT, tx_and, List.map_map]
  exact congrArg _ (List.map_congr_left fun t _ => cs_sOf _))
section
variable {P : Program} {w : World} {K : PySem.W.Frag} {mg : Str → Option Value} {base : Heap}
/-! ### is_concept, need_concept -/
def spIsT : Sp := fun vs H Q _ => ∃ v, vs = [v] ∧ Kn H 60 v ∧ ∀ H', Same H H' → Q (.bl (nestedB H 100 v)) H'
theorem ok_isT (D : Defs K mg) : FnOk P w K mg base CX0 63 D.d_is_concept.f D.d_is_concept.fd ["thing"] spIsT := by
  have G := ok_nested (P := P) (w := w) (base := base) D 61
  obtain ⟨tD, hD⟩ := D.de_m
  refine D.d_is_concept.F.ok sc_is_concept (fun vs H Q E h => ?_) (fun cdv A outer s H vs Q E hr h => ?_)
  · obtain ⟨v, rfl, _⟩ := h
    rfl
  obtain ⟨v, rfl, hk, q⟩ := h
  refine ⟨_, pss_one (ps_ret (pe_call G hr rfl D.d_is_nested.m D.d_is_nested.F.kp D.d_is_nested.b .nil pass0 (pa_cons (pv 0) (pa_cons (pe_glob (v := .int 100) (by rfl) hD ⟨_, rfl⟩) pa_nil)))), ?_⟩
  exact ⟨_, rfl, v, 100, rfl, hk, q⟩
def spNeedT : Sp := fun vs H Q _ => ∃ v, vs = [v] ∧ Kn H 60 v ∧ nestedB H 100 v = true ∧ ∀ H', Same H H' → Q .non H'
theorem ok_needT (D : Defs K mg) : FnOk P w K mg base CX0 64 D.d_need_concept.f D.d_need_concept.fd ["thing"] spNeedT := by
  have G := ok_isT (P := P) (w := w) (base := base) D
  refine D.d_need_concept.F.ok sc_need_concept (fun vs H Q E h => ?_) (fun cdv A outer s H vs Q E hr h => ?_)
  · obtain ⟨v, rfl, _⟩ := h
    rfl
  obtain ⟨v, rfl, hk, hn, q⟩ := h
  refine ⟨_, (pss_one (ps_if (pt_not (pt_val (pe_call G hr rfl D.d_is_concept.m D.d_is_concept.F.kp D.d_is_concept.b .nil pass0 (pa_cons (pv 0) pa_nil)))) (pss_one ps_never) pss_nil)), ?_⟩
  refine ⟨_, rfl, v, rfl, hk, fun H' g => ⟨_, rfl, ?_⟩⟩
  rw [hn]
  exact iteF (q H' g)
/-! ### inner -/
def spInnerT : Sp := fun vs H Q _ => ∃ v t, vs = [v] ∧ TAt H t v ∧ CW t ∧ ∀ p ws H', Same H H' → H' p = some (.tup ws) → Paired (TAt H') (kidsT t) ws → Q (.ref p) H'
theorem ok_innerT (D : Defs K mg) : FnOk P w K mg base CX0 1 D.d_inner.f D.d_inner.fd ["concept"] spInnerT := by
  refine D.d_inner.F.ok sc_inner (fun vs H Q E h => ?_) (fun cdv A outer s H vs Q E hr h => ?_)
  · obtain ⟨v, c, rfl, _⟩ := h
    rfl
  obtain ⟨v, c, rfl, hc, hw, q⟩ := h
  refine ⟨_, pss_cons (ps_if (pt_val (pe_callB call_isi (by rfl) D.z_isinstance (by decide +kernel) (pa_cons (pv 0) (pa_cons (pe_bltn (v := .ty "str") (by rfl) D.z_str (by decide +kernel) rfl) pa_nil)))) (pss_one (ps_ret (pe_tup pa_nil))) pss_nil)
    (pss_one (ps_ret (pe_ifExp (pt_cmpR op_eq (pe_ix ix_tup (pv 0) pe_int (fun _ _ => rfl)) pe_str (nomark _)) (pe_slice sl_tup (pv 0) (po_some pe_int) po_none) (pe_slice sl_tup (pv 0) (po_some pe_int) po_none)))), ?_⟩
  obtain ⟨t, ty, kt⟩ := pl_str (K := K) hc.pl
  refine ⟨_, rfl, _, _, _, _, _, rfl, .ty _, ty, kt, _, rfl, ?_⟩
  have sl1 : ∀ (x : V) (xs : List V), cutV (x :: xs) (some 1) none = xs := fun x xs => by simp [cutV, HT.sIx]
  have sl2 : ∀ (x y : V) (xs : List V), cutV (x :: y :: xs) (some 2) none = xs := fun x y xs => by simp [cutV, HT.sIx]
  cases c with
  | atom a =>
    rw [TAt] at hc
    obtain ⟨rfl, hl⟩ := hc
    refine iteT ⟨(by show 0 ≤ sizeLine; decide), fun p hp => ?_⟩
    exact q p [] _ (same_new hp _) upd_same .nil
  | ex r c =>
    rw [TAt] at hc
    obtain ⟨a, u, rfl, ha, hu, hl⟩ := hc
    refine iteF ⟨_, rfl, a, _, _, _, rfl, rfl, SqT.of ha, atI_nat (j := 0) rfl, rfl, _, rfl, ?_⟩
    rw [decide_eq_true (show V.str ("some" : Str) = V.str "some" from rfl)]
    refine iteT ⟨_, rfl, _, rfl, a, _, rfl, SqT.of ha, (by rintro ⟨z, _⟩; simp [HT.sIx] at z), fun p hp => ?_⟩
    rw [sl2]
    exact q p [u] _ (same_new hp _) upd_same (.cons (hu.same (same_new hp _)) .nil)
  | and l =>
    rw [TAt] at hc
    obtain ⟨a, us, rfl, ha, hus⟩ := hc
    rw [CW] at hw
    have lu := paired_len hus.pair
    refine iteF ⟨_, rfl, a, _, _, _, rfl, rfl, SqT.of ha, atI_nat (j := 0) rfl, rfl, _, rfl, ?_⟩
    rw [decide_eq_false and_ne_some]
    refine iteF ⟨_, rfl, _, rfl, a, _, rfl, SqT.of ha, (by
      rintro ⟨z, _⟩
      simp [HT.sIx] at z), fun p hp => ?_⟩
    rw [sl1]
    exact q p us _ (same_new hp _) upd_same (pairT_t (Same.t (same_new hp _)) hus.pair)
end
end K1
namespace K1
open PySem L2
theorem small4 {n : Nat} (h : n ≤ 5000) : n < sizeLine := Nat.lt_of_le_of_lt h (by decide)
theorem nds_take {l : List T} : ∀ i, nds (l.take i) ≤ nds l := by
  induction l with
  | nil => intro i; simp [nds]
  | cons x l ih =>
    intro i
    cases i with
    | zero => simp [nds]
    | succ i => have := ih i; simp only [List.take_succ_cons, nds]; omega
theorem nds_snoc {l : List T} {k : T} : nds (l ++ [k]) = nds l + nd k := by rw [nds_append]; simp [nds]
theorem len_nds : ∀ l : List T, l.length ≤ nds l
  | [] => Nat.zero_le _
  | t :: l => by
    have := len_nds l
    have : 1 ≤ nd t := by cases t <;> simp [nd]
    rw [nds, List.length_cons]; omega
section
variable {P : Program} {w : World} {K : PySem.W.Frag} {mg : Str → Option Value} {base : Heap}
/-! ### gather -/
def spGT : Nat → Sp
  | 0 => fun _ _ _ _ => False
  | n + 1 => fun vs H Q _ => ∃ (v : V) (c : T) (d : Addr) (kvs : List (Key × V)), vs = [v, .ref d] ∧ TAt H c v ∧ CW c ∧ ns c ≤ n ∧ (tx c).length ≤ 1000 ∧ H d = some (.dK kvs) ∧ kvs.length + nd c ≤ 4000 ∧
    ∀ H' kvs', But [d] H H' → H' d = some (.dK kvs') → kvs'.length ≤ kvs.length + nd c → Q (.str (sT c)) H'
theorem ok_gatherT (D : Defs K mg) : ∀ n, FnOk P w K mg base CX0 (n + 1) D.d_gather.f D.d_gather.fd ["concept", "found"] (spGT n)
  | 0 => none_left fun _ _ _ _ h => h
  | n + 1 => by
    have G := ok_gatherT D n
    have GI := ok_innerT (P := P) (w := w) (base := base) D
    refine D.d_gather.F.ok sc_gather (fun vs H Q E h => ?_) (fun cdv A outer s H vs Q E hr h => ?_)
    · obtain ⟨v, c, d, kvs, rfl, _⟩ := h
      rfl
    obtain ⟨v, c, d, kvs, rfl, hc, hw, hn, hno, hd, hl, q⟩ := h
    have hr1 : Room 1 _ := hr.mono (by omega)
    have hu := hu_of hr
    refine ⟨_, pss_cons (ps_set (i := 2) sc_gather.nd rfl (Or.inl rfl) (pv 0))
      (pss_cons (ps_if (pt_not (pt_val (pe_callB call_isi (by rfl) D.z_isinstance (by decide +kernel) (pa_cons (pv 0) (pa_cons (pe_bltn (v := .ty "str") (by rfl) D.z_str (by decide +kernel) rfl) pa_nil)))))
        (pss_cons (ps_set (i := 3) sc_gather.nd rfl (Or.inl rfl) (pe_lst pa_nil))
        (pss_cons (ps_for PassesOwn.never rfl (pi_tup (pe_call GI hr1 rfl D.d_inner.m D.d_inner.F.kp D.d_inner.b .nil pass0 (pa_cons (pv 0) pa_nil))) (pg_name (i := 4) sc_gather.nd rfl (Or.inl rfl))
          (pss_cons (ps_set (i := 5) sc_gather.nd rfl (Or.inl rfl) (pe_call G hr rfl D.d_gather.m D.d_gather.F.kp D.d_gather.b .nil pass0 (pa_cons (pv 4) (pa_cons (pv 1) pa_nil))))
          (pss_one (ps_expr (pe_bm PySem.F.plainAttrs_list PySem.F.slot_list_append PySem.F.type_list_append mt_append (pv 3) (pa_cons
            (pe_ifExp (pt_cmpR op_eq (pe_ix ix_seq (pv 4) pe_int (fun _ _ => rfl)) pe_str (nomark _)) (pe_joined (.cons pe_str (.cons (pe_fmt (pv 5)) (.cons pe_str .nil)))) (pv 5)) pa_nil))))))
        (pss_one (ps_set (i := 2) sc_gather.nd rfl (Or.inl rfl) (pe_ifExp (pt_cmpR op_eq (pe_ix ix_tup (pv 0) pe_int (fun _ _ => rfl)) pe_str (nomark _))
          (pe_joined (.cons pe_str (.cons (pe_fmt (pe_ix ix_tup (pv 0) pe_int (fun _ _ => rfl))) (.cons pe_str (.cons (pe_fmt (pe_ix ix_list (pv 3) pe_int (fun _ _ => rfl))) .nil)))))
          (pe_join pe_str (pv 3)))))))
        pss_nil)
      (pss_cons (ps_dput hu (pv 1) (pv 2) (pv 0) rfl)
      (pss_one (ps_ret (pv 2))))), ?_⟩
    have td : ∀ xs, H d ≠ some (.tup xs) := fun xs z => by rw [hd] at z; cases z
    have fin : ∀ H2 kvs2, But [d] H H2 → H2 d = some (.dK kvs2) → kvs2.length + 1 ≤ kvs.length + nd c → Q (.str (sT c)) (upd H2 d (.dK (putK kvs2 (Sum.inr (sT c)) v))) := by
      intro H2 kvs2 b h2 l2
      exact q _ _ (b.trans (But.put (by simp))) upd_same (Nat.le_trans (length_putK _ _ _) l2)
    obtain ⟨t, ty, kt⟩ := pl_str (K := K) hc.pl
    refine ⟨_, rfl, _, rfl, _, _, _, _, _, rfl, .ty _, ty, kt, _, rfl, ?_⟩
    rcases atomT_or c with ⟨s, rfl⟩ | na
    · have hc' := hc
      rw [TAt] at hc'
      obtain ⟨rfl, hs⟩ := hc'
      have z := fin H kvs (But.refl H) hd (by simp [nd])
      rw [sT_atom] at z
      refine iteF ⟨_, rfl, _, rfl, _, rfl, d, _, rfl, DPut.k (k := Sum.inr s) hd (small4 (by omega)), _, rfl, ?_⟩
      exact z
    rw [T_str hc na]
    refine iteT ⟨(by show 0 ≤ sizeLine; decide), fun l hlz => ?_⟩
    have hdl : d ≠ l := ne_of_none hd hlz
    have s0 : Same H (upd H l (.lst [])) := same_new hlz _
    refine ⟨_, rfl, v, c, rfl, hc.same s0, hw, fun p ws H1 g1 hp hk => ⟨p, rfl, ⟨_, SqT.of hp⟩, ?_⟩⟩
    have hl1 : H1 l = some (.lst []) := g1 _ _ upd_same
    have hd1 : H1 d = some (.dK kvs) := g1 _ _ (by rw [upd_ne hdl]; exact hd)
    have g01 : Same H H1 := s0.trans g1
    have nt1 : ∀ e ∈ [l, d], ∀ xs, H1 e ≠ some (.tup xs) := fun e he xs z => by
      simp only [List.mem_cons, List.not_mem_nil, or_false] at he
      rcases he with rfl | rfl
      · rw [hl1] at z; cases z
      · rw [hd1] at z; cases z
    have nk := nd_kids c
    refine for_tup (xs := ws) (fun i σ H2 => But [l, d] H1 H2 ∧ (∃ o4 o5, σ = [some v, some (.ref d), some v, some (.ref l), o4, o5]) ∧ H2 l = some (.lst (((kidsT c).take i).map fun k => V.str (sP k))) ∧
        ∃ kvs2, H2 d = some (.dK kvs2) ∧ kvs2.length ≤ kvs.length + nds ((kidsT c).take i))
      ⟨But.refl _, ⟨none, none, rfl⟩, hl1, kvs, hd1, by simp [nds]⟩ (fun i σ H2 _ hh => SqT.of (hh.1 _ _ (fun z => by
        simp only [List.mem_cons, List.not_mem_nil, or_false] at z
        rcases z with rfl | rfl
        · rw [hl1] at hp; cases hp
        · rw [hd1] at hp; cases hp) hp)) ?_ ?_
    · rintro i x σ H2 hi ⟨b2, ⟨o4, o5, rfl⟩, hl2, kvs2, hd2, hz2⟩
      obtain ⟨k, hk1, hk2⟩ := paired_get hk hi
      have kin : k ∈ kidsT c := List.mem_of_getElem? hk1
      have kn := ns_kids kin
      have kl := kid_len kin
      have ktl := tx_len_pr k
      have ke : (kidsT c).take (i + 1) = (kidsT c).take i ++ [k] := take_more hk1
      have kno : nds ((kidsT c).take i) + nd k ≤ nds (kidsT c) := by
        have := nds_take (l := kidsT c) (i + 1)
        rw [ke, nds_snoc] at this
        exact this
      cases n with
      | zero => omega
      | succ n =>
        have hx2 : TAt H2 k x := hk2.t (b2.t nt1)
        refine ⟨_, rfl, _, rfl, x, k, d, kvs2, rfl, hx2, cw_kids hw kin, by omega, by omega, hd2, by omega, fun H3 kvs3 b3 hd3 hz3 => ?_⟩
        have hl3 : H3 l = some (.lst (((kidsT c).take i).map fun k => V.str (sP k))) := b3 _ _ (by simp; exact fun z => hdl z.symm) hl2
        have t23 : TSame H2 H3 := b3.t fun e he xs z => by simp only [List.mem_singleton] at he; subst he; rw [hd2] at z; cases z
        have hlen : (((kidsT c).take i).map fun k => V.str (sP k)).length < sizeLine := small4 (by
          rw [List.length_map]
          have := len_nds ((kidsT c).take i)
          omega)
        have sk : (sT k).length ≤ 1000 := by rw [len_sT]; omega
        have done : But [l, d] H1 (upd H3 l (.lst ((((kidsT c).take i).map fun k => V.str (sP k)) ++ [V.str (sP k)]))) ∧ (∃ o4 o5, [some v, some (V.ref d), some v, some (V.ref l), some x, some (V.str (sT k))] = [some v, some (V.ref d), some v, some (V.ref l), o4, o5]) ∧
            (upd H3 l (.lst ((((kidsT c).take i).map fun k => V.str (sP k)) ++ [V.str (sP k)]))) l = some (.lst (((kidsT c).take (i + 1)).map fun k => V.str (sP k))) ∧
            ∃ kvs2, (upd H3 l (.lst ((((kidsT c).take i).map fun k => V.str (sP k)) ++ [V.str (sP k)]))) d = some (.dK kvs2) ∧ kvs2.length ≤ kvs.length + nds ((kidsT c).take (i + 1)) := by
          refine ⟨(b2.trans (b3.mono (by simp))).trans (But.put (by simp)), ⟨_, _, rfl⟩, ?_, kvs3, by rw [upd_ne hdl]; exact hd3, ?_⟩
          · rw [upd_same, ke, List.map_append]
            rfl
          · rw [ke, nds_snoc]
            omega
        refine ⟨_, rfl, .inl ⟨rfl, _, SqL.of hl3⟩, _, rfl, ?_⟩
        have hx3 := hx2.t t23
        cases ea : isAndT k with
        | true =>
          obtain ⟨a, xs, rfl, ha⟩ : ∃ a xs, x = .ref a ∧ H3 a = some (.tup (V.str "and" :: xs)) := by
            cases k with
            | atom s => cases ea
            | ex r c => cases ea
            | and l => rw [TAt] at hx3; obtain ⟨p, us, rfl, h, _⟩ := hx3; exact ⟨_, _, rfl, h⟩
          refine .inr (.inl ⟨a, _, _, _, rfl, rfl, SqT.of ha, atI_nat (j := 0) rfl, rfl, _, rfl, ?_⟩)
          rw [decide_eq_true (show V.str ("and" : Str) = V.str "and" from rfl)]
          refine iteT ⟨_, rfl, ?_, _, rfl, .inl ⟨_, rfl, ?_, _, rfl, ?_, _, rfl, ?_, ?_⟩⟩
          · decide +kernel
          · exact Nat.le_trans sk (by decide)
          · rw [len_app]
            exact Nat.le_trans (Nat.add_le_add (show (Str.empty ++ "(" : Str).length ≤ 1 by decide +kernel) sk) (by decide)
          · rw [len_app, len_app]
            exact Nat.le_trans (Nat.add_le_add (Nat.add_le_add (show (Str.empty ++ "(" : Str).length ≤ 1 by decide +kernel) sk) (show (")" : Str).length ≤ 1 by decide +kernel)) (by decide)
          rw [parenT ea]
          exact ⟨l, _, _, rfl, rfl, hl3, hlen, done⟩
        | false =>
          have eP := sP_eq ea
          rw [← eP] at *
          cases k with
          | and l => cases ea
          | atom s =>
            rw [TAt] at hx3
            obtain ⟨rfl, hs⟩ := hx3
            have wk := cw_kids hw kin
            rw [CW] at wk
            obtain ⟨ch, hch⟩ : ∃ ch, (cs s)[0]? = some ch := by
              cases es2 : cs s with
              | nil => exact ((atom_wl wk).1.ne es2).elim
              | cons ch r => exact ⟨ch, rfl⟩
            refine .inr (.inr ⟨s, 0, ch, rfl, rfl, Nat.le_trans hs (by decide), atI_nat (j := 0) hch, rfl, _, rfl, ?_⟩)
            rw [decide_eq_false (one_ne_and ch)]
            exact iteF ⟨_, rfl, l, _, _, rfl, rfl, hl3, hlen, done⟩
          | ex r c =>
            rw [TAt] at hx3
            obtain ⟨a, u, rfl, ha, _⟩ := hx3
            refine .inr (.inl ⟨a, _, _, _, rfl, rfl, SqT.of ha, atI_nat (j := 0) rfl, rfl, _, rfl, ?_⟩)
            rw [decide_eq_false (show ¬ V.str ("some" : Str) = V.str "and" from fun z => absurd (V.str.inj z) (by decide +kernel))]
            exact iteF ⟨_, rfl, l, _, _, rfl, rfl, hl3, hlen, done⟩
    · rintro σ H2 ⟨b2, ⟨o4, o5, rfl⟩, hl2, kvs2, hd2, hz2⟩
      have e : (kidsT c).take ws.length = kidsT c := by rw [← paired_len hk, List.take_length]
      rw [e] at hl2 hz2
      have t02 : TSame H H2 := (Same.t g01).trans (b2.t nt1)
      have b02 : But [d] H H2 := ((But.of g01).trans b2).drop hlz
      have z := fin H2 kvs2 b02 hd2 (by omega)
      have hlt : kvs2.length < sizeLine := small4 (by omega)
      have hc2 := hc.t t02
      cases c with
      | atom s => exact (na s rfl).elim
      | ex r c =>
        rw [TAt] at hc2
        obtain ⟨a, u, rfl, ha, hu2, hrl⟩ := hc2
        have l1 : (sP c).length ≤ 1000 := by rw [len_sP]; exact Nat.le_trans (kid_len (t := .ex r c) (by simp [kidsT])) hno
        have c5 : (Str.empty ++ "some " : Str).length = 5 := by decide +kernel
        have c1 : (" " : Str).length = 1 := by decide +kernel
        refine ⟨_, rfl, a, _, _, _, rfl, rfl, SqT.of ha, atI_nat (j := 0) rfl, rfl, _, rfl, ?_⟩
        rw [decide_eq_true (show V.str ("some" : Str) = V.str "some" from rfl)]
        refine iteT ⟨_, rfl, ?_, _, rfl, a, _, _, _, rfl, rfl, SqT.of ha, atI_nat (j := 1) rfl, .inl ⟨r, rfl, ?_, _, rfl, ?_, _, rfl, ?_, _, rfl, l, _, _, _, rfl, rfl, SqL.of hl2, atI_nat (j := 0) rfl, .inl ⟨_, rfl, ?_, _, rfl, ?_, ?_⟩⟩⟩
        · decide +kernel
        · exact Nat.le_trans hrl (by decide)
        · rw [len_app, c5]
          exact Nat.le_of_lt (small4 (by omega))
        · rw [len_app, len_app, c5, c1]
          exact Nat.le_of_lt (small4 (by omega))
        · exact Nat.le_trans l1 (by decide)
        · rw [len_app, len_app, len_app, c5, c1]
          exact Nat.le_of_lt (small4 (by omega))
        rw [exT_is]
        refine ⟨_, rfl, _, rfl, _, rfl, d, _, rfl, DPut.k (k := Sum.inr (sT (.ex r c))) hd2 hlt, _, rfl, ?_⟩
        exact z
      | and ks =>
        have hc3 := hc2
        rw [TAt] at hc3
        obtain ⟨a, us, rfl, ha, _⟩ := hc3
        have c3 : (" & " : Str).length = 3 := by decide +kernel
        have sum : (ks.map fun k => (sP k).length).sum + 3 * (ks.length - 1) = (tx (.and ks)).length := by
          have := join_sum (ks.map pr)
          rw [tx_and, ← this, List.length_map, List.map_map]
          congr 2
        refine ⟨_, rfl, a, _, _, _, rfl, rfl, SqT.of ha, atI_nat (j := 0) rfl, rfl, _, rfl, ?_⟩
        rw [decide_eq_false and_ne_some]
        refine iteF ⟨⟨_, rfl⟩, _, rfl, _, l, ks.map sP, rfl, rfl, .inl (SqL.of (by rw [hl2, List.map_map]; rfl)), ?_, ?_⟩
        · rw [List.map_map, List.length_map, c3]
          show (ks.map fun k => (sP k).length).sum + _ ≤ _
          exact Nat.le_of_lt (small4 (by omega))
        rw [joinT_is]
        refine ⟨_, rfl, _, rfl, _, rfl, d, _, rfl, DPut.k (k := Sum.inr (sT (.and ks))) hd2 hlt, _, rfl, ?_⟩
        exact z
/-! ### text_of, text -/
def spTextOfT : Sp := fun vs H Q _ => ∃ v t, vs = [v] ∧ TAt H t v ∧ CW t ∧ ns t ≤ 60 ∧ (tx t).length ≤ 1000 ∧ ∀ H', Same H H' → Q (.str (sT t)) H'
theorem ok_textOfT (D : Defs K mg) : FnOk P w K mg base CX0 63 D.d_text_of.f D.d_text_of.fd ["concept"] spTextOfT := by
  have G := ok_gatherT (P := P) (w := w) (base := base) D 61
  refine D.d_text_of.F.ok sc_text_of (fun vs H Q E h => ?_) (fun cdv A outer s H vs Q E hr h => ?_)
  · obtain ⟨v, c, rfl, _⟩ := h
    rfl
  obtain ⟨v, c, rfl, hc, hw, h1, h2, q⟩ := h
  refine ⟨_, (pss_one (ps_ret (pe_call G hr rfl D.d_gather.m D.d_gather.F.kp D.d_gather.b .nil pass0 (pa_cons (pv 0) (pa_cons pe_dnewK pa_nil))))), ?_⟩
  have := nd_len hw
  refine ⟨_, rfl, fun d hd => ⟨v, c, d, [], rfl, hc.same (same_new hd _), hw, h1, h2, upd_same, by simp only [List.length_nil]; omega, fun H' kvs' b _ _ => ?_⟩⟩
  exact q H' fun e o z => b e o (by simp only [List.mem_singleton]; exact ne_of_none z hd) (same_new hd _ e o z)
def spTextT : Sp := fun vs H Q _ => ∃ v t, vs = [v] ∧ TAt H t v ∧ CW t ∧ ns t ≤ 60 ∧ (tx t).length ≤ 1000 ∧ ∀ H', Same H H' → Q (.str (sT t)) H'
theorem ok_textT (D : Defs K mg) : FnOk P w K mg base CX0 65 D.d_text.f D.d_text.fd ["concept"] spTextT := by
  have GN := ok_needT (P := P) (w := w) (base := base) D
  have G := ok_textOfT (P := P) (w := w) (base := base) D
  refine D.d_text.F.ok sc_text (fun vs H Q E h => ?_) (fun cdv A outer s H vs Q E hr h => ?_)
  · obtain ⟨v, c, rfl, _⟩ := h
    rfl
  obtain ⟨v, c, rfl, hc, hw, h1, h2, q⟩ := h
  have hr63 : Room 63 _ := hr.mono (by omega)
  refine ⟨_, (pss_cons (ps_expr (pe_call GN hr rfl D.d_need_concept.m D.d_need_concept.F.kp D.d_need_concept.b .nil pass0 (pa_cons (pv 0) pa_nil)))
      (pss_one (ps_ret (pe_call G hr63 rfl D.d_text_of.m D.d_text_of.F.kp D.d_text_of.b .nil pass0 (pa_cons (pv 0) pa_nil))))), ?_⟩
  exact ⟨_, rfl, v, rfl, hc.kn (by omega), (hc.nested 100).mpr ⟨hw, by omega⟩, fun H1 g1 => ⟨_, rfl, v, c, rfl, hc.same g1, hw, h1, h2, fun H2 g2 => q H2 (g1.trans g2)⟩⟩
end
end K1
namespace K1
open PySem L2
/-! texts by place -/
theorem pre1 (c : Nat) (s : List Nat) : [c].isPrefixOf s = decide (s.head? = some c) := by
  cases s with
  | nil => rfl
  | cons x r =>
    show ((c == x) && true) = decide (some x = some c)
    by_cases h : x = c
    · subst h; simp
    · simp [h, Ne.symm h]
theorem sw_is {told sign : Str} {i : Nat} (hi : i ≤ told.length) : PySem.Txt.startswith3 told sign (i : Int) = (cs sign).isPrefixOf ((cs told).drop i) := by
  unfold PySem.Txt.startswith3
  have e : PySem.fromIndex told.length (i : Int) = i := by
    unfold PySem.fromIndex
    rw [if_neg (by omega)]
    omega
  rw [e, PySem.StrLaws.subAt_eq]
  rw [Bool.eq_iff_iff, Bool.and_eq_true, decide_eq_true_eq, beq_iff_eq, List.isPrefixOf_iff_prefix, List.prefix_iff_eq_take]
  have l1 : (cs told).length = told.length := rfl
  have l2 : (cs sign).length = sign.length := rfl
  constructor
  · rintro ⟨h1, h2⟩
    exact h2.symm
  · intro h
    have := congrArg List.length h
    rw [List.length_take, List.length_drop, l1, l2] at this
    exact ⟨by omega, h.symm⟩
theorem cs_cut {z : Str} {a b : Nat} (ha : a ≤ b) (hb : b ≤ z.length) : cs (cutS z (some (a : Int)) (some (b : Int))) = ((cs z).drop a).take (b - a) := by
  unfold cutS
  rw [HT.sIx_nat, HT.sIx_nat, Nat.min_eq_left (Nat.le_trans ha hb), Nat.min_eq_left hb]
theorem cs_cut_to {z : Str} {b : Nat} (hb : b ≤ z.length) : cs (cutS z none (some (b : Int))) = (cs z).take b := by
  unfold cutS
  rw [HT.sIx_nat, Nat.min_eq_left hb]
  rfl
theorem cs_cut_from {z : Str} {a : Nat} : cs (cutS z (some (a : Int)) none) = (cs z).drop a := by
  unfold cutS
  rw [HT.sIx_nat]
  show ((((cs z).drop (min a z.length)).take (z.length - min a z.length)).toArray).toList = _
  have l1 : (cs z).length = z.length := rfl
  simp only [List.toList_toArray]
  rw [List.take_of_length_le (by rw [List.length_drop, l1]; exact Nat.le_refl _)]
  by_cases h : a ≤ z.length
  · rw [Nat.min_eq_left h]
  · rw [Nat.min_eq_right (by omega), List.drop_eq_nil_of_le (by omega), List.drop_eq_nil_of_le (by omega)]
/-! ### measures -/
def ME (u : List Nat) : Nat := 4 * u.count 40 + u.count 32
theorem ME_drop (u : List Nat) (k : Nat) : ME (u.drop k) ≤ ME u := by
  unfold ME
  have h1 := (List.drop_sublist k u).count_le 40
  have h2 := (List.drop_sublist k u).count_le 32
  omega
theorem ME_cons40 (v : List Nat) : ME (40 :: v) = ME v + 4 := by unfold ME; simp; omega
theorem ME_cons32 (v : List Nat) : ME (32 :: v) = ME v + 1 := by unfold ME; simp; omega
/-- the levels that a text can ask for -/
def ML (u : List Nat) : Nat := 2 * u.count 40 + u.count 32
theorem ML_drop (u : List Nat) (k : Nat) : ML (u.drop k) ≤ ML u := by
  unfold ML
  have h1 := (List.drop_sublist k u).count_le 40
  have h2 := (List.drop_sublist k u).count_le 32
  omega
theorem ML_cons40 (v : List Nat) : ML (40 :: v) = ML v + 2 := by unfold ML; simp; omega
theorem ML_cons32 (v : List Nat) : ML (32 :: v) = ML v + 1 := by unfold ML; simp; omega
theorem drop_while_drop (f : Nat → Bool) : ∀ s : List Nat, s.dropWhile f = s.drop (s.takeWhile f).length
  | [] => rfl
  | c :: r => by
    cases h : f c with
    | true => simp [List.dropWhile, List.takeWhile, h, drop_while_drop f r]
    | false => simp [List.dropWhile, List.takeWhile, h]
theorem head_drop {u : List Nat} {k c : Nat} (h : (u.drop k).head? = some c) : u.drop k = c :: u.drop (k + 1) ∧ k < u.length := by
  have e := head_of h
  rw [List.tail_drop] at e
  refine ⟨e, ?_⟩
  by_cases hk : k < u.length
  · exact hk
  · rw [List.drop_eq_nil_of_le (by omega)] at h; cases h
mutual
theorem rItem_len : ∀ (n : Nat) (u : List Nat) (t : T) (v : List Nat), rItem n u = some (t, v) → (pr t).length + v.length ≤ u.length ∧ 2 * ns t + sp v ≤ sp u
  | 0, _, _, _, h => by simp [rItem] at h
  | n + 1, u, t, v, h => by
    rw [rItem] at h
    split at h
    · rename_i h40
      have eu := head_of h40
      split at h
      · rename_i l w hl
        cases h
        obtain ⟨a, b⟩ := rItems_len n u.tail l (41 :: v) hl
        have e1 : u.length = u.tail.length + 1 := by have := congrArg List.length eu; rwa [List.length_cons] at this
        have e2 : sp u = sp u.tail := by have := congrArg sp eu; simpa [sp] using this
        have e3 : sp (41 :: v) = sp v := by simp [sp]
        rw [e3] at b
        rw [List.length_cons] at a
        unfold one
        split
        · rename_i t
          have : TL.joinL amp (txs [t]) = pr t := by rw [txs_eq]; exact join_one _
          rw [this] at a
          have b1 := b.2 t (by simp)
          exact ⟨by omega, by omega⟩
        · rename_i hne
          rw [pr_and, tx_and, ← txs_eq]
          simp only [List.length_cons, List.length_append, List.length_nil]
          have b1 := b.1 (by
            cases l with
            | nil => exact absurd rfl (rItems_ne n _ _ _ hl)
            | cons x r => cases r with
              | nil => exact (hne x rfl).elim
              | cons y r => simp)
          rw [ns]
          exact ⟨by omega, by omega⟩
      · cases h
    split at h
    · rename_i hs
      obtain ⟨h1, h2⟩ := hs
      split at h
      · rename_i h3
        split at h
        · rename_i t' x hi
          cases h
          obtain ⟨a, b⟩ := rItem_len n _ t' v hi
          have e0 := (List.takeWhile_append_dropWhile (p := lower) (l := u)).symm
          have e1 := head_of h2
          have e2 := (List.takeWhile_append_dropWhile (p := lower) (l := (u.dropWhile lower).tail)).symm
          have e3 := head_of h3
          have eu : u = someL ++ (32 :: ((u.dropWhile lower).tail.takeWhile lower ++ (32 :: ((u.dropWhile lower).tail.dropWhile lower).tail))) := by
            calc u = u.takeWhile lower ++ u.dropWhile lower := e0
              _ = someL ++ u.dropWhile lower := congrArg (fun z => z ++ u.dropWhile lower) h1
              _ = someL ++ (32 :: (u.dropWhile lower).tail) := congrArg (fun z => someL ++ z) e1
              _ = someL ++ (32 :: ((u.dropWhile lower).tail.takeWhile lower ++ (u.dropWhile lower).tail.dropWhile lower)) := congrArg (fun z => someL ++ (32 :: z)) e2
              _ = _ := congrArg (fun z => someL ++ (32 :: ((u.dropWhile lower).tail.takeWhile lower ++ z))) e3
          have el := congrArg List.length eu
          have es := congrArg sp eu
          simp only [sp, List.length_append, List.length_cons, List.count_append, List.count_cons] at el es b
          rw [pr_not rfl, tx_ex, cs_sOf, ns]
          simp only [List.length_append, List.length_cons, sp]
          simp at es
          exact ⟨by omega, by omega⟩
        · cases h
      · cases h
    · cases h
      have e0 := (List.takeWhile_append_dropWhile (p := lower) (l := u)).symm
      have el := congrArg List.length e0
      have es := congrArg sp e0
      simp only [sp, List.length_append, List.count_append] at el es
      rw [pr_not rfl, tx, cs_sOf, ns]
      simp only [sp]
      exact ⟨by omega, by omega⟩
theorem rItems_len : ∀ (n : Nat) (u : List Nat) (l : List T) (v : List Nat), rItems n u = some (l, v) → (TL.joinL amp (txs l)).length + v.length ≤ u.length ∧ ((2 ≤ l.length → 2 * nss l + 2 + sp v ≤ sp u) ∧ ∀ t ∈ l, 2 * ns t + sp v ≤ sp u)
  | 0, _, _, _, h => by simp [rItems] at h
  | n + 1, u, l, v, h => by
    rw [rItems] at h
    split at h
    · cases h
    · rename_i t w hi
      obtain ⟨a, b⟩ := rItem_len n u t w hi
      split at h
      · rename_i ha
        split at h
        · rename_i l' x hl
          cases h
          obtain ⟨c, d⟩ := rItems_len n _ l' v hl
          have ea := amp_of ha
          have e1 := congrArg List.length ea
          have e2 := congrArg sp ea
          simp only [sp, List.length_append, List.count_append] at e1 e2
          have la : amp.length = 3 := rfl
          have lb : List.count 32 amp = 2 := rfl
          have ne := rItems_ne n _ _ _ hl
          simp only [sp] at b d ⊢
          cases l' with
          | nil => exact (ne rfl).elim
          | cons y r =>
            have e : TL.joinL amp (txs (t :: y :: r)) = pr t ++ (amp ++ TL.joinL amp (txs (y :: r))) := by rw [txs_eq, txs_eq]; exact join_cons
            rw [e]
            simp only [List.length_append]
            have all : ∀ z ∈ t :: y :: r, 2 * ns z + 2 + List.count 32 v ≤ List.count 32 u := fun z hz => by
              rcases List.mem_cons.mp hz with h | h
              · rw [h]
                have := d.2 y List.mem_cons_self
                omega
              · have := d.2 z h
                omega
            refine ⟨by omega, fun _ => ?_, fun z hz => by have := all z hz; omega⟩
            have := nss_bound (n := (List.count 32 u - 2 - List.count 32 v) / 2) fun z hz => by have := all z hz; omega
            have := all t List.mem_cons_self
            omega
        · cases h
      · cases h
        have e : TL.joinL amp (txs [t]) = pr t := by rw [txs_eq]; exact join_one _
        rw [e]
        refine ⟨a, fun z => by simp at z, fun z hz => ?_⟩
        rw [List.mem_singleton.mp hz]; exact b
theorem rItems_ne : ∀ (n : Nat) (u : List Nat) (l : List T) (v : List Nat), rItems n u = some (l, v) → l ≠ []
  | 0, _, _, _, h => by simp [rItems] at h
  | n + 1, u, l, v, h => by
    rw [rItems] at h
    split at h
    · cases h
    · split at h
      · split at h
        · cases h; simp
        · cases h
      · cases h; simp
end
end K1
namespace K1
open PySem L2
theorem putF_len {f : Str} {v w : V} : ∀ {fs : List (Str × V)}, fs.lookup f = some w → (putF f v fs).length = fs.length
  | [], h => by simp at h
  | (g, x) :: r, h => by
    unfold putF
    split
    · rfl
    · rename_i ne
      have : (f == g) = false := by simpa using fun z : f = g => ne z.symm
      rw [List.lookup_cons, this] at h
      rw [List.length_cons, List.length_cons, putF_len h]
theorem rd_ne : ¬ ("_told" : Str) = "_at" := by decide +kernel
/-- a reader of told, at a place -/
structure RdAt (C : Addr) (H : Hp) (x : Addr) (told : Str) (at_ : Nat) : Prop where
  ex : ∃ dx fs, H x = some (.ins C dx fs) ∧ fs.lookup ("_told" : Str) = some (.str told) ∧ fs.lookup ("_at" : Str) = some (.int (at_ : Int)) ∧ (∀ m : Str, ¬ m = "_told" → ¬ m = "_at" → fs.lookup m = none) ∧ fs.length ≤ 2
theorem RdAt.put {C : Addr} {H : Hp} {x dx : Addr} {told : Str} {a b : Nat} {fs : List (Str × V)} (h1 : fs.lookup ("_told" : Str) = some (.str told)) (h2 : fs.lookup ("_at" : Str) = some (.int (a : Int))) (h3 : ∀ m : Str, ¬ m = "_told" → ¬ m = "_at" → fs.lookup m = none) (h4 : fs.length ≤ 2) :
    RdAt C (upd H x (.ins C dx (putF "_at" (.int (b : Int)) fs))) x told b := by
  refine ⟨dx, _, upd_same, ?_, ?_, fun m n1 n2 => ?_, by rw [putF_len h2]; exact h4⟩
  · rw [lookup_putF, if_neg rd_ne]; exact h1
  · rw [lookup_putF, if_pos rfl]
  · rw [lookup_putF, if_neg n2]; exact h3 m n1 n2
theorem RdAt.same {C : Addr} {H H' : Hp} {x : Addr} {told : Str} {a : Nat} (h : RdAt C H x told a) (e : H' x = H x) : RdAt C H' x told a := by
  obtain ⟨dx, fs, h1, h2⟩ := h.ex
  exact ⟨dx, fs, e.trans h1, h2⟩
theorem nt_x {C : Addr} {H : Hp} {x : Addr} {told : Str} {a : Nat} (h : RdAt C H x told a) : ∀ e ∈ [x], ∀ xs, H e ≠ some (.tup xs) := fun e he xs z => by
  obtain ⟨dx, fs, h1, _⟩ := h.ex
  rw [List.mem_singleton.mp he, h1] at z
  cases z
section
variable {P : Program} {w : World} {K : PySem.W.Frag} {mg : Str → Option Value} {base : Heap}
def spRInit (C : Addr) : Sp := fun vs H Q _ => ∃ (x dx : Addr) (told : Str), vs = [.ref x, .str told] ∧ H x = some (.ins C dx []) ∧ ∀ H', But [x] H H' → RdAt C H' x told 0 → Q .non H'
theorem ok_rinit (D : Defs K mg) : FnOk P w K mg base CX0 1 D.d_r_init.f D.d_r_init.fd ["self", "told"] (spRInit D.rC) := by
  refine D.d_r_init.F.ok sc_r_init (fun vs H Q E h => ?_) (fun cdv A outer s H vs Q E hr h => ?_)
  · obtain ⟨x, dx, told, rfl, _⟩ := h
    rfl
  obtain ⟨x, dx, told, rfl, hx, q⟩ := h
  refine ⟨_, (pss_cons (ps_fld (pv 0) (pv 1) rfl)
      (pss_one (ps_fld (pv 0) pe_int rfl))), ?_⟩
  refine ⟨_, rfl, _, rfl, x, D.rC, dx, _, rfl, hx, D.rC_cl, D.rC_n_told, (by show 0 < 1000; decide), ?_⟩
  refine ⟨_, rfl, x, D.rC, dx, _, rfl, upd_same, D.rC_cl, D.rC_n_at, (by show 1 < 1000; decide), ?_⟩
  refine q _ ((But.put (by simp)).trans (But.put (by simp))) ⟨dx, _, upd_same, ?_, ?_, fun m n1 n2 => ?_, by show 2 ≤ 2; decide⟩
  · rw [lookup_putF, if_neg rd_ne, lookup_putF, if_pos rfl]
  · rw [lookup_putF, if_pos rfl]; rfl
  · rw [lookup_putF, if_neg n2, lookup_putF, if_neg n1]; rfl
def spTakes (C : Addr) : Sp := fun vs H Q _ => ∃ (x : Addr) (told sign : Str) (a : Nat), vs = [.ref x, .str sign] ∧ RdAt C H x told a ∧ a ≤ told.length ∧ told.length ≤ 1000 ∧
  ∀ H', But [x] H H' → RdAt C H' x told (if (cs sign).isPrefixOf ((cs told).drop a) = true then a + sign.length else a) → Q (.bl ((cs sign).isPrefixOf ((cs told).drop a))) H'
theorem ok_takes (D : Defs K mg) : FnOk P w K mg base CX0 1 D.d_r_takes.f D.d_r_takes.fd ["self", "sign"] (spTakes D.rC) := by
  refine D.d_r_takes.F.ok sc_r_takes (fun vs H Q E h => ?_) (fun cdv A outer s H vs Q E hr h => ?_)
  · obtain ⟨x, told, sign, a, rfl, _⟩ := h
    rfl
  obtain ⟨x, told, sign, a, rfl, hR, al, l1000, q⟩ := h
  refine ⟨_, (pss_cons (ps_set (i := 2) sc_r_takes.nd rfl (Or.inl rfl) (pe_bm PySem.F.plainAttrs_str PySem.F.slot_str_startswith PySem.F.type_str_startswith mt_startswith3 (pe_fld (pv 0) rfl) (pa_cons (pv 1) (pa_cons (pe_fld (pv 0) rfl) pa_nil))))
      (pss_cons (ps_if (pt_val (pv 2)) (pss_one (ps_fld (pv 0) (pe_op op_add (pe_fld (pv 0) rfl) (pe_callB call_len_str (by rfl) D.z_len (by decide +kernel) (pa_cons (pv 1) pa_nil))) rfl)) pss_nil)
      (pss_one (ps_ret (pv 2))))), ?_⟩
  obtain ⟨dx, fs, h1, h2, h3, h4, h5⟩ := hR.ex
  refine ⟨_, rfl, x, D.rC, dx, _, _, rfl, h1, D.rC_cl, D.rC_n_told, h2, rfl, _, rfl, _, rfl, x, D.rC, dx, _, _, rfl, h1, D.rC_cl, D.rC_n_at, h3, told, sign, (a : Nat), rfl, rfl, ?_⟩
  rw [sw_is al]
  refine ⟨_, rfl, _, rfl, ?_⟩
  cases e : (cs sign).isPrefixOf ((cs told).drop a) with
  | false =>
    rw [e] at q
    refine iteF ⟨_, rfl, q H (But.refl _) hR⟩
  | true =>
    rw [e] at q
    have sl : sign.length ≤ 1000 := by
      rw [List.isPrefixOf_iff_prefix] at e
      have := e.length_le
      rw [List.length_drop] at this
      have l1 : (cs told).length = told.length := rfl
      have l2 : (cs sign).length = sign.length := rfl
      omega
    refine iteT ⟨_, rfl, x, D.rC, dx, _, _, rfl, h1, D.rC_cl, D.rC_n_at, h3, _, rfl, _, rfl, Nat.le_of_lt (small1000 sl), _, _, rfl, rfl, _, rfl, x, D.rC, dx, _, rfl, h1, D.rC_cl, D.rC_n_at, by omega, ?_⟩
    refine ⟨_, rfl, q _ (But.put (by simp)) ?_⟩
    exact RdAt.put (b := a + sign.length) h2 h3 h4 h5
end
end K1
namespace K1
open PySem L2
theorem take_while_more {f : Nat → Bool} {u : List Nat} {b c : Nat} (h : u[b]? = some c) (hc : f c = true) : (u.drop b).takeWhile f = c :: (u.drop (b + 1)).takeWhile f := by
  obtain ⟨hb, rfl⟩ := List.getElem?_eq_some_iff.mp h
  rw [List.drop_eq_getElem_cons hb, List.takeWhile_cons, if_pos hc]
theorem take_while_stop {f : Nat → Bool} {u : List Nat} {b : Nat} (h : ∀ c, u[b]? = some c → f c = false) : (u.drop b).takeWhile f = [] := by
  by_cases hb : b < u.length
  · have := h _ (List.getElem?_eq_getElem hb)
    rw [List.drop_eq_getElem_cons hb, List.takeWhile_cons, if_neg (by rw [this]; simp)]
  · rw [List.drop_eq_nil_of_le (by omega)]; rfl
theorem drop_take_more {u : List Nat} {a b c : Nat} (hab : a ≤ b) (h : u[b]? = some c) : (u.drop a).take (b + 1 - a) = (u.drop a).take (b - a) ++ [c] := by
  have e : b + 1 - a = (b - a) + 1 := by omega
  rw [e, List.take_add_one, List.getElem?_drop, show a + (b - a) = b by omega, h]
  rfl
section
variable {P : Program} {w : World} {K : PySem.W.Frag} {mg : Str → Option Value} {base : Heap}
def spRWord (C : Addr) : Sp := fun vs H Q _ => ∃ (x : Addr) (told : Str) (a : Nat), vs = [.ref x] ∧ RdAt C H x told a ∧ a ≤ told.length ∧ told.length ≤ 1000 ∧
  ∀ H', But [x] H H' → RdAt C H' x told (a + (((cs told).drop a).takeWhile lower).length) → Q (.str (sOf (((cs told).drop a).takeWhile lower))) H'
theorem ok_rword (D : Defs K mg) : FnOk P w K mg base CX0 1 D.d_r_read_word.f D.d_r_read_word.fd ["self"] (spRWord D.rC) := by
  refine D.d_r_read_word.F.ok sc_r_read_word (fun vs H Q E h => ?_) (fun cdv A outer s H vs Q E hr h => ?_)
  · obtain ⟨x, told, a, rfl, _⟩ := h
    rfl
  obtain ⟨x, told, a, rfl, hR, al, l1000, q⟩ := h
  refine ⟨_, (pss_cons (ps_set (i := 1) sc_r_read_word.nd rfl (Or.inl rfl) (pe_fld (pv 0) rfl))
      (pss_cons (ps_while PassesOwn.never (PW.pt (pw_and (pt_cmpR op_lt (pe_fld (pv 0) rfl) (pe_callB call_len_str (by rfl) D.z_len (by decide +kernel) (pa_cons (pe_fld (pv 0) rfl) pa_nil)) (nomark _)) (pw_and1 (pt_chain op_le_str op_le_str pe_str (pe_ix ix_str (pe_fld (pv 0) rfl) (pe_fld (pv 0) rfl) (fun _ _ => rfl)) pe_str))))
        (pss_one (ps_fld (pv 0) (pe_op op_add (pe_fld (pv 0) rfl) pe_int) rfl)))
      (pss_one (ps_ret (pe_slice sl_str (pe_fld (pv 0) rfl) (po_some (pv 1)) (po_some (pe_fld (pv 0) rfl))))))), ?_⟩
  obtain ⟨dx, fs, h1, h2, h3, h4, h5⟩ := hR.ex
  have lt : (cs told).length = told.length := rfl
  refine ⟨_, rfl, x, D.rC, dx, _, _, rfl, h1, D.rC_cl, D.rC_n_at, h3, ?_⟩
  refine ⟨fun m σ H2 => ∃ b : Nat, m = told.length - b ∧ σ = [some (.ref x), some (.int (a : Nat))] ∧ But [x] H H2 ∧ RdAt D.rC H2 x told b ∧ a ≤ b ∧ b ≤ told.length ∧ ((cs told).drop a).takeWhile lower = ((cs told).drop a).take (b - a) ++ ((cs told).drop b).takeWhile lower,
    ⟨_, a, rfl, rfl, But.refl _, hR, Nat.le_refl _, al, by simp⟩, ?_⟩
  rintro m σ H2 ⟨b, rfl, rfl, b2, R2, ab, bl, ew⟩
  obtain ⟨dx2, fs2, g1, g2, g3, g4, g5⟩ := R2.ex
  have key : ((cs told).drop b).takeWhile lower = [] → Q (.str (cutS told (some (a : Int)) (some (b : Int)))) H2 := fun e => by
    rw [e, List.append_nil] at ew
    have lw : (((cs told).drop a).takeWhile lower).length = b - a := by rw [ew, List.length_take, List.length_drop, lt]; omega
    have z := q H2 b2 (by rw [lw, show a + (b - a) = b by omega]; exact R2)
    rw [ew] at z
    rw [show cutS told (some (a : Int)) (some (b : Int)) = sOf (((cs told).drop a).take (b - a)) from str_ext (by rw [cs_cut ab bl, cs_sOf])]
    exact z
  refine ⟨_, rfl, x, D.rC, dx2, _, _, rfl, g1, D.rC_cl, D.rC_n_at, g3, _, rfl, x, D.rC, dx2, _, _, rfl, g1, D.rC_cl, D.rC_n_told, g2, _, rfl, Nat.le_of_lt (small1000 l1000), _, _, rfl, rfl, _, rfl, ?_⟩
  by_cases cb : b < told.length
  · rw [decide_eq_true (show ((b : Nat) : Int) < (told.length : Int) by omega)]
    obtain ⟨c, hc⟩ : ∃ c, (cs told)[b]? = some c := ⟨_, List.getElem?_eq_getElem (by rw [lt]; exact cb)⟩
    refine iteT ⟨_, rfl, x, D.rC, dx2, _, _, rfl, g1, D.rC_cl, D.rC_n_told, g2, _, rfl, x, D.rC, dx2, _, _, rfl, g1, D.rC_cl, D.rC_n_at, g3, told, (b : Nat), c, rfl, rfl, Nat.le_of_lt (small1000 l1000), atI_nat (j := b) hc, _, _, rfl, rfl, _, rfl, ?_⟩
    rw [lt_a]
    by_cases d1 : c < 97
    · rw [decide_eq_true d1]
      refine iteF ⟨_, rfl, iteF ?_⟩
      refine ⟨_, rfl, x, D.rC, dx2, _, _, rfl, g1, D.rC_cl, D.rC_n_told, g2, _, rfl, _, rfl, _, rfl, x, D.rC, dx2, _, _, rfl, g1, D.rC_cl, D.rC_n_at, g3, _, rfl, _, rfl, Nat.le_of_lt (small1000 l1000), key (take_while_stop fun c' hc' => ?_)⟩
      rw [hc] at hc'
      cases hc'
      unfold lower
      rw [decide_eq_false (by omega)]; rfl
    · rw [decide_eq_false d1]
      refine iteT ⟨_, _, rfl, rfl, _, rfl, ?_⟩
      rw [lt_z]
      by_cases d2 : 122 < c
      · rw [decide_eq_true d2]
        refine iteF ?_
        refine ⟨_, rfl, x, D.rC, dx2, _, _, rfl, g1, D.rC_cl, D.rC_n_told, g2, _, rfl, _, rfl, _, rfl, x, D.rC, dx2, _, _, rfl, g1, D.rC_cl, D.rC_n_at, g3, _, rfl, _, rfl, Nat.le_of_lt (small1000 l1000), key (take_while_stop fun c' hc' => ?_)⟩
        rw [hc] at hc'
        cases hc'
        unfold lower
        rw [decide_eq_false (show ¬ c ≤ 122 by omega), Bool.and_false]
      · rw [decide_eq_false d2]
        have hl : lower c = true := by unfold lower; rw [decide_eq_true (show 97 ≤ c by omega), decide_eq_true (show c ≤ 122 by omega)]; rfl
        refine iteT ⟨fun σ' H' => ∃ m', m' < told.length - b ∧ ∃ b : Nat, m' = told.length - b ∧ σ' = [some (.ref x), some (.int (a : Nat))] ∧ But [x] H H' ∧ RdAt D.rC H' x told b ∧ a ≤ b ∧ b ≤ told.length ∧ ((cs told).drop a).takeWhile lower = ((cs told).drop a).take (b - a) ++ ((cs told).drop b).takeWhile lower, fun _ _ h => h, ?_⟩
        refine ⟨_, rfl, x, D.rC, dx2, _, _, rfl, g1, D.rC_cl, D.rC_n_at, g3, _, _, rfl, rfl, _, rfl, x, D.rC, dx2, _, rfl, g1, D.rC_cl, D.rC_n_at, by omega, ?_⟩
        refine ⟨_, (by omega : told.length - (b + 1) < told.length - b), b + 1, rfl, rfl, b2.trans (But.put (by simp)), RdAt.put (b := b + 1) g2 g3 g4 g5, by omega, by omega, ?_⟩
        rw [ew, drop_take_more ab hc, take_while_more hc hl, List.append_assoc]
        rfl
  · rw [decide_eq_false (show ¬ ((b : Nat) : Int) < (told.length : Int) by omega)]
    refine iteF (iteF ?_)
    refine ⟨_, rfl, x, D.rC, dx2, _, _, rfl, g1, D.rC_cl, D.rC_n_told, g2, _, rfl, _, rfl, _, rfl, x, D.rC, dx2, _, _, rfl, g1, D.rC_cl, D.rC_n_at, g3, _, rfl, _, rfl, Nat.le_of_lt (small1000 l1000), key (take_while_stop fun c' hc' => ?_)⟩
    have := (List.getElem?_eq_some_iff.mp hc').1
    rw [lt] at this
    omega
end
end K1
namespace K1
open PySem L2
/-! methods that may raise -/
theorem iteTe {c : Bool} {A B : Prop} (h : c = true) (a : A) : if c = true then A else B := by rw [if_pos h]; exact a
theorem iteFe {c : Bool} {A B : Prop} (h : c = false) (b : B) : if c = true then A else B := by rw [h, if_neg Bool.false_ne_true]; exact b
theorem fn_weak {P : Program} {w : World} {K : PySem.W.Frag} {mg : Str → Option Value} {base : Heap} {CX : CXT} {k : Nat} {f : Addr} {fd : FuncData} {ps : List Str} {sp sp' : Sp} (F : FnOk P w K mg base CX k f fd ps sp) (h : ∀ vs H Q E, sp' vs H Q E → sp vs H Q E) : FnOk P w K mg base CX k f fd ps sp' :=
  ⟨fun vs H Q E z => F.1 vs H Q E (h vs H Q E z), fun A outer s H args us vs Q E a b c d z => F.2 A outer s H args us vs Q E a b c d (h vs H Q E z)⟩
def tMethX (C : Addr) (m : Str) (sp : Sp) (E : L2.St → XK) (ta : TE) (t : TA) : TE := fun σ H Q => ta σ H fun x H1 => ∃ a dx fs, x = .ref a ∧ H1 a = some (.ins C dx fs) ∧ fs.lookup m = none ∧ t σ H1 fun vs H2 => sp (x :: vs) H2 Q (E σ)
theorem pe_methX {X : Cx} {CX : CXT} {k : Nat} {f C : Addr} {fd : FuncData} {ps : List Str} {sp : Sp} {E : L2.St → XK} {m : Str} {pos apos : Pos} {e o : Expr} {es : List Expr} {ta : TE} {t : TA} {pl : Sem Bool} (he : PE X o ta) (c : Cls X.K C) (hm : Meth X.K C m f)
    (F : FnOk X.prog X.w X.K X.mg X.base CX k f fd ps sp) (hr : Room k X.A) (hb : Binds X.K fd ps []) (hx : ∀ σ, PassesAt CX X σ (E σ)) (ha : PA X (e :: es) t)
    (hst : starEach (e :: es) X.env = (false, eval e X.env) :: starEach es X.env := by rfl) (hpl : (backTo pos (starEach es X.env)).any (·.1) = false := by rfl)
    (ht : eval (.Call (.Attribute o m apos) (e :: es) [] pos) X.env = (do
      let ov ← eval o X.env
      standAt apos.atName
      let (f, first) ← holding [ov] (getMethod ov m pl)
      callWith pos f first (backTo pos (starEach (e :: es) X.env)) (backToKw pos (keywordEach [] X.env))) := by rfl) :
    PE X (.Call (.Attribute o m apos) (e :: es) [] pos) (tMethX C m sp E ta t) := by
  refine ⟨fun pins s σ H Q I h => ?_⟩
  refine PySem.W.methodCall_KW (pl := pl) (thn (he.run pins s σ H _ I h) fun u s1 ⟨x, H1, I1, rx, a, dx, fs, ex, ea, l, q⟩ => ?_) ht
  subst ex
  obtain rfl : u = Value.ref a := rx
  refine getmeth_ok I1 ea c hm l ?_
  refine PySem.W.callWith_K (first := [.ref a]) (h₀ := X.base) I.ok.mod.kin hm.kp (thn (ha.run pos pins s1 σ H1 _ I1 q) fun us s2 ⟨vs, H2, I2, r, q2⟩ => ⟨I2.kIn, ?_⟩) hst hpl
  exact run_fnS (us := .ref a :: us) (vs := .ref a :: vs) F hr hb (hx σ) I2 (.cons rfl r) q2
/-- what a list of items read so far gives with the rest -/
def contR (N : Nat) (ts : List T) (s : List Nat) : Option (List T × List Nat) := if amp.isPrefixOf s = true then (match rItems N (s.drop 3) with | some (l, x) => some (ts ++ l, x) | none => none) else some (ts, s)
theorem rItems_cont {N : Nat} {u : List Nat} : rItems (N + 1) u = match rItem N u with
    | none => none
    | some (t, v) => contR N [t] v := by
  rw [rItems]
  cases rItem N u with
  | none => rfl
  | some p => rfl
theorem contR_no {N : Nat} {ts : List T} {s : List Nat} (h : amp.isPrefixOf s = false) : contR N ts s = some (ts, s) := by unfold contR; rw [h]; rfl
theorem contR_step {N : Nat} {ts : List T} {s : List Nat} (h : amp.isPrefixOf s = true) : contR (N + 1) ts s = match rItem N (s.drop 3) with
    | none => none
    | some (t, v) => contR N (ts ++ [t]) v := by
  unfold contR
  rw [if_pos h, rItems]
  cases rItem N (s.drop 3) with
  | none => rfl
  | some p =>
    obtain ⟨t, v⟩ := p
    show (match (if amp.isPrefixOf v = true then (match rItems N (v.drop 3) with | some (l, x) => some (t :: l, x) | none => none) else some ([t], v)) with | some (l, x) => some (ts ++ l, x) | none => none) = _
    by_cases c : amp.isPrefixOf v = true
    · rw [if_pos c]
      show _ = if amp.isPrefixOf v = true then _ else _
      rw [if_pos c]
      cases rItems N (v.drop 3) with
      | none => rfl
      | some q => obtain ⟨l, x⟩ := q; simp
    · rw [if_neg c]
      show _ = if amp.isPrefixOf v = true then _ else _
      rw [if_neg c]
section
variable {P : Program} {w : World} {K : PySem.W.Frag} {mg : Str → Option Value} {base : Heap}
/-- _takes of a sign, in two cases -/
theorem takes_of2 {C : Addr} {H : Hp} {Q : VK} {E : XK} {x : Addr} {told sign : Str} {a : Nat} (hR : RdAt C H x told a) (al : a ≤ told.length) (l : told.length ≤ 1000)
    (h1 : (cs sign).isPrefixOf ((cs told).drop a) = true → ∀ H', But [x] H H' → RdAt C H' x told (a + sign.length) → Q (.bl true) H')
    (h2 : (cs sign).isPrefixOf ((cs told).drop a) = false → ∀ H', But [x] H H' → RdAt C H' x told a → Q (.bl false) H') : spTakes C (.ref x :: ([.str sign] ++ [])) H Q E :=
  ⟨x, told, sign, a, rfl, hR, al, l, fun H' b R => by
    cases e : (cs sign).isPrefixOf ((cs told).drop a) with
    | true => rw [e] at R; exact h1 e H' b R
    | false => rw [e] at R; exact h2 e H' b R⟩
def spItem (C B : Addr) (n : Nat) : Sp := fun vs H Q E => ∃ (x : Addr) (told : Str) (a N : Nat) (L : Int), vs = [.ref x, .int L] ∧ RdAt C H x told a ∧ a ≤ told.length ∧ told.length ≤ 1000 ∧ ME ((cs told).drop a) ≤ 2 * n ∧ ((ML ((cs told).drop a) : Nat) : Int) ≤ 2 * L ∧ L ≤ 1000 ∧ 2 * ((cs told).drop a).length + 1 ≤ N ∧
  (∀ H' v t b, rItem N ((cs told).drop a) = some (t, (cs told).drop b) → b ≤ told.length → But [x] H H' → RdAt C H' x told b → TAt H' t v → Q v H') ∧ (rItem N ((cs told).drop a) = none → ∀ H', But [x] H H' → E (.ref B) none H')
def spItems (C B : Addr) (n : Nat) : Sp := fun vs H Q E => ∃ (x : Addr) (told : Str) (a N : Nat) (L : Int), vs = [.ref x, .int L] ∧ RdAt C H x told a ∧ a ≤ told.length ∧ told.length ≤ 1000 ∧ ME ((cs told).drop a) ≤ 2 * n ∧ ((ML ((cs told).drop a) : Nat) : Int) ≤ 2 * L ∧ L ≤ 1000 ∧ 2 * ((cs told).drop a).length + 2 ≤ N ∧
  (∀ H' v l b, rItems N ((cs told).drop a) = some (l, (cs told).drop b) → b ≤ told.length → But [x] H H' → RdAt C H' x told b → TAt H' (one l) v → Q v H') ∧ (rItems N ((cs told).drop a) = none → ∀ H', But [x] H H' → E (.ref B) none H')
theorem ok_ritems (D : Defs K mg) (n : Nat) (G : FnOk P w K mg base (L2.CX P w) (n + 2) D.d_r_read_item.f D.d_r_read_item.fd ["self", "levels"] (spItem D.rC D.bT n)) :
    FnOk P w K mg base (L2.CX P w) (n + 3) D.d_r_read_items.f D.d_r_read_items.fd ["self", "levels"] (spItems D.rC D.bT n) := by
  have GT := ok_takes (P := P) (w := w) (base := base) D
  refine D.d_r_read_items.F.okX sc_r_read_items (fun vs H Q E h => ?_) (fun cdv A outer s H vs Q E hr h => ?_)
  · obtain ⟨x, told, a, N, L, rfl, _⟩ := h
    rfl
  obtain ⟨x, told, a, N, L, rfl, hR, al, l1000, me, nL, L1, hN, qs, qf⟩ := h
  have hr1 : Room 1 _ := hr.mono (by omega)
  refine ⟨_, (pss_cons (ps_set (i := 2) sc_r_read_items.nd rfl (Or.inl rfl) (pe_lst (pa_cons (pe_methX (pv 0) D.rC_cl D.d_r_read_item.me G hr D.d_r_read_item.b (fun σ => passAt (takes_of rfl rfl rfl rfl) σ) (pa_cons (pv 1) pa_nil)) pa_nil)))
      (pss_cons (ps_while (passes_of rfl) (pt_val (pe_meth (pv 0) D.rC_cl D.d_r_takes.me GT hr1 D.d_r_takes.b .nil pass0 (pa_cons pe_str pa_nil)))
        (pss_one (ps_expr (pe_bm PySem.F.plainAttrs_list PySem.F.slot_list_append PySem.F.type_list_append mt_append (pv 2) (pa_cons (pe_methX (pv 0) D.rC_cl D.d_r_read_item.me G hr D.d_r_read_item.b (fun σ => passAt (takes_of rfl rfl rfl rfl) σ) (pa_cons (pv 1) pa_nil)) pa_nil)))))
      (pss_one (ps_ret (pe_ifExp (pt_cmpR op_eq (pe_callB call_len_seq (by rfl) D.z_len (by decide +kernel) (pa_cons (pv 2) pa_nil)) pe_int (nomark _)) (pe_ix ix_list (pv 2) pe_int (fun _ _ => rfl)) (pe_tup (pa_cons pe_str (StX.pa_star (pv 2) pa_nil)))))))), ?_⟩
  obtain ⟨dx, fs, h1, h2, h3, h4, h5⟩ := hR.ex
  have lt : (cs told).length = told.length := rfl
  obtain ⟨N, rfl⟩ : ∃ M, N = M + 1 := ⟨N - 1, by omega⟩
  rw [rItems_cont] at qs qf
  refine ⟨_, rfl, x, dx, fs, rfl, h1, h4 _ (by decide +kernel) (by decide +kernel), _, rfl, x, told, a, N, L, rfl, hR, al, l1000, me, nL, L1, by omega, fun H1 v t b0 e bl0 b1 R1 tv => ?_, fun e H1 b1 => ?_⟩
  rotate_left
  · rw [e] at qf
    exact qf rfl H1 b1
  rw [e] at qs qf
  have len1 := (rItem_len _ _ _ _ e).1
  rw [List.length_drop, List.length_drop, lt] at len1
  rw [List.length_drop, lt] at hN
  refine ⟨(by show 1 ≤ sizeLine; decide), fun l hl => ?_⟩
  have lx : l ≠ x := fun z => by obtain ⟨_, _, g, _⟩ := R1.ex; rw [z, g] at hl; cases hl
  have xl : x ≠ l := lx.symm
  have hl0 : H l = none := by
    cases z : H l with
    | none => rfl
    | some o => rw [b1 _ _ (by simpa using lx) z] at hl; cases hl
  have t1 : TSame H1 (upd H1 l (.lst [v])) := Same.t (same_new hl _)
  refine ⟨fun m σ H2 => ∃ (b N' : Nat) (ts : List T) (ws : List V), m = told.length - b ∧ σ = [some (.ref x), some (.int L), some (.ref l)] ∧ But [l, x] H H2 ∧ H2 l = some (.lst ws) ∧ Paired (TAt H2) ts ws ∧ ts ≠ [] ∧ RdAt D.rC H2 x told b ∧ b ≤ told.length ∧ ts.length ≤ b + 1 ∧ a ≤ b ∧ 2 * (told.length - b) + 1 ≤ N' ∧ contR N [t] ((cs told).drop b0) = contR N' ts ((cs told).drop b),
    ⟨_, b0, N, [t], [v], rfl, rfl, (b1.mono (by simp)).trans (But.of (same_new hl _)), upd_same, .cons (tv.t t1) .nil, by simp, R1.same (upd_ne xl), bl0, by simp, by omega, by omega, rfl⟩, ?_⟩
  rintro m σ H2 ⟨b, N', ts, ws, rfl, rfl, b2, hl2, pt2, ne2, R2, bl, tl, ab, hN', ec⟩
  obtain ⟨dx2, fs2, g1, g2, g3, g4, g5⟩ := R2.ex
  have wl : ws.length = ts.length := (paired_len pt2).symm
  refine ⟨_, rfl, x, dx2, fs2, rfl, g1, g4 _ (by decide +kernel) (by decide +kernel), x, told, " & ", b, rfl, R2, bl, l1000, fun H3 b3 R3 => ?_⟩
  cases ep : (cs (" & " : Str)).isPrefixOf ((cs told).drop b)
  case true =>
    rw [ep] at R3
    rw [cs_amp] at ep
    refine ⟨_, rfl, iteT ?_⟩
    have e3 : (" & " : Str).length = 3 := by decide +kernel
    rw [if_pos rfl, e3] at R3
    obtain ⟨N', rfl⟩ : ∃ M, N' = M + 1 := ⟨N' - 1, by omega⟩
    rw [contR_step ep] at ec
    have pre := (List.isPrefixOf_iff_prefix.mp ep).length_le
    rw [List.length_drop, lt] at pre
    have la : ([32, 38, 32] : List Nat).length = 3 := rfl
    rw [la] at pre
    have ed : ((cs told).drop b).drop 3 = (cs told).drop (b + 3) := by rw [List.drop_drop]
    rw [ed] at ec
    have hl3 : H3 l = some (.lst ws) := b3 _ _ (by simpa using lx) hl2
    have pt3 := pairT_t (b3.t (nt_x R2)) pt2
    obtain ⟨dx3, fs3, k1, k2, k3, k4, k5⟩ := R3.ex
    have me3 : ME ((cs told).drop (b + 3)) ≤ 2 * n := by
      have := ME_drop ((cs told).drop a) (b + 3 - a)
      rw [List.drop_drop, show a + (b + 3 - a) = b + 3 by omega] at this
      omega
    have ml3 : ((ML ((cs told).drop (b + 3)) : Nat) : Int) ≤ 2 * L := by
      have := ML_drop ((cs told).drop a) (b + 3 - a)
      rw [List.drop_drop, show a + (b + 3 - a) = b + 3 by omega] at this
      omega
    refine ⟨fun σ' H' => ∃ m', m' < told.length - b ∧ ∃ (b N' : Nat) (ts : List T) (ws : List V), m' = told.length - b ∧ σ' = [some (.ref x), some (.int L), some (.ref l)] ∧ But [l, x] H H' ∧ H' l = some (.lst ws) ∧ Paired (TAt H') ts ws ∧ ts ≠ [] ∧ RdAt D.rC H' x told b ∧ b ≤ told.length ∧ ts.length ≤ b + 1 ∧ a ≤ b ∧ 2 * (told.length - b) + 1 ≤ N' ∧ contR N [t] ((cs told).drop b0) = contR N' ts ((cs told).drop b), fun _ _ h => h, ?_⟩
    refine ⟨_, rfl, .inl ⟨rfl, _, SqL.of hl3⟩, _, rfl, x, dx3, fs3, rfl, k1, k4 _ (by decide +kernel) (by decide +kernel), _, rfl, x, told, b + 3, N', L, rfl, R3, by omega, l1000, me3, ml3, L1, by rw [List.length_drop, lt]; omega, fun H4 v' t' b' e' bl' b4 R4 tv' => ?_, fun e' H4 b4 => ?_⟩
    rotate_left
    · rw [e'] at ec
      refine qf ec H4 ?_
      exact (((b2.trans (b3.mono (by simp))).trans (b4.mono (by simp))).drop hl0)
    rw [e'] at ec
    have len2 := (rItem_len _ _ _ _ e').1
    rw [List.length_drop, List.length_drop, lt] at len2
    have hl4 : H4 l = some (.lst ws) := b4 _ _ (by simpa using lx) hl3
    have pt4 := pairT_t (b4.t (nt_x R3)) pt3
    have t5 : TSame H4 (upd H4 l (.lst (ws ++ [v']))) := (But.put (D := [l]) (by simp)).t fun c hc xs z => by rw [List.mem_singleton.mp hc, hl4] at z; cases z
    refine ⟨l, _, _, rfl, rfl, hl4, small4 (by omega), ?_⟩
    refine ⟨_, (by omega : told.length - b' < told.length - b), b', N', ts ++ [t'], ws ++ [v'], rfl, rfl, ((b2.trans (b3.mono (by simp))).trans (b4.mono (by simp))).trans (But.put (by simp)), upd_same, paired_snoc (tv'.t t5) (pairT_t t5 pt4), by simp, R4.same (upd_ne xl), bl', by rw [List.length_append]; show ts.length + 1 ≤ b' + 1; omega, by omega, by omega, ec⟩
  case false =>
    rw [ep, if_neg Bool.false_ne_true] at R3
    rw [cs_amp] at ep
    refine ⟨_, rfl, iteF ?_⟩
    rw [contR_no ep] at ec
    have hl3 : H3 l = some (.lst ws) := b3 _ _ (by simpa using lx) hl2
    have pt3 := pairT_t (b3.t (nt_x R2)) pt2
    have b03 : But [x] H H3 := ((b2.trans (b3.mono (by simp))).drop hl0)
    refine ⟨_, rfl, l, _, rfl, .inl (SqL.of hl3), rfl, _, rfl, ?_⟩
    match ts, ws, pt3, ne2, wl, ec with
    | [], _, _, ne, _, _ => exact (ne rfl).elim
    | [t'], [w'], pt, _, _, ec =>
      refine iteTe (decide_eq_true rfl) ⟨_, rfl, l, _, _, _, rfl, rfl, SqL.of hl3, atI_nat (j := 0) rfl, ?_⟩
      cases pt with
      | cons h _ => exact qs H3 w' [t'] b ec bl b03 R3 h
    | t' :: t'' :: ts', ws', pt, _, wl, ec =>
      refine iteFe ?_ ?_
      · refine decide_eq_false fun z => ?_
        have := V.int.inj z
        rw [wl] at this
        simp only [List.length_cons] at this
        omega
      refine ⟨_, rfl, l, _, rfl, .inr (SqL.of hl3), ?_⟩
      refine ⟨?_, fun p hp => ?_⟩
      · rw [List.append_nil, List.length_cons, wl]
        exact Nat.le_of_lt (small4 (by simp only [List.length_cons] at tl ⊢; omega))
      have s4 := same_new hp (.tup (.str "and" :: (ws' ++ [])))
      have px : x ≠ p := fun z => by obtain ⟨_, _, g, _⟩ := R3.ex; rw [← z, g] at hp; cases hp
      refine qs _ (.ref p) _ b ec bl (b03.trans (But.of s4)) (R3.same (upd_ne px)) ?_
      show TAt _ (.and (t' :: t'' :: ts')) _
      rw [TAt]
      refine ⟨p, ws', rfl, by rw [upd_same, List.append_nil], TsAt.of (pairT_t (Same.t s4) pt)⟩
end
end K1
namespace K1
open PySem L2
theorem rItem_paren {N : Nat} {u : List Nat} (h : u.head? = some 40) : rItem (N + 1) u = match rItems N u.tail with
    | some (l, 41 :: w) => some (one l, w)
    | _ => none := by (rw [rItem, if_pos h]; all_goals rfl)
theorem rItem_word {N : Nat} {u : List Nat} (h : ¬ u.head? = some 40) (h2 : ¬ (u.takeWhile lower = someL ∧ (u.dropWhile lower).head? = some 32)) : rItem (N + 1) u = some (.atom (sOf (u.takeWhile lower)), u.dropWhile lower) := by rw [rItem, if_neg h, if_neg h2]
theorem rItem_some {N : Nat} {u : List Nat} (h : ¬ u.head? = some 40) (h1 : u.takeWhile lower = someL) (h2 : (u.dropWhile lower).head? = some 32) : rItem (N + 1) u =
    if ((u.dropWhile lower).tail.dropWhile lower).head? = some 32 then
        match rItem N ((u.dropWhile lower).tail.dropWhile lower).tail with
        | some (t, x) => some (.ex (sOf ((u.dropWhile lower).tail.takeWhile lower)) t, x)
        | none => none
      else none := by (rw [rItem, if_neg h, if_pos ⟨h1, h2⟩]; all_goals rfl)
theorem sOf_some {l : List Nat} : sOf l = "some" ↔ l = someL := by
  constructor
  · intro h
    have := congrArg cs h
    rwa [cs_sOf, cs_someL] at this
  · rintro rfl; exact str_ext (by rw [cs_sOf, cs_someL])
section
variable {P : Program} {w : World} {K : PySem.W.Frag} {mg : Str → Option Value} {base : Heap}
/-- the next levels, as far as there are any -/
def spJ (C B : Addr) (n : Nat) : Sp := fun vs H Q E => ∃ m, n = m + 2 ∧ spItems C B m vs H Q E
def spK (C B : Addr) (n : Nat) : Sp := fun vs H Q E => ∃ m, n = m + 1 ∧ spItem C B m vs H Q E
theorem ok_ritem (D : Defs K mg) (n : Nat) : FnOk P w K mg base (L2.CX P w) (n + 2) D.d_r_read_item.f D.d_r_read_item.fd ["self", "levels"] (spItem D.rC D.bT n) := by
  induction n using Nat.strongRecOn with
  | _ n ih =>
  have GT := ok_takes (P := P) (w := w) (base := base) D
  have GW := ok_rword (P := P) (w := w) (base := base) D
  have GJ : FnOk P w K mg base (L2.CX P w) (n + 1) D.d_r_read_items.f D.d_r_read_items.fd ["self", "levels"] (spJ D.rC D.bT n) := by
    match n, ih with
    | 0, _ => exact none_left fun vs H Q E h => by obtain ⟨m, h, _⟩ := h; omega
    | 1, _ => exact none_left fun vs H Q E h => by obtain ⟨m, h, _⟩ := h; omega
    | m + 2, ih => exact fn_weak (ok_ritems D m (ih m (by omega))) fun vs H Q E ⟨m', h, z⟩ => (show m' = m by omega) ▸ z
  have GK : FnOk P w K mg base (L2.CX P w) (n + 1) D.d_r_read_item.f D.d_r_read_item.fd ["self", "levels"] (spK D.rC D.bT n) := by
    match n, ih with
    | 0, _ => exact none_left fun vs H Q E h => by obtain ⟨m, h, _⟩ := h; omega
    | m + 1, ih => exact fn_weak (ih m (by omega)) fun vs H Q E ⟨m', h, z⟩ => (show m' = m by omega) ▸ z
  refine D.d_r_read_item.F.okX sc_r_read_item (fun vs H Q E h => ?_) (fun cdv A outer s H vs Q E hr h => ?_)
  · obtain ⟨x, told, a, N, L, rfl, _⟩ := h
    rfl
  obtain ⟨x, told, a, N, L, rfl, hR, al, l1000, me, nL, L1, hN, qs, qf⟩ := h
  have hr1 : Room 1 _ := hr.mono (by omega)
  refine ⟨_, (pss_cons (ps_if (pt_cmpR op_lt (pv 1) pe_int (nomark _)) (pss_one (ps_raise rfl (takes_of rfl rfl rfl rfl) (pmk_own PySem.F.excBase_ValueError D.bT_x D.bT_m D.bT_k (raises_own D.bT_b D.bT_t) (by exact rfl)))) pss_nil)
      (pss_cons (ps_if (pt_val (pe_meth (pv 0) D.rC_cl D.d_r_takes.me GT hr1 D.d_r_takes.b .nil pass0 (pa_cons pe_str pa_nil)))
        (pss_cons (ps_set (i := 2) sc_r_read_item.nd rfl (Or.inl rfl) (pe_methX (pv 0) D.rC_cl D.d_r_read_items.me GJ hr D.d_r_read_items.b (fun σ => passAt (takes_of rfl rfl rfl rfl) σ) (pa_cons (pe_op op_sub (pv 1) pe_int) pa_nil)))
      (pss_cons (ps_if (pt_not (pt_val (pe_meth (pv 0) D.rC_cl D.d_r_takes.me GT hr1 D.d_r_takes.b .nil pass0 (pa_cons pe_str pa_nil)))) (pss_one (ps_raise rfl (takes_of rfl rfl rfl rfl) (pmk_own PySem.F.excBase_ValueError D.bT_x D.bT_m D.bT_k (raises_own D.bT_b D.bT_t) (by exact rfl)))) pss_nil)
      (pss_one (ps_ret (pv 2))))) pss_nil)
      (pss_cons (ps_set (i := 3) sc_r_read_item.nd rfl (Or.inl rfl) (pe_meth0 (pv 0) D.rC_cl D.d_r_read_word.me GW hr1 D.d_r_read_word.b .nil pass0))
      (pss_cons (ps_if (PW.pt (pw_or (pt_cmpR op_ne (pv 3) pe_str (nomark _)) (pw_or1 (pt_not (pt_val (pe_meth (pv 0) D.rC_cl D.d_r_takes.me GT hr1 D.d_r_takes.b .nil pass0 (pa_cons pe_str pa_nil))))))) (pss_one (ps_ret (pv 3))) pss_nil)
      (pss_cons (ps_set (i := 4) sc_r_read_item.nd rfl (Or.inl rfl) (pe_meth0 (pv 0) D.rC_cl D.d_r_read_word.me GW hr1 D.d_r_read_word.b .nil pass0))
      (pss_cons (ps_if (pt_not (pt_val (pe_meth (pv 0) D.rC_cl D.d_r_takes.me GT hr1 D.d_r_takes.b .nil pass0 (pa_cons pe_str pa_nil)))) (pss_one (ps_raise rfl (takes_of rfl rfl rfl rfl) (pmk_own PySem.F.excBase_ValueError D.bT_x D.bT_m D.bT_k (raises_own D.bT_b D.bT_t) (by exact rfl)))) pss_nil)
      (pss_one (ps_ret (pe_tup (pa_cons pe_str (pa_cons (pv 4) (pa_cons (pe_methX (pv 0) D.rC_cl D.d_r_read_item.me GK hr D.d_r_read_item.b (fun σ => passAt (takes_of rfl rfl rfl rfl) σ) (pa_cons (pe_op op_sub (pv 1) pe_int) pa_nil)) pa_nil)))))))))))), ?_⟩
  obtain ⟨dx, fs, h1, h2, h3, h4, h5⟩ := hR.ex
  have lt : (cs told).length = told.length := rfl
  obtain ⟨N, rfl⟩ : ∃ M, N = M + 1 := ⟨N - 1, by omega⟩
  rw [List.length_drop, lt] at hN
  refine ⟨_, rfl, _, _, rfl, rfl, _, rfl, ?_⟩
  rw [decide_eq_false (by omega)]
  refine iteF ?_
  have nt1 : ¬ (("_takes" : Str) = "_told") := by decide +kernel
  have nt2 : ¬ (("_takes" : Str) = "_at") := by decide +kernel
  have nw1 : ¬ (("_read_word" : Str) = "_told") := by decide +kernel
  have nw2 : ¬ (("_read_word" : Str) = "_at") := by decide +kernel
  have ni1 : ¬ (("_read_items" : Str) = "_told") := by decide +kernel
  have ni2 : ¬ (("_read_items" : Str) = "_at") := by decide +kernel
  have nj1 : ¬ (("_read_item" : Str) = "_told") := by decide +kernel
  have nj2 : ¬ (("_read_item" : Str) = "_at") := by decide +kernel
  have one_lp : ("(" : Str).length = 1 := by decide +kernel
  have one_rp : (")" : Str).length = 1 := by decide +kernel
  have one_sp : (" " : Str).length = 1 := by decide +kernel
  refine ⟨_, rfl, x, dx, fs, rfl, h1, h4 _ nt1 nt2, x, told, "(", a, rfl, hR, al, l1000, fun H1 b1 R1 => ?_⟩
  cases ep : (cs ("(" : Str)).isPrefixOf ((cs told).drop a)
  case true =>
    rw [ep, if_pos rfl, one_lp] at R1
    rw [cs_lp, pre1, decide_eq_true_eq] at ep
    refine ⟨_, rfl, iteT ?_⟩
    obtain ⟨eh, al1⟩ := head_drop ep
    rw [lt] at al1
    have me1 : ME ((cs told).drop (a + 1)) + 4 ≤ 2 * n := by rw [eh, ME_cons40] at me; exact me
    have ml1 : ((ML ((cs told).drop (a + 1)) : Nat) : Int) ≤ 2 * (L - 1) := by rw [eh, ML_cons40] at nL; omega
    obtain ⟨dx1, fs1, k1, k2, k3, k4, k5⟩ := R1.ex
    rw [rItem_paren ep, List.tail_drop] at qs qf
    refine ⟨_, rfl, x, dx1, fs1, rfl, k1, k4 _ ni1 ni2, _, rfl, _, _, rfl, rfl, n - 2, by omega, x, told, a + 1, N, L - 1, rfl, R1, by omega, l1000, by omega, ml1, by omega, by rw [List.length_drop, lt]; omega, fun H2 v l b e bl b2 R2 tv => ?_, fun e H2 b2 => ?_⟩
    rotate_left
    · rw [e] at qf
      exact qf rfl H2 (b1.trans b2)
    rw [e] at qs qf
    obtain ⟨dx2, fs2, g1, g2, g3, g4, g5⟩ := R2.ex
    refine ⟨_, rfl, x, dx2, fs2, rfl, g1, g4 _ nt1 nt2, x, told, ")", b, rfl, R2, bl, l1000, fun H3 b3 R3 => ?_⟩
    cases ec : (cs (")" : Str)).isPrefixOf ((cs told).drop b)
    case true =>
      rw [ec, if_pos rfl, one_rp] at R3
      rw [cs_rp, pre1, decide_eq_true_eq] at ec
      refine ⟨_, rfl, iteF ⟨_, rfl, ?_⟩⟩
      obtain ⟨eh2, bl2⟩ := head_drop ec
      rw [lt] at bl2
      rw [eh2] at qs
      exact qs H3 v _ (b + 1) rfl (by omega) ((b1.trans b2).trans b3) R3 (tv.t (b3.t (nt_x R2)))
    case false =>
      rw [cs_rp, pre1, decide_eq_false_iff_not] at ec
      refine ⟨_, rfl, iteT (qf ?_ H3 ((b1.trans b2).trans b3))⟩
      cases ed : (cs told).drop b with
      | nil => rfl
      | cons c r =>
        rw [ed] at ec
        have : c ≠ 41 := fun z => ec (by rw [z]; rfl)
        show (match some (l, c :: r) with | some (l, 41 :: w) => some (one l, w) | _ => none) = none
        split
        · rename_i h; cases h; exact (this rfl).elim
        · rfl
  case false =>
    rw [ep, if_neg Bool.false_ne_true] at R1
    rw [cs_lp, pre1, decide_eq_false_iff_not] at ep
    refine ⟨_, rfl, iteF ?_⟩
    obtain ⟨dx1, fs1, k1, k2, k3, k4, k5⟩ := R1.ex
    refine ⟨_, rfl, x, dx1, fs1, rfl, k1, k4 _ nw1 nw2, x, told, a, rfl, R1, al, l1000, fun H2 b2 R2 => ?_⟩
    obtain ⟨dx2, fs2, g1, g2, g3, g4, g5⟩ := R2.ex
    have dw := drop_while_drop lower ((cs told).drop a)
    rw [List.drop_drop] at dw
    have twl : (((cs told).drop a).takeWhile lower).length ≤ told.length - a := by
      have := (List.takeWhile_sublist lower (l := (cs told).drop a)).length_le
      rw [List.length_drop, lt] at this
      exact this
    have b02 := b1.trans b2
    refine ⟨_, rfl, rfl, _, rfl, ?_⟩
    by_cases c1 : ((cs told).drop a).takeWhile lower = someL
    · rw [show decide (V.str (sOf (((cs told).drop a).takeWhile lower)) = V.str "some") = true from decide_eq_true (congrArg V.str (sOf_some.mpr c1))]
      refine iteF ?_
      refine ⟨_, rfl, x, dx2, fs2, rfl, g1, g4 _ nt1 nt2, x, told, " ", _, rfl, R2, by omega, l1000, fun H3 b3 R3 => ?_⟩
      rw [c1] at dw twl
      have R3' : RdAt D.rC H3 x told (if (cs (" " : Str)).isPrefixOf ((cs told).drop (a + 4)) = true then a + 4 + (" " : Str).length else a + 4) := by rw [c1] at R3; exact R3
      have q4 : someL.length = 4 := rfl
      rw [q4] at dw twl
      have ec0 : (((cs told).drop a).takeWhile lower).length = 4 := by rw [c1]; rfl
      rw [ec0]
      cases ec : (cs (" " : Str)).isPrefixOf ((cs told).drop (a + 4))
      case false =>
        rw [ec, if_neg Bool.false_ne_true] at R3'
        rw [cs_sp, pre1, decide_eq_false_iff_not] at ec
        refine ⟨_, rfl, iteT ⟨_, rfl, ?_⟩⟩
        rw [rItem_word ep (fun z => ec (by rw [← dw]; exact z.2)), dw] at qs
        refine qs H3 _ _ _ rfl (by omega) (b02.trans b3) R3' ?_
        rw [TAt]
        exact ⟨rfl, by rw [len_sOf, ec0]; omega⟩
      case true =>
        rw [ec, if_pos rfl, one_sp] at R3'
        rw [cs_sp, pre1, decide_eq_true_eq] at ec
        refine ⟨_, rfl, iteF ?_⟩
        obtain ⟨eh, al1⟩ := head_drop ec
        rw [lt] at al1
        rw [rItem_some ep c1 (by rw [dw]; exact ec), dw, List.tail_drop] at qs qf
        have dw2 := drop_while_drop lower ((cs told).drop (a + 4 + 1))
        rw [List.drop_drop] at dw2
        have twl2 : (((cs told).drop (a + 4 + 1)).takeWhile lower).length ≤ told.length - (a + 4 + 1) := by
          have := (List.takeWhile_sublist lower (l := (cs told).drop (a + 4 + 1))).length_le
          rw [List.length_drop, lt] at this
          exact this
        obtain ⟨dx3, fs3, m1, m2, m3, m4, m5⟩ := R3'.ex
        refine ⟨_, rfl, x, dx3, fs3, rfl, m1, m4 _ nw1 nw2, x, told, a + 4 + 1, rfl, R3', by omega, l1000, fun H4 b4 R4 => ?_⟩
        obtain ⟨dx4, fs4, n1, n2, n3, n4, n5⟩ := R4.ex
        have b04 := (b02.trans b3).trans b4
        refine ⟨_, rfl, x, dx4, fs4, rfl, n1, n4 _ nt1 nt2, x, told, " ", _, rfl, R4, by omega, l1000, fun H5 b5 R5 => ?_⟩
        rw [dw2] at qs qf
        cases ed : (cs (" " : Str)).isPrefixOf ((cs told).drop (a + 4 + 1 + (((cs told).drop (a + 4 + 1)).takeWhile lower).length))
        case false =>
          rw [cs_sp, pre1, decide_eq_false_iff_not] at ed
          rw [if_neg ed] at qf
          exact ⟨_, rfl, iteT (qf rfl H5 (b04.trans b5))⟩
        case true =>
          rw [ed, if_pos rfl, one_sp] at R5
          rw [cs_sp, pre1, decide_eq_true_eq] at ed
          obtain ⟨eh2, al2⟩ := head_drop ed
          rw [lt] at al2
          rw [if_pos ed, List.tail_drop] at qs qf
          refine ⟨_, rfl, iteF ?_⟩
          obtain ⟨dx5, fs5, o1, o2, o3, o4, o5⟩ := R5.ex
          have me2 : ME ((cs told).drop (a + 4 + 1 + (((cs told).drop (a + 4 + 1)).takeWhile lower).length + 1)) + 2 ≤ 2 * n := by
            have x1 := ME_drop ((cs told).drop a) 4
            rw [List.drop_drop, eh, ME_cons32] at x1
            have x2 := ME_drop ((cs told).drop (a + 4 + 1)) (((cs told).drop (a + 4 + 1)).takeWhile lower).length
            rw [List.drop_drop, eh2, ME_cons32] at x2
            omega
          have ml2 : ((ML ((cs told).drop (a + 4 + 1 + (((cs told).drop (a + 4 + 1)).takeWhile lower).length + 1)) : Nat) : Int) ≤ 2 * (L - 1) := by
            have x1 := ML_drop ((cs told).drop a) 4
            rw [List.drop_drop, eh, ML_cons32] at x1
            have x2 := ML_drop ((cs told).drop (a + 4 + 1)) (((cs told).drop (a + 4 + 1)).takeWhile lower).length
            rw [List.drop_drop, eh2, ML_cons32] at x2
            omega
          refine ⟨_, rfl, _, rfl, x, dx5, fs5, rfl, o1, o4 _ nj1 nj2, _, rfl, _, _, rfl, rfl, n - 1, by omega, x, told, _, N, L - 1, rfl, R5, by omega, l1000, by omega, ml2, by omega, by rw [List.length_drop, lt]; omega, fun H6 v t b e bl b6 R6 tv => ?_, fun e H6 b6 => ?_⟩
          rotate_left
          · rw [e] at qf
            exact qf rfl H6 ((b04.trans b5).trans b6)
          rw [e] at qs
          refine ⟨(by show 3 ≤ sizeLine; decide), fun p hp => ?_⟩
          have s7 := same_new hp (.tup [.str "some", .str (sOf (((cs told).drop (a + 4 + 1)).takeWhile lower)), v])
          have px : x ≠ p := fun z => by obtain ⟨_, _, g, _⟩ := R6.ex; rw [← z, g] at hp; cases hp
          refine qs _ (.ref p) _ b rfl bl (((b04.trans b5).trans b6).trans (But.of s7)) (R6.same (upd_ne px)) ?_
          rw [TAt]
          exact ⟨p, v, rfl, upd_same, tv.t (Same.t s7), by rw [len_sOf]; omega⟩
    · rw [show decide (V.str (sOf (((cs told).drop a).takeWhile lower)) = V.str "some") = false from decide_eq_false fun z => c1 (sOf_some.mp (V.str.inj z))]
      refine iteT (iteT ⟨_, rfl, ?_⟩)
      rw [rItem_word ep (fun z => c1 z.1), dw] at qs
      refine qs H2 _ _ _ rfl (by omega) b02 R2 ?_
      rw [TAt]
      exact ⟨rfl, by rw [len_sOf]; omega⟩
end
end K1
namespace K1
open PySem L2
theorem same_put {H H1 : Hp} (e : Same H H1) {p : Addr} {o : HO} (h : H p = none) : Same H (upd H1 p o) := fun b u q => by rw [upd_ne (ne_of_none q h)]; exact e b u q
/-- o.m() that may raise -/
theorem pe_methX0 {Y : Cx} {CY : CXT} {j : Nat} {g B : Addr} {gd : FuncData} {qs : List Str} {pp : Sp} {W : L2.St → XK} {nm : Str} {p1 p2 : Pos} {ob : Expr} {tb : TE} {pl : Sem Bool} (ho : PE Y ob tb) (cl : Cls Y.K B) (me : Meth Y.K B nm g)
    (F : FnOk Y.prog Y.w Y.K Y.mg Y.base CY j g gd qs pp) (rm : Room j Y.A) (bd : Binds Y.K gd qs []) (pa : ∀ σ, PassesAt CY Y σ (W σ))
    (hev : eval (.Call (.Attribute ob nm p2) [] [] p1) Y.env = (do
      let w ← eval ob Y.env
      standAt p2.atName
      let (z, fst) ← holding [w] (getMethod w nm pl)
      callWith p1 z fst (backTo p1 (starEach [] Y.env)) (backToKw p1 (keywordEach [] Y.env))) := by rfl) :
    PE Y (.Call (.Attribute ob nm p2) [] [] p1) (tMethX B nm pp W tb tNil) :=
  ⟨fun pins s σ H Q I h => PySem.W.methodCall_KW (pl := pl) (thn (ho.run pins s σ H _ I h) fun u s1 ⟨y, H1, I1, ry, a, dx, fs, ey, ea, l, q⟩ => by
    subst ey
    obtain rfl : u = Value.ref a := ry
    exact getmeth_ok I1 ea cl me l (PySem.W.callWith_K0 (first := [.ref a]) I1.kIn me.kp (run_fnS (us := [.ref a]) (vs := [.ref a]) F rm bd (pa σ) I1 (.cons rfl .nil) q))) hev⟩
section
variable {P : Program} {w : World} {K : PySem.W.Frag} {mg : Str → Option Value} {base : Heap}
def spAll (C B : Addr) : Sp := fun vs H Q E => ∃ (x : Addr) (told : Str) (N : Nat), vs = [.ref x] ∧ RdAt C H x told 0 ∧ told.length ≤ 1000 ∧ ME (cs told) ≤ 224 ∧ ML (cs told) ≤ 200 ∧ 2 * (cs told).length + 2 ≤ N ∧
  (∀ H' v t, rWhole N (cs told) = some (t, []) → But [x] H H' → TAt H' t v → Q v H') ∧ ((∀ t, rWhole N (cs told) ≠ some (t, [])) → ∀ H', But [x] H H' → E (.ref B) none H')
theorem ok_rall (D : Defs K mg) : FnOk P w K mg base (L2.CX P w) 116 D.d_r_read_all.f D.d_r_read_all.fd ["self"] (spAll D.rC D.bT) := by
  have GI := ok_ritems (P := P) (w := w) (base := base) D 112 (ok_ritem D 112)
  obtain ⟨tD, hD⟩ := D.de_m
  refine D.d_r_read_all.F.okX sc_r_read_all (fun vs H Q E h => ?_) (fun cdv A outer s H vs Q E hr h => ?_)
  · obtain ⟨x, told, N, rfl, _⟩ := h
    rfl
  obtain ⟨x, told, N, rfl, hR, l1000, me, ml, hN, qs, qf⟩ := h
  refine ⟨_, (pss_cons (ps_set (i := 1) sc_r_read_all.nd rfl (Or.inl rfl) (pe_methX (pv 0) D.rC_cl D.d_r_read_items.me GI hr D.d_r_read_items.b (fun σ => passAt (takes_of rfl rfl rfl rfl) σ) (pa_cons (pe_glob (v := .int 100) (by rfl) hD ⟨_, rfl⟩) pa_nil)))
      (pss_cons (ps_if (pt_cmpR op_lt (pe_fld (pv 0) rfl) (pe_callB call_len_str (by rfl) D.z_len (by decide +kernel) (pa_cons (pe_fld (pv 0) rfl) pa_nil)) (nomark _)) (pss_one (ps_raise rfl (takes_of rfl rfl rfl rfl) (pmk_own PySem.F.excBase_ValueError D.bT_x D.bT_m D.bT_k (raises_own D.bT_b D.bT_t) (by exact rfl)))) pss_nil)
      (pss_one (ps_ret (pv 1))))), ?_⟩
  obtain ⟨dx, fs, h1, h2, h3, h4, h5⟩ := hR.ex
  have lt : (cs told).length = told.length := rfl
  have wh : rWhole N (cs told) = match rItems N (cs told) with
      | some (l, v) => some (one l, v)
      | none => none := rfl
  rw [wh] at qs qf
  refine ⟨_, rfl, x, dx, fs, rfl, h1, h4 _ (by decide +kernel) (by decide +kernel), x, told, 0, N, 100, rfl, hR, Nat.zero_le _, l1000, by rw [List.drop_zero]; omega, by rw [List.drop_zero]; omega, by omega, by rw [List.drop_zero]; omega, fun H1 v l b e bl b1 R1 tv => ?_, fun e H1 b1 => ?_⟩
  rotate_left
  · rw [List.drop_zero] at e
    exact qf (fun t => by rw [e]; simp) H1 b1
  rw [List.drop_zero] at e
  rw [e] at qs qf
  obtain ⟨dx1, fs1, k1, k2, k3, k4, k5⟩ := R1.ex
  refine ⟨_, rfl, x, D.rC, dx1, _, _, rfl, k1, D.rC_cl, D.rC_n_at, k3, _, rfl, x, D.rC, dx1, _, _, rfl, k1, D.rC_cl, D.rC_n_told, k2, _, rfl, Nat.le_of_lt (small1000 l1000), _, _, rfl, rfl, _, rfl, ?_⟩
  by_cases c : b < told.length
  · rw [decide_eq_true (show ((b : Nat) : Int) < (told.length : Int) by omega)]
    refine iteT (qf (fun t z => ?_) H1 b1)
    have := (Prod.mk.inj (Option.some.inj z)).2
    have := congrArg List.length this
    rw [List.length_drop, lt, List.length_nil] at this
    omega
  · rw [decide_eq_false (show ¬ ((b : Nat) : Int) < (told.length : Int) by omega)]
    refine iteF ⟨_, rfl, qs H1 v (one l) ?_ b1 tv⟩
    show some (one l, (cs told).drop b) = some (one l, [])
    rw [List.drop_eq_nil_of_le (by rw [lt]; omega)]
/-! ### read -/
def spRead (B : Addr) : Sp := fun vs H Q E => ∃ v, vs = [v] ∧ Pl H v ∧ ((isStr v = false ∧ ∀ H', Same H H' → E (.ref B) none H') ∨ ∃ told, v = .str told ∧ told.length ≤ 1000 ∧ ME (cs told) ≤ 224 ∧ ML (cs told) ≤ 200 ∧ sp (cs told) ≤ 112 ∧
  (∀ H' u t, IsTx (cs told) t → Same H H' → TAt H' t u → Q u H') ∧ ((∀ t, ¬ IsTx (cs told) t) → ∀ H', Same H H' → E (.ref B) none H'))
theorem ok_read (D : Defs K mg) : FnOk P w K mg base (L2.CX P w) 117 D.d_read.f D.d_read.fd ["told"] (spRead D.bT) := by
  have GA := ok_rall (P := P) (w := w) (base := base) D
  have GI := ok_rinit (P := P) (w := w) (base := base) D
  have GC := ok_isT (P := P) (w := w) (base := base) D
  have GT := ok_textOfT (P := P) (w := w) (base := base) D
  have M : Mk K D.rC D.d_r_init.f := ⟨D.rC_mk, D.d_r_init.me.at_, D.d_r_init.me.fn, D.rC_kp⟩
  refine D.d_read.F.okX sc_read (fun vs H Q E h => ?_) (fun cdv A outer s H vs Q E hr h => ?_)
  · obtain ⟨v, rfl, _⟩ := h
    rfl
  obtain ⟨v, rfl, hpl, h⟩ := h
  have hr2 : Room 2 _ := hr.mono (by omega)
  have hr63 : Room 63 _ := hr.mono (by omega)
  refine ⟨_, (pss_cons (ps_if (pt_not (pt_val (pe_callB call_isi (by rfl) D.z_isinstance (by decide +kernel) (pa_cons (pv 0) (pa_cons (pe_bltn (v := .ty "str") (by rfl) D.z_str (by decide +kernel) rfl) pa_nil))))) (pss_one (ps_raise rfl (takes_of rfl rfl rfl rfl) (pmk_own PySem.F.excBase_ValueError D.bT_x D.bT_m D.bT_k (raises_own D.bT_b D.bT_t) (by exact rfl)))) pss_nil)
      (pss_cons (ps_set (i := 1) sc_read.nd rfl (Or.inl rfl) (pe_methX0 (pe_make M GI hr2 rfl D.rC_m D.d_r_init.b .nil pass0 (pa_cons (pv 0) pa_nil)) D.rC_cl D.d_r_read_all.me GA hr D.d_r_read_all.b (fun σ => passAt (takes_of rfl rfl rfl rfl) σ)))
      (pss_cons (ps_if (PW.pt (pw_or (pt_not (pt_val (pe_call GC hr63 rfl D.d_is_concept.m D.d_is_concept.F.kp D.d_is_concept.b .nil pass0 (pa_cons (pv 1) pa_nil)))) (pw_or1 (pt_cmpR op_ne (pe_call GT hr63 rfl D.d_text_of.m D.d_text_of.F.kp D.d_text_of.b .nil pass0 (pa_cons (pv 1) pa_nil)) (pv 0) (nomark _))))) (pss_one (ps_raise rfl (takes_of rfl rfl rfl rfl) (pmk_own PySem.F.excBase_ValueError D.bT_x D.bT_m D.bT_k (raises_own D.bT_b D.bT_t) (by exact rfl)))) pss_nil)
      (pss_one (ps_ret (pv 1)))))), ?_⟩
  obtain ⟨t, ty, kt⟩ := pl_str (K := K) hpl
  refine ⟨_, rfl, _, _, _, _, _, rfl, .ty _, ty, kt, _, rfl, ?_⟩
  rcases h with ⟨e, q⟩ | ⟨told, rfl, l1000, me, ml, hs, qs, qf⟩
  · rw [e]
    exact iteT (q H (Same.refl _))
  refine iteF ?_
  refine ⟨_, rfl, fun x dx hx hdx nx => ?_⟩
  have s0 : Same H (upd (upd H dx (.own x)) x (.ins D.rC dx [])) := same_put (same_new hdx _) hx
  refine ⟨x, dx, told, rfl, upd_same, fun H1 b1 R1 => ⟨rfl, ?_⟩⟩
  have s1 : Same H H1 := fun c o h => b1 c o (by simpa using ne_of_none h hx) (s0 _ _ h)
  obtain ⟨dx1, fs1, k1, k2, k3, k4, k5⟩ := R1.ex
  have lt : (cs told).length = told.length := rfl
  refine ⟨x, dx1, fs1, rfl, k1, k4 _ (by decide +kernel) (by decide +kernel), x, told, 2 * (cs told).length + 2, rfl, R1, l1000, me, ml, Nat.le_refl _, fun H2 u t e b2 tv => ?_, fun e H2 b2 => ?_⟩
  rotate_left
  · exact qf (fun t z => e t ((read_iff (Nat.le_refl _) t).mpr z).1) H2 (fun c o h => b2 c o (by simpa using ne_of_none h hx) (s1 _ _ h))
  have s2 : Same H H2 := fun c o h => b2 c o (by simpa using ne_of_none h hx) (s1 _ _ h)
  have bnd : (tx t).length ≤ told.length ∧ ns t ≤ 56 := by
    unfold rWhole at e
    split at e
    · rename_i l v he
      cases e
      obtain ⟨a, b1, b2⟩ := rItems_len _ _ _ _ he
      rw [lt] at a
      have ne := rItems_ne _ _ _ _ he
      match l, ne, a, b1, b2 with
      | [t], _, a, _, b2 =>
        have e1 : TL.joinL amp (txs [t]) = pr t := by rw [txs_eq]; exact join_one _
        rw [e1] at a
        have := tx_len_pr t
        have := b2 t (by simp)
        exact ⟨by show (tx t).length ≤ _; omega, by show ns t ≤ _; omega⟩
      | t :: t' :: l, _, a, b1, _ =>
        have := b1 (by simp)
        refine ⟨?_, ?_⟩
        · show (tx (.and (t :: t' :: l))).length ≤ _
          rw [tx_and, ← txs_eq]; omega
        · show ns (.and (t :: t' :: l)) ≤ _
          rw [ns]; omega
    · cases e
  refine ⟨_, rfl, u, rfl, tv.kn (by omega), fun H3 s3 => ⟨_, rfl, ?_⟩⟩
  cases en : nestedB H2 100 u with
  | false =>
    refine iteT (iteT (qf (fun t' z => ?_) H3 (s2.trans s3)))
    have e2 := ((read_iff (Nat.le_refl _) t').mpr z).1
    rw [e] at e2
    obtain rfl := (Prod.mk.inj (Option.some.inj e2)).1
    rw [(tv.nested 100).mpr ⟨z.1, z.2.1⟩] at en
    cases en
  | true =>
    obtain ⟨cw, _⟩ := (tv.nested 100).mp en
    refine iteF ?_
    refine ⟨_, rfl, u, t, rfl, tv.same s3, cw, by omega, by omega, fun H4 s4 => ⟨_, rfl, rfl, _, rfl, ?_⟩⟩
    have s04 := (s2.trans s3).trans s4
    by_cases c : tx t = cs told
    · rw [show decide (V.str (sT t) = V.str told) = true from decide_eq_true (congrArg V.str (str_ext (by rw [cs_sT, c])))]
      refine iteF ⟨_, rfl, qs H4 u t ⟨cw, by omega, c⟩ s04 ((tv.same s3).same s4)⟩
    · rw [show decide (V.str (sT t) = V.str told) = false from decide_eq_false fun z => c (by have := congrArg cs (V.str.inj z); rwa [cs_sT] at this)]
      refine iteT (qf (fun t' z => ?_) H4 s04)
      have e2 := ((read_iff (Nat.le_refl _) t').mpr z).1
      rw [e] at e2
      obtain rfl := (Prod.mk.inj (Option.some.inj e2)).1
      exact c z.2.2
end
end K1
namespace K1
open PySem L2
/-! the statement's own small defs -/
theorem exm_bT {K : PySem.W.Frag} {S : Addr} (h1 : PySem.W.subIn K (.ref S) (.type "BaseException") = some true) (h2 : PySem.W.isClsIn K S = true) (h3 : PySem.W.typeIn K (.ref S) = some (.type "type")) (h4 : PySem.W.subIn K (.ref S) (.ref S) = some true) :
    PySem.W.exmOne K (.ref S) (.ref S) = some true := by
  have e1 : (PySem.W.subIn K (.ref S) (.type "BaseException") == some true) = true := by rw [h1] <;> rfl
  have e2 : ((PySem.W.clsIn K S).isSome && PySem.W.typeIn K (.ref S) == some (.type "type")) = true := by
    have h2' : (PySem.W.clsIn K S).isSome = true := h2
    rw [h2', h3] <;> rfl
  show (if (PySem.W.subIn K (.ref S) (.type "BaseException") == some true) = true then (if ((PySem.W.clsIn K S).isSome && PySem.W.typeIn K (.ref S) == some (.type "type")) = true then PySem.W.subIn K (.ref S) (.ref S) else none) else none) = some true
  rw [if_pos e1, if_pos e2]
  exact h4
theorem special_in (c : Nat) : decide (c ∈ (" &()" : Str).cps.toList) = special c := by
  have e : (" &()" : Str).cps.toList = [32, 38, 40, 41] := by decide +kernel
  rw [e, Bool.eq_iff_iff, decide_eq_true_eq]
  unfold special
  simp
  omega
theorem lower_in (c : Nat) : decide (c ∈ ("abcdefghijklmnopqrstuvwxyz" : Str).cps.toList) = lower c := by
  have e : ("abcdefghijklmnopqrstuvwxyz" : Str).cps.toList = [97, 98, 99, 100, 101, 102, 103, 104, 105, 106, 107, 108, 109, 110, 111, 112, 113, 114, 115, 116, 117, 118, 119, 120, 121, 122] := by decide +kernel
  rw [e, Bool.eq_iff_iff, decide_eq_true_eq]
  unfold lower
  simp
  omega
theorem cs_cutG {z : Str} {a b : Nat} (ha : a ≤ z.length) : cs (cutS z (some (a : Int)) (some (b : Int))) = ((cs z).drop a).take (b - a) := by
  unfold cutS
  rw [HT.sIx_nat, HT.sIx_nat, Nat.min_eq_left ha]
  show ((cs z).drop a).take (min b z.length - a) = _
  have l1 : ((cs z).drop a).length = z.length - a := by rw [List.length_drop]; rfl
  by_cases h : b ≤ z.length
  · rw [Nat.min_eq_left h]
  · rw [Nat.min_eq_right (by omega), List.take_of_length_le (by omega), List.take_of_length_le (by omega)]
/-- a sign by its place, as the statement asks for it -/
theorem cut1 {told : Str} {a c : Nat} {s : Str} (ha : a ≤ told.length) (hs : cs s = [c]) : decide (V.str (cutS told (some (a : Int)) (some ((a : Int) + 1))) = V.str s) = decide (((cs told).drop a).head? = some c) := by
  have e1 : ((a : Int) + 1) = ((a + 1 : Nat) : Int) := by omega
  rw [e1, Bool.eq_iff_iff, decide_eq_true_eq, decide_eq_true_eq]
  have e := cs_cutG (z := told) (a := a) (b := a + 1) ha
  rw [show a + 1 - a = 1 by omega] at e
  constructor
  · intro h
    rw [V.str.inj h, hs] at e
    cases z : (cs told).drop a with
    | nil => rw [z] at e; simp at e
    | cons x r => rw [z] at e; simp at e; rw [e]; rfl
  · intro h
    refine congrArg V.str (str_ext ?_)
    rw [e, hs, head_of h]
    rfl
theorem cut3 {told : Str} {a : Nat} (ha : a ≤ told.length) : decide (V.str (cutS told (some (a : Int)) (some ((a : Int) + 3))) = V.str " & ") = amp.isPrefixOf ((cs told).drop a) := by
  have e1 : ((a : Int) + 3) = ((a + 3 : Nat) : Int) := by omega
  rw [e1, Bool.eq_iff_iff, decide_eq_true_eq, List.isPrefixOf_iff_prefix, List.prefix_iff_eq_take]
  have e := cs_cutG (z := told) (a := a) (b := a + 3) ha
  rw [show a + 3 - a = 3 by omega] at e
  constructor
  · intro h
    rw [V.str.inj h, cs_amp] at e
    exact e
  · intro h
    refine congrArg V.str (str_ext ?_)
    rw [e, cs_amp]
    exact h.symm
section
variable {P : Program} {w : World} {K : PySem.W.Frag} {mg : Str → Option Value} {base : Heap}
/-! ### _law_read -/
def spLRead : Sp := fun vs H Q _ => ∃ v, vs = [v] ∧ Pl H v ∧ ((isStr v = false ∧ ∀ H', Same H H' → Q .non H') ∨ ∃ told, v = .str told ∧ told.length ≤ 1000 ∧ ME (cs told) ≤ 224 ∧ ML (cs told) ≤ 200 ∧ sp (cs told) ≤ 112 ∧
  (∀ H' u t, IsTx (cs told) t → Same H H' → TAt H' t u → Q u H') ∧ ((∀ t, ¬ IsTx (cs told) t) → ∀ H', Same H H' → Q .non H'))
theorem ok_lread (D : Defs K mg) : FnOk P w K mg base CX0 118 D.d_law_read.f D.d_law_read.fd ["told"] spLRead := by
  have GR := ok_read (P := P) (w := w) (base := base) D
  have te := exm_bT D.bT_b D.bT_i D.bT_t D.bT_s
  refine D.d_law_read.F.ok sc_law_read (fun vs H Q E h => ?_) (fun cdv A outer s H vs Q E hr h => ?_)
  · obtain ⟨v, rfl, _⟩ := h
    rfl
  obtain ⟨v, rfl, hpl, h⟩ := h
  refine ⟨_, (pss_cons (ps_try_only (tb := fun W => tAsg (tCallS (spRead D.bT) (WE W) (tCons (tVar 0) tNil)) (gName 1)) (ts := fun _ _ _ => tRet (tC .non)) (Wout := fun _ _ _ _ => False) rfl rfl ⟨rfl, by decide, .inl D.bT_m⟩ takes0
        (fun W pn xe tk _ => pss_one (ps_set (i := 1) sc_law_read.nd rfl (Or.inl rfl) (pe_callS GR hr rfl D.d_read.m D.d_read.F.kp D.d_read.b (fun σ => passAt tk σ) (by exact (pa_cons (pv 0) pa_nil)))))
        (fun _ _ _ _ _ _ _ => pss_one (ps_ret pe_non)))
      (pss_one (ps_ret (pv 1)))), ?_⟩
  refine ⟨_, rfl, v, rfl, hpl, ?_⟩
  rcases h with ⟨e, q⟩ | ⟨told, rfl, l1000, me, ml, hs, qs, qf⟩
  · exact .inl ⟨e, fun H' s' => ⟨true, te, fun _ a ha => q H' s', fun z => nomatch z⟩⟩
  · exact .inr ⟨told, rfl, l1000, me, ml, hs, fun H' u t it s' tv => ⟨_, rfl, qs H' u t it s' tv⟩, fun no H' s' => ⟨true, te, fun _ a ha => qf no H' s', fun z => nomatch z⟩⟩
/-! ### _law_token -/
def spTok : Sp := fun vs H Q _ => ∃ (told : Str) (a : Nat), vs = [.str told, .int (a : Nat)] ∧ a < told.length ∧ told.length ≤ 1000 ∧ Q (.str (sOf (tok ((cs told).drop a)))) H
theorem ok_tok (D : Defs K mg) : FnOk P w K mg base CX0 1 D.d_law_token.f D.d_law_token.fd ["told", "at"] spTok := by
  refine D.d_law_token.F.ok sc_law_token (fun vs H Q E h => ?_) (fun cdv A outer s H vs Q E hr h => ?_)
  · obtain ⟨told, a, rfl, _⟩ := h
    rfl
  obtain ⟨told, a, rfl, al, l1000, q⟩ := h
  refine ⟨_, (pss_cons (ps_if (pt_cmpR op_in_sign (pe_ix ix_str (pv 0) (pv 1) (fun _ _ => rfl)) pe_str (by rfl)) (pss_one (ps_ret (pe_ix ix_str (pv 0) (pv 1) (fun _ _ => rfl)))) pss_nil)
      (pss_cons (ps_set (i := 2) sc_law_token.nd rfl (Or.inl rfl) (pv 1))
      (pss_cons (ps_for PassesOwn.never rfl (pi_range1 rfl D.z_range (pa_cons (pe_callB call_len_str (by rfl) D.z_len (by decide +kernel) (pa_cons (pv 0) pa_nil)) pa_nil)) (pg_name (i := 3) sc_law_token.nd rfl (Or.inl rfl)) (pss_one (ps_if (PW.pt (pw_and (pt_cmpR op_lt (pv 2) (pe_callB call_len_str (by rfl) D.z_len (by decide +kernel) (pa_cons (pv 0) pa_nil)) (nomark _)) (pw_and1 (pt_cmpR op_notIn_sign (pe_ix ix_str (pv 0) (pv 2) (fun _ _ => rfl)) pe_str (by rfl))))) (pss_one (ps_set (i := 2) sc_law_token.nd rfl (Or.inl rfl) (pe_op op_add (pv 2) pe_int))) pss_nil)))
      (pss_one (ps_ret (pe_slice sl_str (pv 0) (po_some (pv 1)) (po_some (pv 2)))))))), ?_⟩
  have lt : (cs told).length = told.length := rfl
  have sz : told.length ≤ sizeLine := Nat.le_of_lt (small1000 l1000)
  obtain ⟨c, hc⟩ : ∃ c, (cs told)[a]? = some c := ⟨_, List.getElem?_eq_getElem (by rw [lt]; exact al)⟩
  have ed : (cs told).drop a = c :: (cs told).drop (a + 1) := by
    obtain ⟨hb, rfl⟩ := List.getElem?_eq_some_iff.mp hc
    exact List.drop_eq_getElem_cons hb
  refine ⟨_, rfl, _, rfl, told, (a : Nat), c, rfl, rfl, sz, atI_nat (j := a) hc, c, " &()", rfl, rfl, _, rfl, ?_⟩
  rw [special_in]
  cases es : special c with
  | true =>
    refine iteT ⟨_, rfl, _, rfl, told, (a : Nat), c, rfl, rfl, sz, atI_nat (j := a) hc, ?_⟩
    have : tok ((cs told).drop a) = [c] := by rw [ed]; unfold tok; simp only [es]; rfl
    rw [this] at q
    exact q
  | false =>
    have etok : tok ((cs told).drop a) = ((cs told).drop a).takeWhile fun c => !special c := by rw [ed]; unfold tok; simp only [es]; rfl
    rw [etok] at q
    refine iteF ⟨_, rfl, ?_⟩
    refine ⟨_, rfl, _, rfl, sz, (told.length : Int), rfl, by omega, by omega, for_range (lo := 0) (n := (told.length : Int).toNat) (fun i σ H2 => ∃ (e : Nat) (o3 : Option V), σ = [some (.str told), some (.int (a : Nat)), some (.int (e : Nat)), o3] ∧ H2 = H ∧ a ≤ e ∧ e ≤ told.length ∧ (((cs told).drop a).takeWhile fun c => !special c) = ((cs told).drop a).take (e - a) ++ (((cs told).drop e).takeWhile fun c => !special c) ∧ (e = a + i ∨ (((cs told).drop e).takeWhile fun c => !special c) = []))
      ⟨a, none, rfl, rfl, Nat.le_refl _, by omega, by simp, .inl rfl⟩ ?_ ?_⟩
    · rintro i σ H2 hi ⟨e, o3, rfl, rfl, ae, el, ew, st⟩
      refine ⟨_, rfl, _, rfl, _, rfl, sz, _, _, rfl, rfl, _, rfl, ?_⟩
      by_cases cb : e < told.length
      · rw [decide_eq_true (show ((e : Nat) : Int) < (told.length : Int) by omega)]
        obtain ⟨c2, hc2⟩ : ∃ c, (cs told)[e]? = some c := ⟨_, List.getElem?_eq_getElem (by rw [lt]; exact cb)⟩
        refine iteT ⟨_, rfl, _, rfl, told, (e : Nat), c2, rfl, rfl, sz, atI_nat (j := e) hc2, c2, " &()", rfl, rfl, _, rfl, ?_⟩
        rw [special_in]
        cases es2 : special c2 with
        | true =>
          have nil := take_while_stop (f := fun c => !special c) (u := cs told) (b := e) fun c' hc' => by rw [hc2] at hc'; cases hc'; simp [es2]
          exact iteF ⟨e, _, rfl, rfl, ae, el, ew, .inr nil⟩
        | false =>
          have more := take_while_more (f := fun c => !special c) hc2 (by simp [es2])
          refine iteT ⟨_, rfl, _, _, rfl, rfl, e + 1, _, rfl, rfl, by omega, by omega, ?_, ?_⟩
          · rw [ew, drop_take_more ae hc2, more, List.append_assoc]
            rfl
          · rcases st with st | st
            · exact .inl (by omega)
            · rw [more] at st; cases st
      · rw [decide_eq_false (show ¬ ((e : Nat) : Int) < (told.length : Int) by omega)]
        have nil : (((cs told).drop e).takeWhile fun c => !special c) = [] := by rw [List.drop_eq_nil_of_le (by rw [lt]; omega)]; rfl
        exact iteF (iteF ⟨e, _, rfl, rfl, ae, el, ew, .inr nil⟩)
    · rintro σ H2 ⟨e, o3, rfl, rfl, ae, el, ew, st⟩
      have nil : (((cs told).drop e).takeWhile fun c => !special c) = [] := by
        rcases st with st | st
        · rw [Int.toNat_natCast] at st
          rw [List.drop_eq_nil_of_le (by rw [lt]; omega)]; rfl
        · exact st
      rw [nil, List.append_nil] at ew
      refine ⟨_, rfl, _, rfl, _, rfl, _, rfl, _, rfl, _, rfl, sz, ?_⟩
      rw [ew] at q
      rw [show cutS told (some ((a : Nat) : Int)) (some ((e : Nat) : Int)) = sOf (((cs told).drop a).take (e - a)) from str_ext (by rw [cs_cut ae el, cs_sOf])]
      exact q
end
end K1
namespace K1
open PySem L2
theorem none_sameT {H H' : Hp} (e : Same H H') {p : Addr} (h : H' p = none) : H p = none := by
  cases z : H p with
  | none => rfl
  | some o => rw [e _ _ z] at h; cases h
section
variable {P : Program} {w : World} {K : PySem.W.Frag} {mg : Str → Option Value} {base : Heap}
/-! ### _law_is_word, _law_is_and -/
def spLWord : Sp := fun vs H Q _ => ∃ s : Str, vs = [.str s] ∧ s.length ≤ 1000 ∧ ∀ H', Same H H' → Q (.bl (wordOk s)) H'
theorem ok_lword (D : Defs K mg) : FnOk P w K mg base CX0 1 D.d_law_is_word.f D.d_law_is_word.fd ["word"] spLWord := by
  refine D.d_law_is_word.F.ok sc_law_is_word (fun vs H Q E h => ?_) (fun cdv A outer s H vs Q E hr h => ?_)
  · obtain ⟨s, rfl, _⟩ := h
    rfl
  obtain ⟨s, rfl, hl, q⟩ := h
  refine ⟨_, (pss_cons (ps_if (PW.pt (pw_or (pt_not (pt_chain op_le op_le pe_int (pe_callB call_len_str (by rfl) D.z_len (by decide +kernel) (pa_cons (pv 0) pa_nil)) pe_int)) (pw_or1 (pt_cmpR op_inT (pv 0) (pe_tup (pa_cons pe_str (pa_cons pe_str (pa_cons pe_str pa_nil)))) (by rfl))))) (pss_one (ps_ret pe_bl)) pss_nil)
      (pss_one (ps_ret (pe_callB (cr_all rfl) (by rfl) D.z_all (by decide +kernel) (pa_cons (pe_lc (own := [("sign", 1)]) (g := gName 1) rfl sc_law_is_word.nd (pi_str (pv 0)) (blkOk_by (N := ["word", "sign"]) (sc := defScope s_law_is_word) (by decide +kernel)) (fun _ _ _ _ _ => pg_name (i := 1) sc_law_is_word.nd rfl (Or.inl rfl)) (fun _ _ _ _ _ => pts_nil) (fun _ _ _ _ _ => (pe_cmpR op_in_sign (pv 1) pe_str (by rfl)))) pa_nil))))), ?_⟩
  have sz : s.length ≤ sizeLine := Nat.le_of_lt (small1000 hl)
  refine ⟨_, rfl, _, rfl, sz, _, _, rfl, rfl, _, rfl, ?_⟩
  by_cases c1 : (1 : Int) ≤ (s.length : Int)
  · rw [decide_eq_true c1]
    refine iteT ⟨_, _, rfl, rfl, _, rfl, ?_⟩
    by_cases c2 : (s.length : Int) ≤ 12
    · rw [decide_eq_true c2]
      refine iteF ⟨_, rfl, (by show 3 ≤ sizeLine; decide), fun t ht => ⟨s, t, noWords, rfl, rfl, .inr (SqT.of upd_same), _, rfl, ?_⟩⟩
      have s1 := same_new ht (.tup [V.str "all", V.str "none", V.str "some"])
      by_cases c3 : s ∈ noWords
      · rw [decide_eq_true c3]
        refine iteT ?_
        have e : wordOk s = false := by unfold wordOk; rw [decide_eq_true c3]; simp
        rw [← e]
        exact q _ s1
      rw [decide_eq_false c3]
      refine iteF ⟨_, rfl, s, rfl, fun D0 hD => ?_⟩
      have e : wordOk s = letters (cs s) := by
        unfold wordOk
        rw [decide_eq_true (show 1 ≤ s.length by omega), decide_eq_true (show s.length ≤ 12 by omega), decide_eq_false c3]
        rfl
      rw [e] at q
      refine lc_it walk_str (fun i H' => Same H H' ∧ H' D0 = some (.lst (((cs s).take i).map fun c => V.bl (lower c)))) ⟨s1.trans (same_new hD _), upd_same⟩ (fun _ _ _ _ => trivial) ?_ ?_
      · rintro i x H1 H2 hi ⟨s2, h2⟩ ⟨rfl, c, hc, rfl⟩
        have hc' : (cs s)[i]? = some c := by rw [Array.getElem?_toList]; exact hc
        refine ⟨rfl, _, rfl, c, "abcdefghijklmnopqrstuvwxyz", rfl, rfl, _, h2, ?_, ?_⟩
        · rw [List.length_map, List.length_take]
          exact small1000 (by have : s.length = s.cps.size := rfl; omega)
        · rw [lower_in]
          refine ⟨same_put s2 (none_sameT s1 hD), ?_⟩
          rw [upd_same, take_more hc', List.map_append]
          rfl
      · rintro H2 ⟨s2, h2⟩
        have et : (cs s).take s.cps.size = cs s := by rw [List.take_of_length_le]; simp
        rw [et] at h2
        refine ⟨D0, (cs s).map lower, rfl, SqL.of (by rw [h2, List.map_map]; rfl), ?_⟩
        have e2 : ((cs s).map lower).all id = letters (cs s) := by
          unfold letters
          rw [List.all_map]
          rfl
        rw [e2]
        exact q H2 s2
    · rw [decide_eq_false c2]
      refine iteT (iteT ?_)
      have e : wordOk s = false := by unfold wordOk; rw [decide_eq_false (show ¬ s.length ≤ 12 by omega)]; simp
      rw [← e]
      exact q H (Same.refl _)
  · rw [decide_eq_false c1]
    refine iteF ⟨_, rfl, ?_⟩
    refine iteT (iteT ?_)
    have e : wordOk s = false := by unfold wordOk; rw [decide_eq_false (show ¬ 1 ≤ s.length by omega)]; simp
    rw [← e]
    exact q H (Same.refl _)
def spLAnd : Sp := fun vs H Q _ => ∃ v t, vs = [v] ∧ TAt H t v ∧ Q (.bl (isAndT t)) H
theorem ok_land (D : Defs K mg) : FnOk P w K mg base CX0 1 D.d_law_is_and.f D.d_law_is_and.fd ["concept"] spLAnd := by
  refine D.d_law_is_and.F.ok sc_law_is_and (fun vs H Q E h => ?_) (fun cdv A outer s H vs Q E hr h => ?_)
  · obtain ⟨v, t, rfl, _⟩ := h
    rfl
  obtain ⟨v, t, rfl, hT, q⟩ := h
  refine ⟨_, (pss_one (ps_ret (pe_and (pe_callB call_isi (by rfl) D.z_isinstance (by decide +kernel) (pa_cons (pv 0) (pa_cons (pe_bltn (v := .ty "tuple") (by rfl) D.z_tuple (by decide +kernel) rfl) pa_nil))) (pe_one (pe_cmpR op_eq (pe_ix ix_tup (pv 0) pe_int (fun _ _ => rfl)) pe_str (nomark _)))))), ?_⟩
  obtain ⟨ty, hty, kt⟩ := pl_tup (K := K) hT.pl
  refine ⟨_, rfl, _, _, _, _, _, rfl, .ty _, hty, kt, _, rfl, ?_⟩
  cases t with
  | atom s =>
    rw [TAt] at hT
    obtain ⟨rfl, _⟩ := hT
    exact iteF q
  | ex r t =>
    rw [TAt] at hT
    obtain ⟨p, u, rfl, ha, _⟩ := hT
    rw [isTup_tup ha]
    refine iteT ⟨_, rfl, p, _, _, _, rfl, rfl, SqT.of ha, atI_nat (j := 0) rfl, rfl, ?_⟩
    rw [decide_eq_false (show ¬ V.str ("some" : Str) = V.str "and" from fun z => absurd (V.str.inj z) (by decide +kernel))]
    exact q
  | and l =>
    rw [TAt] at hT
    obtain ⟨p, us, rfl, ha, _⟩ := hT
    rw [isTup_tup ha]
    refine iteT ⟨_, rfl, p, _, _, _, rfl, rfl, SqT.of ha, atI_nat (j := 0) rfl, rfl, ?_⟩
    rw [decide_eq_true rfl]
    exact q
end
end K1
namespace K1
open PySem L2
/-! ### the statement's own reader -/
theorem dItem_end {N d : Nat} {u : List Nat} (h : u = [] ∨ 60 < d) : dItem (N + 1) d u = none := by rw [dItem, if_pos h]
theorem dItem_paren {N d : Nat} {u : List Nat} (h : ¬ (u = [] ∨ 60 < d)) (h2 : tok u = [40]) : dItem (N + 1) d u = match dWhole N (d + 1) u.tail with
    | some (t, 41 :: w) => if isAndT t = true then some (t, w) else none
    | _ => none := by
  rw [dItem, if_neg h, if_pos h2]
  unfold dWhole
  cases e : dItems N (d + 1) u.tail with
  | none => rfl
  | some p =>
    obtain ⟨l, v⟩ := p
    match l with
    | [] =>
      match v with
      | [] => rfl
      | c :: w =>
        by_cases hc : c = 41
        · subst hc; rfl
        · simp [hc]
    | [t] =>
      cases ta : isAndT t with
      | true =>
        match v with
        | [] => simp [ta]
        | c :: w =>
          by_cases hc : c = 41
          · subst hc; simp [ta]
          · simp [hc, ta]
      | false =>
        match v with
        | [] => simp [ta]
        | c :: w =>
          by_cases hc : c = 41
          · subst hc; simp [ta]
          · simp [hc, ta]
    | t :: t2 :: l =>
      match v with
      | [] => rfl
      | c :: w =>
        by_cases hc : c = 41
        · subst hc; simp [isAndT]
        · simp [hc]
theorem dItem_atom {N d : Nat} {u : List Nat} (h : ¬ (u = [] ∨ 60 < d)) (h2 : ¬ tok u = [40]) (h3 : tok u ≠ someL) : dItem (N + 1) d u = if sOf (tok u) = "all" ∨ sOf (tok u) = "none" ∨ wordOk (sOf (tok u)) = true then some (.atom (sOf (tok u)), u.drop (tok u).length) else none := by
  rw [dItem, if_neg h, if_neg h2, if_pos h3]
theorem dItem_some {N d : Nat} {u : List Nat} (h : ¬ (u = [] ∨ 60 < d)) (h3 : tok u = someL) : dItem (N + 1) d u =
    if (u.drop 4).head? = some 32 ∧ (u.drop 5) ≠ [] ∧ wordOk (sOf (tok (u.drop 5))) = true ∧ ((u.drop 5).drop (tok (u.drop 5)).length).head? = some 32 then
      match dItem N (d + 1) ((u.drop 5).drop (tok (u.drop 5)).length).tail with
      | some (t, x) => some (.ex (sOf (tok (u.drop 5))) t, x)
      | none => none
    else none := by
  rw [dItem, if_neg h, if_neg (by rw [h3]; decide), if_neg (by rw [h3]; simp)]
  all_goals rfl
theorem dItem_len {N d : Nat} {u : List Nat} {t : T} {v : List Nat} (h : dItem N d u = some (t, v)) : (pr t).length + v.length = u.length := by
  rw [(dItem_sound N d u t v h).2, List.length_append]
theorem pr_pos {t : T} (h : CW t) : 0 < (pr t).length := by
  cases t with
  | atom s =>
    rw [pr_not rfl, tx]
    have := (atom_wl h).1.ne
    exact List.length_pos_iff.mpr this
  | ex r t => rw [pr_not rfl, tx_ex]; simp [someL]
  | and l => rw [pr_and]; simp
/-- what was read so far, with the rest -/
def appD (ts : List T) : Option (List T × List Nat) → Option (List T × List Nat)
  | some (l, x) => some (ts ++ l, x)
  | none => none
theorem appD_nil (r : Option (List T × List Nat)) : appD [] r = r := by
  cases r with
  | none => rfl
  | some p => rfl
theorem appD_none {M d : Nat} {ts : List T} {u : List Nat} (h : dItem M d u = none) : appD ts (dItems (M + 1) d u) = none := by rw [dItems, h]; rfl
theorem appD_more {M d : Nat} {ts : List T} {u : List Nat} {t : T} {v : List Nat} (h : dItem M d u = some (t, v)) (h2 : amp.isPrefixOf v = true) : appD ts (dItems (M + 1) d u) = appD (ts ++ [t]) (dItems M d (v.drop 3)) := by
  rw [dItems, h]
  simp only [h2, if_true]
  cases dItems M d (v.drop 3) with
  | none => rfl
  | some p => show some (ts ++ (t :: p.1), p.2) = some ((ts ++ [t]) ++ p.1, p.2); rw [List.append_assoc]; rfl
theorem appD_last {M d : Nat} {ts : List T} {u : List Nat} {t : T} {v : List Nat} (h : dItem M d u = some (t, v)) (h2 : amp.isPrefixOf v = false) : appD ts (dItems (M + 1) d u) = some (ts ++ [t], v) := by
  rw [dItems, h]
  simp only [h2]
  rfl
/-- what the whole is, by its items -/
theorem dWhole_of {N d : Nat} {u : List Nat} {l : List T} {v : List Nat} (h : dItems N d u = some (l, v)) (hl : 2 ≤ l.length) : dWhole N d u = some (.and l, v) := by
  unfold dWhole
  rw [h]
  match l, hl with
  | _ :: _ :: _, _ => rfl
theorem dWhole_one {N d : Nat} {u : List Nat} {t : T} {v : List Nat} (h : dItems N d u = some ([t], v)) : dWhole N d u = if isAndT t = true then none else some (t, v) := by
  unfold dWhole
  rw [h]
theorem dWhole_none {N d : Nat} {u : List Nat} (h : dItems N d u = none) : dWhole N d u = none := by
  unfold dWhole
  rw [h]
theorem But.nil {H H' : Hp} (h : But [] H H') : Same H H' := fun b o e => h b o (by simp) e
section
variable {P : Program} {w : World} {K : PySem.W.Frag} {mg : Str → Option Value} {base : Heap}
def spDItem (n : Nat) : Sp := fun vs H Q _ => ∃ (told : Str) (a d N : Nat), vs = [.str told, .int (a : Nat), .int (d : Nat)] ∧ a ≤ told.length ∧ told.length ≤ 1000 ∧ ME ((cs told).drop a) ≤ 2 * n ∧ 2 * ((cs told).drop a).length + 1 ≤ N ∧
  (∀ H' p v t (b : Nat), dItem N d ((cs told).drop a) = some (t, (cs told).drop b) → b ≤ told.length → Same H H' → H' p = some (.tup [v, .int (b : Nat)]) → TAt H' t v → Q (.ref p) H') ∧ (dItem N d ((cs told).drop a) = none → ∀ H', Same H H' → Q .non H')
def spDWhole (n : Nat) : Sp := fun vs H Q _ => ∃ (told : Str) (a d N : Nat), vs = [.str told, .int (a : Nat), .int (d : Nat)] ∧ a ≤ told.length ∧ told.length ≤ 1000 ∧ ME ((cs told).drop a) ≤ 2 * n ∧ 2 * ((cs told).drop a).length + 2 ≤ N ∧
  (∀ H' p v t (b : Nat), dWhole N d ((cs told).drop a) = some (t, (cs told).drop b) → b ≤ told.length → Same H H' → H' p = some (.tup [v, .int (b : Nat)]) → TAt H' t v → Q (.ref p) H') ∧ (dWhole N d ((cs told).drop a) = none → ∀ H', Same H H' → Q .non H')
theorem ok_lwhole (D : Defs K mg) (n : Nat) (G : FnOk P w K mg base CX0 (n + 2) D.d_law_item.f D.d_law_item.fd ["told", "at", "depth"] (spDItem n)) :
    FnOk P w K mg base CX0 (n + 3) D.d_law_whole.f D.d_law_whole.fd ["told", "at", "depth"] (spDWhole n) := by
  have GA := ok_land (P := P) (w := w) (base := base) D
  refine D.d_law_whole.F.ok sc_law_whole (fun vs H Q E h => ?_) (fun cdv A outer s H vs Q E hr h => ?_)
  · obtain ⟨told, a, d, N, rfl, _⟩ := h
    rfl
  obtain ⟨told, a, d, N, rfl, al, l1000, me, hN, qs, qf⟩ := h
  have hr1 : Room 1 _ := hr.mono (by omega)
  refine ⟨_, (pss_cons (ps_par (i := 3) (j := 4) rfl sc_law_whole.nd rfl rfl (by decide) rfl rfl (pa_cons (pe_lst pa_nil) (pa_cons (pv 1) pa_nil)) (by rfl))
      (pss_cons (ps_for PassesOwn.never rfl (pi_range1 rfl D.z_range (pa_cons (pe_op op_add (pe_callB call_len_str (by rfl) D.z_len (by decide +kernel) (pa_cons (pv 0) pa_nil)) pe_int) pa_nil)) (pg_name (i := 5) sc_law_whole.nd rfl (Or.inl rfl)) (pss_cons (ps_set (i := 6) sc_law_whole.nd rfl (Or.inl rfl) (pe_call G hr rfl D.d_law_item.m D.d_law_item.F.kp D.d_law_item.b .nil pass0 (pa_cons (pv 0) (pa_cons (pv 4) (pa_cons (pv 2) pa_nil)))))
      (pss_cons (ps_if (pt_cmpR op_isN (pv 6) pe_non (nomark _)) (pss_one (ps_ret pe_non)) pss_nil)
      (pss_cons (ps_expr (pe_bm PySem.F.plainAttrs_list PySem.F.slot_list_append PySem.F.type_list_append mt_append (pv 3) (pa_cons (pe_ix ix_tup (pv 6) pe_int (fun _ _ => rfl)) pa_nil)))
      (pss_cons (ps_set (i := 4) sc_law_whole.nd rfl (Or.inl rfl) (pe_ix ix_tup (pv 6) pe_int (fun _ _ => rfl)))
      (pss_cons (ps_if (pt_cmpR op_ne (pe_slice sl_str (pv 0) (po_some (pv 4)) (po_some (pe_op op_add (pv 4) pe_int))) pe_str (nomark _)) (pss_one ps_break) pss_nil)
      (pss_one (ps_set (i := 4) sc_law_whole.nd rfl (Or.inl rfl) (pe_op op_add (pv 4) pe_int)))))))))
      (pss_cons (ps_if (pt_cmpR op_eq (pe_callB call_len_seq (by rfl) D.z_len (by decide +kernel) (pa_cons (pv 3) pa_nil)) pe_int (nomark _)) (pss_one (ps_ret (pe_ifExp (pt_val (pe_call GA hr1 rfl D.d_law_is_and.m D.d_law_is_and.F.kp D.d_law_is_and.b .nil pass0 (pa_cons (pe_ix ix_list (pv 3) pe_int (fun _ _ => rfl)) pa_nil))) pe_non (pe_tup (pa_cons (pe_ix ix_list (pv 3) pe_int (fun _ _ => rfl)) (pa_cons (pv 4) pa_nil)))))) pss_nil)
      (pss_one (ps_ret (pe_tup (pa_cons (pe_op op_catT (pe_tup (pa_cons pe_str pa_nil)) (pe_callTy call_tuple_of (by rfl) D.z_tuple (by decide +kernel) (pa_cons (pv 3) pa_nil))) (pa_cons (pv 4) pa_nil)))))))), ?_⟩
  have lt : (cs told).length = told.length := rfl
  have sz : told.length ≤ sizeLine := Nat.le_of_lt (small1000 l1000)
  rw [List.length_drop, lt] at hN
  refine ⟨(by show 0 ≤ sizeLine; decide), fun L hL => ⟨_, rfl, _, _, rfl, ?_⟩⟩
  have s0 : Same H (upd H L (.lst [])) := same_new hL _
  refine ⟨_, rfl, _, rfl, sz, _, _, rfl, rfl, _, rfl, (by show -(2 ^ 62) ≤ (told.length : Int) + 1; omega), (by show (told.length : Int) + 1 < 2 ^ 62; omega), for_range (lo := 0) (n := ((told.length : Int) + 1).toNat) (fun i σ H2 => ∃ (b N' : Nat) (ts : List T) (ws : List V) (o5 o6 : Option V), σ = [some (.str told), some (.int (a : Nat)), some (.int (d : Nat)), some (.ref L), some (.int (b : Nat)), o5, o6] ∧ But [L] H H2 ∧ H2 L = some (.lst ws) ∧ Paired (TAt H2) ts ws ∧ ts.length = i ∧ a ≤ b ∧ a + 3 * i ≤ b ∧ b ≤ told.length ∧ 2 * (told.length - b) + 2 ≤ N' ∧ dItems N d ((cs told).drop a) = appD ts (dItems N' d ((cs told).drop b)))
    ⟨a, N, [], [], none, none, rfl, But.of s0, upd_same, .nil, rfl, Nat.le_refl _, by omega, al, by omega, (appD_nil _).symm⟩ ?_ ?_⟩
  rotate_left
  · rintro σ H2 ⟨b, N', ts, ws, o5, o6, rfl, b2, hl2, pt2, tl, ab, a3, bl, hN', e⟩
    exfalso
    omega
  rintro i σ H2 hi ⟨b, N', ts, ws, o5, o6, rfl, b2, hl2, pt2, tl, ab, a3, bl, hN', e⟩
  have wl : ws.length = ts.length := (paired_len pt2).symm
  obtain ⟨M, rfl⟩ : ∃ M, N' = M + 1 := ⟨N' - 1, by omega⟩
  have meb : ME ((cs told).drop b) ≤ 2 * n := by
    have := ME_drop ((cs told).drop a) (b - a)
    rw [List.drop_drop, show a + (b - a) = b by omega] at this
    omega
  refine ⟨_, rfl, _, rfl, _, rfl, told, b, d, M, rfl, bl, l1000, meb, by rw [List.length_drop, lt]; omega, fun H3 p v t' b' e' bl' s3 hp3 tv => ?_, fun e' H3 s3 => ?_⟩
  rotate_left
  · rw [appD_none e'] at e
    refine ⟨_, rfl, rfl, _, rfl, iteTe (decide_eq_true rfl) ?_⟩
    exact qf (dWhole_none e) H3 (((b2.trans (But.of s3)).drop hL).nil)
  have lb := dItem_len e'
  rw [List.length_drop, List.length_drop, lt] at lb
  have hl3 := s3 _ _ hl2
  have pt3 := pairT_t (Same.t s3) pt2
  have t4 : TSame H3 (upd H3 L (.lst (ws ++ [v]))) := (But.put (D := [L]) (by simp)).t fun c hc xs z => by rw [List.mem_singleton.mp hc, hl3] at z; cases z
  have pL : p ≠ L := fun z => by rw [z, hl3] at hp3; cases hp3
  refine ⟨_, rfl, rfl, _, rfl, iteFe (decide_eq_false fun z => nomatch z) ?_⟩
  refine ⟨_, rfl, .inl ⟨rfl, _, SqL.of hl3⟩, _, rfl, p, _, _, _, rfl, rfl, SqT.of hp3, atI_nat (j := 0) rfl, L, _, _, rfl, rfl, hl3, small4 (by omega), ?_⟩
  have hp4 : upd H3 L (.lst (ws ++ [v])) p = some (.tup [v, .int (b' : Nat)]) := by rw [upd_ne pL]; exact hp3
  have b4 : But [L] H (upd H3 L (.lst (ws ++ [v]))) := (b2.trans (But.of s3)).trans (But.put (by simp))
  have pt4 : Paired (TAt (upd H3 L (.lst (ws ++ [v])))) (ts ++ [t']) (ws ++ [v]) := paired_snoc (tv.t t4) (pairT_t t4 pt3)
  refine ⟨_, rfl, p, _, _, _, rfl, rfl, SqT.of hp4, atI_nat (j := 1) rfl, ?_⟩
  refine ⟨_, rfl, _, rfl, _, rfl, _, rfl, _, _, rfl, rfl, _, rfl, _, rfl, sz, rfl, _, rfl, ?_⟩
  rw [cut3 bl']
  cases ep : amp.isPrefixOf ((cs told).drop b')
  case true =>
    rw [appD_more e' ep] at e
    have pre := (List.isPrefixOf_iff_prefix.mp ep).length_le
    rw [List.length_drop, lt] at pre
    have la : amp.length = 3 := rfl
    rw [la] at pre
    rw [List.drop_drop] at e
    refine iteF ⟨_, rfl, _, _, rfl, rfl, ?_⟩
    exact ⟨b' + 3, M, ts ++ [t'], ws ++ [v], _, _, rfl, b4, upd_same, pt4, by rw [List.length_append]; show ts.length + 1 = i + 1; omega, by omega, by omega, by omega, by omega, e⟩
  case false =>
    rw [appD_last e' ep] at e
    refine iteT ?_
    have wl4 : (ws ++ [v]).length = (ts ++ [t']).length := (paired_len pt4).symm
    refine ⟨_, rfl, L, _, rfl, .inl (SqL.of upd_same), rfl, _, rfl, ?_⟩
    match hts : ts, ws, pt4, wl4, e with
    | [], [], pt, _, e =>
      refine iteTe (decide_eq_true rfl) ⟨_, rfl, L, _, _, _, rfl, rfl, SqL.of upd_same, atI_nat (j := 0) rfl, ?_⟩
      cases pt with
      | cons hT _ =>
        refine ⟨v, t', rfl, hT, _, rfl, ?_⟩
        have ew := dWhole_one e
        cases ta : isAndT t' with
        | true =>
          rw [ta, if_pos rfl] at ew
          exact iteT (qf ew _ (b4.drop hL).nil)
        | false =>
          rw [ta, if_neg Bool.false_ne_true] at ew
          refine iteF ⟨_, rfl, L, _, _, _, rfl, rfl, SqL.of upd_same, atI_nat (j := 0) rfl, _, rfl, (by show 2 ≤ sizeLine; decide), fun p5 hp5 => ?_⟩
          have s5 := same_new hp5 (.tup [v, .int (b' : Nat)])
          exact qs _ p5 v t' b' ew bl' ((b4.trans (But.of s5)).drop hL).nil upd_same (hT.t (Same.t s5))
    | [], w0 :: ws0, pt, wl4, _ => simp at wl4
    | t0 :: ts0, ws0, pt, wl4, e =>
      have l2 : 2 ≤ (ws0 ++ [v]).length := by rw [wl4]; simp
      have ew := dWhole_of e (by simp)
      refine iteFe (decide_eq_false fun z => ?_) ?_
      · have := V.int.inj z
        omega
      refine ⟨(by show 1 ≤ sizeLine; decide), fun t1 ht1 => ⟨_, rfl, L, _, rfl, .inl ⟨SqL.of (same_new ht1 _ _ _ upd_same), fun t2 ht2 => ?_⟩⟩⟩
      have g1 := same_new ht1 (.tup [.str "and"])
      have g2 := same_new ht2 (.tup (ws0 ++ [v]))
      refine ⟨t1, t2, _, _, rfl, rfl, SqT.of (g2 _ _ upd_same), SqT.of upd_same, (by simp), Nat.le_of_lt (small4 (by rw [wl4]; simp only [List.length_append, List.length_cons, List.length_nil] at tl ⊢; omega)), (fun z => by rw [z] at l2; simp at l2), fun _ p6 hp6 => ⟨_, rfl, (by show 2 ≤ sizeLine; decide), fun p5 hp5 => ?_⟩⟩
      have g3 := same_new hp6 (.tup ([.str "and"] ++ (ws0 ++ [v])))
      have g5 := same_new hp5 (.tup [.ref p6, .int (b' : Nat)])
      have g := ((g1.trans g2).trans g3).trans g5
      refine qs _ p5 (.ref p6) _ b' ew bl' ((b4.trans (But.of g)).drop hL).nil upd_same ?_
      rw [TAt]
      exact ⟨p6, ws0 ++ [v], rfl, g5 _ _ upd_same, TsAt.of (pairT_t (Same.t g) pt)⟩
end
end K1
namespace K1
open PySem L2
theorem sOf_eq {l : List Nat} {s : Str} : (V.str (sOf l) = V.str s) ↔ l = cs s := by
  constructor
  · intro h
    have := congrArg cs (V.str.inj h)
    rwa [cs_sOf] at this
  · rintro rfl; exact congrArg V.str (str_ext (by rw [cs_sOf]))
theorem tok_len (u : List Nat) : (tok u).length ≤ u.length := by
  have := congrArg List.length (tok_split u)
  rw [List.length_append] at this
  omega
section
variable {P : Program} {w : World} {K : PySem.W.Frag} {mg : Str → Option Value} {base : Heap}
def spJ2 (n : Nat) : Sp := fun vs H Q E => ∃ m, n = m + 2 ∧ spDWhole m vs H Q E
def spK2 (n : Nat) : Sp := fun vs H Q E => ∃ m, n = m + 1 ∧ spDItem m vs H Q E
def twoW : List Str := ["all", "none"]
theorem ok_litem (D : Defs K mg) (n : Nat) : FnOk P w K mg base CX0 (n + 2) D.d_law_item.f D.d_law_item.fd ["told", "at", "depth"] (spDItem n) := by
  induction n using Nat.strongRecOn with
  | _ n ih =>
  have GT := ok_tok (P := P) (w := w) (base := base) D
  have GA := ok_land (P := P) (w := w) (base := base) D
  have GW := ok_lword (P := P) (w := w) (base := base) D
  have GJ : FnOk P w K mg base CX0 (n + 1) D.d_law_whole.f D.d_law_whole.fd ["told", "at", "depth"] (spJ2 n) := by
    match n, ih with
    | 0, _ => exact none_left fun vs H Q E h => by obtain ⟨m, h, _⟩ := h; omega
    | 1, _ => exact none_left fun vs H Q E h => by obtain ⟨m, h, _⟩ := h; omega
    | m + 2, ih => exact fn_weak (ok_lwhole D m (ih m (by omega))) fun vs H Q E ⟨m', h, z⟩ => (show m' = m by omega) ▸ z
  have GK : FnOk P w K mg base CX0 (n + 1) D.d_law_item.f D.d_law_item.fd ["told", "at", "depth"] (spK2 n) := by
    match n, ih with
    | 0, _ => exact none_left fun vs H Q E h => by obtain ⟨m, h, _⟩ := h; omega
    | m + 1, ih => exact fn_weak (ih m (by omega)) fun vs H Q E ⟨m', h, z⟩ => (show m' = m by omega) ▸ z
  refine D.d_law_item.F.ok sc_law_item (fun vs H Q E h => ?_) (fun cdv A outer s H vs Q E hr h => ?_)
  · obtain ⟨told, a, d, N, rfl, _⟩ := h
    rfl
  obtain ⟨told, a, d, N, rfl, al, l1000, me, hN, qs, qf⟩ := h
  have hr1 : Room 1 _ := hr.mono (by omega)
  refine ⟨_, (pss_cons (ps_if (PW.pt (pw_or (pt_cmpR op_ge (pv 1) (pe_callB call_len_str (by rfl) D.z_len (by decide +kernel) (pa_cons (pv 0) pa_nil)) (nomark _)) (pw_or1 (pt_cmpR op_gt (pv 2) pe_int (nomark _))))) (pss_one (ps_ret pe_non)) pss_nil)
      (pss_cons (ps_set (i := 3) sc_law_item.nd rfl (Or.inl rfl) (pe_call GT hr1 rfl D.d_law_token.m D.d_law_token.F.kp D.d_law_token.b .nil pass0 (pa_cons (pv 0) (pa_cons (pv 1) pa_nil))))
      (pss_cons (ps_if (pt_cmpR op_eq (pv 3) pe_str (nomark _))
        (pss_cons (ps_set (i := 4) sc_law_item.nd rfl (Or.inl rfl) (pe_call GJ hr rfl D.d_law_whole.m D.d_law_whole.F.kp D.d_law_whole.b .nil pass0 (pa_cons (pv 0) (pa_cons (pe_op op_add (pv 1) pe_int) (pa_cons (pe_op op_add (pv 2) pe_int) pa_nil)))))
      (pss_cons (ps_if (PW.pt (pw_or (pt_cmpR op_isN (pv 4) pe_non (nomark _)) (pw_or (pt_cmpR op_ne (pe_slice sl_str (pv 0) (po_some (pe_ix ix_tup (pv 4) pe_int (fun _ _ => rfl))) (po_some (pe_op op_add (pe_ix ix_tup (pv 4) pe_int (fun _ _ => rfl)) pe_int))) pe_str (nomark _)) (pw_or1 (pt_not (pt_val (pe_call GA hr1 rfl D.d_law_is_and.m D.d_law_is_and.F.kp D.d_law_is_and.b .nil pass0 (pa_cons (pe_ix ix_tup (pv 4) pe_int (fun _ _ => rfl)) pa_nil)))))))) (pss_one (ps_ret pe_non)) pss_nil)
      (pss_one (ps_ret (pe_tup (pa_cons (pe_ix ix_tup (pv 4) pe_int (fun _ _ => rfl)) (pa_cons (pe_op op_add (pe_ix ix_tup (pv 4) pe_int (fun _ _ => rfl)) pe_int) pa_nil))))))) pss_nil)
      (pss_cons (ps_set (i := 5) sc_law_item.nd rfl (Or.inl rfl) (pe_op op_add (pv 1) (pe_callB call_len_str (by rfl) D.z_len (by decide +kernel) (pa_cons (pv 3) pa_nil))))
      (pss_cons (ps_if (pt_cmpR op_ne (pv 3) pe_str (nomark _)) (pss_one (ps_ret (pe_ifExp (PW.pt (pw_or (pt_cmpR op_inT (pv 3) (pe_tup (pa_cons pe_str (pa_cons pe_str pa_nil))) (by rfl)) (pw_or1 (pt_val (pe_call GW hr1 rfl D.d_law_is_word.m D.d_law_is_word.F.kp D.d_law_is_word.b .nil pass0 (pa_cons (pv 3) pa_nil)))))) (pe_tup (pa_cons (pv 3) (pa_cons (pv 5) pa_nil))) pe_non))) pss_nil)
      (pss_cons (ps_if (PW.pt (pw_or (pt_cmpR op_ne (pe_slice sl_str (pv 0) (po_some (pv 5)) (po_some (pe_op op_add (pv 5) pe_int))) pe_str (nomark _)) (pw_or1 (pt_cmpR op_ge (pe_op op_add (pv 5) pe_int) (pe_callB call_len_str (by rfl) D.z_len (by decide +kernel) (pa_cons (pv 0) pa_nil)) (nomark _))))) (pss_one (ps_ret pe_non)) pss_nil)
      (pss_cons (ps_set (i := 6) sc_law_item.nd rfl (Or.inl rfl) (pe_call GT hr1 rfl D.d_law_token.m D.d_law_token.F.kp D.d_law_token.b .nil pass0 (pa_cons (pv 0) (pa_cons (pe_op op_add (pv 5) pe_int) pa_nil))))
      (pss_cons (ps_set (i := 7) sc_law_item.nd rfl (Or.inl rfl) (pe_op op_add (pe_op op_add (pv 5) pe_int) (pe_callB call_len_str (by rfl) D.z_len (by decide +kernel) (pa_cons (pv 6) pa_nil))))
      (pss_cons (ps_if (PW.pt (pw_or (pt_not (pt_val (pe_call GW hr1 rfl D.d_law_is_word.m D.d_law_is_word.F.kp D.d_law_is_word.b .nil pass0 (pa_cons (pv 6) pa_nil)))) (pw_or1 (pt_cmpR op_ne (pe_slice sl_str (pv 0) (po_some (pv 7)) (po_some (pe_op op_add (pv 7) pe_int))) pe_str (nomark _))))) (pss_one (ps_ret pe_non)) pss_nil)
      (pss_cons (ps_set (i := 4) sc_law_item.nd rfl (Or.inl rfl) (pe_call GK hr rfl D.d_law_item.m D.d_law_item.F.kp D.d_law_item.b .nil pass0 (pa_cons (pv 0) (pa_cons (pe_op op_add (pv 7) pe_int) (pa_cons (pe_op op_add (pv 2) pe_int) pa_nil)))))
      (pss_one (ps_ret (pe_ifExp (pt_cmpR op_isN (pv 4) pe_non (nomark _)) pe_non (pe_tup (pa_cons (pe_tup (pa_cons pe_str (pa_cons (pv 6) (pa_cons (pe_ix ix_tup (pv 4) pe_int (fun _ _ => rfl)) pa_nil)))) (pa_cons (pe_ix ix_tup (pv 4) pe_int (fun _ _ => rfl)) pa_nil)))))))))))))))), ?_⟩
  have lt : (cs told).length = told.length := rfl
  have sz : told.length ≤ sizeLine := Nat.le_of_lt (small1000 l1000)
  rw [List.length_drop, lt] at hN
  obtain ⟨N, rfl⟩ : ∃ M, N = M + 1 := ⟨N - 1, by omega⟩
  have s0 := Same.refl H
  refine ⟨_, rfl, _, rfl, _, rfl, sz, _, _, rfl, rfl, _, rfl, ?_⟩
  by_cases c1 : told.length ≤ a
  · have : (cs told).drop a = [] := List.drop_eq_nil_of_le (by rw [lt]; exact c1)
    exact iteTe (decide_eq_true (by omega)) (iteT (qf (dItem_end (.inl this)) H s0))
  refine iteFe (decide_eq_false (by omega)) ⟨_, rfl, _, _, rfl, rfl, _, rfl, ?_⟩
  by_cases c2 : 60 < d
  · exact iteTe (decide_eq_true (by show (60 : Int) < (d : Int); omega)) (qf (dItem_end (.inr c2)) H s0)
  refine iteFe (decide_eq_false (by show ¬ (60 : Int) < (d : Int); omega)) ?_
  have hgo : ¬ ((cs told).drop a = [] ∨ 60 < d) := by
    rintro (z | z)
    · have := congrArg List.length z
      rw [List.length_drop, lt, List.length_nil] at this
      omega
    · exact c2 z
  refine ⟨_, rfl, _, rfl, told, a, rfl, by omega, l1000, ?_⟩
  have tl := tok_len ((cs told).drop a)
  rw [List.length_drop, lt] at tl
  refine ⟨_, rfl, rfl, _, rfl, ?_⟩
  by_cases c3 : tok ((cs told).drop a) = [40]
  · refine iteTe (decide_eq_true (sOf_eq.mpr (c3.trans cs_lp.symm))) ?_
    have eu := tok_paren c3
    rw [dItem_paren hgo c3, List.tail_drop] at qs qf
    rw [List.tail_drop] at eu
    have me1 : ME ((cs told).drop (a + 1)) + 4 ≤ 2 * n := by rw [eu, ME_cons40] at me; exact me
    refine ⟨_, rfl, _, rfl, _, _, rfl, rfl, _, rfl, _, _, rfl, rfl, n - 2, by omega, told, a + 1, d + 1, N, rfl, by omega, l1000, by omega, by rw [List.length_drop, lt]; omega, fun H1 p v t b e bl s1 hp tv => ?_, fun e H1 s1 => ?_⟩
    rotate_left
    · rw [e] at qf
      exact ⟨_, rfl, rfl, _, rfl, iteTe (decide_eq_true rfl) (iteT (qf rfl H1 s1))⟩
    rw [e] at qs qf
    refine ⟨_, rfl, rfl, _, rfl, iteFe (decide_eq_false fun z => nomatch z) ?_⟩
    refine ⟨_, rfl, _, rfl, p, _, _, _, rfl, rfl, SqT.of hp, atI_nat (j := 1) rfl, _, rfl, _, rfl, p, _, _, _, rfl, rfl, SqT.of hp, atI_nat (j := 1) rfl, _, _, rfl, rfl, _, rfl, _, rfl, sz, rfl, _, rfl, ?_⟩
    rw [cut1 (c := 41) bl cs_rp]
    by_cases c4 : ((cs told).drop b).head? = some 41
    · refine iteFe (by rw [decide_eq_true c4]; rfl) ⟨_, rfl, p, _, _, _, rfl, rfl, SqT.of hp, atI_nat (j := 0) rfl, v, t, rfl, tv, _, rfl, ?_⟩
      obtain ⟨eh, bl2⟩ := head_drop c4
      rw [lt] at bl2
      rw [eh] at qs qf
      cases ta : isAndT t with
      | false =>
        refine iteT (qf ?_ H1 s1)
        show (if isAndT t = true then some (t, (cs told).drop (b + 1)) else none) = none
        rw [ta]; rfl
      | true =>
        refine iteF ⟨_, rfl, p, _, _, _, rfl, rfl, SqT.of hp, atI_nat (j := 0) rfl, _, rfl, p, _, _, _, rfl, rfl, SqT.of hp, atI_nat (j := 1) rfl, _, _, rfl, rfl, (by show 2 ≤ sizeLine; decide), fun p2 hp2 => ?_⟩
        have s2 := same_new hp2 (.tup [v, .int ((b : Nat) + 1)])
        refine qs _ p2 v t (b + 1) ?_ bl2 (s1.trans s2) upd_same (tv.t (Same.t s2))
        show (if isAndT t = true then some (t, (cs told).drop (b + 1)) else none) = _
        rw [ta]; rfl
    · refine iteTe (by rw [decide_eq_false c4]; rfl) (iteT (qf ?_ H1 s1))
      cases ed : (cs told).drop b with
      | nil => rfl
      | cons c r =>
        rw [ed] at c4
        have : c ≠ 41 := fun z => c4 (by rw [z]; rfl)
        show (match some (t, c :: r) with | some (t, 41 :: w) => if isAndT t = true then some (t, w) else none | _ => none) = none
        split
        · rename_i h; cases h; exact (this rfl).elim
        · rfl
  refine iteFe (decide_eq_false fun z => c3 ((sOf_eq.mp z).trans cs_lp)) ?_
  refine ⟨_, rfl, _, rfl, _, rfl, by rw [len_sOf]; exact Nat.le_of_lt (small1000 (by omega)), _, _, rfl, rfl, ?_⟩
  refine ⟨_, rfl, rfl, _, rfl, ?_⟩
  by_cases c4 : tok ((cs told).drop a) = someL
  · refine iteFe (by rw [decide_eq_true (sOf_eq.mpr (c4.trans cs_someL.symm))]; rfl) ?_
    rw [dItem_some hgo c4] at qs qf
    simp only [List.drop_drop, List.tail_drop] at qs qf
    have l4 : (tok ((cs told).drop a)).length = 4 := by rw [c4]; rfl
    rw [len_sOf, l4]
    rw [l4] at tl
    have e4 : ((a : Nat) : Int) + ((4 : Nat) : Int) = ((a + 4 : Nat) : Int) := by omega
    refine ⟨_, rfl, _, rfl, _, rfl, _, rfl, _, _, rfl, rfl, _, rfl, _, rfl, sz, rfl, _, rfl, ?_⟩
    rw [e4, cut1 (c := 32) (by omega) cs_sp]
    by_cases k1 : ((cs told).drop (a + 4)).head? = some 32
    rotate_left
    · refine iteTe (by rw [decide_eq_false k1]; rfl) (iteT (qf ?_ H s0))
      rw [if_neg fun z => k1 z.1]
    refine iteFe (by rw [decide_eq_true k1]; rfl) ⟨_, rfl, _, _, rfl, rfl, _, rfl, _, rfl, sz, _, _, rfl, rfl, _, rfl, ?_⟩
    obtain ⟨eh, al4⟩ := head_drop k1
    rw [lt] at al4
    have n5 : (cs told).drop (a + 5) ≠ [] ↔ a + 5 < told.length := by
      rw [← List.length_pos_iff, List.length_drop, lt]
      omega
    by_cases k2 : a + 5 < told.length
    rotate_left
    · refine iteTe (decide_eq_true (by omega)) (qf ?_ H s0)
      rw [if_neg fun z => k2 (n5.mp z.2.1)]
    refine iteFe (decide_eq_false (by omega)) ?_
    refine ⟨_, rfl, _, rfl, _, _, rfl, rfl, told, a + 5, congrArg (fun z => [V.str told, V.int z]) (show ((a : Nat) : Int) + ((4 : Nat) : Int) + 1 = ((a + 5 : Nat) : Int) by omega), k2, l1000, ?_⟩
    have tl5 := tok_len ((cs told).drop (a + 5))
    rw [List.length_drop, lt] at tl5
    refine ⟨_, rfl, _, _, rfl, rfl, _, rfl, _, rfl, by rw [len_sOf]; exact Nat.le_of_lt (small1000 (by omega)), _, _, rfl, rfl, ?_⟩
    have eL : ((a : Nat) : Int) + ((4 : Nat) : Int) + 1 + (((sOf (tok ((cs told).drop (a + 5)))).length : Nat) : Int) = ((a + 5 + (tok ((cs told).drop (a + 5))).length : Nat) : Int) := by rw [len_sOf]; omega
    refine ⟨_, rfl, _, rfl, by rw [len_sOf]; omega, fun H1 s1 => ⟨_, rfl, ?_⟩⟩
    cases k3 : wordOk (sOf (tok ((cs told).drop (a + 5)))) with
    | false =>
      refine iteT (iteT (qf ?_ H1 s1))
      rw [if_neg fun z => by rw [z.2.2.1] at k3; cases k3]
    | true =>
      refine iteF ⟨_, rfl, _, rfl, _, rfl, _, rfl, _, _, rfl, rfl, _, rfl, _, rfl, sz, rfl, _, rfl, ?_⟩
      rw [eL, cut1 (c := 32) (by omega) cs_sp]
      by_cases k4 : ((cs told).drop (a + 5 + (tok ((cs told).drop (a + 5))).length)).head? = some 32
      rotate_left
      · refine iteTe (by rw [decide_eq_false k4]; rfl) (qf ?_ H1 s1)
        rw [if_neg fun z => k4 z.2.2.2]
      refine iteFe (by rw [decide_eq_true k4]; rfl) ?_
      obtain ⟨eh2, al5⟩ := head_drop k4
      rw [lt] at al5
      rw [if_pos ⟨k1, n5.mpr k2, k3, k4⟩] at qs qf
      have me2 : ME ((cs told).drop (a + 5 + (tok ((cs told).drop (a + 5))).length + 1)) + 2 ≤ 2 * n := by
        have x1 := ME_drop ((cs told).drop a) 4
        rw [List.drop_drop, eh, ME_cons32, show a + 4 + 1 = a + 5 from rfl] at x1
        have x2 := ME_drop ((cs told).drop (a + 5)) (tok ((cs told).drop (a + 5))).length
        rw [List.drop_drop, eh2, ME_cons32] at x2
        omega
      refine ⟨_, rfl, _, rfl, _, _, rfl, rfl, _, rfl, _, _, rfl, rfl, n - 1, by omega, told, a + 5 + (tok ((cs told).drop (a + 5))).length + 1, d + 1, N, congrArg (fun z => [V.str told, V.int z, V.int ((d : Int) + 1)]) (show ((a : Nat) : Int) + ((4 : Nat) : Int) + 1 + (((sOf (tok ((cs told).drop (a + 5)))).length : Nat) : Int) + 1 = ((a + 5 + (tok ((cs told).drop (a + 5))).length + 1 : Nat) : Int) by omega), by omega, l1000, by omega, by rw [List.length_drop, lt]; omega, fun H2 p v t b e bl s2 hp tv => ?_, fun e H2 s2 => ?_⟩
      rotate_left
      · rw [e] at qf
        exact ⟨_, rfl, rfl, _, rfl, iteTe (decide_eq_true rfl) (qf rfl H2 (s1.trans s2))⟩
      rw [e] at qs
      refine ⟨_, rfl, rfl, _, rfl, iteFe (decide_eq_false fun z => nomatch z) ?_⟩
      refine ⟨_, rfl, _, rfl, p, _, _, _, rfl, rfl, SqT.of hp, atI_nat (j := 0) rfl, (by show 3 ≤ sizeLine; decide), fun p3 hp3 => ?_⟩
      have g3 := same_new hp3 (.tup [.str "some", .str (sOf (tok ((cs told).drop (a + 5)))), v])
      refine ⟨_, rfl, p, _, _, _, rfl, rfl, SqT.of (g3 _ _ hp), atI_nat (j := 1) rfl, (by show 2 ≤ sizeLine; decide), fun p2 hp2 => ?_⟩
      have g2 := same_new hp2 (.tup [.ref p3, .int (b : Nat)])
      refine qs _ p2 (.ref p3) _ b rfl bl (((s1.trans s2).trans g3).trans g2) upd_same ?_
      rw [TAt]
      exact ⟨p3, v, rfl, g2 _ _ upd_same, (tv.t (Same.t g3)).t (Same.t g2), by rw [len_sOf]; omega⟩
  · refine iteTe (by rw [decide_eq_false fun z => c4 ((sOf_eq.mp z).trans cs_someL)]; rfl) ?_
    rw [dItem_atom hgo c3 c4, List.drop_drop] at qs qf
    by_cases c5 : sOf (tok ((cs told).drop a)) = "all" ∨ sOf (tok ((cs told).drop a)) = "none" ∨ wordOk (sOf (tok ((cs told).drop a))) = true
    · rw [if_pos c5] at qs
      have fin : ∀ H1, Same H H1 → ∀ p, H1 p = none → Q (.ref p) (upd H1 p (.tup [.str (sOf (tok ((cs told).drop a))), .int ((a : Int) + ((sOf (tok ((cs told).drop a))).length : Int))])) := fun H1 s1 p hp => by
        have s2 := same_new hp (.tup [.str (sOf (tok ((cs told).drop a))), .int ((a : Int) + ((sOf (tok ((cs told).drop a))).length : Int))])
        refine qs _ p _ _ (a + (tok ((cs told).drop a)).length) rfl (by omega) (s1.trans s2) (by rw [upd_same, len_sOf]; rfl) ?_
        rw [TAt]
        exact ⟨rfl, by rw [len_sOf]; omega⟩
      refine ⟨_, rfl, (by show 2 ≤ sizeLine; decide), fun t ht => ⟨_, t, twoW, rfl, rfl, .inr (SqT.of upd_same), _, rfl, ?_⟩⟩
      have s1 := same_new ht (.tup [V.str "all", V.str "none"])
      by_cases c6 : sOf (tok ((cs told).drop a)) ∈ twoW
      · exact iteTe (decide_eq_true c6) (iteT ⟨_, rfl, _, rfl, (by show 2 ≤ sizeLine; decide), fun p hp => fin _ s1 p hp⟩)
      · refine iteFe (decide_eq_false c6) ⟨_, rfl, _, rfl, by rw [len_sOf]; omega, fun H2 s2 => ⟨_, rfl, ?_⟩⟩
        have : wordOk (sOf (tok ((cs told).drop a))) = true := by
          rcases c5 with z | z | z
          · exact (c6 (by rw [z]; simp [twoW])).elim
          · exact (c6 (by rw [z]; simp [twoW])).elim
          · exact z
        exact iteTe this ⟨_, rfl, _, rfl, (by show 2 ≤ sizeLine; decide), fun p hp => fin _ (s1.trans s2) p hp⟩
    · rw [if_neg c5] at qf
      refine ⟨_, rfl, (by show 2 ≤ sizeLine; decide), fun t ht => ⟨_, t, twoW, rfl, rfl, .inr (SqT.of upd_same), _, rfl, ?_⟩⟩
      have s1 := same_new ht (.tup [V.str "all", V.str "none"])
      refine iteFe (decide_eq_false fun z => c5 ?_) ⟨_, rfl, _, rfl, by rw [len_sOf]; omega, fun H2 s2 => ⟨_, rfl, ?_⟩⟩
      · simp only [twoW, List.mem_cons, List.not_mem_nil, or_false] at z
        rcases z with z | z
        · exact .inl z
        · exact .inr (.inl z)
      · exact iteFe (Bool.eq_false_iff.mpr fun z => c5 (.inr (.inr z))) (qf rfl H2 (s1.trans s2))
end
end K1
namespace K1
open PySem L2
theorem exT_law {r : Str} {t : T} : "some " ++ r ++ " " ++ sP t = sT (.ex r t) := by
  rw [← exT_is]
  refine str_ext ?_
  rw [cs_app, cs_app, cs_app, cs_app, cs_app, cs_app, cs_app, cs_empty]
  rfl
theorem paren_law {t : T} (h : isAndT t = true) : "(" ++ sT t ++ ")" = sP t := by
  rw [← parenT h]
  refine str_ext ?_
  rw [cs_app, cs_app, cs_app, cs_app, cs_app, cs_empty]
  rfl
theorem ix_tupK {X : Cx} {K : PySem.W.Frag} (h : X.K = K) : IxR X (rIxT K) := by subst h; exact ix_tup
theorem call_isiK {X : Cx} {K : PySem.W.Frag} (h : X.K = K) : CallR X (.builtin "isinstance") (rIsi K) := by subst h; exact call_isi
section
variable {P : Program} {w : World} {K : PySem.W.Frag} {mg : Str → Option Value} {base : Heap}
/-! ### _law_due -/
def spDue : Sp := fun vs H Q _ => ∃ told : Str, vs = [.str told] ∧ told.length ≤ 1000 ∧ ME (cs told) ≤ 224 ∧ sp (cs told) ≤ 112 ∧
  (∀ H' u t, IsTx (cs told) t → Same H H' → TAt H' t u → Q u H') ∧ ((∀ t, ¬ IsTx (cs told) t) → ∀ H', Same H H' → Q .non H')
theorem ok_ldue (D : Defs K mg) : FnOk P w K mg base CX0 116 D.d_law_due.f D.d_law_due.fd ["told"] spDue := by
  have G := ok_lwhole (P := P) (w := w) (base := base) D 112 (ok_litem D 112)
  refine D.d_law_due.F.ok sc_law_due (fun vs H Q E h => ?_) (fun cdv A outer s H vs Q E hr h => ?_)
  · obtain ⟨told, rfl, _⟩ := h
    rfl
  obtain ⟨told, rfl, l1000, me, hs, qs, qf⟩ := h
  refine ⟨_, (pss_cons (ps_set (i := 1) sc_law_due.nd rfl (Or.inl rfl) (pe_call G hr rfl D.d_law_whole.m D.d_law_whole.F.kp D.d_law_whole.b .nil pass0 (pa_cons (pv 0) (pa_cons pe_int (pa_cons pe_int pa_nil)))))
      (pss_one (ps_ret (pe_ifExp (PW.pt (pw_and (pt_cmpR op_notN (pv 1) pe_non (nomark _)) (pw_and1 (pt_cmpR op_eq (pe_ix ix_tup (pv 1) pe_int (fun _ _ => rfl)) (pe_callB call_len_str (by rfl) D.z_len (by decide +kernel) (pa_cons (pv 0) pa_nil)) (nomark _))))) (pe_ix ix_tup (pv 1) pe_int (fun _ _ => rfl)) pe_non)))), ?_⟩
  have lt : (cs told).length = told.length := rfl
  have sz : told.length ≤ sizeLine := Nat.le_of_lt (small1000 l1000)
  have iff := due_iff (u := cs told) (n := 2 * told.length + 2) (by rw [lt]; exact Nat.le_refl _) hs
  refine ⟨_, rfl, told, 0, 0, 2 * told.length + 2, rfl, Nat.zero_le _, l1000, by rw [List.drop_zero]; omega, by rw [List.drop_zero, lt]; exact Nat.le_refl _, fun H' p v t b e bl s' hp tv => ?_, fun e H' s' => ?_⟩
  · rw [List.drop_zero] at e
    refine ⟨_, rfl, rfl, _, rfl, iteTe (by simp) ⟨_, rfl, p, _, _, _, rfl, rfl, SqT.of hp, atI_nat (j := 1) rfl, _, rfl, _, rfl, sz, rfl, _, rfl, ?_⟩⟩
    by_cases c : b = told.length
    · subst c
      have ed : (cs told).drop told.length = [] := List.drop_eq_nil_of_le (Nat.le_of_eq lt)
      rw [ed] at e
      exact iteTe (decide_eq_true rfl) ⟨_, rfl, p, _, _, _, rfl, rfl, SqT.of hp, atI_nat (j := 0) rfl, qs H' v t ((iff t).mp e) s' tv⟩
    · refine iteFe (decide_eq_false fun z => c (by have := V.int.inj z; omega)) (qf (fun t' it => ?_) H' s')
      have e2 := (iff t').mpr it
      rw [e] at e2
      have ed : (cs told).drop b = [] := (Prod.mk.inj (Option.some.inj e2)).2
      have := congrArg List.length ed
      rw [List.length_drop, lt, List.length_nil] at this
      omega
  · rw [List.drop_zero] at e
    refine ⟨_, rfl, rfl, _, rfl, iteFe (by simp) (iteF (qf (fun t' it => ?_) H' s'))⟩
    have e2 := (iff t').mpr it
    rw [e] at e2
    cases e2
/-! ### _law_text -/
def spLText : Nat → Sp
  | 0 => fun _ _ _ _ => False
  | n + 1 => fun vs H Q _ => ∃ v t, vs = [v] ∧ TAt H t v ∧ CW t ∧ ns t ≤ n ∧ (tx t).length ≤ 1000 ∧ ∀ H', Same H H' → Q (.str (sT t)) H'
theorem ok_ltext (D : Defs K mg) : ∀ n, FnOk P w K mg base CX0 (n + 1) D.d_law_text.f D.d_law_text.fd ["concept"] (spLText n)
  | 0 => none_left fun _ _ _ _ h => h
  | n + 1 => by
    have G := ok_ltext D n
    refine D.d_law_text.F.ok sc_law_text (fun vs H Q E h => ?_) (fun cdv A outer s H vs Q E hr h => ?_)
    · obtain ⟨v, c, rfl, _⟩ := h
      rfl
    obtain ⟨v, c, rfl, hc, hw, hn, hl, q⟩ := h
    refine ⟨_, (pss_cons (ps_if (pt_val (pe_callB call_isi (by rfl) D.z_isinstance (by decide +kernel) (pa_cons (pv 0) (pa_cons (pe_bltn (v := .ty "str") (by rfl) D.z_str (by decide +kernel) rfl) pa_nil)))) (pss_one (ps_ret (pv 0))) pss_nil)
      (pss_cons (ps_setLc (i := 1) (own := [("part", 2)]) (g := gName 2) rfl sc_law_text.nd rfl rfl (sw_true rfl rfl rfl (by decide +kernel)) (pi_tup (pe_slice sl_tup (pv 0) (po_some (pe_ifExp (pt_cmpR op_eq (pe_ix ix_tup (pv 0) pe_int (fun _ _ => rfl)) pe_str (nomark _)) pe_int pe_int)) po_none)) (blkOk_by (N := ["concept", "some", "part"]) (sc := defScope s_law_text) (by decide +kernel)) (fun _ _ _ _ _ => pg_name (i := 2) sc_law_text.nd rfl (Or.inl rfl)) (fun _ _ _ _ _ => pts_nil) (fun _ _ _ _ _ => (pe_ifExp (PW.pt (pw_and (pt_val (pe_callB (call_isiK (K := K) rfl) (by rfl) D.z_isinstance (by decide +kernel) (pa_cons (pv 2) (pa_cons (pe_bltn (v := .ty "tuple") (by rfl) D.z_tuple (by decide +kernel) rfl) pa_nil)))) (pw_and1 (pt_cmpR op_eq (pe_ix (ix_tupK (K := K) rfl) (pv 2) pe_int (fun _ _ => rfl)) pe_str (nomark _))))) (pe_op op_add_str (pe_op op_add_str pe_str (pe_call G hr rfl D.d_law_text.m D.d_law_text.F.kp D.d_law_text.b .nil pass0 (pa_cons (pv 2) pa_nil))) pe_str) (pe_call G hr rfl D.d_law_text.m D.d_law_text.F.kp D.d_law_text.b .nil pass0 (pa_cons (pv 2) pa_nil)))))
      (pss_one (ps_ret (pe_ifExp (pt_cmpR op_eq (pe_ix ix_tup (pv 0) pe_int (fun _ _ => rfl)) pe_str (nomark _)) (pe_join pe_str (pv 1)) (pe_op op_add_str (pe_op op_add_str (pe_op op_add_str pe_str (pe_ix ix_tup (pv 0) pe_int (fun _ _ => rfl))) pe_str) (pe_ix ix_list (pv 1) pe_int (fun _ _ => rfl)))))))), ?_⟩
    obtain ⟨t, ty, kt⟩ := pl_str (K := K) hc.pl
    refine ⟨_, rfl, _, _, _, _, _, rfl, .ty _, ty, kt, _, rfl, ?_⟩
    have sl1 : ∀ (x : V) (xs : List V), cutV (x :: xs) (some 1) none = xs := fun x xs => by simp [cutV, HT.sIx]
    have sl2 : ∀ (x y : V) (xs : List V), cutV (x :: y :: xs) (some 2) none = xs := fun x y xs => by simp [cutV, HT.sIx]
    -- the pieces, one by one
    have each : ∀ k ∈ kidsT c, ns k + 1 ≤ ns c ∧ (tx k).length ≤ 1000 ∧ CW k ∧ (pr k).length ≤ 1000 := fun k kin => by
      have kl := kid_len kin
      have kn := ns_kids kin
      have ktl := tx_len_pr k
      exact ⟨kn, by omega, cw_kids hw kin, by omega⟩
    have many : (kidsT c).length ≤ 2000 := by
      have h1 := nd_len hw
      have h2 := nd_kids c
      have h3 := len_nds (kidsT c)
      omega
    cases c with
    | atom s =>
      rw [TAt] at hc
      obtain ⟨rfl, hs⟩ := hc
      have z := q H (Same.refl H)
      rw [sT_atom] at z
      exact iteT ⟨_, rfl, z⟩
    | ex r c =>
      have hc' := hc
      rw [TAt] at hc'
      obtain ⟨a, u, rfl, ha, hu, hrl⟩ := hc'
      have hks : Paired (TAt H) (kidsT (.ex r c)) [u] := .cons hu .nil
      refine iteF ⟨_, rfl, _, rfl, a, _, _, _, rfl, rfl, SqT.of ha, atI_nat (j := 0) rfl, rfl, _, rfl, ?_⟩
      rw [decide_eq_false (show ¬ V.str ("some" : Str) = V.str "and" from fun z => absurd (V.str.inj z) (by decide +kernel))]
      refine iteF ⟨_, rfl, a, _, rfl, SqT.of ha, (by rintro ⟨z, _⟩; simp [HT.sIx] at z), fun p hp => ⟨p, rfl, ⟨_, SqT.of upd_same⟩, fun D0 hD => ?_⟩⟩
      rw [sl2] at *
      have gp := same_new hp (.tup [u])
      have pD : p ≠ D0 := ne_of_none upd_same hD
      have hD0 : H D0 = none := none_sameT gp hD
      refine lc_tup (K := K) (a := p) (xs := [u]) (fun i H4 => But [D0] (upd (upd H p (.tup [u])) D0 (.lst [])) H4 ∧ H4 D0 = some (.lst (((kidsT (.ex r c)).take i).map fun k => V.str (sP k))))
        ⟨But.refl _, upd_same⟩ (fun i H4 _ hh => SqT.of (hh.1 _ _ (by simpa using pD) (by rw [upd_ne pD]; exact upd_same))) ?_ ?_
      · rintro i x H4 hi ⟨b4, h4⟩
        obtain ⟨k, hk1, hk2⟩ := paired_get hks hi
        obtain ⟨e1, e2, e3, e4⟩ := each k (List.mem_of_getElem? hk1)
        have s4 : Same H H4 := (((But.of (gp.trans (same_new hD _))).trans b4).drop hD0).nil
        have hx4 := hk2.same s4
        have len : (((kidsT (.ex r c)).take i).map fun k => V.str (sP k)).length < sizeLine := small4 (by
          have il : i < (kidsT (.ex r c)).length := (List.getElem?_eq_some_iff.mp hk1).1
          rw [List.length_map, List.length_take]
          omega)
        have fin : ∀ H5, Same H4 H5 → ∃ acc, H5 D0 = some (.lst acc) ∧ acc.length < sizeLine ∧ (But [D0] (upd (upd H p (.tup [u])) D0 (.lst [])) (upd H5 D0 (.lst (acc ++ [V.str (sP k)]))) ∧ (upd H5 D0 (.lst (acc ++ [V.str (sP k)]))) D0 = some (.lst (((kidsT (.ex r c)).take (i + 1)).map fun k => V.str (sP k)))) := fun H5 s5 =>
          ⟨_, s5 _ _ h4, len, (b4.trans (But.of s5)).trans (But.put (by simp)), by rw [upd_same, take_more hk1, List.map_append]; rfl⟩
        obtain ⟨ty2, hty2, kt2⟩ := pl_tup (K := K) hx4.pl
        cases n with
        | zero => omega
        | succ n =>
        refine ⟨rfl, _, rfl, _, _, _, _, _, rfl, .ty _, hty2, kt2, _, rfl, ?_⟩
        cases k with
        | atom s =>
          rw [TAt] at hx4
          obtain ⟨rfl, hs⟩ := hx4
          refine iteF (iteF ⟨_, rfl, _, .atom s, rfl, by rw [TAt]; exact ⟨rfl, hs⟩, e3, by omega, e2, fun H5 s5 => ?_⟩)
          have z := fin H5 s5
          rw [sP_eq rfl] at z
          exact z
        | ex r2 k2 =>
          have hx5 := hx4
          rw [TAt] at hx5
          obtain ⟨p2, u2, rfl, ha2, _⟩ := hx5
          rw [isTup_tup ha2]
          refine iteT ⟨_, rfl, p2, _, _, _, rfl, rfl, SqT.of ha2, atI_nat (j := 0) rfl, rfl, _, rfl, ?_⟩
          rw [decide_eq_false (show ¬ V.str ("some" : Str) = V.str "and" from fun z => absurd (V.str.inj z) (by decide +kernel))]
          refine iteF ⟨_, rfl, _, .ex r2 k2, rfl, hx4, e3, by omega, e2, fun H5 s5 => ?_⟩
          have z := fin H5 s5
          rw [sP_eq rfl] at z
          exact z
        | and l2 =>
          have hx5 := hx4
          rw [TAt] at hx5
          obtain ⟨p2, us2, rfl, ha2, _⟩ := hx5
          have el : (pr (.and l2)).length = (tx (.and l2)).length + 2 := by unfold pr wrap; simp [isAndT]
          rw [isTup_tup ha2]
          refine iteT ⟨_, rfl, p2, _, _, _, rfl, rfl, SqT.of ha2, atI_nat (j := 0) rfl, rfl, _, rfl, ?_⟩
          rw [decide_eq_true rfl]
          refine iteT ⟨_, rfl, _, .and l2, rfl, hx4, e3, by omega, e2, fun H5 s5 => ⟨_, _, rfl, rfl, ?_, _, _, rfl, rfl, ?_, ?_⟩⟩
          · rw [len_sT]
            exact Nat.le_trans (Nat.add_le_add (show ("(" : Str).length ≤ 1 by decide +kernel) (show (tx (.and l2)).length ≤ 1000 by omega)) (by decide)
          · rw [len_app, len_sT]
            exact Nat.le_trans (Nat.add_le_add (Nat.add_le_add (show ("(" : Str).length ≤ 1 by decide +kernel) (show (tx (.and l2)).length ≤ 1000 by omega)) (show (")" : Str).length ≤ 1 by decide +kernel)) (by decide)
          rw [paren_law rfl]
          exact fin H5 s5
      · rintro H4 ⟨b4, h4⟩
        have s4 : Same H H4 := (((But.of (gp.trans (same_new hD _))).trans b4).drop hD0).nil
        have e : (kidsT (.ex r c)).take ([u]).length = kidsT (.ex r c) := by rw [← paired_len hks, List.take_length]
        rw [e] at h4
        have ha4 := s4 _ _ ha
        have l1 : (sP c).length ≤ 1000 := by rw [len_sP]; exact (each c (by simp [kidsT])).2.2.2
        have c5 : ("some " : Str).length = 5 := by decide +kernel
        have c1 : (" " : Str).length = 1 := by decide +kernel
        refine ⟨_, rfl, a, _, _, _, rfl, rfl, SqT.of ha4, atI_nat (j := 0) rfl, rfl, _, rfl, ?_⟩
        rw [decide_eq_false (show ¬ V.str ("some" : Str) = V.str "and" from fun z => absurd (V.str.inj z) (by decide +kernel))]
        refine iteF ⟨_, rfl, a, _, _, _, rfl, rfl, SqT.of ha4, atI_nat (j := 1) rfl, _, _, rfl, rfl, ?_, _, _, rfl, rfl, ?_, _, rfl, D0, _, _, _, rfl, rfl, SqL.of h4, atI_nat (j := 0) rfl, _, _, rfl, rfl, ?_, ?_⟩
        · rw [c5]; exact Nat.le_of_lt (small4 (by omega))
        · rw [len_app, c5, c1]; exact Nat.le_of_lt (small4 (by omega))
        · rw [len_app, len_app, c5, c1]; exact Nat.le_of_lt (small4 (by omega))
        rw [exT_law]
        exact q H4 s4
    | and ks =>
      have hc' := hc
      rw [TAt] at hc'
      obtain ⟨a, us, rfl, ha, hus⟩ := hc'
      have hks : Paired (TAt H) (kidsT (.and ks)) us := hus.pair
      refine iteF ⟨_, rfl, _, rfl, a, _, _, _, rfl, rfl, SqT.of ha, atI_nat (j := 0) rfl, rfl, _, rfl, ?_⟩
      rw [decide_eq_true rfl]
      refine iteT ⟨_, rfl, a, _, rfl, SqT.of ha, (by rintro ⟨z, _⟩; simp [HT.sIx] at z), fun p hp => ⟨p, rfl, ⟨_, SqT.of upd_same⟩, fun D0 hD => ?_⟩⟩
      rw [sl1] at *
      have gp := same_new hp (.tup us)
      have pD : p ≠ D0 := ne_of_none upd_same hD
      have hD0 : H D0 = none := none_sameT gp hD
      refine lc_tup (K := K) (a := p) (xs := us) (fun i H4 => But [D0] (upd (upd H p (.tup us)) D0 (.lst [])) H4 ∧ H4 D0 = some (.lst (((kidsT (.and ks)).take i).map fun k => V.str (sP k))))
        ⟨But.refl _, upd_same⟩ (fun i H4 _ hh => SqT.of (hh.1 _ _ (by simpa using pD) (by rw [upd_ne pD]; exact upd_same))) ?_ ?_
      · rintro i x H4 hi ⟨b4, h4⟩
        obtain ⟨k, hk1, hk2⟩ := paired_get hks hi
        obtain ⟨e1, e2, e3, e4⟩ := each k (List.mem_of_getElem? hk1)
        have s4 : Same H H4 := (((But.of (gp.trans (same_new hD _))).trans b4).drop hD0).nil
        have hx4 := hk2.same s4
        have len : (((kidsT (.and ks)).take i).map fun k => V.str (sP k)).length < sizeLine := small4 (by
          have il : i < (kidsT (.and ks)).length := (List.getElem?_eq_some_iff.mp hk1).1
          rw [List.length_map, List.length_take]
          omega)
        have fin : ∀ H5, Same H4 H5 → ∃ acc, H5 D0 = some (.lst acc) ∧ acc.length < sizeLine ∧ (But [D0] (upd (upd H p (.tup us)) D0 (.lst [])) (upd H5 D0 (.lst (acc ++ [V.str (sP k)]))) ∧ (upd H5 D0 (.lst (acc ++ [V.str (sP k)]))) D0 = some (.lst (((kidsT (.and ks)).take (i + 1)).map fun k => V.str (sP k)))) := fun H5 s5 =>
          ⟨_, s5 _ _ h4, len, (b4.trans (But.of s5)).trans (But.put (by simp)), by rw [upd_same, take_more hk1, List.map_append]; rfl⟩
        obtain ⟨ty2, hty2, kt2⟩ := pl_tup (K := K) hx4.pl
        cases n with
        | zero => omega
        | succ n =>
        refine ⟨rfl, _, rfl, _, _, _, _, _, rfl, .ty _, hty2, kt2, _, rfl, ?_⟩
        cases k with
        | atom s =>
          rw [TAt] at hx4
          obtain ⟨rfl, hs⟩ := hx4
          refine iteF (iteF ⟨_, rfl, _, .atom s, rfl, by rw [TAt]; exact ⟨rfl, hs⟩, e3, by omega, e2, fun H5 s5 => ?_⟩)
          have z := fin H5 s5
          rw [sP_eq rfl] at z
          exact z
        | ex r2 k2 =>
          have hx5 := hx4
          rw [TAt] at hx5
          obtain ⟨p2, u2, rfl, ha2, _⟩ := hx5
          rw [isTup_tup ha2]
          refine iteT ⟨_, rfl, p2, _, _, _, rfl, rfl, SqT.of ha2, atI_nat (j := 0) rfl, rfl, _, rfl, ?_⟩
          rw [decide_eq_false (show ¬ V.str ("some" : Str) = V.str "and" from fun z => absurd (V.str.inj z) (by decide +kernel))]
          refine iteF ⟨_, rfl, _, .ex r2 k2, rfl, hx4, e3, by omega, e2, fun H5 s5 => ?_⟩
          have z := fin H5 s5
          rw [sP_eq rfl] at z
          exact z
        | and l2 =>
          have hx5 := hx4
          rw [TAt] at hx5
          obtain ⟨p2, us2, rfl, ha2, _⟩ := hx5
          have el : (pr (.and l2)).length = (tx (.and l2)).length + 2 := by unfold pr wrap; simp [isAndT]
          rw [isTup_tup ha2]
          refine iteT ⟨_, rfl, p2, _, _, _, rfl, rfl, SqT.of ha2, atI_nat (j := 0) rfl, rfl, _, rfl, ?_⟩
          rw [decide_eq_true rfl]
          refine iteT ⟨_, rfl, _, .and l2, rfl, hx4, e3, by omega, e2, fun H5 s5 => ⟨_, _, rfl, rfl, ?_, _, _, rfl, rfl, ?_, ?_⟩⟩
          · rw [len_sT]
            exact Nat.le_trans (Nat.add_le_add (show ("(" : Str).length ≤ 1 by decide +kernel) (show (tx (.and l2)).length ≤ 1000 by omega)) (by decide)
          · rw [len_app, len_sT]
            exact Nat.le_trans (Nat.add_le_add (Nat.add_le_add (show ("(" : Str).length ≤ 1 by decide +kernel) (show (tx (.and l2)).length ≤ 1000 by omega)) (show (")" : Str).length ≤ 1 by decide +kernel)) (by decide)
          rw [paren_law rfl]
          exact fin H5 s5
      · rintro H4 ⟨b4, h4⟩
        have s4 : Same H H4 := (((But.of (gp.trans (same_new hD _))).trans b4).drop hD0).nil
        have e : (kidsT (.and ks)).take (us).length = kidsT (.and ks) := by rw [← paired_len hks, List.take_length]
        rw [e] at h4
        have ha4 := s4 _ _ ha
        have c3 : (" & " : Str).length = 3 := by decide +kernel
        have sum : (ks.map fun k => (sP k).length).sum + 3 * (ks.length - 1) = (tx (.and ks)).length := by
          have := join_sum (ks.map pr)
          rw [tx_and, ← this, List.length_map, List.map_map]
          congr 2
        refine ⟨_, rfl, a, _, _, _, rfl, rfl, SqT.of ha4, atI_nat (j := 0) rfl, rfl, _, rfl, ?_⟩
        rw [decide_eq_true rfl]
        refine iteT ⟨⟨_, rfl⟩, _, rfl, _, D0, ks.map sP, rfl, rfl, .inl (SqL.of (by rw [h4, List.map_map]; rfl)), ?_, ?_⟩
        · rw [List.map_map, List.length_map, c3]
          show (ks.map fun k => (sP k).length).sum + _ ≤ _
          exact Nat.le_of_lt (small4 (by omega))
        rw [joinT_is]
        exact q H4 s4
end
end K1
namespace K1
open PySem L2
/-! words as they are drawn -/
def oneS (c : Nat) : Str := ⟨#[c]⟩
theorem joinL_ones : ∀ l : List Nat, TL.joinL [] (l.map fun c => [c]) = l
  | [] => rfl
  | [c] => rfl
  | c :: e :: l => by
    have ih := joinL_ones (e :: l)
    show [c] ++ ([] ++ TL.joinL [] ((e :: l).map fun c => [c])) = c :: e :: l
    rw [ih]
    rfl
theorem join_ones (l : List Nat) : PySem.Txt.join "" (l.map oneS) = sOf l := str_ext (by
  rw [TL.join_eq]
  show TL.tl (Str.join "" (l.map oneS)) = _
  rw [TL.tl_join, cs_sOf]
  show TL.joinL (cs "") ((l.map oneS).map TL.tl) = l
  rw [show cs ("" : Str) = [] by decide +kernel, List.map_map]
  exact joinL_ones l)
theorem az : letters (cs ("abcdefghijklmnopqrstuvwxyz" : Str)) = true := by decide +kernel
theorem az_len : (cs ("abcdefghijklmnopqrstuvwxyz" : Str)).length = 26 := by decide +kernel
theorem sum_ones : ∀ l : List Nat, ((l.map oneS).map (·.length)).sum = l.length
  | [] => rfl
  | c :: l => by simp only [List.map_cons, List.sum_cons, sum_ones l, List.length_cons]; show 1 + l.length = l.length + 1; omega
theorem wordOk_of {l : List Nat} (h1 : 1 ≤ l.length) (h2 : l.length ≤ 12) (h3 : letters l = true) (h4 : sOf l ∉ noWords) : wordOk (sOf l) = true := by
  unfold wordOk
  rw [len_sOf, cs_sOf, decide_eq_true h1, decide_eq_true h2, decide_eq_false h4, h3]
  rfl
def owns : List Nat := [98, 99, 100, 102, 103, 104, 107]
theorem cs_owns : cs ("bcdfghk" : Str) = owns := by decide +kernel
theorem own_letter {c : Nat} (h : c ∈ owns) : (97 ≤ c ∧ c ≤ 122) ∧ c ≠ 97 ∧ c ≠ 110 ∧ c ≠ 115 ∧ c ≠ 108 ∧ c ≠ 101 := by
  simp only [owns, List.mem_cons, List.not_mem_nil, or_false] at h
  omega
theorem no_words {l : List Nat} (h : sOf l ∈ noWords) : l = [97, 108, 108] ∨ l = [110, 111, 110, 101] ∨ l = [115, 111, 109, 101] := by
  simp only [noWords, List.mem_cons, List.not_mem_nil, or_false] at h
  have e1 : cs ("all" : Str) = [97, 108, 108] := by decide +kernel
  have e2 : cs ("none" : Str) = [110, 111, 110, 101] := by decide +kernel
  have e3 : cs ("some" : Str) = [115, 111, 109, 101] := by decide +kernel
  rcases h with h | h | h
  · exact .inl (by rw [← e1, ← h, cs_sOf])
  · exact .inr (.inl (by rw [← e2, ← h, cs_sOf]))
  · exact .inr (.inr (by rw [← e3, ← h, cs_sOf]))
theorem own_front {c : Nat} {l : List Nat} (hc : c ∈ owns) (h1 : l.length ≤ 11) (h2 : letters l = true) : wordOk (oneS c ++ sOf l) = true := by
  have e : oneS c ++ sOf l = sOf (c :: l) := str_ext (by rw [cs_app, cs_sOf, cs_sOf]; rfl)
  obtain ⟨hl, n1, n2, n3, _⟩ := own_letter hc
  rw [e]
  refine wordOk_of (by simp) (by simp; omega) ?_ fun z => ?_
  · unfold letters at h2 ⊢
    rw [List.all_cons, h2, decide_eq_true hl.1, decide_eq_true hl.2]
    rfl
  · rcases no_words z with z | z | z <;> (cases z; omega)
theorem own_behind {c : Nat} {l : List Nat} (hc : c ∈ owns) (h1 : l.length ≤ 11) (h2 : letters l = true) : wordOk (sOf l ++ oneS c) = true := by
  have e : sOf l ++ oneS c = sOf (l ++ [c]) := str_ext (by rw [cs_app, cs_sOf, cs_sOf]; rfl)
  obtain ⟨hl, n1, n2, n3, n4, n5⟩ := own_letter hc
  rw [e]
  refine wordOk_of (by simp) (by simp; omega) ?_ fun z => ?_
  · rw [letters_snoc, h2, decide_eq_true hl.1, decide_eq_true hl.2]
    rfl
  · have z2 := no_words z
    have : (l ++ [c]).getLast? = some c := by simp
    rcases z2 with z | z | z <;> (rw [z] at this; simp at this; omega)
section
variable {P : Program} {w : World} {K : PySem.W.Frag} {mg : Str → Option Value} {base : Heap}
/-! ### _law_words -/
def spWords5 : Sp := fun vs H Q _ => ∃ d a : Addr, vs = [.ref d, .int 5] ∧ DrawAt H d a ∧ ∀ (H' : Hp) (l : Addr) (ws : List Str), ws.length = 5 → (∀ x ∈ ws, wordOk x = true) → But [d] H H' → DrawAt H' d a → H' l = some (.lst (ws.map V.str)) → H l = none → Q (.ref l) H'
theorem ok_words5 (D : Defs K mg) : FnOk P w K mg base CX0 5 D.d_law_words.f D.d_law_words.fd ["draw", "many"] spWords5 := by
  have GP := ok_pick (P := P) (w := w) (base := base) D
  have GX := ok_next (P := P) (w := w) (base := base) D
  refine D.d_law_words.F.ok sc_law_words (fun vs H Q E h => ?_) (fun cdv A outer s H vs Q E hr h => ?_)
  · obtain ⟨d, a, rfl, _⟩ := h
    rfl
  obtain ⟨d, a, rfl, hd, q⟩ := h
  have hr3 : Room 3 _ := hr.mono (by omega)
  refine ⟨_, (pss_cons (ps_asg (pe_tup (pa_cons pe_str (pa_cons (pe_cmpR op_eq (pe_call GX hr3 rfl D.d_law_next.m D.d_law_next.F.kp D.d_law_next.b .nil pass0 (pa_cons (pv 0) (pa_cons pe_int pa_nil))) pe_int (nomark _)) pa_nil))) (pg_tup rfl (pgs_cons (pg_name (i := 2) sc_law_words.nd rfl (Or.inr rfl)) (pgs_cons (pg_name (i := 3) sc_law_words.nd rfl (Or.inl rfl)) pgs_nil))))
      (pss_cons (ps_par (i := 4) (j := 5) rfl sc_law_words.nd rfl rfl (by decide) rfl rfl (pa_cons pe_str (pa_cons (pe_lst pa_nil) pa_nil)) (by rfl))
      (pss_cons (ps_for PassesOwn.never rfl (pi_range1 rfl D.z_range (pa_cons (pv 1) pa_nil)) (pg_name (i := 6) sc_law_words.nd rfl (Or.inl rfl)) (pss_cons (ps_if (PW.pt (pw_or (pt_cmpR op_eq (pv 6) pe_int (nomark _)) (pw_or1 (pt_cmpR op_gt (pe_call GX hr3 rfl D.d_law_next.m D.d_law_next.F.kp D.d_law_next.b .nil pass0 (pa_cons (pv 0) (pa_cons pe_int pa_nil))) pe_int (nomark _)))))
          (pss_one (ps_set (i := 4) sc_law_words.nd rfl (Or.inl rfl) (pe_join pe_str (pe_lc (own := [("at", 8)]) (g := gName 8) rfl sc_law_words.nd (pi_range1 rfl D.z_range (pa_cons (pe_call GP hr rfl D.d_law_pick.m D.d_law_pick.F.kp D.d_law_pick.b .nil pass0 (pa_cons (pv 0) (pa_cons (pe_lst (pa_cons pe_int (pa_cons pe_int (pa_cons pe_int (pa_cons pe_int (pa_cons pe_int pa_nil)))))) pa_nil))) pa_nil)) (blkOk_by (N := ["draw", "many", "letters", "front", "rest", "found", "turn", "own", "at"]) (sc := defScope s_law_words) (by decide +kernel)) (fun _ _ _ _ _ => pg_name (i := 8) sc_law_words.nd rfl (Or.inl rfl)) (fun _ _ _ _ _ => pts_nil) (fun _ _ _ _ _ => (pe_ix ix_str (pv 2) (pe_call GX hr3 rfl D.d_law_next.m D.d_law_next.F.kp D.d_law_next.b .nil pass0 (pa_cons (pv 0) (pa_cons pe_int pa_nil))) (fun _ _ => rfl))))))) pss_nil)
      (pss_cons (ps_set (i := 7) sc_law_words.nd rfl (Or.inl rfl) (pe_ix ix_str pe_str (pv 6) (fun _ _ => rfl)))
      (pss_one (ps_expr (pe_bm PySem.F.plainAttrs_list PySem.F.slot_list_append PySem.F.type_list_append mt_append (pv 5) (pa_cons (pe_ifExp (pt_val (pv 3)) (pe_op op_add_str (pv 7) (pv 4)) (pe_op op_add_str (pv 4) (pv 7))) pa_nil)))))))
      (pss_one (ps_ret (pv 5)))))), ?_⟩
  refine ⟨_, rfl, d, a, 2, rfl, (by decide), hd, fun H1 r1 b1 hd1 r0 r2 => ⟨rfl, (by show 2 ≤ sizeLine; decide), fun t ht => ⟨t, _, rfl, SqT.of upd_same, rfl, _, _, rfl, _, _, rfl, rfl, ?_⟩⟩⟩
  refine ⟨(by show 0 ≤ sizeLine; decide), fun L hL => ⟨_, _, rfl, ?_⟩⟩
  have g1 := same_new ht (.tup [V.str "abcdefghijklmnopqrstuvwxyz", V.bl (decide (V.int r1 = V.int 0))])
  have g2 := same_new hL (.lst [])
  obtain ⟨nld, nla⟩ := (hd1.same g1).new hL
  have hL1 : H1 L = none := none_sameT g1 hL
  have hL0 : H L = none := by
    cases z : H L with
    | none => rfl
    | some o => rw [b1 _ _ (by simpa using nld) z] at hL1; cases hL1
  generalize hH2 : upd (upd H1 t (.tup [V.str "abcdefghijklmnopqrstuvwxyz", V.bl (decide (V.int r1 = V.int 0))])) L (.lst []) = H2
  have b02 : But [d] H H2 := by rw [← hH2]; exact (b1.trans (But.of g1)).trans (But.of g2)
  have hd2 : DrawAt H2 d a := by rw [← hH2]; exact (hd1.same g1).same g2
  have hl2 : H2 L = some (.lst []) := by rw [← hH2]; exact upd_same
  refine ⟨_, rfl, 5, rfl, (by decide), (by decide), for_range (lo := 0) (n := (5 : Int).toNat) (fun i σ H3 => ∃ (o6 o7 : Option V) (rs : Str) (ws : List Str), σ = [some (.ref d), some (.int 5), some (.str "abcdefghijklmnopqrstuvwxyz"), some (.bl (decide (V.int r1 = V.int 0))), some (.str rs), some (.ref L), o6, o7, none] ∧ But [L, d] H2 H3 ∧ DrawAt H3 d a ∧ H3 L = some (.lst (ws.map V.str)) ∧ ws.length = i ∧ (∀ x ∈ ws, wordOk x = true) ∧ letters (cs rs) = true ∧ rs.length ≤ 11)
    ⟨none, none, "", [], rfl, But.refl _, hd2, hl2, rfl, (fun x hx => nomatch hx), by decide +kernel, by decide +kernel⟩ ?_ ?_⟩
  rotate_left
  · rintro σ H3 ⟨o6, o7, rs, ws, rfl, b3, hd3, hl3, lw, okw, _, _⟩
    refine ⟨_, rfl, ?_⟩
    have b23 : But [d] H H3 := ((b02.mono (by simp)).trans b3).drop hL0
    exact q H3 L ws lw okw b23 hd3 hl3 hL0
  rintro i σ HA hi ⟨o6, o7, rs, ws, rfl, bA, hdA, hlA, lw, okw, lr, nr⟩
  have i5 : i < 5 := hi
  obtain ⟨c, hcg, hc⟩ : ∃ c, owns[i]? = some c ∧ c ∈ owns := by
    have : i < owns.length := by show i < 7; omega
    exact ⟨owns[i], List.getElem?_eq_getElem this, List.getElem_mem this⟩
  have zc : atI (cs ("bcdfghk" : Str)) ((0 : Int) + (i : Int)) = some c := by rw [Int.zero_add, cs_owns]; exact atI_nat hcg
  have lenL : (ws.map V.str).length < sizeLine := by rw [List.length_map]; exact small1000 (by omega)
  refine ⟨_, rfl, rfl, _, rfl, ?_⟩
  refine ite2 (fun _ => iteT ?_) (fun _ => ?_)
  · clear hi
    refine ⟨⟨_, rfl⟩, _, rfl, (by show 5 ≤ sizeLine; decide), fun p hp => ?_⟩
    have hdB := hdA.same (same_new hp (.lst [.int 0, .int 0, .int 1, .int 2, .int 11]))
    have hlB := same_new hp (.lst [.int 0, .int 0, .int 1, .int 2, .int 11]) _ _ hlA
    have pL : p ≠ L := fun z => by rw [z, hlA] at hp; cases hp
    refine ⟨d, a, p, _, rfl, hdB, upd_same, (hdA.new hp).1, (by show 0 < 5; decide), fun HC x hx bC hdC => ?_⟩
    obtain ⟨m, rfl, m1, m2⟩ : ∃ m : Int, x = .int m ∧ 0 ≤ m ∧ m ≤ 11 := by
      simp only [List.mem_cons, List.not_mem_nil, or_false] at hx
      rcases hx with rfl | rfl | rfl | rfl | rfl <;> exact ⟨_, rfl, by decide, by decide⟩
    have hlC := bC _ _ (by simpa using nld) hlB
    have bAC : But [L, d] H2 HC := (bA.trans (But.new hp)).trans (bC.mono (by simp))
    refine ⟨m, rfl, (by show -(2 ^ 62) ≤ m; omega), (by show m < 2 ^ 62; omega), fun D0 hD => ?_⟩
    obtain ⟨hDd, hDa⟩ := hdC.new hD
    have DL : D0 ≠ L := fun z => by rw [z, hlC] at hD; cases hD
    refine lc_range (lo := 0) (n := m.toNat) (fun i H4 => But [D0, d] HC H4 ∧ DrawAt H4 d a ∧ ∃ l : List Nat, H4 D0 = some (.lst ((l.map oneS).map V.str)) ∧ l.length = i ∧ letters l = true)
      ⟨But.new hD, hdC.same (same_new hD _), [], upd_same, rfl, rfl⟩ ?_ ?_
    · rintro i H4 hi ⟨b4, hd4, l, hl, li, ll⟩
      refine ⟨rfl, _, rfl, _, rfl, d, a, 26, rfl, (by decide), hd4, fun H5 r b5 hd5 r0 r26 => ?_⟩
      have hr2 : r.toNat < (cs ("abcdefghijklmnopqrstuvwxyz" : Str)).length := by rw [az_len]; omega
      have er : r = ((r.toNat : Nat) : Int) := by omega
      have z : atI (cs ("abcdefghijklmnopqrstuvwxyz" : Str)) ((r.toNat : Nat) : Int) = some (cs ("abcdefghijklmnopqrstuvwxyz" : Str))[r.toNat] := atI_nat (by rw [List.getElem?_eq_getElem hr2])
      rw [← er] at z
      have hl5 := b5 _ _ (by simpa using hDd) hl
      have gl := letters_get az (List.getElem?_eq_getElem hr2)
      refine ⟨_, r, _, rfl, rfl, (by decide +kernel), z, _, hl5, ?_, ((b4.trans (b5.mono (by simp))).trans (But.put (by simp))), hd5.upd hDd hDa, l ++ [(cs ("abcdefghijklmnopqrstuvwxyz" : Str))[r.toNat]], ?_, ?_, ?_⟩
      · rw [List.length_map, List.length_map]
        exact small1000 (by omega)
      · rw [upd_same, List.map_append, List.map_append]
        rfl
      · rw [List.length_append, li]
        rfl
      · rw [letters_snoc, ll, decide_eq_true gl.1, decide_eq_true gl.2]
        rfl
    · rintro H4 ⟨b4', hd4, l, hl, li, ll⟩
      refine ⟨_, D0, l.map oneS, rfl, rfl, .inl (SqL.of hl), ?_, ?_⟩
      · rw [sum_ones, List.length_map]
        rw [show ("" : Str).length = 0 from rfl]
        omega
      rw [join_ones]
      have b4 : But [L, d] H2 H4 := bAC.trans ((b4'.drop hD).mono (by simp))
      have hl4 : H4 L = some (.lst (ws.map V.str)) := b4' _ _ (by simp only [List.mem_cons, List.not_mem_nil, or_false]; rintro (z | z); exact DL z.symm; exact nld z) hlC
      obtain ⟨rs4, hrs4⟩ : ∃ r, r = sOf l := ⟨_, rfl⟩
      have l4 : letters (cs rs4) = true := by rw [hrs4, cs_sOf]; exact ll
      have n4 : rs4.length ≤ 11 := by rw [hrs4, len_sOf]; omega
      rw [← hrs4]
      have nld4 : L ≠ d := nld
      refine ⟨_, rfl, _, _, _, rfl, rfl, (by decide +kernel), zc, ?_⟩
      refine ⟨_, rfl, .inl ⟨rfl, _, SqL.of hl4⟩, _, rfl, _, rfl, ite2 (fun _ => ⟨_, rfl, _, rfl, _, _, rfl, rfl, Nat.le_of_lt (small1000 (by show 1 + rs4.length ≤ 1000; omega)), L, _, _, rfl, rfl, hl4, lenL, ?_⟩) (fun _ => ⟨_, rfl, _, rfl, _, _, rfl, rfl, Nat.le_of_lt (small1000 (by show rs4.length + 1 ≤ 1000; omega)), L, _, _, rfl, rfl, hl4, lenL, ?_⟩)⟩
      · refine ⟨_, _, rs4, ws ++ [oneS c ++ rs4], rfl, b4.trans (But.put (by simp)), hd4.upd nld nla, by rw [upd_same, List.map_append]; rfl, by rw [List.length_append]; show ws.length + 1 = i + 1; omega, fun x hx => ?_, l4, n4⟩
        rcases List.mem_append.mp hx with z | z
        · exact okw x z
        · rw [List.mem_singleton.mp z]
          have := own_front hc (l := cs rs4) n4 l4
          rwa [sOf_cs] at this
      · refine ⟨_, _, rs4, ws ++ [rs4 ++ oneS c], rfl, b4.trans (But.put (by simp)), hd4.upd nld nla, by rw [upd_same, List.map_append]; rfl, by rw [List.length_append]; show ws.length + 1 = i + 1; omega, fun x hx => ?_, l4, n4⟩
        rcases List.mem_append.mp hx with z | z
        · exact okw x z
        · rw [List.mem_singleton.mp z]
          have := own_behind hc (l := cs rs4) n4 l4
          rwa [sOf_cs] at this
  · refine ⟨_, rfl, d, a, 3, rfl, (by decide), hdA, fun HB r3 bB hdB' r30 r33 => ⟨_, _, rfl, rfl, _, rfl, ite2 (fun _ => ?_) (fun _ => ?_)⟩⟩
    · replace bA := bA.trans (bB.mono (D' := [L, d]) (by simp))
      replace hlA := bB _ _ (by simpa using nld) hlA
      replace hdA := hdB'
      clear hi hdB'
      refine ⟨⟨_, rfl⟩, _, rfl, (by show 5 ≤ sizeLine; decide), fun p hp => ?_⟩
      have hdB := hdA.same (same_new hp (.lst [.int 0, .int 0, .int 1, .int 2, .int 11]))
      have hlB := same_new hp (.lst [.int 0, .int 0, .int 1, .int 2, .int 11]) _ _ hlA
      have pL : p ≠ L := fun z => by rw [z, hlA] at hp; cases hp
      refine ⟨d, a, p, _, rfl, hdB, upd_same, (hdA.new hp).1, (by show 0 < 5; decide), fun HC x hx bC hdC => ?_⟩
      obtain ⟨m, rfl, m1, m2⟩ : ∃ m : Int, x = .int m ∧ 0 ≤ m ∧ m ≤ 11 := by
        simp only [List.mem_cons, List.not_mem_nil, or_false] at hx
        rcases hx with rfl | rfl | rfl | rfl | rfl <;> exact ⟨_, rfl, by decide, by decide⟩
      have hlC := bC _ _ (by simpa using nld) hlB
      have bAC : But [L, d] H2 HC := (bA.trans (But.new hp)).trans (bC.mono (by simp))
      refine ⟨m, rfl, (by show -(2 ^ 62) ≤ m; omega), (by show m < 2 ^ 62; omega), fun D0 hD => ?_⟩
      obtain ⟨hDd, hDa⟩ := hdC.new hD
      have DL : D0 ≠ L := fun z => by rw [z, hlC] at hD; cases hD
      refine lc_range (lo := 0) (n := m.toNat) (fun i H4 => But [D0, d] HC H4 ∧ DrawAt H4 d a ∧ ∃ l : List Nat, H4 D0 = some (.lst ((l.map oneS).map V.str)) ∧ l.length = i ∧ letters l = true)
        ⟨But.new hD, hdC.same (same_new hD _), [], upd_same, rfl, rfl⟩ ?_ ?_
      · rintro i H4 hi ⟨b4, hd4, l, hl, li, ll⟩
        refine ⟨rfl, _, rfl, _, rfl, d, a, 26, rfl, (by decide), hd4, fun H5 r b5 hd5 r0 r26 => ?_⟩
        have hr2 : r.toNat < (cs ("abcdefghijklmnopqrstuvwxyz" : Str)).length := by rw [az_len]; omega
        have er : r = ((r.toNat : Nat) : Int) := by omega
        have z : atI (cs ("abcdefghijklmnopqrstuvwxyz" : Str)) ((r.toNat : Nat) : Int) = some (cs ("abcdefghijklmnopqrstuvwxyz" : Str))[r.toNat] := atI_nat (by rw [List.getElem?_eq_getElem hr2])
        rw [← er] at z
        have hl5 := b5 _ _ (by simpa using hDd) hl
        have gl := letters_get az (List.getElem?_eq_getElem hr2)
        refine ⟨_, r, _, rfl, rfl, (by decide +kernel), z, _, hl5, ?_, ((b4.trans (b5.mono (by simp))).trans (But.put (by simp))), hd5.upd hDd hDa, l ++ [(cs ("abcdefghijklmnopqrstuvwxyz" : Str))[r.toNat]], ?_, ?_, ?_⟩
        · rw [List.length_map, List.length_map]
          exact small1000 (by omega)
        · rw [upd_same, List.map_append, List.map_append]
          rfl
        · rw [List.length_append, li]
          rfl
        · rw [letters_snoc, ll, decide_eq_true gl.1, decide_eq_true gl.2]
          rfl
      · rintro H4 ⟨b4', hd4, l, hl, li, ll⟩
        refine ⟨_, D0, l.map oneS, rfl, rfl, .inl (SqL.of hl), ?_, ?_⟩
        · rw [sum_ones, List.length_map]
          rw [show ("" : Str).length = 0 from rfl]
          omega
        rw [join_ones]
        have b4 : But [L, d] H2 H4 := bAC.trans ((b4'.drop hD).mono (by simp))
        have hl4 : H4 L = some (.lst (ws.map V.str)) := b4' _ _ (by simp only [List.mem_cons, List.not_mem_nil, or_false]; rintro (z | z); exact DL z.symm; exact nld z) hlC
        obtain ⟨rs4, hrs4⟩ : ∃ r, r = sOf l := ⟨_, rfl⟩
        have l4 : letters (cs rs4) = true := by rw [hrs4, cs_sOf]; exact ll
        have n4 : rs4.length ≤ 11 := by rw [hrs4, len_sOf]; omega
        rw [← hrs4]
        have nld4 : L ≠ d := nld
        refine ⟨_, rfl, _, _, _, rfl, rfl, (by decide +kernel), zc, ?_⟩
        refine ⟨_, rfl, .inl ⟨rfl, _, SqL.of hl4⟩, _, rfl, _, rfl, ite2 (fun _ => ⟨_, rfl, _, rfl, _, _, rfl, rfl, Nat.le_of_lt (small1000 (by show 1 + rs4.length ≤ 1000; omega)), L, _, _, rfl, rfl, hl4, lenL, ?_⟩) (fun _ => ⟨_, rfl, _, rfl, _, _, rfl, rfl, Nat.le_of_lt (small1000 (by show rs4.length + 1 ≤ 1000; omega)), L, _, _, rfl, rfl, hl4, lenL, ?_⟩)⟩
        · refine ⟨_, _, rs4, ws ++ [oneS c ++ rs4], rfl, b4.trans (But.put (by simp)), hd4.upd nld nla, by rw [upd_same, List.map_append]; rfl, by rw [List.length_append]; show ws.length + 1 = i + 1; omega, fun x hx => ?_, l4, n4⟩
          rcases List.mem_append.mp hx with z | z
          · exact okw x z
          · rw [List.mem_singleton.mp z]
            have := own_front hc (l := cs rs4) n4 l4
            rwa [sOf_cs] at this
        · refine ⟨_, _, rs4, ws ++ [rs4 ++ oneS c], rfl, b4.trans (But.put (by simp)), hd4.upd nld nla, by rw [upd_same, List.map_append]; rfl, by rw [List.length_append]; show ws.length + 1 = i + 1; omega, fun x hx => ?_, l4, n4⟩
          rcases List.mem_append.mp hx with z | z
          · exact okw x z
          · rw [List.mem_singleton.mp z]
            have := own_behind hc (l := cs rs4) n4 l4
            rwa [sOf_cs] at this
    · have b4 : But [L, d] H2 HB := bA.trans (bB.mono (by simp))
      have hl4 := bB _ _ (by simpa using nld) hlA
      have hd4 := hdB'
      obtain ⟨rs4, hrs4⟩ : ∃ r, r = rs := ⟨_, rfl⟩
      have l4 : letters (cs rs4) = true := by rw [hrs4]; exact lr
      have n4 : rs4.length ≤ 11 := by rw [hrs4]; exact nr
      rw [← hrs4]
      have nld4 : L ≠ d := nld
      refine ⟨_, rfl, _, _, _, rfl, rfl, (by decide +kernel), zc, ?_⟩
      refine ⟨_, rfl, .inl ⟨rfl, _, SqL.of hl4⟩, _, rfl, _, rfl, ite2 (fun _ => ⟨_, rfl, _, rfl, _, _, rfl, rfl, Nat.le_of_lt (small1000 (by show 1 + rs4.length ≤ 1000; omega)), L, _, _, rfl, rfl, hl4, lenL, ?_⟩) (fun _ => ⟨_, rfl, _, rfl, _, _, rfl, rfl, Nat.le_of_lt (small1000 (by show rs4.length + 1 ≤ 1000; omega)), L, _, _, rfl, rfl, hl4, lenL, ?_⟩)⟩
      · refine ⟨_, _, rs4, ws ++ [oneS c ++ rs4], rfl, b4.trans (But.put (by simp)), hd4.upd nld nla, by rw [upd_same, List.map_append]; rfl, by rw [List.length_append]; show ws.length + 1 = i + 1; omega, fun x hx => ?_, l4, n4⟩
        rcases List.mem_append.mp hx with z | z
        · exact okw x z
        · rw [List.mem_singleton.mp z]
          have := own_front hc (l := cs rs4) n4 l4
          rwa [sOf_cs] at this
      · refine ⟨_, _, rs4, ws ++ [rs4 ++ oneS c], rfl, b4.trans (But.put (by simp)), hd4.upd nld nla, by rw [upd_same, List.map_append]; rfl, by rw [List.length_append]; show ws.length + 1 = i + 1; omega, fun x hx => ?_, l4, n4⟩
        rcases List.mem_append.mp hx with z | z
        · exact okw x z
        · rw [List.mem_singleton.mp z]
          have := own_behind hc (l := cs rs4) n4 l4
          rwa [sOf_cs] at this
end
end K1
namespace K1
open PySem L2
/-! how long a drawn concept's text is, its parentheses and blanks -/
def cL : Nat → Nat
  | 0 => 12
  | m + 1 => 3 * cL m + 8
def cP : Nat → Nat
  | 0 => 0
  | m + 1 => 3 * cP m + 1
def cB : Nat → Nat
  | 0 => 0
  | m + 1 => 3 * cB m + 4
theorem cL_ge : ∀ m, 12 ≤ cL m
  | 0 => Nat.le_refl _
  | m + 1 => by have := cL_ge m; rw [cL]; omega
structure Bnd (a b c : Nat) (l : List Nat) : Prop where
  len : l.length ≤ a
  par : l.count 40 ≤ b
  bla : l.count 32 ≤ c
theorem wl_count {l : List Nat} (h : Wl l) : l.count 40 = 0 ∧ l.count 32 = 0 := by
  constructor
  · rw [List.count_eq_zero]; intro z; exact absurd (h.lo 40 z) (by decide)
  · rw [List.count_eq_zero]; intro z; exact absurd (h.lo 32 z) (by decide)
structure Drawn (m : Nat) (t : T) : Prop where
  cw : CW t
  ns : ns t ≤ m
  b : Bnd (cL m) (cP m) (cB m) (pr t)
theorem word_le {s : Str} (h : s = "all" ∨ wordOk s = true) : s.length ≤ 12 := by
  rcases h with rfl | h
  · decide +kernel
  · unfold wordOk at h
    simp only [Bool.and_eq_true, decide_eq_true_eq] at h
    omega
theorem drawn_atom {s : Str} (h : s = "all" ∨ wordOk s = true) (m : Nat) : Drawn m (.atom s) := by
  have h' : s = "all" ∨ s = "none" ∨ wordOk s = true := h.elim .inl fun z => .inr (.inr z)
  have e : pr (.atom s) = cs s := by rw [pr_not rfl, tx]
  obtain ⟨c1, c2⟩ := wl_count (atom_wl h').1
  refine ⟨h', by rw [K1.ns]; omega, ⟨?_, ?_, ?_⟩⟩
  · rw [e]; have := word_le h; have := cL_ge m; show s.length ≤ _; omega
  · rw [e, c1]; omega
  · rw [e, c2]; omega
theorem drawn_ex {r : Str} {t : T} {m : Nat} (hr : wordOk r = true) (h : Drawn m t) : Drawn (m + 1) (.ex r t) := by
  obtain ⟨c1, c2⟩ := wl_count (Wl.of_word hr).1
  have e : pr (.ex r t) = someL ++ (32 :: (cs r ++ (32 :: pr t))) := by rw [pr_not rfl, tx_ex]
  have hb := h.b
  refine ⟨by rw [CW]; exact ⟨hr, h.cw⟩, by rw [K1.ns]; have := h.ns; omega, ⟨?_, ?_, ?_⟩⟩
  · rw [e]
    have := hb.len
    have := cL_ge m
    have : (cs r).length ≤ 12 := word_le (.inr hr)
    simp only [List.length_append, List.length_cons, someL, List.length_nil, cL]
    omega
  · rw [e]
    have := hb.par
    simp only [List.count_append, List.count_cons, c1, cP]
    have : List.count 40 someL = 0 := by decide
    simp
    omega
  · rw [e]
    have := hb.bla
    simp only [List.count_append, List.count_cons, c2, cB]
    have : List.count 32 someL = 0 := by decide
    simp
    omega
theorem amp_counts : List.count 40 amp = 0 ∧ List.count 32 amp = 2 ∧ amp.length = 3 := by decide
theorem drawn_and {l : List T} {m : Nat} (h2 : l.length = 2 ∨ l.length = 3) (h : ∀ t ∈ l, Drawn m t) : Drawn (m + 1) (.and l) := by
  obtain ⟨a1, a2, a3⟩ := amp_counts
  refine ⟨?_, ?_, ?_⟩
  · rw [CW]; exact ⟨by omega, CWs_iff.mpr fun t ht => (h t ht).cw⟩
  · rw [K1.ns]; have := nss_bound (n := m) fun t ht => (h t ht).ns; omega
  have e : pr (.and l) = 40 :: (TL.joinL amp (l.map pr) ++ [41]) := by rw [pr_and, tx_and]
  rw [e]
  match l, h2, h with
  | [x, y], _, h =>
    have hx := (h x (by simp)).b
    have hy := (h y (by simp)).b
    have := hx.len; have := hx.par; have := hx.bla; have := hy.len; have := hy.par; have := hy.bla
    have := cL_ge m
    simp only [List.map_cons, List.map_nil, join_cons, join_one]
    refine ⟨?_, ?_, ?_⟩
    · simp only [List.length_append, List.length_cons, List.length_nil, a3, cL]; omega
    · simp only [List.count_append, List.count_cons, List.count_nil, a1, cP]; simp; omega
    · simp only [List.count_append, List.count_cons, List.count_nil, a2, cB]; simp; omega
  | [x, y, z], _, h =>
    have hx := (h x (by simp)).b
    have hy := (h y (by simp)).b
    have hz := (h z (by simp)).b
    have := hx.len; have := hx.par; have := hx.bla; have := hy.len; have := hy.par; have := hy.bla; have := hz.len; have := hz.par; have := hz.bla
    have := cL_ge m
    simp only [List.map_cons, List.map_nil, join_cons, join_one]
    refine ⟨?_, ?_, ?_⟩
    · simp only [List.length_append, List.length_cons, List.length_nil, a3, cL]; omega
    · simp only [List.count_append, List.count_cons, List.count_nil, a1, cP]; simp; omega
    · simp only [List.count_append, List.count_cons, List.count_nil, a2, cB]; simp; omega
theorem cL_mono {m n : Nat} (h : m ≤ n) : cL m ≤ cL n ∧ cP m ≤ cP n ∧ cB m ≤ cB n := by
  induction h with
  | refl => exact ⟨Nat.le_refl _, Nat.le_refl _, Nat.le_refl _⟩
  | step h ih => obtain ⟨a, b, c⟩ := ih; refine ⟨?_, ?_, ?_⟩ <;> simp only [cL, cP, cB] <;> omega
theorem Drawn.mono {m n : Nat} {t : T} (h : Drawn m t) (l : m ≤ n) : Drawn n t := by
  obtain ⟨a, b, c⟩ := cL_mono l
  exact ⟨h.cw, Nat.le_trans h.ns l, ⟨Nat.le_trans h.b.len a, Nat.le_trans h.b.par b, Nat.le_trans h.b.bla c⟩⟩
/-- what the law asks of: perhaps with none in it -/
structure Asked (t : T) : Prop where
  cw : CW t
  ns : ns t ≤ 4
  b : Bnd 435 13 54 (tx t)
theorem tx_count_pr (t : T) : (tx t).count 40 ≤ (pr t).count 40 ∧ (tx t).count 32 ≤ (pr t).count 32 := by
  unfold pr wrap
  split
  · simp
  · exact ⟨Nat.le_refl _, Nat.le_refl _⟩
theorem Asked.of {t : T} (h : Drawn 3 t) : Asked t := by
  have e : cL 3 = 428 ∧ cP 3 = 13 ∧ cB 3 = 52 := by decide
  have := tx_len_pr t
  obtain ⟨c1, c2⟩ := tx_count_pr t
  have := h.b.len; have := h.b.par; have := h.b.bla
  exact ⟨h.cw, by have := h.ns; omega, ⟨by omega, by omega, by omega⟩⟩
theorem none_pr : pr (.atom "none") = [110, 111, 110, 101] := by rw [pr_not rfl, tx]; decide +kernel
theorem Asked.none : Asked (.atom "none") := by
  have e : tx (.atom "none") = [110, 111, 110, 101] := by rw [tx]; decide +kernel
  refine ⟨by rw [CW]; exact .inr (.inl rfl), by rw [K1.ns]; omega, ?_⟩
  rw [e]
  exact ⟨by decide, by decide, by decide⟩
theorem Asked.pair {t : T} (h : Drawn 3 t) : Asked (.and [t, .atom "none"]) ∧ Asked (.and [.atom "none", t]) := by
  have e : cL 3 = 428 ∧ cP 3 = 13 ∧ cB 3 = 52 := by decide
  have := h.b.len; have := h.b.par; have := h.b.bla
  obtain ⟨a1, a2, a3⟩ := amp_counts
  have hn : CW (.atom "none") := by rw [CW]; exact .inr (.inl rfl)
  have n0 : K1.ns (.atom "none") = 0 := by rw [K1.ns]
  have hns := h.ns
  refine ⟨⟨?_, ?_, ?_⟩, ⟨?_, ?_, ?_⟩⟩
  · rw [CW, CWs, CWs, CWs]; exact ⟨by simp, h.cw, hn, trivial⟩
  · rw [K1.ns, nss, nss, nss, n0]; omega
  · rw [tx_and]
    simp only [List.map_cons, List.map_nil, join_cons, join_one, none_pr]
    refine ⟨?_, ?_, ?_⟩
    · simp only [List.length_append, List.length_cons, List.length_nil, a3]; omega
    · simp only [List.count_append, a1, show List.count 40 [110, 111, 110, 101] = 0 by decide]; omega
    · simp only [List.count_append, a2, show List.count 32 [110, 111, 110, 101] = 0 by decide]; omega
  · rw [CW, CWs, CWs, CWs]; exact ⟨by simp, hn, h.cw, trivial⟩
  · rw [K1.ns, nss, nss, nss, n0]; omega
  · rw [tx_and]
    simp only [List.map_cons, List.map_nil, join_cons, join_one, none_pr]
    refine ⟨?_, ?_, ?_⟩
    · simp only [List.length_append, List.length_cons, List.length_nil, a3]; omega
    · simp only [List.count_append, a1, show List.count 40 [110, 111, 110, 101] = 0 by decide]; omega
    · simp only [List.count_append, a2, show List.count 32 [110, 111, 110, 101] = 0 by decide]; omega
end K1
namespace K1
open PySem L2
/-- the names and the roles that are drawn -/
structure Alph (H : Hp) (d tn tr : Addr) (N R : List Str) : Prop where
  hn : H tn = some (.lst (N.map V.str))
  hr : H tr = some (.lst (R.map V.str))
  nd : tn ≠ d
  rd : tr ≠ d
  l3 : N.length = 3
  l2 : R.length = 2
  okN : ∀ x ∈ N, wordOk x = true
  okR : ∀ x ∈ R, wordOk x = true
theorem Alph.but {H H' : Hp} {d tn tr : Addr} {N R : List Str} (h : Alph H d tn tr N R) (b : But [d] H H') : Alph H' d tn tr N R :=
  { h with hn := b _ _ (by simpa using h.nd) h.hn, hr := b _ _ (by simpa using h.rd) h.hr }
theorem Alph.same {H H' : Hp} {d tn tr : Addr} {N R : List Str} (h : Alph H d tn tr N R) (b : Same H H') : Alph H' d tn tr N R := h.but (But.of b)
section
variable {P : Program} {w : World} {K : PySem.W.Frag} {mg : Str → Option Value} {base : Heap}
/-! ### _law_alphabet -/
def spAlpha : Sp := fun vs H Q _ => ∃ d a : Addr, vs = [.ref d] ∧ DrawAt H d a ∧ ∀ (H' : Hp) (p tn tr : Addr) (N R : List Str), But [d] H H' → DrawAt H' d a → H' p = some (.tup [.ref tn, .ref tr]) → Alph H' d tn tr N R → Q (.ref p) H'
theorem ok_alpha (D : Defs K mg) : FnOk P w K mg base CX0 6 D.d_law_alphabet.f D.d_law_alphabet.fd ["draw"] spAlpha := by
  have GW := ok_words5 (P := P) (w := w) (base := base) D
  have GX := ok_next (P := P) (w := w) (base := base) D
  refine D.d_law_alphabet.F.ok sc_law_alphabet (fun vs H Q E h => ?_) (fun cdv A outer s H vs Q E hr h => ?_)
  · obtain ⟨d, a, rfl, _⟩ := h
    rfl
  obtain ⟨d, a, rfl, hd, q⟩ := h
  have hr3 : Room 3 _ := hr.mono (by omega)
  refine ⟨_, (pss_cons (ps_set (i := 1) sc_law_alphabet.nd rfl (Or.inl rfl) (pe_call GW hr rfl D.d_law_words.m D.d_law_words.F.kp D.d_law_words.b .nil pass0 (pa_cons (pv 0) (pa_cons pe_int pa_nil))))
      (pss_cons (ps_par (i := 2) (j := 3) rfl sc_law_alphabet.nd rfl rfl (by decide) rfl rfl (pa_cons (pe_slice sl_list (pv 1) po_none (po_some pe_int)) (pa_cons (pe_slice sl_list (pv 1) (po_some pe_int) po_none) pa_nil)) (by rfl))
      (pss_cons (ps_if (pt_cmpR op_eq (pe_call GX hr3 rfl D.d_law_next.m D.d_law_next.F.kp D.d_law_next.b .nil pass0 (pa_cons (pv 0) (pa_cons pe_int pa_nil))) pe_int (nomark _)) (pss_one (ps_asg (pe_ix ix_list (pv 3) pe_int (fun _ _ => rfl)) (pg_sub (pv 2) pe_int set_list))) pss_nil)
      (pss_one (ps_ret (pe_tup (pa_cons (pv 2) (pa_cons (pv 3) pa_nil)))))))), ?_⟩
  refine ⟨_, rfl, d, a, rfl, hd, fun H1 l ws l5 okw b1 hd1 hl1 newl => ?_⟩
  have e1 : cutV (ws.map V.str) none (some 3) = (ws.take 3).map V.str := by
    simp only [cutV, HT.sIx, List.drop_zero, List.length_map, l5]
    rw [List.map_take]; rfl
  have e2 : cutV (ws.map V.str) (some 3) none = (ws.drop 3).map V.str := by
    simp only [cutV, HT.sIx, List.length_map, l5]
    rw [List.map_drop]
    exact List.take_of_length_le (by rw [List.length_drop, List.length_map, l5]; decide)
  refine ⟨_, rfl, _, rfl, l, _, rfl, SqL.of hl1, fun tn htn => ?_⟩
  rw [e1] at *
  have g1 := same_new htn (.lst ((ws.take 3).map V.str))
  refine ⟨_, rfl, _, rfl, l, _, rfl, SqL.of (g1 _ _ hl1), fun tr htr => ⟨_, _, rfl, ?_⟩⟩
  rw [e2] at *
  have g2 := same_new htr (.lst ((ws.drop 3).map V.str))
  have hd3 := (hd1.same g1).same g2
  have A0 : Alph (upd (upd H1 tn (.lst ((ws.take 3).map V.str))) tr (.lst ((ws.drop 3).map V.str))) d tn tr (ws.take 3) (ws.drop 3) :=
    ⟨g2 _ _ upd_same, upd_same, (hd1.new htn).1, ((hd1.same g1).new htr).1, by rw [List.length_take, l5]; rfl, by rw [List.length_drop, l5], fun x hx => okw x (List.mem_of_mem_take hx), fun x hx => okw x (List.mem_of_mem_drop hx)⟩
  refine ⟨_, rfl, d, a, 5, rfl, (by decide), hd3, fun H4 r b4 hd4 r0 r5 => ?_⟩
  have A4 := A0.but b4
  have b04 : But [d] H H4 := ((b1.trans (But.of g1)).trans (But.of g2)).trans b4
  have htn0 : H tn = none := by
    cases z : H tn with
    | none => rfl
    | some o => rw [b1 _ _ (by simpa using A0.nd) z] at htn; cases htn
  have tntr : tn ≠ tr := ne_of_none upd_same htr
  refine ⟨rfl, _, rfl, ite2 (fun _ => ?_) (fun _ => ?_)⟩
  · obtain ⟨r0', rr, er⟩ : ∃ x rr, ws.drop 3 = x :: rr := by
      cases z : ws.drop 3 with
      | nil => have := A0.l2; rw [z] at this; cases this
      | cons x rr => exact ⟨x, rr, rfl⟩
    obtain ⟨n0, n1, n2, en⟩ : ∃ x y z, ws.take 3 = [x, y, z] := by
      have := A0.l3
      match h : ws.take 3, this with
      | [x, y, z], _ => exact ⟨x, y, z, rfl⟩
    have okr0 : wordOk r0' = true := A0.okR r0' (by rw [er]; simp)
    have hnx := A4.hn
    have hrx := A4.hr
    rw [en] at hnx
    rw [er] at hrx
    refine ⟨_, rfl, tr, _, _, _, rfl, rfl, SqL.of hrx, atI_nat (j := 0) rfl, _, rfl, tn, _, _, 2, rfl, rfl, hnx, rfl, ?_⟩
    refine ⟨_, rfl, _, rfl, (by show 2 ≤ sizeLine; decide), fun p hp => ?_⟩
    generalize hH5 : upd H4 tn (.lst ((List.map V.str [n0, n1, n2]).set 2 (V.str r0'))) = H5 at hp ⊢
    have b5 : But [tn, d] H4 H5 := by rw [← hH5]; exact But.put (by simp)
    have g6 := same_new hp (.tup [.ref tn, .ref tr])
    have hd5 : DrawAt H5 d a := by
      rw [← hH5]
      refine hd4.upd A0.nd ?_
      obtain ⟨nsx, nx, d1, d2, d3⟩ := hd1.ex
      exact (ne_of_none d2 htn).symm
    have A5 : Alph H5 d tn tr [n0, n1, r0'] (ws.drop 3) := ⟨by rw [← hH5, upd_same]; rfl, by rw [← hH5, upd_ne tntr.symm]; exact A4.hr, A0.nd, A0.rd, rfl, A0.l2, fun x hx => by
        simp only [List.mem_cons, List.not_mem_nil, or_false] at hx
        rcases hx with rfl | rfl | rfl
        · exact A0.okN _ (by rw [en]; simp)
        · exact A0.okN _ (by rw [en]; simp)
        · exact okr0, A0.okR⟩
    refine q _ p tn tr _ _ ?_ (hd5.same g6) upd_same (A5.same g6)
    exact (((b04.mono (D' := [tn, d]) (by simp)).trans b5).trans (But.of g6)).drop htn0
  · refine ⟨_, rfl, _, rfl, (by show 2 ≤ sizeLine; decide), fun p hp => ?_⟩
    have g6 := same_new hp (.tup [.ref tn, .ref tr])
    exact q _ p tn tr _ _ (b04.trans (But.of g6)) (hd4.same g6) upd_same (A4.same g6)
/-! ### _law_concept -/
def spLCon : Nat → Sp
  | 0 => fun _ _ _ _ => False
  | n + 1 => fun vs H Q _ => ∃ (d a tn tr : Addr) (N R : List Str) (m : Nat), vs = [.ref d, .ref tn, .ref tr, .int (m : Nat)] ∧ m ≤ n ∧ DrawAt H d a ∧ Alph H d tn tr N R ∧
    ∀ H' v t, TAt H' t v → Drawn m t → But [d] H H' → DrawAt H' d a → Q v H'
theorem ok_lcon (D : Defs K mg) : ∀ n, FnOk P w K mg base CX0 (n + 5) D.d_law_concept.f D.d_law_concept.fd ["draw", "names", "roles", "deep"] (spLCon n)
  | 0 => none_left fun _ _ _ _ h => h
  | n + 1 => by
    have G := ok_lcon D n
    have GP := ok_pick (P := P) (w := w) (base := base) D
    have GX := ok_next (P := P) (w := w) (base := base) D
    refine D.d_law_concept.F.ok sc_law_concept (fun vs H Q E h => ?_) (fun cdv A outer s H vs Q E hr h => ?_)
    · obtain ⟨d, a, tn, tr, N, R, m, rfl, _⟩ := h
      rfl
    obtain ⟨d, a, tn, tr, N, R, m, rfl, hmn, hd, A0, q⟩ := h
    have hr3 : Room 3 _ := hr.mono (by omega)
    have hr4 : Room 4 _ := hr.mono (by omega)
    refine ⟨_, (pss_cons (ps_set (i := 4) sc_law_concept.nd rfl (Or.inl rfl) (pe_call GX hr3 rfl D.d_law_next.m D.d_law_next.F.kp D.d_law_next.b .nil pass0 (pa_cons (pv 0) (pa_cons pe_int pa_nil))))
      (pss_cons (ps_if (PW.pt (pw_or (pt_cmpR op_eq (pv 3) pe_int (nomark _)) (pw_or1 (pt_cmpR op_lt (pv 4) pe_int (nomark _))))) (pss_one (ps_ret (pe_call GP hr4 rfl D.d_law_pick.m D.d_law_pick.F.kp D.d_law_pick.b .nil pass0 (pa_cons (pv 0) (pa_cons (pe_op op_cat (pe_op op_cat (pv 1) (pv 1)) (pe_lst (pa_cons pe_str pa_nil))) pa_nil))))) pss_nil)
      (pss_cons (ps_if (pt_cmpR op_lt (pv 4) pe_int (nomark _)) (pss_one (ps_ret (pe_tup (pa_cons pe_str (pa_cons (pe_call GP hr4 rfl D.d_law_pick.m D.d_law_pick.F.kp D.d_law_pick.b .nil pass0 (pa_cons (pv 0) (pa_cons (pv 2) pa_nil))) (pa_cons (pe_call G hr rfl D.d_law_concept.m D.d_law_concept.F.kp D.d_law_concept.b .nil pass0 (pa_cons (pv 0) (pa_cons (pv 1) (pa_cons (pv 2) (pa_cons (pe_op op_sub (pv 3) pe_int) pa_nil))))) pa_nil)))))) pss_nil)
      (pss_cons (ps_set (i := 5) sc_law_concept.nd rfl (Or.inl rfl) (pe_op op_add pe_int (pe_callTy call_int1 (by rfl) D.z_int (by decide +kernel) (pa_cons (pe_cmpR op_eq (pe_call GX hr3 rfl D.d_law_next.m D.d_law_next.F.kp D.d_law_next.b .nil pass0 (pa_cons (pv 0) (pa_cons pe_int pa_nil))) pe_int (nomark _)) pa_nil))))
      (pss_one (ps_ret (pe_op op_catT (pe_tup (pa_cons pe_str pa_nil)) (pe_callTy call_tuple_of (by rfl) D.z_tuple (by decide +kernel) (pa_cons (pe_lc (own := [("turn", 6)]) (g := gName 6) rfl sc_law_concept.nd (pi_range1 rfl D.z_range (pa_cons (pv 5) pa_nil)) (blkOk_by (N := ["draw", "names", "roles", "deep", "kind", "many", "turn"]) (sc := defScope s_law_concept) (by decide +kernel)) (fun _ _ _ _ _ => pg_name (i := 6) sc_law_concept.nd rfl (Or.inl rfl)) (fun _ _ _ _ _ => pts_nil) (fun _ _ _ _ _ => (pe_call G hr rfl D.d_law_concept.m D.d_law_concept.F.kp D.d_law_concept.b .nil pass0 (pa_cons (pv 0) (pa_cons (pv 1) (pa_cons (pv 2) (pa_cons (pe_op op_sub (pv 3) pe_int) pa_nil))))))) pa_nil)) ))))))), ?_⟩
    refine ⟨_, rfl, d, a, 8, rfl, (by decide), hd, fun H1 r b1 hd1 r0 r8 => ?_⟩
    have A1 := A0.but b1
    have HX := A1
    have HD := hd1
    have HB := b1
    refine ⟨_, rfl, rfl, _, rfl, ?_⟩
    refine ite2 (fun _ => iteT ?_) (fun cm => ?_)
    · skip
      refine ⟨_, rfl, _, rfl, _, rfl, tn, tn, _, _, rfl, rfl, HX.hn, HX.hn, (by rw [List.length_map]; have := A0.l3; exact Nat.le_of_lt (small1000 (by omega))), fun p1 hp1 => ?_⟩
      have k1 := same_new hp1 (.lst (N.map V.str ++ N.map V.str))
      refine ⟨(by show 1 ≤ sizeLine; decide), fun p2 hp2 => ?_⟩
      have k2 := same_new hp2 (.lst [V.str "all"])
      refine ⟨p1, p2, _, _, rfl, rfl, k2 _ _ upd_same, upd_same, (by rw [List.length_append, List.length_map]; have := A0.l3; exact Nat.le_of_lt (small1000 (by show N.length + N.length + 1 ≤ 1000; omega))), fun p3 hp3 => ?_⟩
      have k3 := same_new hp3 (.lst ((N.map V.str ++ N.map V.str) ++ [V.str "all"]))
      have kk := (k1.trans k2).trans k3
      refine ⟨d, a, p3, _, rfl, HD.same kk, upd_same, ((HD.same (k1.trans k2)).new hp3).1, (by rw [List.length_append]; show 0 < _ + 1; omega), fun H5 x hx b5 hd5 => ?_⟩
      obtain ⟨sw, rfl, hsw⟩ : ∃ sw : Str, x = .str sw ∧ (sw = "all" ∨ wordOk sw = true) := by
        simp only [List.mem_append, List.mem_map, List.mem_cons, List.not_mem_nil, or_false] at hx
        rcases hx with (⟨y, hy, rfl⟩ | ⟨y, hy, rfl⟩) | rfl
        · exact ⟨y, rfl, .inr (A0.okN y hy)⟩
        · exact ⟨y, rfl, .inr (A0.okN y hy)⟩
        · exact ⟨_, rfl, .inl rfl⟩
      exact q H5 (.str sw) (.atom sw) (by rw [TAt]; exact ⟨rfl, Nat.le_trans (word_le hsw) (by decide)⟩) (drawn_atom hsw m) ((HB.trans (But.of kk)).trans b5) hd5
    have cm' : m ≠ 0 := fun z => by subst z; exact cm (decide_eq_true rfl)
    refine ⟨_, rfl, _, _, rfl, rfl, _, rfl, ite2 (fun _ => ?_) (fun _ => ?_)⟩
    · skip
      refine ⟨_, rfl, _, rfl, _, rfl, tn, tn, _, _, rfl, rfl, HX.hn, HX.hn, (by rw [List.length_map]; have := A0.l3; exact Nat.le_of_lt (small1000 (by omega))), fun p1 hp1 => ?_⟩
      have k1 := same_new hp1 (.lst (N.map V.str ++ N.map V.str))
      refine ⟨(by show 1 ≤ sizeLine; decide), fun p2 hp2 => ?_⟩
      have k2 := same_new hp2 (.lst [V.str "all"])
      refine ⟨p1, p2, _, _, rfl, rfl, k2 _ _ upd_same, upd_same, (by rw [List.length_append, List.length_map]; have := A0.l3; exact Nat.le_of_lt (small1000 (by show N.length + N.length + 1 ≤ 1000; omega))), fun p3 hp3 => ?_⟩
      have k3 := same_new hp3 (.lst ((N.map V.str ++ N.map V.str) ++ [V.str "all"]))
      have kk := (k1.trans k2).trans k3
      refine ⟨d, a, p3, _, rfl, HD.same kk, upd_same, ((HD.same (k1.trans k2)).new hp3).1, (by rw [List.length_append]; show 0 < _ + 1; omega), fun H5 x hx b5 hd5 => ?_⟩
      obtain ⟨sw, rfl, hsw⟩ : ∃ sw : Str, x = .str sw ∧ (sw = "all" ∨ wordOk sw = true) := by
        simp only [List.mem_append, List.mem_map, List.mem_cons, List.not_mem_nil, or_false] at hx
        rcases hx with (⟨y, hy, rfl⟩ | ⟨y, hy, rfl⟩) | rfl
        · exact ⟨y, rfl, .inr (A0.okN y hy)⟩
        · exact ⟨y, rfl, .inr (A0.okN y hy)⟩
        · exact ⟨_, rfl, .inl rfl⟩
      exact q H5 (.str sw) (.atom sw) (by rw [TAt]; exact ⟨rfl, Nat.le_trans (word_le hsw) (by decide)⟩) (drawn_atom hsw m) ((HB.trans (But.of kk)).trans b5) hd5
    obtain ⟨m, rfl⟩ : ∃ k, m = k + 1 := ⟨m - 1, by omega⟩
    have em : (((m + 1 : Nat) : Nat) : Int) - 1 = ((m : Nat) : Int) := by omega
    have emv : ∀ x y z : L2.V, [x, y, z, L2.V.int ((((m + 1 : Nat) : Nat) : Int) - 1)] = [x, y, z, L2.V.int ((m : Nat) : Int)] := fun x y z => by rw [em]
    cases n with
    | zero => omega
    | succ n =>
    refine ⟨_, rfl, _, _, rfl, rfl, _, rfl, ite2 (fun _ => ?_) (fun _ => ?_)⟩
    · refine ⟨_, rfl, _, rfl, d, a, tr, _, rfl, hd1, A1.hr, A1.rd, (by rw [List.length_map, A1.l2]; decide), fun H3 x hx b3 hd3 => ?_⟩
      obtain ⟨y, hy, rfl⟩ := List.mem_map.mp hx
      have okr := A0.okR y hy
      refine ⟨_, rfl, _, rfl, _, rfl, _, rfl, _, _, rfl, rfl, d, a, tn, tr, N, R, m, emv _ _ _, by omega, hd3, A1.but b3, fun H4 v t h1 h2 b4 hd4 => ⟨(by show 3 ≤ sizeLine; decide), fun p2 hp2 => ?_⟩⟩
      have g2 := same_new hp2 (.tup [.str "some", .str y, v])
      refine q _ (.ref p2) (.ex y t) ?_ (drawn_ex okr h2) (((b1.trans b3).trans b4).trans (But.of g2)) (hd4.same g2)
      rw [TAt]
      exact ⟨p2, v, rfl, upd_same, h1.same g2, Nat.le_trans (word_le (.inr okr)) (by decide)⟩
    · refine ⟨_, rfl, d, a, 4, rfl, (by decide), hd1, fun H2 r2 b2 hd2 r20 r24 => ⟨rfl, .inr ⟨_, rfl, _, _, rfl, rfl, ?_⟩⟩⟩
      obtain ⟨many, hmany, h23⟩ : ∃ k : Nat, (2 : Int) + (if decide (V.int r2 = V.int 0) = true then 1 else 0) = (k : Int) ∧ (k = 2 ∨ k = 3) := by
        by_cases c : decide (V.int r2 = V.int 0) = true
        · exact ⟨3, by rw [if_pos c]; rfl, .inr rfl⟩
        · exact ⟨2, by rw [if_neg c]; rfl, .inl rfl⟩
      have A2 := A1.but b2
      refine ⟨(by show 1 ≤ sizeLine; decide), fun t1 ht1 => ⟨_, rfl, ((many : Nat) : Int), congrArg (fun z => [V.int z]) hmany, (by show -(2 ^ 62) ≤ ((many : Nat) : Int); omega), (by show ((many : Nat) : Int) < 2 ^ 62; omega), fun D0 hD => ?_⟩⟩
      have g1 := same_new ht1 (.tup [.str "and"])
      have hdt := hd2.same g1
      obtain ⟨nDd, nDa⟩ := hdt.new hD
      have t1D : t1 ≠ D0 := ne_of_none upd_same hD
      have At := A2.same g1
      have nDn : tn ≠ D0 := ne_of_none At.hn hD
      have nDr : tr ≠ D0 := ne_of_none At.hr hD
      refine lc_range (lo := 0) (n := (((many : Nat) : Int)).toNat) (fun i H4 => But [D0, d] (upd H2 t1 (.tup [.str "and"])) H4 ∧ DrawAt H4 d a ∧ ∃ ts ws, H4 D0 = some (.lst ws) ∧ Paired (TAt H4) ts ws ∧ ts.length = i ∧ ∀ t ∈ ts, Drawn m t)
        ⟨But.of (same_new hD _), hdt.same (same_new hD _), [], [], upd_same, .nil, rfl, fun t ht => nomatch ht⟩ ?_ ?_
      · rintro i H4 hi ⟨b4, hd4, ts, ws, h4, pt4, li, dr⟩
        have i3 : i < 3 := by rw [Int.toNat_natCast] at hi; omega
        have A4 : Alph H4 d tn tr N R := { At with hn := b4 _ _ (by simp only [List.mem_cons, List.not_mem_nil, or_false]; rintro (z | z); exact nDn z; exact At.nd z) At.hn, hr := b4 _ _ (by simp only [List.mem_cons, List.not_mem_nil, or_false]; rintro (z | z); exact nDr z; exact At.rd z) At.hr }
        refine ⟨rfl, _, rfl, _, rfl, _, rfl, _, rfl, _, _, rfl, rfl, d, a, tn, tr, N, R, m, emv _ _ _, by omega, hd4, A4, fun H5 v t h1 h2 b5 hd5 => ?_⟩
        have h5 := b5 _ _ (by simpa using nDd) h4
        have pt5 := pairT_t (b5.t hd4.nt) pt4
        have t6 : TSame H5 (upd H5 D0 (.lst (ws ++ [v]))) := (But.put (D := [D0]) (by simp)).t fun c hc xs z => by rw [List.mem_singleton.mp hc, h5] at z; cases z
        refine ⟨_, h5, by rw [← paired_len pt5]; exact small1000 (by omega), (b4.trans (b5.mono (by simp))).trans (But.put (by simp)), hd5.upd nDd nDa, ts ++ [t], _, upd_same, paired_snoc (h1.t t6) (pairT_t t6 pt5), by rw [List.length_append, li]; rfl, fun t' ht' => ?_⟩
        rcases List.mem_append.mp ht' with z | z
        · exact dr t' z
        · rw [List.mem_singleton.mp z]; exact h2
      · rintro H4 ⟨b4, hd4, ts, ws, h4, pt4, li, dr⟩
        rw [Int.toNat_natCast] at li
        have lws : ws.length = ts.length := (paired_len pt4).symm
        refine ⟨D0, _, rfl, .inl ⟨SqL.of h4, fun t2 ht2 => ?_⟩⟩
        have g2 := same_new ht2 (.tup ws)
        have nt1d : t1 ≠ d := (hd2.new ht1).1
        have h41 : H4 t1 = some (.tup [.str "and"]) := b4 _ _ (by simp only [List.mem_cons, List.not_mem_nil, or_false]; rintro (z | z); exact t1D z; exact nt1d z) upd_same
        refine ⟨t1, t2, _, _, rfl, rfl, SqT.of (g2 _ _ h41), SqT.of upd_same, (by simp), Nat.le_of_lt (small1000 (by show 1 + ws.length ≤ 1000; omega)), (fun z => by rw [z] at lws; simp at lws; omega), fun _ p6 hp6 => ?_⟩
        have g6 := same_new hp6 (.tup ([.str "and"] ++ ws))
        have bD : But [d] (upd H2 t1 (.tup [.str "and"])) H4 := b4.drop hD
        refine q _ (.ref p6) (.and ts) ?_ (drawn_and (by omega) dr) (((((b1.trans b2).trans (But.of g1)).trans bD).trans (But.of g2)).trans (But.of g6)) ((hd4.same g2).same g6)
        rw [TAt]
        exact ⟨p6, ws, rfl, upd_same, TsAt.of (pairT_t ((Same.t g2).trans (Same.t g6)) pt4)⟩
/-! ### _law_none -/
def spLNone : Sp := fun vs H Q _ => ∃ (d a : Addr) (v : V) (t : T), vs = [.ref d, v, .int 6] ∧ DrawAt H d a ∧ TAt H t v ∧ Drawn 3 t ∧ ∀ H' v' t', TAt H' t' v' → Asked t' → But [d] H H' → DrawAt H' d a → Q v' H'
theorem ok_lnone (D : Defs K mg) : FnOk P w K mg base CX0 5 D.d_law_none.f D.d_law_none.fd ["draw", "concept", "odds"] spLNone := by
  have GP := ok_pick (P := P) (w := w) (base := base) D
  have GX := ok_next (P := P) (w := w) (base := base) D
  refine D.d_law_none.F.ok sc_law_none (fun vs H Q E h => ?_) (fun cdv A outer s H vs Q E hr h => ?_)
  · obtain ⟨d, a, v, t, rfl, _⟩ := h
    rfl
  obtain ⟨d, a, v, t, rfl, hd, hT, hD, q⟩ := h
  have hr3 : Room 3 _ := hr.mono (by omega)
  refine ⟨_, (pss_cons (ps_set (i := 3) sc_law_none.nd rfl (Or.inl rfl) (pe_call GX hr3 rfl D.d_law_next.m D.d_law_next.F.kp D.d_law_next.b .nil pass0 (pa_cons (pv 0) (pa_cons (pv 2) pa_nil))))
      (pss_cons (ps_if (pt_cmpR op_eq (pv 3) pe_int (nomark _)) (pss_one (ps_ret (pe_call GP hr rfl D.d_law_pick.m D.d_law_pick.F.kp D.d_law_pick.b .nil pass0 (pa_cons (pv 0) (pa_cons (pe_lst (pa_cons pe_str (pa_cons (pe_tup (pa_cons pe_str (pa_cons (pv 1) (pa_cons pe_str pa_nil)))) (pa_cons (pe_tup (pa_cons pe_str (pa_cons pe_str (pa_cons (pv 1) pa_nil)))) pa_nil)))) pa_nil))))) pss_nil)
      (pss_one (ps_ret (pv 1))))), ?_⟩
  refine ⟨_, rfl, _, rfl, d, a, 6, rfl, (by decide), hd, fun H1 r b1 hd1 r0 r6 => ?_⟩
  have h1 : TAt H1 t v := hT.t (b1.t hd.nt)
  refine ⟨_, rfl, rfl, _, rfl, ite2 (fun _ => ?_) (fun _ => ?_)⟩
  · refine ⟨_, rfl, _, rfl, (by show 3 ≤ sizeLine; decide), fun p1 hp1 => ⟨_, rfl, (by show 3 ≤ sizeLine; decide), fun p2 hp2 => ⟨(by show 3 ≤ sizeLine; decide), fun p3 hp3 => ?_⟩⟩⟩
    have g1 := same_new hp1 (.tup [.str "and", v, .str "none"])
    have g2 := same_new hp2 (.tup [.str "and", .str "none", v])
    have g3 := same_new hp3 (.lst [.str "none", .ref p1, .ref p2])
    have g := (g1.trans g2).trans g3
    refine ⟨d, a, p3, _, rfl, hd1.same g, upd_same, ((hd1.same (g1.trans g2)).new hp3).1, (by show 0 < 3; decide), fun H5 x hx b5 hd5 => ?_⟩
    have tt := (Same.t g).trans (b5.t (hd1.same g).nt)
    have hv := h1.t tt
    have hno : TAt H5 (.atom "none") (.str "none") := by rw [TAt]; exact ⟨rfl, by decide +kernel⟩
    have bb := (b1.trans (But.of g)).trans b5
    obtain ⟨a1, a2⟩ := Asked.pair hD
    simp only [List.mem_cons, List.not_mem_nil, or_false] at hx
    rcases hx with rfl | rfl | rfl
    · exact q H5 _ _ hno Asked.none bb hd5
    · refine q H5 _ _ ?_ a1 bb hd5
      rw [TAt]
      exact ⟨p1, [v, .str "none"], rfl, b5 _ _ (by simpa using (hd1.new hp1).1) (g3 _ _ (g2 _ _ upd_same)), TsAt.of (.cons hv (.cons hno .nil))⟩
    · refine q H5 _ _ ?_ a2 bb hd5
      rw [TAt]
      exact ⟨p2, [.str "none", v], rfl, b5 _ _ (by simpa using ((hd1.same g1).new hp2).1) (g3 _ _ upd_same), TsAt.of (.cons hno (.cons hv .nil))⟩
  · exact ⟨_, rfl, q H1 v t h1 (Asked.of hD) b1 hd1⟩
end
end K1
namespace K1
open PySem L2
/-! the texts that the law asks of -/
structure Late (s : Str) : Prop where
  l : s.length ≤ 1000
  me : ME (cs s) ≤ 224
  ml : ML (cs s) ≤ 200
  sp : sp (cs s) ≤ 112
theorem Late.of {s : Str} {u : List Nat} (e : cs s = u) (l : u.length ≤ 1000) (p : u.count 40 ≤ 28) (b : u.count 32 ≤ 110) : Late s := by
  have h : s.length = (cs s).length := rfl
  refine ⟨by rw [h, e]; exact l, ?_, ?_, ?_⟩
  · rw [e]; unfold ME; omega
  · rw [e]; unfold ML; omega
  · rw [e]; show u.count 32 ≤ 112; omega
theorem pl_late {H : Hp} {s : Str} (h : Late s) : Pl H (.str s) := h.l
theorem cut_count (u : List Nat) {a b : Nat} (h : a ≤ b) (c : Nat) : (u.take a).count c + (u.drop b).count c ≤ u.count c := by
  have e : u.count c = (u.take a).count c + (u.drop a).count c := by rw [← List.count_append, List.take_append_drop]
  have e2 : u.drop b = (u.drop a).drop (b - a) := by rw [List.drop_drop]; congr 1; omega
  have := (List.drop_sublist (b - a) (u.drop a)).count_le c
  rw [← e2] at this
  omega
theorem cut_len (u : List Nat) {a b : Nat} (h : a ≤ b) : (u.take a).length + (u.drop b).length ≤ u.length := by
  rw [List.length_take, List.length_drop]
  omega
def signs : List Str := [" ", "&", "(", ")", "a", "s", "A", "some ", " & ", "all", "_", "3", "  "]
theorem signs_ok : ∀ s ∈ signs, s.length ≤ 5 ∧ (cs s).count 40 ≤ 1 ∧ (cs s).count 32 ≤ 2 := by decide +kernel
theorem no_text (s : Str) (n : Nat) (hn : 2 * (cs s).length + 2 ≤ n) (hs : sp (cs s) ≤ 112) (h : (match dWhole n 0 (cs s) with | some (_, []) => true | _ => false) = false) (t : T) : ¬ IsTx (cs s) t := fun z => by
  have := (due_iff hn hs t).mpr z
  rw [this] at h
  cases h
section
variable {P : Program} {w : World} {K : PySem.W.Frag} {mg : Str → Option Value} {base : Heap}
def lawK : Nat := 119
def spLaw (K : PySem.W.Frag) : Sp := fun vs H Q _ => ∃ (a : Addr) (ns : List Int), vs = [.ref a] ∧ SqL K H a (ns.map V.int) ∧ ns.length ≤ 63 ∧ ∀ H', Q (.bl true) H'
theorem ok_law (D : Defs K mg) : FnOk P w K mg base CX0 lawK D.d_law.f D.d_law.fd ["script"] (spLaw K) := by
  have GA := ok_alpha (P := P) (w := w) (base := base) D
  have GX := ok_next (P := P) (w := w) (base := base) D
  have GP := ok_pick (P := P) (w := w) (base := base) D
  have GC := ok_lcon (P := P) (w := w) (base := base) D 4
  have GN := ok_lnone (P := P) (w := w) (base := base) D
  have GLT := ok_ltext (P := P) (w := w) (base := base) D 5
  have GT := ok_textT (P := P) (w := w) (base := base) D
  have GR := ok_lread (P := P) (w := w) (base := base) D
  have GI := ok_isT (P := P) (w := w) (base := base) D
  have GU := ok_ldue (P := P) (w := w) (base := base) D
  refine D.d_law.F.ok (k := 118) sc_law (fun vs H Q E h => ?_) (fun cdv A outer s H vs Q E hr h => ?_)
  · obtain ⟨a, ns, rfl, _⟩ := h
    rfl
  obtain ⟨a0, ns, rfl, hS, h63, q⟩ := h
  have hr3 : Room 3 _ := hr.mono (by omega)
  have hr4 : Room 4 _ := hr.mono (by omega)
  have hr5 : Room 5 _ := hr.mono (by omega)
  have hr6 : Room 6 _ := hr.mono (by omega)
  have hr9 : Room 9 _ := hr.mono (by omega)
  have hr63 : Room 63 _ := hr.mono (by omega)
  have hr65 : Room 65 _ := hr.mono (by omega)
  have hr116 : Room 116 _ := hr.mono (by omega)
  have hu := hr.units
  refine ⟨_, (pss_cons (ps_set (i := 1) sc_law.nd rfl (Or.inl rfl) (pe_lst (pa_cons (pe_slice sl_list (pv 0) po_none (po_some pe_int)) (pa_cons pe_int (pa_cons pe_int pa_nil)))))
      (pss_cons (ps_asg (pe_call GA hr6 rfl D.d_law_alphabet.m D.d_law_alphabet.F.kp D.d_law_alphabet.b .nil pass0 (pa_cons (pv 1) pa_nil)) (pg_tup rfl (pgs_cons (pg_name (i := 2) sc_law.nd rfl (Or.inl rfl)) (pgs_cons (pg_name (i := 3) sc_law.nd rfl (Or.inl rfl)) pgs_nil))))
      (pss_cons (ps_for PassesOwn.never rfl (pi_range1 rfl D.z_range (pa_cons pe_int pa_nil)) (pg_name (i := 4) sc_law.nd rfl (Or.inl rfl)) (pss_cons (ps_set (i := 5) sc_law.nd rfl (Or.inl rfl) (pe_call GN hr5 rfl D.d_law_none.m D.d_law_none.F.kp D.d_law_none.b .nil pass0 (pa_cons (pv 1) (pa_cons (pe_call GC hr9 rfl D.d_law_concept.m D.d_law_concept.F.kp D.d_law_concept.b .nil pass0 (pa_cons (pv 1) (pa_cons (pv 2) (pa_cons (pv 3) (pa_cons (pe_op op_add pe_int (pe_call GX hr3 rfl D.d_law_next.m D.d_law_next.F.kp D.d_law_next.b .nil pass0 (pa_cons (pv 1) (pa_cons pe_int pa_nil)))) pa_nil))))) (pa_cons pe_int pa_nil)))))
      (pss_cons (ps_set (i := 6) sc_law.nd rfl (Or.inl rfl) (pe_call GLT hr6 rfl D.d_law_text.m D.d_law_text.F.kp D.d_law_text.b .nil pass0 (pa_cons (pv 5) pa_nil)))
      (pss_cons (ps_if (PW.pt (pw_or (pt_cmpR op_ne (pe_call GT hr65 rfl D.d_text.m D.d_text.F.kp D.d_text.b .nil pass0 (pa_cons (pv 5) pa_nil)) (pv 6) (nomark _)) (pw_or (pt_cmpR (op_neD hu) (pe_call GR hr rfl D.d_law_read.m D.d_law_read.F.kp D.d_law_read.b .nil pass0 (pa_cons (pv 6) pa_nil)) (pv 5) (nomark _)) (pw_or1 (pt_not (pt_val (pe_call GI hr63 rfl D.d_is_concept.m D.d_is_concept.F.kp D.d_is_concept.b .nil pass0 (pa_cons (pv 5) pa_nil)))))))) (pss_one (ps_ret pe_bl)) pss_nil)
      (pss_one (ps_for PassesOwn.never rfl (pi_range1 rfl D.z_range (pa_cons pe_int pa_nil)) (pg_name (i := 7) sc_law.nd rfl (Or.inl rfl)) (pss_cons (ps_par (i := 8) (j := 9) rfl sc_law.nd rfl rfl (by decide) rfl rfl (pa_cons (pe_call GX hr3 rfl D.d_law_next.m D.d_law_next.F.kp D.d_law_next.b .nil pass0 (pa_cons (pv 1) (pa_cons (pe_op op_add (pe_callB call_len_str (by rfl) D.z_len (by decide +kernel) (pa_cons (pv 6) pa_nil)) pe_int) pa_nil))) (pa_cons (pe_call GX hr3 rfl D.d_law_next.m D.d_law_next.F.kp D.d_law_next.b .nil pass0 (pa_cons (pv 1) (pa_cons pe_int pa_nil))) pa_nil)) (by rfl))
      (pss_cons (ps_set (i := 10) sc_law.nd rfl (Or.inl rfl) (pe_call GP hr4 rfl D.d_law_pick.m D.d_law_pick.F.kp D.d_law_pick.b .nil pass0 (pa_cons (pv 1) (pa_cons (pe_lst (pa_cons pe_str (pa_cons pe_str (pa_cons pe_str (pa_cons pe_str (pa_cons pe_str (pa_cons pe_str (pa_cons pe_str (pa_cons pe_str (pa_cons pe_str (pa_cons pe_str (pa_cons pe_str (pa_cons pe_str (pa_cons pe_str pa_nil)))))))))))))) pa_nil))))
      (pss_cons (ps_set (i := 11) sc_law.nd rfl (Or.inl rfl) (pe_op op_add_str (pe_op op_add_str (pe_slice sl_str (pv 6) po_none (po_some (pv 8))) (pv 10)) (pe_slice sl_str (pv 6) (po_some (pv 8)) po_none)))
      (pss_cons (ps_if (pt_cmpR op_eq (pv 9) pe_int (nomark _)) (pss_one (ps_set (i := 11) sc_law.nd rfl (Or.inl rfl) (pe_op op_add_str (pe_slice sl_str (pv 6) po_none (po_some (pv 8))) (pe_slice sl_str (pv 6) (po_some (pe_op op_add (pv 8) pe_int)) po_none)))) pss_nil)
      (pss_cons (ps_if (pt_cmpR op_eq (pv 9) pe_int (nomark _)) (pss_one (ps_set (i := 11) sc_law.nd rfl (Or.inl rfl) (pe_op op_add_str (pe_op op_add_str (pe_slice sl_str (pv 6) po_none (po_some (pv 8))) (pv 10)) (pe_slice sl_str (pv 6) (po_some (pe_op op_add (pv 8) pe_int)) po_none)))) pss_nil)
      (pss_cons (ps_if (pt_cmpR op_eq (pv 9) pe_int (nomark _)) (pss_one (ps_set (i := 11) sc_law.nd rfl (Or.inl rfl) (pe_ifExp (pt_cmpR op_eq (pe_op op_mod (pv 8) pe_int) pe_int (nomark _)) (pe_op op_add_str (pe_op op_add_str pe_str (pv 6)) pe_str) (pe_op op_add_str (pe_op op_add_str (pe_op op_add_str (pv 6) pe_str) (pv 6)) pe_str)))) pss_nil)
      (pss_one (ps_if (pt_cmpR (op_neD hu) (pe_call GR hr rfl D.d_law_read.m D.d_law_read.F.kp D.d_law_read.b .nil pass0 (pa_cons (pv 11) pa_nil)) (pe_call GU hr116 rfl D.d_law_due.m D.d_law_due.F.kp D.d_law_due.b .nil pass0 (pa_cons (pv 11) pa_nil)) (nomark _)) (pss_one (ps_ret pe_bl)) pss_nil))))))))))))))
      (pss_one (ps_ret (pe_callB (cr_all rfl) (by rfl) D.z_all (by decide +kernel) (pa_cons (pe_lc (own := [("one", 12)]) (g := gName 12) rfl sc_law.nd (pi_tup (pe_tup (pa_cons pe_str (pa_cons pe_str (pa_cons pe_non (pa_cons pe_int (pa_cons (pe_tup (pa_cons pe_str (pa_cons pe_str (pa_cons pe_str pa_nil)))) (pa_cons pe_str (pa_cons pe_str (pa_cons pe_str pa_nil)))))))))) (blkOk_by (N := ["script", "draw", "names", "roles", "turn", "concept", "told", "change", "at", "kind", "sign", "late", "one"]) (sc := defScope s_law) (by decide +kernel)) (fun _ _ _ _ _ => pg_name (i := 12) sc_law.nd rfl (Or.inl rfl)) (fun _ _ _ _ _ => pts_nil) (fun _ _ _ _ _ => (pe_cmpR op_isN (pe_call GR hr rfl D.d_law_read.m D.d_law_read.F.kp D.d_law_read.b .nil pass0 (pa_cons (pv 12) pa_nil)) pe_non (nomark _)))) pa_nil))))))), ?_⟩
  -- the draws
  refine ⟨_, rfl, _, rfl, a0, _, rfl, hS, fun sc hsc => ⟨(by show 3 ≤ sizeLine; decide), fun d hd0 => ?_⟩⟩
  have ec : cutV (ns.map L2.V.int) none (some 63) = ns.map L2.V.int := by
    simp only [cutV, HT.sIx, List.drop_zero, List.length_map]
    rw [if_neg (by omega), Nat.sub_zero]
    exact List.take_of_length_le (by rw [List.length_map]; show ns.length ≤ min 63 ns.length; omega)
  have g1 := same_new hsc (.lst (cutV (ns.map L2.V.int) none (some 63)))
  have hsd : sc ≠ d := ne_of_none upd_same hd0
  have dr0 : DrawAt (upd (upd H sc (.lst (cutV (ns.map L2.V.int) none (some 63)))) d (.lst [.ref sc, .int 0, .int 0])) d sc := ⟨ns, 0, upd_same, by rw [upd_ne hsd, upd_same, ec], Int.le_refl 0⟩
  refine ⟨_, rfl, d, sc, rfl, dr0, fun H1 p0 tn tr N R b1 dr1 hp0 A1 => ?_⟩
  refine ⟨p0, _, rfl, SqT.of hp0, rfl, _, _, rfl, _, _, rfl, rfl, ?_⟩
  refine ⟨4, rfl, by decide, by decide, for_range (lo := 0) (n := (4 : Int).toNat) (fun i σ H2 => ∃ o4 o5 o6 o7 o8 o9 o10 o11, σ = [some (.ref a0), some (.ref d), some (.ref tn), some (.ref tr), o4, o5, o6, o7, o8, o9, o10, o11, none] ∧ DrawAt H2 d sc ∧ Alph H2 d tn tr N R)
    ⟨none, none, none, none, none, none, none, none, rfl, dr1, A1⟩ ?_ ?_⟩
  · rintro i0 σ H2 hi ⟨o4, o5, o6, o7, o8, o9, o10, o11, rfl, dr2, A2⟩
    refine ⟨_, rfl, _, rfl, _, rfl, _, rfl, _, rfl, d, sc, 3, rfl, (by decide), dr2, fun H3 r3 b3 dr3 r30 r33 => ?_⟩
    have em : (1 : Int) + r3 = (((1 + r3.toNat : Nat) : Nat) : Int) := by omega
    refine ⟨_, _, rfl, rfl, d, sc, tn, tr, N, R, 1 + r3.toNat, congrArg (fun z => [V.ref d, V.ref tn, V.ref tr, V.int z]) em, (show 1 + r3.toNat ≤ 3 by omega), dr3, A2.but b3, fun H4 v4 t4 h4 D4 b4 dr4 => ?_⟩
    refine ⟨d, sc, v4, t4, rfl, dr4, h4, D4.mono (by omega), fun H5 v t hT aT b5 dr5 => ?_⟩
    have A5 := ((A2.but b3).but b4).but b5
    have len435 := aT.b.len
    have ns4 := aT.ns
    refine ⟨_, rfl, v, t, rfl, hT, aT.cw, ns4, by omega, fun H6 s6 => ?_⟩
    have hT6 := hT.same s6
    have dr6 := dr5.same s6
    have A6 := A5.same s6
    -- it is read back
    have lateT : Late (sT t) := Late.of (cs_sT t) (by omega) (by have := aT.b.par; omega) (by have := aT.b.bla; omega)
    have isT : IsTx (cs (sT t)) t := ⟨aT.cw, by omega, (cs_sT t).symm⟩
    refine ⟨_, rfl, v, t, rfl, hT6, aT.cw, by omega, by omega, fun H7 s7 => ⟨_, rfl, rfl, _, rfl, iteFe (by simp) ?_⟩⟩
    refine ⟨_, rfl, .str (sT t), rfl, pl_late lateT, .inr ⟨sT t, rfl, lateT.l, lateT.me, lateT.ml, lateT.sp, fun H8 u8 t8 it8 s8 tv8 => ?_, fun no => (no t isT).elim⟩⟩
    obtain rfl : t8 = t := tx_inj it8.1 aT.cw (it8.2.2.trans (cs_sT t))
    have sh : SeqAt.shaped (datT t8) = true := shaped_T aT.cw (by omega)
    have hT8 := (hT6.same s7).same s8
    refine ⟨_, rfl, datT t8, datT t8, dp_T tv8, dp_T hT8, sh, sh, _, rfl, ?_⟩
    rw [eqv_T]
    refine iteF ⟨_, rfl, v, rfl, hT8.kn (by omega), fun H9 s9 => ⟨_, rfl, ?_⟩⟩
    rw [(hT8.nested 100).mpr ⟨aT.cw, by omega⟩]
    refine iteF ?_
    have s69 : Same H6 H9 := (s7.trans s8).trans s9
    have dr9 := dr6.same s69
    have A9 := A6.same s69
    have lt : (sT t8).length = (tx t8).length := len_sT t8
    -- the changes
    refine ⟨4, rfl, by decide, by decide, for_range (lo := 0) (n := (4 : Int).toNat) (fun i σ H10 => ∃ o7 o8 o9 o10 o11, σ = [some (.ref a0), some (.ref d), some (.ref tn), some (.ref tr), some (.int (0 + (i0 : Int))), some v, some (.str (sT t8)), o7, o8, o9, o10, o11, none] ∧ But [d] H9 H10 ∧ DrawAt H10 d sc)
      ⟨_, _, _, _, _, rfl, But.refl _, dr9⟩ ?_ ?_⟩
    rotate_left
    · rintro σ H10 ⟨o7, o8, o9, o10, o11, rfl, b10, dr10⟩
      exact ⟨_, _, _, _, _, _, _, _, rfl, dr10, A9.but b10⟩
    rintro j σ H10 hj ⟨o7', o8', o9', o10', o11', rfl, b10, dr10⟩
    refine ⟨_, rfl, _, rfl, _, rfl, Nat.le_of_lt (small1000 (by omega)), _, _, rfl, rfl, d, sc, _, rfl, (by show (0 : Int) < (((sT t8).length : Nat) : Int) + 1; omega), dr10, fun H11 ra b11 dr11 ra0 ral => ?_⟩
    refine ⟨_, rfl, d, sc, 4, rfl, (by decide), dr11, fun H12 kd b12 dr12 kd0 kd4 => ⟨_, _, rfl, ?_⟩⟩
    obtain ⟨a, rfl⟩ : ∃ a : Nat, ra = (a : Int) := ⟨ra.toNat, by omega⟩
    have al : a ≤ (sT t8).length := by omega
    refine ⟨_, rfl, (by show 13 ≤ sizeLine; decide), fun p13 hp13 => ?_⟩
    have g13 := same_new hp13 (.lst (signs.map V.str))
    refine ⟨d, sc, p13, _, rfl, dr12.same g13, upd_same, (dr12.new hp13).1, (by show 0 < 13; decide), fun HZ sg hsg bZ dZ => ?_⟩
    obtain ⟨sg, hsg', rfl⟩ := List.mem_map.mp (show sg ∈ signs.map V.str from hsg)
    obtain ⟨sg5, sg40, sg32⟩ := signs_ok sg hsg'
    have BZ : But [d] H9 HZ := ((((b10.trans b11).trans b12).trans (But.of g13)).trans bZ)
    have lsg : (cs sg).length = sg.length := rfl
    have c1 := cs_cut_to (z := sT t8) al
    have c2 := cs_cut_from (z := sT t8) (a := a)
    have c3 := cs_cut_from (z := sT t8) (a := a + 1)
    rw [cs_sT] at c1 c2 c3
    have L1 : (cutS (sT t8) none (some (a : Int))).length = ((tx t8).take a).length := congrArg List.length c1
    have L2' : (cutS (sT t8) (some (a : Int)) none).length = ((tx t8).drop a).length := congrArg List.length c2
    have L3 : (cutS (sT t8) (some ((a + 1 : Nat) : Int)) none).length = ((tx t8).drop (a + 1)).length := congrArg List.length c3
    have T1 : ((tx t8).take a).length ≤ 435 := Nat.le_trans (List.take_sublist _ _).length_le len435
    have T2 : ((tx t8).drop a).length ≤ 435 := Nat.le_trans (List.drop_sublist _ _).length_le len435
    have T3 : ((tx t8).drop (a + 1)).length ≤ 435 := Nat.le_trans (List.drop_sublist _ _).length_le len435
    have par := aT.b.par
    have bla := aT.b.bla
    have ea : ((a : Int) + 1) = ((a + 1 : Nat) : Int) := by omega
    have szt : (sT t8).length ≤ sizeLine := Nat.le_of_lt (small1000 (by omega))
    rw [← ea] at c3 L3
    have hL0 : Late ((cutS (sT t8) none (some (a : Int)) ++ sg) ++ cutS (sT t8) (some (a : Int)) none) := by
      refine Late.of (u := ((tx t8).take a ++ cs sg) ++ (tx t8).drop a) (by rw [cs_app, cs_app, c1, c2]) ?_ ?_ ?_
      · rw [List.length_append, List.length_append]; omega
      · have := cut_count (tx t8) (Nat.le_refl a) 40
        rw [List.count_append, List.count_append]; omega
      · have := cut_count (tx t8) (Nat.le_refl a) 32
        rw [List.count_append, List.count_append]; omega
    have hL1 : Late (cutS (sT t8) none (some (a : Int)) ++ cutS (sT t8) (some ((a : Int) + 1)) none) := by
      refine Late.of (u := (tx t8).take a ++ (tx t8).drop (a + 1)) (by rw [cs_app, c1, c3]) ?_ ?_ ?_
      · rw [List.length_append]; omega
      · have := cut_count (tx t8) (show a ≤ a + 1 by omega) 40
        rw [List.count_append]; omega
      · have := cut_count (tx t8) (show a ≤ a + 1 by omega) 32
        rw [List.count_append]; omega
    have hL2 : Late ((cutS (sT t8) none (some (a : Int)) ++ sg) ++ cutS (sT t8) (some ((a : Int) + 1)) none) := by
      refine Late.of (u := ((tx t8).take a ++ cs sg) ++ (tx t8).drop (a + 1)) (by rw [cs_app, cs_app, c1, c3]) ?_ ?_ ?_
      · rw [List.length_append, List.length_append]; omega
      · have := cut_count (tx t8) (show a ≤ a + 1 by omega) 40
        rw [List.count_append, List.count_append]; omega
      · have := cut_count (tx t8) (show a ≤ a + 1 by omega) 32
        rw [List.count_append, List.count_append]; omega
    have n1 : cs ("(" : Str) = [40] := by decide +kernel
    have n2 : cs (")" : Str) = [41] := by decide +kernel
    have n3 : cs (" & (" : Str) = [32, 38, 32, 40] := by decide +kernel
    have hL3 : Late (("(" ++ sT t8) ++ ")") := by
      refine Late.of (u := ([40] ++ tx t8) ++ [41]) (by rw [cs_app, cs_app, n1, n2, cs_sT]) ?_ ?_ ?_
      · simp only [List.length_append, List.length_cons, List.length_nil]; omega
      · simp only [List.count_append, show List.count 40 [40] = 1 by decide, show List.count 40 [41] = 0 by decide]; omega
      · simp only [List.count_append, show List.count 32 [40] = 0 by decide, show List.count 32 [41] = 0 by decide]; omega
    have hL4 : Late (((sT t8 ++ " & (") ++ sT t8) ++ ")") := by
      refine Late.of (u := ((tx t8 ++ [32, 38, 32, 40]) ++ tx t8) ++ [41]) (by rw [cs_app, cs_app, cs_app, n2, n3, cs_sT]) ?_ ?_ ?_
      · simp only [List.length_append, List.length_cons, List.length_nil]; omega
      · simp only [List.count_append, show List.count 40 [32, 38, 32, 40] = 1 by decide, show List.count 40 [41] = 0 by decide]; omega
      · simp only [List.count_append, show List.count 32 [32, 38, 32, 40] = 2 by decide, show List.count 32 [41] = 0 by decide]; omega
    have z1 : ("(" : Str).length = 1 := by decide +kernel
    have z2 : (")" : Str).length = 1 := by decide +kernel
    have z3 : (" & (" : Str).length = 4 := by decide +kernel
    have sm : ∀ {n : Nat}, n ≤ 1000 → n ≤ sizeLine := fun h => Nat.le_of_lt (small1000 h)
    have k1 : (cutS (sT t8) none (some (a : Int))).length + sg.length ≤ sizeLine := sm (by omega)
    have k2 : (cutS (sT t8) none (some (a : Int)) ++ sg).length + (cutS (sT t8) (some (a : Int)) none).length ≤ sizeLine := sm (by rw [len_app]; omega)
    have k3 : (cutS (sT t8) none (some (a : Int))).length + (cutS (sT t8) (some ((a : Int) + 1)) none).length ≤ sizeLine := sm (by omega)
    have k4 : (cutS (sT t8) none (some (a : Int)) ++ sg).length + (cutS (sT t8) (some ((a : Int) + 1)) none).length ≤ sizeLine := sm (by rw [len_app]; omega)
    have k5 : ("(" : Str).length + (sT t8).length ≤ sizeLine := sm (by omega)
    have k6 : ("(" ++ sT t8).length + (")" : Str).length ≤ sizeLine := sm (by rw [len_app]; omega)
    have k7 : (sT t8).length + (" & (" : Str).length ≤ sizeLine := sm (by omega)
    have k8 : (sT t8 ++ " & (").length + (sT t8).length ≤ sizeLine := sm (by rw [len_app]; omega)
    have k9 : ((sT t8 ++ " & (") ++ sT t8).length + (")" : Str).length ≤ sizeLine := sm (by rw [len_app, len_app]; omega)
    refine ⟨_, rfl, _, rfl, _, rfl, _, rfl, szt, _, rfl, _, _, rfl, rfl, k1, _, rfl, _, rfl, _, rfl, _, rfl, szt, _, _, rfl, rfl, k2, ?_⟩
    have hk : kd = 0 ∨ kd = 1 ∨ kd = 2 ∨ kd = 3 := by omega
    rcases hk with rfl | rfl | rfl | rfl
    · have hL := hL0
      refine ⟨_, rfl, rfl, _, rfl, iteFe (by decide) ⟨_, rfl, rfl, _, rfl, iteFe (by decide) ⟨_, rfl, rfl, _, rfl, iteFe (by decide) ?_⟩⟩⟩
      refine ⟨_, rfl, _, rfl, pl_late hL, .inr ⟨_, rfl, hL.l, hL.me, hL.ml, hL.sp, fun H8 u8 t8 it8 s8 tv8 => ⟨_, rfl, _, rfl, hL.l, hL.me, hL.sp, fun H9 u9 t9 it9 s9 tv9 => ?_, fun no => (no t8 it8).elim⟩, fun no H8 s8 => ⟨_, rfl, _, rfl, hL.l, hL.me, hL.sp, fun H9 u9 t9 it9 s9 tv9 => (no t9 it9).elim, fun _ H9 s9 => ?_⟩⟩⟩
      · obtain rfl : t8 = t9 := tx_inj it8.1 it9.1 (it8.2.2.trans it9.2.2.symm)
        have sh : SeqAt.shaped (datT t8) = true := by
          refine shaped_T it8.1 ?_
          have := ns_sp t8 it8.1
          rw [it8.2.2] at this
          have := hL.sp
          omega
        refine ⟨datT t8, datT t8, dp_T (tv8.same s9), dp_T tv9, sh, sh, _, rfl, ?_⟩
        rw [eqv_T]
        exact iteF ⟨_, _, _, _, _, rfl, BZ.trans (But.of (s8.trans s9)), dZ.same (s8.trans s9)⟩
      · refine ⟨.none, .none, .non, .non, rfl, rfl, _, rfl, ?_⟩
        exact iteFe rfl ⟨_, _, _, _, _, rfl, BZ.trans (But.of (s8.trans s9)), dZ.same (s8.trans s9)⟩
    · have hL := hL1
      refine ⟨_, rfl, rfl, _, rfl, iteTe (by decide) ⟨_, rfl, _, rfl, _, rfl, _, rfl, szt, _, rfl, _, rfl, _, _, rfl, rfl, _, rfl, _, rfl, szt, _, _, rfl, rfl, k3, ⟨_, rfl, rfl, _, rfl, iteFe (by decide) ⟨_, rfl, rfl, _, rfl, iteFe (by decide) ?_⟩⟩⟩⟩
      refine ⟨_, rfl, _, rfl, pl_late hL, .inr ⟨_, rfl, hL.l, hL.me, hL.ml, hL.sp, fun H8 u8 t8 it8 s8 tv8 => ⟨_, rfl, _, rfl, hL.l, hL.me, hL.sp, fun H9 u9 t9 it9 s9 tv9 => ?_, fun no => (no t8 it8).elim⟩, fun no H8 s8 => ⟨_, rfl, _, rfl, hL.l, hL.me, hL.sp, fun H9 u9 t9 it9 s9 tv9 => (no t9 it9).elim, fun _ H9 s9 => ?_⟩⟩⟩
      · obtain rfl : t8 = t9 := tx_inj it8.1 it9.1 (it8.2.2.trans it9.2.2.symm)
        have sh : SeqAt.shaped (datT t8) = true := by
          refine shaped_T it8.1 ?_
          have := ns_sp t8 it8.1
          rw [it8.2.2] at this
          have := hL.sp
          omega
        refine ⟨datT t8, datT t8, dp_T (tv8.same s9), dp_T tv9, sh, sh, _, rfl, ?_⟩
        rw [eqv_T]
        exact iteF ⟨_, _, _, _, _, rfl, BZ.trans (But.of (s8.trans s9)), dZ.same (s8.trans s9)⟩
      · refine ⟨.none, .none, .non, .non, rfl, rfl, _, rfl, ?_⟩
        exact iteFe rfl ⟨_, _, _, _, _, rfl, BZ.trans (But.of (s8.trans s9)), dZ.same (s8.trans s9)⟩
    · have hL := hL2
      refine ⟨_, rfl, rfl, _, rfl, iteFe (by decide) ⟨_, rfl, rfl, _, rfl, iteTe (by decide) ⟨_, rfl, _, rfl, _, rfl, _, rfl, szt, _, rfl, _, _, rfl, rfl, k1, _, rfl, _, rfl, _, _, rfl, rfl, _, rfl, _, rfl, szt, _, _, rfl, rfl, k4, ⟨_, rfl, rfl, _, rfl, iteFe (by decide) ?_⟩⟩⟩⟩
      refine ⟨_, rfl, _, rfl, pl_late hL, .inr ⟨_, rfl, hL.l, hL.me, hL.ml, hL.sp, fun H8 u8 t8 it8 s8 tv8 => ⟨_, rfl, _, rfl, hL.l, hL.me, hL.sp, fun H9 u9 t9 it9 s9 tv9 => ?_, fun no => (no t8 it8).elim⟩, fun no H8 s8 => ⟨_, rfl, _, rfl, hL.l, hL.me, hL.sp, fun H9 u9 t9 it9 s9 tv9 => (no t9 it9).elim, fun _ H9 s9 => ?_⟩⟩⟩
      · obtain rfl : t8 = t9 := tx_inj it8.1 it9.1 (it8.2.2.trans it9.2.2.symm)
        have sh : SeqAt.shaped (datT t8) = true := by
          refine shaped_T it8.1 ?_
          have := ns_sp t8 it8.1
          rw [it8.2.2] at this
          have := hL.sp
          omega
        refine ⟨datT t8, datT t8, dp_T (tv8.same s9), dp_T tv9, sh, sh, _, rfl, ?_⟩
        rw [eqv_T]
        exact iteF ⟨_, _, _, _, _, rfl, BZ.trans (But.of (s8.trans s9)), dZ.same (s8.trans s9)⟩
      · refine ⟨.none, .none, .non, .non, rfl, rfl, _, rfl, ?_⟩
        exact iteFe rfl ⟨_, _, _, _, _, rfl, BZ.trans (But.of (s8.trans s9)), dZ.same (s8.trans s9)⟩
    · refine ⟨_, rfl, rfl, _, rfl, iteFe (by decide) ⟨_, rfl, rfl, _, rfl, iteFe (by decide) ⟨_, rfl, rfl, _, rfl, iteTe (by decide) ⟨_, rfl, _, _, rfl, rfl, (by show (0 : Int) < 2; decide), rfl, _, rfl, ite2 (fun _ => ⟨_, rfl, _, _, rfl, rfl, k5, _, _, rfl, rfl, k6, ?_⟩) (fun _ => ⟨_, rfl, _, _, rfl, rfl, k7, _, rfl, _, _, rfl, rfl, k8, _, _, rfl, rfl, k9, ?_⟩)⟩⟩⟩⟩
      · have hL := hL3
        refine ⟨_, rfl, _, rfl, pl_late hL, .inr ⟨_, rfl, hL.l, hL.me, hL.ml, hL.sp, fun H8 u8 t8 it8 s8 tv8 => ⟨_, rfl, _, rfl, hL.l, hL.me, hL.sp, fun H9 u9 t9 it9 s9 tv9 => ?_, fun no => (no t8 it8).elim⟩, fun no H8 s8 => ⟨_, rfl, _, rfl, hL.l, hL.me, hL.sp, fun H9 u9 t9 it9 s9 tv9 => (no t9 it9).elim, fun _ H9 s9 => ?_⟩⟩⟩
        · obtain rfl : t8 = t9 := tx_inj it8.1 it9.1 (it8.2.2.trans it9.2.2.symm)
          have sh : SeqAt.shaped (datT t8) = true := by
            refine shaped_T it8.1 ?_
            have := ns_sp t8 it8.1
            rw [it8.2.2] at this
            have := hL.sp
            omega
          refine ⟨datT t8, datT t8, dp_T (tv8.same s9), dp_T tv9, sh, sh, _, rfl, ?_⟩
          rw [eqv_T]
          exact iteF ⟨_, _, _, _, _, rfl, BZ.trans (But.of (s8.trans s9)), dZ.same (s8.trans s9)⟩
        · refine ⟨.none, .none, .non, .non, rfl, rfl, _, rfl, ?_⟩
          exact iteFe rfl ⟨_, _, _, _, _, rfl, BZ.trans (But.of (s8.trans s9)), dZ.same (s8.trans s9)⟩
      · have hL := hL4
        refine ⟨_, rfl, _, rfl, pl_late hL, .inr ⟨_, rfl, hL.l, hL.me, hL.ml, hL.sp, fun H8 u8 t8 it8 s8 tv8 => ⟨_, rfl, _, rfl, hL.l, hL.me, hL.sp, fun H9 u9 t9 it9 s9 tv9 => ?_, fun no => (no t8 it8).elim⟩, fun no H8 s8 => ⟨_, rfl, _, rfl, hL.l, hL.me, hL.sp, fun H9 u9 t9 it9 s9 tv9 => (no t9 it9).elim, fun _ H9 s9 => ?_⟩⟩⟩
        · obtain rfl : t8 = t9 := tx_inj it8.1 it9.1 (it8.2.2.trans it9.2.2.symm)
          have sh : SeqAt.shaped (datT t8) = true := by
            refine shaped_T it8.1 ?_
            have := ns_sp t8 it8.1
            rw [it8.2.2] at this
            have := hL.sp
            omega
          refine ⟨datT t8, datT t8, dp_T (tv8.same s9), dp_T tv9, sh, sh, _, rfl, ?_⟩
          rw [eqv_T]
          exact iteF ⟨_, _, _, _, _, rfl, BZ.trans (But.of (s8.trans s9)), dZ.same (s8.trans s9)⟩
        · refine ⟨.none, .none, .non, .non, rfl, rfl, _, rfl, ?_⟩
          exact iteFe rfl ⟨_, _, _, _, _, rfl, BZ.trans (But.of (s8.trans s9)), dZ.same (s8.trans s9)⟩
  · rintro σ H2 ⟨o4, o5, o6, o7, o8, o9, o10, o11, rfl, dr2, A2⟩
    have A2' := A2
    refine ⟨(by show 3 ≤ sizeLine; decide), fun p1 hp1 => ⟨(by show 8 ≤ sizeLine; decide), fun p2 hp2 => ⟨p2, rfl, ⟨_, SqT.of upd_same⟩, fun D0 hD => ?_⟩⟩⟩
    have w1 := same_new hp1 (.tup [.str "and", .str "a", .str "b"])
    have w2 := same_new hp2 (.tup [.str "", .str " ", .non, .int 7, .ref p1, .str "a &", .str "some", .str "& a"])
    have p1at := w2 _ _ (upd_same (H := H2) (a := p1) (o := .tup [.str "and", .str "a", .str "b"]))
    have pD2 : p2 ≠ D0 := ne_of_none upd_same hD
    have pD1 : p1 ≠ D0 := ne_of_none p1at hD
    have bad : ∀ x ∈ [V.str "", .str " ", .non, .int 7, .ref p1, .str "a &", .str "some", .str "& a"], ∀ H4 : Hp, H4 p1 = some (.tup [.str "and", .str "a", .str "b"]) → Pl H4 x ∧ (isStr x = false ∨ ∃ s : Str, x = .str s ∧ Late s ∧ ∀ t, ¬ IsTx (cs s) t) := fun x hx H4 h1 => by
      have str : ∀ s : Str, (cs s).length ≤ 100 → (cs s).count 40 ≤ 28 → (cs s).count 32 ≤ 110 → (match dWhole 202 0 (cs s) with | some (_, []) => true | _ => false) = false → Pl H4 (.str s) ∧ (isStr (.str s) = false ∨ ∃ s' : Str, V.str s = .str s' ∧ Late s' ∧ ∀ t, ¬ IsTx (cs s') t) := fun s l p b h => by
        have L := Late.of (s := s) rfl (by omega) p b
        exact ⟨pl_late L, .inr ⟨s, rfl, L, no_text s 202 (by omega) L.sp h⟩⟩
      simp only [List.mem_cons, List.not_mem_nil, or_false] at hx
      rcases hx with rfl | rfl | rfl | rfl | rfl | rfl | rfl | rfl
      · exact str _ (by decide +kernel) (by decide +kernel) (by decide +kernel) (by decide +kernel)
      · exact str _ (by decide +kernel) (by decide +kernel) (by decide +kernel) (by decide +kernel)
      · exact ⟨trivial, .inl rfl⟩
      · exact ⟨trivial, .inl rfl⟩
      · exact ⟨.inr ⟨_, h1⟩, .inl rfl⟩
      · exact str _ (by decide +kernel) (by decide +kernel) (by decide +kernel) (by decide +kernel)
      · exact str _ (by decide +kernel) (by decide +kernel) (by decide +kernel) (by decide +kernel)
      · exact str _ (by decide +kernel) (by decide +kernel) (by decide +kernel) (by decide +kernel)
    refine lc_tup (K := K) (a := p2) (xs := [V.str "", .str " ", .non, .int 7, .ref p1, .str "a &", .str "some", .str "& a"]) (fun j H4 => But [D0] (upd (upd (upd H2 p1 (.tup [.str "and", .str "a", .str "b"])) p2 (.tup [.str "", .str " ", .non, .int 7, .ref p1, .str "a &", .str "some", .str "& a"])) D0 (.lst [])) H4 ∧ H4 D0 = some (.lst ((List.replicate j true).map V.bl)))
      ⟨But.refl _, upd_same⟩ (fun j H4 _ hh => SqT.of (hh.1 _ _ (by simpa using pD2) (by rw [upd_ne pD2]; exact upd_same))) ?_ ?_
    · rintro j x H4 hj ⟨b4, h4⟩
      have p14 : H4 p1 = some (.tup [.str "and", .str "a", .str "b"]) := b4 _ _ (by simpa using pD1) (by rw [upd_ne pD1]; exact p1at)
      have j8 : j < 8 := (List.getElem?_eq_some_iff.mp hj).1
      obtain ⟨hpl, hb⟩ := bad x (List.mem_of_getElem? hj) H4 p14
      have fin : ∀ H5, Same H4 H5 → ∃ acc, H5 D0 = some (.lst acc) ∧ acc.length < sizeLine ∧ (But [D0] (upd (upd (upd H2 p1 (.tup [.str "and", .str "a", .str "b"])) p2 (.tup [.str "", .str " ", .non, .int 7, .ref p1, .str "a &", .str "some", .str "& a"])) D0 (.lst [])) (upd H5 D0 (.lst (acc ++ [V.bl (decide (V.non = V.non))]))) ∧ (upd H5 D0 (.lst (acc ++ [V.bl (decide (V.non = V.non))]))) D0 = some (.lst ((List.replicate (j + 1) true).map V.bl))) := fun H5 s5 => by
        refine ⟨_, s5 _ _ h4, ?_, (b4.trans (But.of s5)).trans (But.put (by simp)), ?_⟩
        · rw [List.length_map, List.length_replicate]; exact small1000 (by omega)
        · rw [upd_same, List.replicate_succ', List.map_append]; simp
      refine ⟨rfl, _, rfl, x, rfl, hpl, ?_⟩
      rcases hb with e | ⟨s, rfl, L, no⟩
      · exact .inl ⟨e, fun H5 s5 => ⟨rfl, fin H5 s5⟩⟩
      · exact .inr ⟨s, rfl, L.l, L.me, L.ml, L.sp, fun H5 u t it => (no t it).elim, fun _ H5 s5 => ⟨rfl, fin H5 s5⟩⟩
    · rintro H4 ⟨b4, h4⟩
      exact ⟨D0, List.replicate 8 true, rfl, SqL.of h4, q H4⟩
end
end K1
namespace K1
open PySem L2
set_option maxHeartbeats 0 in
theorem defs_mk {K : PySem.W.Frag} {h : Heap} {mg : Str → Option Value} (X : K.In h) (G : h.Ns mainGlobals mg)
    {f0 f1 f2 f3 f4 f5 f6 f7 f8 f9 f10 f11 f12 f13 f14 f15 f16 f17 f18 f19 f20 f21 f22 f23 f24 f25 f26 f27 f28 f29 f30 f31 f32 nw rC bT : Addr} {od0 an0 od1 an1 od2 an2 od3 an3 od4 an4 od5 an5 od6 an6 od7 an7 od8 an8 od9 an9 od10 an10 od11 an11 od12 an12 od13 an13 od14 an14 od15 an15 od16 an16 od17 an17 od18 an18 od19 an19 od20 an20 od21 an21 od22 an22 od23 an23 od24 an24 od25 an25 od26 an26 od27 an27 od28 an28 od29 an29 od30 an30 od31 an31 od32 an32 ddN : Option Addr} {sl0 sl1 sl2 sl3 sl4 sl5 sl6 sl7 sl8 sl9 sl10 sl11 sl12 sl13 sl14 sl15 sl16 sl17 sl18 sl19 sl20 sl21 sl22 sl23 sl24 sl25 sl26 sl27 sl28 sl29 sl30 sl31 sl32 slN : Array (Option Value)} {nN : Nat} {tk1 tk2 tk3 tkL tkD : Tok}
    {oc0 kV0 dc0 pm0 cd0 ct0 oc1 kV1 dc1 pm1 cd1 ct1 oc2 kV2 dc2 pm2 cd2 ct2 oc3 kV3 dc3 pm3 cd3 ct3 oc4 kV4 dc4 pm4 cd4 ct4 oc5 kV5 dc5 pm5 cd5 ct5 oc6 kV6 dc6 pm6 cd6 ct6 oc7 kV7 dc7 pm7 cd7 ct7 oc8 kV8 dc8 pm8 cd8 ct8 oc9 kV9 dc9 pm9 cd9 ct9 oc10 kV10 dc10 pm10 cd10 ct10 oc11 kV11 dc11 pm11 cd11 ct11 oc12 kV12 dc12 pm12 cd12 ct12 oc13 kV13 dc13 pm13 cd13 ct13 oc14 kV14 dc14 pm14 cd14 ct14 oc15 kV15 dc15 pm15 cd15 ct15 oc16 kV16 dc16 pm16 cd16 ct16 oc17 kV17 dc17 pm17 cd17 ct17 oc18 kV18 dc18 pm18 cd18 ct18 oc19 kV19 dc19 pm19 cd19 ct19 oc20 kV20 dc20 pm20 cd20 ct20 oc21 kV21 dc21 pm21 cd21 ct21 oc22 kV22 dc22 pm22 cd22 ct22 oc23 kV23 dc23 pm23 cd23 ct23 oc24 kV24 dc24 pm24 cd24 ct24 oc25 kV25 dc25 pm25 cd25 ct25 oc26 kV26 dc26 pm26 cd26 ct26 oc27 kV27 dc27 pm27 cd27 ct27 oc28 kV28 dc28 pm28 cd28 ct28 oc29 kV29 dc29 pm29 cd29 ct29 oc30 kV30 dc30 pm30 cd30 ct30 oc31 kV31 dc31 pm31 cd31 ct31 oc32 kV32 dc32 pm32 cd32 ct32 : Value}
    (m_rC : PySem.W.nsIn K mainGlobals "Reader" = some (some (.ref rC)))
    (pg_rC : PySem.W.plainGet K rC Str.empty = true)
    (hd_rC : PySem.W.hasDictIn K rC = true)
    (po_rC : PySem.W.plainOver K rC = true)
    (sa_rC : PySem.W.findIn K (.ref rC) "__setattr__" = some (some (.builtin "object.__setattr__")))
    (mk_rC : PySem.W.makesIn K rC = true)
    (kp_rC : PySem.W.keepIn K (.ref rC) = true)
    (n_rC_told : PySem.W.findIn K (.ref rC) "_told" = some none)
    (n_rC_at : PySem.W.findIn K (.ref rC) "_at" = some none)
    (m_bT : PySem.W.nsIn K mainGlobals "BadText" = some (some (.ref bT)))
    (x_bT : PySem.W.excIn K bT [.type "ValueError", .type "Exception", .type "BaseException", .type "object"] "ValueError.__new__" = true)
    (k_bT : PySem.W.keepIn K (.ref bT) = true)
    (b_bT : PySem.W.subIn K (.ref bT) (.type "BaseException") = some true)
    (t_bT : PySem.W.typeIn K (.ref bT) = some (.type "type"))
    (i_bT : PySem.W.isClsIn K bT = true)
    (s_bT : PySem.W.subIn K (.ref bT) (.ref bT) = some true)
    (a0 : PySem.W.nsIn K mainGlobals "is_word" = some (some (.ref f0)))
    (l0 : K.lookup f0 = some ⟨oc0, od0, .func (PySem.W.fnOf "is_word" "is_word" (defArgs s_is_word) (defBody s_is_word) (defScope s_is_word) .none kV0 dc0 pm0 an0 cd0 ct0), sl0⟩)
    (c0 : PySem.W.codeIn K cd0 "is_word" = true)
    (k0 : PySem.W.keepIn K (.ref f0) = true)
    (a1 : PySem.W.nsIn K mainGlobals "is_concept" = some (some (.ref f1)))
    (l1 : K.lookup f1 = some ⟨oc1, od1, .func (PySem.W.fnOf "is_concept" "is_concept" (defArgs s_is_concept) (defBody s_is_concept) (defScope s_is_concept) .none kV1 dc1 pm1 an1 cd1 ct1), sl1⟩)
    (c1 : PySem.W.codeIn K cd1 "is_concept" = true)
    (k1 : PySem.W.keepIn K (.ref f1) = true)
    (a2 : PySem.W.nsIn K mainGlobals "_is_nested" = some (some (.ref f2)))
    (l2 : K.lookup f2 = some ⟨oc2, od2, .func (PySem.W.fnOf "_is_nested" "_is_nested" (defArgs s_is_nested) (defBody s_is_nested) (defScope s_is_nested) .none kV2 dc2 pm2 an2 cd2 ct2), sl2⟩)
    (c2 : PySem.W.codeIn K cd2 "_is_nested" = true)
    (k2 : PySem.W.keepIn K (.ref f2) = true)
    (a3 : PySem.W.nsIn K mainGlobals "need_concept" = some (some (.ref f3)))
    (l3 : K.lookup f3 = some ⟨oc3, od3, .func (PySem.W.fnOf "need_concept" "need_concept" (defArgs s_need_concept) (defBody s_need_concept) (defScope s_need_concept) .none kV3 dc3 pm3 an3 cd3 ct3), sl3⟩)
    (c3 : PySem.W.codeIn K cd3 "need_concept" = true)
    (k3 : PySem.W.keepIn K (.ref f3) = true)
    (a4 : PySem.W.nsIn K mainGlobals "inner" = some (some (.ref f4)))
    (l4 : K.lookup f4 = some ⟨oc4, od4, .func (PySem.W.fnOf "inner" "inner" (defArgs s_inner) (defBody s_inner) (defScope s_inner) .none kV4 dc4 pm4 an4 cd4 ct4), sl4⟩)
    (c4 : PySem.W.codeIn K cd4 "inner" = true)
    (k4 : PySem.W.keepIn K (.ref f4) = true)
    (a5 : PySem.W.nsIn K mainGlobals "gather" = some (some (.ref f5)))
    (l5 : K.lookup f5 = some ⟨oc5, od5, .func (PySem.W.fnOf "gather" "gather" (defArgs s_gather) (defBody s_gather) (defScope s_gather) .none kV5 dc5 pm5 an5 cd5 ct5), sl5⟩)
    (c5 : PySem.W.codeIn K cd5 "gather" = true)
    (k5 : PySem.W.keepIn K (.ref f5) = true)
    (a6 : PySem.W.nsIn K mainGlobals "text_of" = some (some (.ref f6)))
    (l6 : K.lookup f6 = some ⟨oc6, od6, .func (PySem.W.fnOf "text_of" "text_of" (defArgs s_text_of) (defBody s_text_of) (defScope s_text_of) .none kV6 dc6 pm6 an6 cd6 ct6), sl6⟩)
    (c6 : PySem.W.codeIn K cd6 "text_of" = true)
    (k6 : PySem.W.keepIn K (.ref f6) = true)
    (a7 : PySem.W.nsIn K mainGlobals "text" = some (some (.ref f7)))
    (l7 : K.lookup f7 = some ⟨oc7, od7, .func (PySem.W.fnOf "text" "text" (defArgs s_text) (defBody s_text) (defScope s_text) .none kV7 dc7 pm7 an7 cd7 ct7), sl7⟩)
    (c7 : PySem.W.codeIn K cd7 "text" = true)
    (k7 : PySem.W.keepIn K (.ref f7) = true)
    (a8 : PySem.W.findIn K (.ref rC) "__init__" = some (some (.ref f8)))
    (i8 : PySem.W.isFn K (.ref f8) = true)
    (l8 : K.lookup f8 = some ⟨oc8, od8, .func (PySem.W.fnOf "__init__" "Reader.__init__" (defArgs s_r_init) (defBody s_r_init) (defScope s_r_init) .none kV8 dc8 pm8 an8 cd8 ct8), sl8⟩)
    (c8 : PySem.W.codeIn K cd8 "Reader.__init__" = true)
    (k8 : PySem.W.keepIn K (.ref f8) = true)
    (a9 : PySem.W.findIn K (.ref rC) "read_all" = some (some (.ref f9)))
    (i9 : PySem.W.isFn K (.ref f9) = true)
    (l9 : K.lookup f9 = some ⟨oc9, od9, .func (PySem.W.fnOf "read_all" "Reader.read_all" (defArgs s_r_read_all) (defBody s_r_read_all) (defScope s_r_read_all) .none kV9 dc9 pm9 an9 cd9 ct9), sl9⟩)
    (c9 : PySem.W.codeIn K cd9 "Reader.read_all" = true)
    (k9 : PySem.W.keepIn K (.ref f9) = true)
    (a10 : PySem.W.findIn K (.ref rC) "_takes" = some (some (.ref f10)))
    (i10 : PySem.W.isFn K (.ref f10) = true)
    (l10 : K.lookup f10 = some ⟨oc10, od10, .func (PySem.W.fnOf "_takes" "Reader._takes" (defArgs s_r_takes) (defBody s_r_takes) (defScope s_r_takes) .none kV10 dc10 pm10 an10 cd10 ct10), sl10⟩)
    (c10 : PySem.W.codeIn K cd10 "Reader._takes" = true)
    (k10 : PySem.W.keepIn K (.ref f10) = true)
    (a11 : PySem.W.findIn K (.ref rC) "_read_word" = some (some (.ref f11)))
    (i11 : PySem.W.isFn K (.ref f11) = true)
    (l11 : K.lookup f11 = some ⟨oc11, od11, .func (PySem.W.fnOf "_read_word" "Reader._read_word" (defArgs s_r_read_word) (defBody s_r_read_word) (defScope s_r_read_word) .none kV11 dc11 pm11 an11 cd11 ct11), sl11⟩)
    (c11 : PySem.W.codeIn K cd11 "Reader._read_word" = true)
    (k11 : PySem.W.keepIn K (.ref f11) = true)
    (a12 : PySem.W.findIn K (.ref rC) "_read_items" = some (some (.ref f12)))
    (i12 : PySem.W.isFn K (.ref f12) = true)
    (l12 : K.lookup f12 = some ⟨oc12, od12, .func (PySem.W.fnOf "_read_items" "Reader._read_items" (defArgs s_r_read_items) (defBody s_r_read_items) (defScope s_r_read_items) .none kV12 dc12 pm12 an12 cd12 ct12), sl12⟩)
    (c12 : PySem.W.codeIn K cd12 "Reader._read_items" = true)
    (k12 : PySem.W.keepIn K (.ref f12) = true)
    (a13 : PySem.W.findIn K (.ref rC) "_read_item" = some (some (.ref f13)))
    (i13 : PySem.W.isFn K (.ref f13) = true)
    (l13 : K.lookup f13 = some ⟨oc13, od13, .func (PySem.W.fnOf "_read_item" "Reader._read_item" (defArgs s_r_read_item) (defBody s_r_read_item) (defScope s_r_read_item) .none kV13 dc13 pm13 an13 cd13 ct13), sl13⟩)
    (c13 : PySem.W.codeIn K cd13 "Reader._read_item" = true)
    (k13 : PySem.W.keepIn K (.ref f13) = true)
    (a14 : PySem.W.nsIn K mainGlobals "read" = some (some (.ref f14)))
    (l14 : K.lookup f14 = some ⟨oc14, od14, .func (PySem.W.fnOf "read" "read" (defArgs s_read) (defBody s_read) (defScope s_read) .none kV14 dc14 pm14 an14 cd14 ct14), sl14⟩)
    (c14 : PySem.W.codeIn K cd14 "read" = true)
    (k14 : PySem.W.keepIn K (.ref f14) = true)
    (a15 : PySem.W.nsIn K mainGlobals "_law_cell_at" = some (some (.ref f15)))
    (l15 : K.lookup f15 = some ⟨oc15, od15, .func (PySem.W.fnOf "_law_cell_at" "_law_cell_at" (defArgs s_law_cell_at) (defBody s_law_cell_at) (defScope s_law_cell_at) .none kV15 dc15 pm15 an15 cd15 ct15), sl15⟩)
    (c15 : PySem.W.codeIn K cd15 "_law_cell_at" = true)
    (k15 : PySem.W.keepIn K (.ref f15) = true)
    (a16 : PySem.W.nsIn K mainGlobals "_law_draw" = some (some (.ref f16)))
    (l16 : K.lookup f16 = some ⟨oc16, od16, .func (PySem.W.fnOf "_law_draw" "_law_draw" (defArgs s_law_draw) (defBody s_law_draw) (defScope s_law_draw) .none kV16 dc16 pm16 an16 cd16 ct16), sl16⟩)
    (c16 : PySem.W.codeIn K cd16 "_law_draw" = true)
    (k16 : PySem.W.keepIn K (.ref f16) = true)
    (a17 : PySem.W.nsIn K mainGlobals "_law_number" = some (some (.ref f17)))
    (l17 : K.lookup f17 = some ⟨oc17, od17, .func (PySem.W.fnOf "_law_number" "_law_number" (defArgs s_law_number) (defBody s_law_number) (defScope s_law_number) .none kV17 dc17 pm17 an17 cd17 ct17), sl17⟩)
    (c17 : PySem.W.codeIn K cd17 "_law_number" = true)
    (k17 : PySem.W.keepIn K (.ref f17) = true)
    (a18 : PySem.W.nsIn K mainGlobals "_law_next" = some (some (.ref f18)))
    (l18 : K.lookup f18 = some ⟨oc18, od18, .func (PySem.W.fnOf "_law_next" "_law_next" (defArgs s_law_next) (defBody s_law_next) (defScope s_law_next) .none kV18 dc18 pm18 an18 cd18 ct18), sl18⟩)
    (c18 : PySem.W.codeIn K cd18 "_law_next" = true)
    (k18 : PySem.W.keepIn K (.ref f18) = true)
    (a19 : PySem.W.nsIn K mainGlobals "_law_pick" = some (some (.ref f19)))
    (l19 : K.lookup f19 = some ⟨oc19, od19, .func (PySem.W.fnOf "_law_pick" "_law_pick" (defArgs s_law_pick) (defBody s_law_pick) (defScope s_law_pick) .none kV19 dc19 pm19 an19 cd19 ct19), sl19⟩)
    (c19 : PySem.W.codeIn K cd19 "_law_pick" = true)
    (k19 : PySem.W.keepIn K (.ref f19) = true)
    (a20 : PySem.W.nsIn K mainGlobals "_law_words" = some (some (.ref f20)))
    (l20 : K.lookup f20 = some ⟨oc20, od20, .func (PySem.W.fnOf "_law_words" "_law_words" (defArgs s_law_words) (defBody s_law_words) (defScope s_law_words) .none kV20 dc20 pm20 an20 cd20 ct20), sl20⟩)
    (c20 : PySem.W.codeIn K cd20 "_law_words" = true)
    (k20 : PySem.W.keepIn K (.ref f20) = true)
    (a21 : PySem.W.nsIn K mainGlobals "_law_alphabet" = some (some (.ref f21)))
    (l21 : K.lookup f21 = some ⟨oc21, od21, .func (PySem.W.fnOf "_law_alphabet" "_law_alphabet" (defArgs s_law_alphabet) (defBody s_law_alphabet) (defScope s_law_alphabet) .none kV21 dc21 pm21 an21 cd21 ct21), sl21⟩)
    (c21 : PySem.W.codeIn K cd21 "_law_alphabet" = true)
    (k21 : PySem.W.keepIn K (.ref f21) = true)
    (a22 : PySem.W.nsIn K mainGlobals "_law_concept" = some (some (.ref f22)))
    (l22 : K.lookup f22 = some ⟨oc22, od22, .func (PySem.W.fnOf "_law_concept" "_law_concept" (defArgs s_law_concept) (defBody s_law_concept) (defScope s_law_concept) .none kV22 dc22 pm22 an22 cd22 ct22), sl22⟩)
    (c22 : PySem.W.codeIn K cd22 "_law_concept" = true)
    (k22 : PySem.W.keepIn K (.ref f22) = true)
    (a23 : PySem.W.nsIn K mainGlobals "_law_none" = some (some (.ref f23)))
    (l23 : K.lookup f23 = some ⟨oc23, od23, .func (PySem.W.fnOf "_law_none" "_law_none" (defArgs s_law_none) (defBody s_law_none) (defScope s_law_none) .none kV23 dc23 pm23 an23 cd23 ct23), sl23⟩)
    (c23 : PySem.W.codeIn K cd23 "_law_none" = true)
    (k23 : PySem.W.keepIn K (.ref f23) = true)
    (a24 : PySem.W.nsIn K mainGlobals "_law_text" = some (some (.ref f24)))
    (l24 : K.lookup f24 = some ⟨oc24, od24, .func (PySem.W.fnOf "_law_text" "_law_text" (defArgs s_law_text) (defBody s_law_text) (defScope s_law_text) .none kV24 dc24 pm24 an24 cd24 ct24), sl24⟩)
    (c24 : PySem.W.codeIn K cd24 "_law_text" = true)
    (k24 : PySem.W.keepIn K (.ref f24) = true)
    (a25 : PySem.W.nsIn K mainGlobals "_law_read" = some (some (.ref f25)))
    (l25 : K.lookup f25 = some ⟨oc25, od25, .func (PySem.W.fnOf "_law_read" "_law_read" (defArgs s_law_read) (defBody s_law_read) (defScope s_law_read) .none kV25 dc25 pm25 an25 cd25 ct25), sl25⟩)
    (c25 : PySem.W.codeIn K cd25 "_law_read" = true)
    (k25 : PySem.W.keepIn K (.ref f25) = true)
    (a26 : PySem.W.nsIn K mainGlobals "_law_token" = some (some (.ref f26)))
    (l26 : K.lookup f26 = some ⟨oc26, od26, .func (PySem.W.fnOf "_law_token" "_law_token" (defArgs s_law_token) (defBody s_law_token) (defScope s_law_token) .none kV26 dc26 pm26 an26 cd26 ct26), sl26⟩)
    (c26 : PySem.W.codeIn K cd26 "_law_token" = true)
    (k26 : PySem.W.keepIn K (.ref f26) = true)
    (a27 : PySem.W.nsIn K mainGlobals "_law_is_word" = some (some (.ref f27)))
    (l27 : K.lookup f27 = some ⟨oc27, od27, .func (PySem.W.fnOf "_law_is_word" "_law_is_word" (defArgs s_law_is_word) (defBody s_law_is_word) (defScope s_law_is_word) .none kV27 dc27 pm27 an27 cd27 ct27), sl27⟩)
    (c27 : PySem.W.codeIn K cd27 "_law_is_word" = true)
    (k27 : PySem.W.keepIn K (.ref f27) = true)
    (a28 : PySem.W.nsIn K mainGlobals "_law_is_and" = some (some (.ref f28)))
    (l28 : K.lookup f28 = some ⟨oc28, od28, .func (PySem.W.fnOf "_law_is_and" "_law_is_and" (defArgs s_law_is_and) (defBody s_law_is_and) (defScope s_law_is_and) .none kV28 dc28 pm28 an28 cd28 ct28), sl28⟩)
    (c28 : PySem.W.codeIn K cd28 "_law_is_and" = true)
    (k28 : PySem.W.keepIn K (.ref f28) = true)
    (a29 : PySem.W.nsIn K mainGlobals "_law_item" = some (some (.ref f29)))
    (l29 : K.lookup f29 = some ⟨oc29, od29, .func (PySem.W.fnOf "_law_item" "_law_item" (defArgs s_law_item) (defBody s_law_item) (defScope s_law_item) .none kV29 dc29 pm29 an29 cd29 ct29), sl29⟩)
    (c29 : PySem.W.codeIn K cd29 "_law_item" = true)
    (k29 : PySem.W.keepIn K (.ref f29) = true)
    (a30 : PySem.W.nsIn K mainGlobals "_law_whole" = some (some (.ref f30)))
    (l30 : K.lookup f30 = some ⟨oc30, od30, .func (PySem.W.fnOf "_law_whole" "_law_whole" (defArgs s_law_whole) (defBody s_law_whole) (defScope s_law_whole) .none kV30 dc30 pm30 an30 cd30 ct30), sl30⟩)
    (c30 : PySem.W.codeIn K cd30 "_law_whole" = true)
    (k30 : PySem.W.keepIn K (.ref f30) = true)
    (a31 : PySem.W.nsIn K mainGlobals "_law_due" = some (some (.ref f31)))
    (l31 : K.lookup f31 = some ⟨oc31, od31, .func (PySem.W.fnOf "_law_due" "_law_due" (defArgs s_law_due) (defBody s_law_due) (defScope s_law_due) .none kV31 dc31 pm31 an31 cd31 ct31), sl31⟩)
    (c31 : PySem.W.codeIn K cd31 "_law_due" = true)
    (k31 : PySem.W.keepIn K (.ref f31) = true)
    (a32 : PySem.W.nsIn K mainGlobals "law" = some (some (.ref f32)))
    (l32 : K.lookup f32 = some ⟨oc32, od32, .func (PySem.W.fnOf "law" "law" (defArgs s_law) (defBody s_law) (defScope s_law) .none kV32 dc32 pm32 an32 cd32 ct32), sl32⟩)
    (c32 : PySem.W.codeIn K cd32 "law" = true)
    (k32 : PySem.W.keepIn K (.ref f32) = true)
    (aN : PySem.W.nsIn K mainGlobals "NO_WORDS" = some (some (.ref nw)))
    (lN : K.lookup nw = some ⟨.type "tuple", ddN, .seq #[.str "all" tk1, .str "none" tk2, .str "some" tk3] nN, slN⟩)
    (aL : PySem.W.nsIn K mainGlobals "LONGEST" = some (some (.int 12 tkL)))
    (aD : PySem.W.nsIn K mainGlobals "DEEPEST" = some (some (.int 100 tkD)))
    (z_isinstance : PySem.W.nsIn K mainGlobals "isinstance" = some none)
    (z_str : PySem.W.nsIn K mainGlobals "str" = some none)
    (z_len : PySem.W.nsIn K mainGlobals "len" = some none)
    (z_tuple : PySem.W.nsIn K mainGlobals "tuple" = some none)
    (z_int : PySem.W.nsIn K mainGlobals "int" = some none)
    (z_range : PySem.W.nsIn K mainGlobals "range" = some none)
    (z_all : PySem.W.nsIn K mainGlobals "all" = some none) : Nonempty (Defs K mg) := by
  have F0 := fun_mk (st := s_is_word) l0 c0 k0
  have b0 := F0.binds (ps := ["thing"]) fun _ _ _ _ _ _ us hl => match us, hl with | [_], _ => rfl
  have F1 := fun_mk (st := s_is_concept) l1 c1 k1
  have b1 := F1.binds (ps := ["thing"]) fun _ _ _ _ _ _ us hl => match us, hl with | [_], _ => rfl
  have F2 := fun_mk (st := s_is_nested) l2 c2 k2
  have b2 := F2.binds (ps := ["thing", "levels"]) fun _ _ _ _ _ _ us hl => match us, hl with | [_, _], _ => rfl
  have F3 := fun_mk (st := s_need_concept) l3 c3 k3
  have b3 := F3.binds (ps := ["thing"]) fun _ _ _ _ _ _ us hl => match us, hl with | [_], _ => rfl
  have F4 := fun_mk (st := s_inner) l4 c4 k4
  have b4 := F4.binds (ps := ["concept"]) fun _ _ _ _ _ _ us hl => match us, hl with | [_], _ => rfl
  have F5 := fun_mk (st := s_gather) l5 c5 k5
  have b5 := F5.binds (ps := ["concept", "found"]) fun _ _ _ _ _ _ us hl => match us, hl with | [_, _], _ => rfl
  have F6 := fun_mk (st := s_text_of) l6 c6 k6
  have b6 := F6.binds (ps := ["concept"]) fun _ _ _ _ _ _ us hl => match us, hl with | [_], _ => rfl
  have F7 := fun_mk (st := s_text) l7 c7 k7
  have b7 := F7.binds (ps := ["concept"]) fun _ _ _ _ _ _ us hl => match us, hl with | [_], _ => rfl
  have F8 := fun_mk (st := s_r_init) l8 c8 k8
  have b8 := F8.binds (ps := ["self", "told"]) fun _ _ _ _ _ _ us hl => match us, hl with | [_, _], _ => rfl
  have F9 := fun_mk (st := s_r_read_all) l9 c9 k9
  have b9 := F9.binds (ps := ["self"]) fun _ _ _ _ _ _ us hl => match us, hl with | [_], _ => rfl
  have F10 := fun_mk (st := s_r_takes) l10 c10 k10
  have b10 := F10.binds (ps := ["self", "sign"]) fun _ _ _ _ _ _ us hl => match us, hl with | [_, _], _ => rfl
  have F11 := fun_mk (st := s_r_read_word) l11 c11 k11
  have b11 := F11.binds (ps := ["self"]) fun _ _ _ _ _ _ us hl => match us, hl with | [_], _ => rfl
  have F12 := fun_mk (st := s_r_read_items) l12 c12 k12
  have b12 := F12.binds (ps := ["self", "levels"]) fun _ _ _ _ _ _ us hl => match us, hl with | [_, _], _ => rfl
  have F13 := fun_mk (st := s_r_read_item) l13 c13 k13
  have b13 := F13.binds (ps := ["self", "levels"]) fun _ _ _ _ _ _ us hl => match us, hl with | [_, _], _ => rfl
  have F14 := fun_mk (st := s_read) l14 c14 k14
  have b14 := F14.binds (ps := ["told"]) fun _ _ _ _ _ _ us hl => match us, hl with | [_], _ => rfl
  have F15 := fun_mk (st := s_law_cell_at) l15 c15 k15
  have b15 := F15.binds (ps := ["script", "k"]) fun _ _ _ _ _ _ us hl => match us, hl with | [_, _], _ => rfl
  have F16 := fun_mk (st := s_law_draw) l16 c16 k16
  have b16 := F16.binds (ps := ["cell", "k", "bound"]) fun _ _ _ _ _ _ us hl => match us, hl with | [_, _, _], _ => rfl
  have F17 := fun_mk (st := s_law_number) l17 c17 k17
  have b17 := F17.binds (ps := ["cell", "k", "bound"]) fun _ _ _ _ _ _ us hl => match us, hl with | [_, _, _], _ => rfl
  have F18 := fun_mk (st := s_law_next) l18 c18 k18
  have b18 := F18.binds (ps := ["draw", "bound"]) fun _ _ _ _ _ _ us hl => match us, hl with | [_, _], _ => rfl
  have F19 := fun_mk (st := s_law_pick) l19 c19 k19
  have b19 := F19.binds (ps := ["draw", "things"]) fun _ _ _ _ _ _ us hl => match us, hl with | [_, _], _ => rfl
  have F20 := fun_mk (st := s_law_words) l20 c20 k20
  have b20 := F20.binds (ps := ["draw", "many"]) fun _ _ _ _ _ _ us hl => match us, hl with | [_, _], _ => rfl
  have F21 := fun_mk (st := s_law_alphabet) l21 c21 k21
  have b21 := F21.binds (ps := ["draw"]) fun _ _ _ _ _ _ us hl => match us, hl with | [_], _ => rfl
  have F22 := fun_mk (st := s_law_concept) l22 c22 k22
  have b22 := F22.binds (ps := ["draw", "names", "roles", "deep"]) fun _ _ _ _ _ _ us hl => match us, hl with | [_, _, _, _], _ => rfl
  have F23 := fun_mk (st := s_law_none) l23 c23 k23
  have b23 := F23.binds (ps := ["draw", "concept", "odds"]) fun _ _ _ _ _ _ us hl => match us, hl with | [_, _, _], _ => rfl
  have F24 := fun_mk (st := s_law_text) l24 c24 k24
  have b24 := F24.binds (ps := ["concept"]) fun _ _ _ _ _ _ us hl => match us, hl with | [_], _ => rfl
  have F25 := fun_mk (st := s_law_read) l25 c25 k25
  have b25 := F25.binds (ps := ["told"]) fun _ _ _ _ _ _ us hl => match us, hl with | [_], _ => rfl
  have F26 := fun_mk (st := s_law_token) l26 c26 k26
  have b26 := F26.binds (ps := ["told", "at"]) fun _ _ _ _ _ _ us hl => match us, hl with | [_, _], _ => rfl
  have F27 := fun_mk (st := s_law_is_word) l27 c27 k27
  have b27 := F27.binds (ps := ["word"]) fun _ _ _ _ _ _ us hl => match us, hl with | [_], _ => rfl
  have F28 := fun_mk (st := s_law_is_and) l28 c28 k28
  have b28 := F28.binds (ps := ["concept"]) fun _ _ _ _ _ _ us hl => match us, hl with | [_], _ => rfl
  have F29 := fun_mk (st := s_law_item) l29 c29 k29
  have b29 := F29.binds (ps := ["told", "at", "depth"]) fun _ _ _ _ _ _ us hl => match us, hl with | [_, _, _], _ => rfl
  have F30 := fun_mk (st := s_law_whole) l30 c30 k30
  have b30 := F30.binds (ps := ["told", "at", "depth"]) fun _ _ _ _ _ _ us hl => match us, hl with | [_, _, _], _ => rfl
  have F31 := fun_mk (st := s_law_due) l31 c31 k31
  have b31 := F31.binds (ps := ["told"]) fun _ _ _ _ _ _ us hl => match us, hl with | [_], _ => rfl
  have F32 := fun_mk (st := s_law) l32 c32 k32
  have b32 := F32.binds (ps := ["script"]) fun _ _ _ _ _ _ us hl => match us, hl with | [_], _ => rfl
  exact ⟨{
    rC := rC, bT := bT
    d_is_word := ⟨f0, _, F0, PySem.W.mg_of X G a0, b0⟩
    d_is_concept := ⟨f1, _, F1, PySem.W.mg_of X G a1, b1⟩
    d_is_nested := ⟨f2, _, F2, PySem.W.mg_of X G a2, b2⟩
    d_need_concept := ⟨f3, _, F3, PySem.W.mg_of X G a3, b3⟩
    d_inner := ⟨f4, _, F4, PySem.W.mg_of X G a4, b4⟩
    d_gather := ⟨f5, _, F5, PySem.W.mg_of X G a5, b5⟩
    d_text_of := ⟨f6, _, F6, PySem.W.mg_of X G a6, b6⟩
    d_text := ⟨f7, _, F7, PySem.W.mg_of X G a7, b7⟩
    d_r_init := ⟨f8, _, F8, ⟨a8, i8, k8⟩, b8⟩
    d_r_read_all := ⟨f9, _, F9, ⟨a9, i9, k9⟩, b9⟩
    d_r_takes := ⟨f10, _, F10, ⟨a10, i10, k10⟩, b10⟩
    d_r_read_word := ⟨f11, _, F11, ⟨a11, i11, k11⟩, b11⟩
    d_r_read_items := ⟨f12, _, F12, ⟨a12, i12, k12⟩, b12⟩
    d_r_read_item := ⟨f13, _, F13, ⟨a13, i13, k13⟩, b13⟩
    d_read := ⟨f14, _, F14, PySem.W.mg_of X G a14, b14⟩
    d_law_cell_at := ⟨f15, _, F15, PySem.W.mg_of X G a15, b15⟩
    d_law_draw := ⟨f16, _, F16, PySem.W.mg_of X G a16, b16⟩
    d_law_number := ⟨f17, _, F17, PySem.W.mg_of X G a17, b17⟩
    d_law_next := ⟨f18, _, F18, PySem.W.mg_of X G a18, b18⟩
    d_law_pick := ⟨f19, _, F19, PySem.W.mg_of X G a19, b19⟩
    d_law_words := ⟨f20, _, F20, PySem.W.mg_of X G a20, b20⟩
    d_law_alphabet := ⟨f21, _, F21, PySem.W.mg_of X G a21, b21⟩
    d_law_concept := ⟨f22, _, F22, PySem.W.mg_of X G a22, b22⟩
    d_law_none := ⟨f23, _, F23, PySem.W.mg_of X G a23, b23⟩
    d_law_text := ⟨f24, _, F24, PySem.W.mg_of X G a24, b24⟩
    d_law_read := ⟨f25, _, F25, PySem.W.mg_of X G a25, b25⟩
    d_law_token := ⟨f26, _, F26, PySem.W.mg_of X G a26, b26⟩
    d_law_is_word := ⟨f27, _, F27, PySem.W.mg_of X G a27, b27⟩
    d_law_is_and := ⟨f28, _, F28, PySem.W.mg_of X G a28, b28⟩
    d_law_item := ⟨f29, _, F29, PySem.W.mg_of X G a29, b29⟩
    d_law_whole := ⟨f30, _, F30, PySem.W.mg_of X G a30, b30⟩
    d_law_due := ⟨f31, _, F31, PySem.W.mg_of X G a31, b31⟩
    d_law := ⟨f32, _, F32, PySem.W.mg_of X G a32, b32⟩
    rC_m := PySem.W.mg_of X G m_rC, rC_cl := ⟨pg_rC, hd_rC, po_rC, sa_rC⟩, rC_mk := mk_rC, rC_kp := kp_rC
    rC_n_told := n_rC_told, rC_n_at := n_rC_at
    bT_m := PySem.W.mg_of X G m_bT, bT_x := x_bT, bT_k := k_bT, bT_b := b_bT, bT_t := t_bT, bT_i := i_bT, bT_s := s_bT
    law_b := fun _ _ => .of_eq rfl
    nw := nw, nw_m := PySem.W.mg_of X G aN
    nw_l := .inr ⟨_, _, _, lN, rfl, rfl, (by show 3 ≤ sizeLine; decide), .cons ⟨_, rfl⟩ (.cons ⟨_, rfl⟩ (.cons ⟨_, rfl⟩ .nil))⟩
    lo_m := ⟨_, PySem.W.mg_of X G aL⟩, de_m := ⟨_, PySem.W.mg_of X G aD⟩
    z_isinstance := PySem.W.mg_none_of X G z_isinstance
    z_str := PySem.W.mg_none_of X G z_str
    z_len := PySem.W.mg_none_of X G z_len
    z_tuple := PySem.W.mg_none_of X G z_tuple
    z_int := PySem.W.mg_none_of X G z_int
    z_range := PySem.W.mg_none_of X G z_range
    z_all := PySem.W.mg_none_of X G z_all
  }⟩
end K1
namespace K1
open PySem L2
theorem walk {l : PySem.W.OpenLaw} {q : Program} {loose : List Str} {XP : (Str → Option Value) → Heap → Prop} {YP : World → Heap → Prop} {d : DefRec} {K : Params → PySem.W.Frag} (hn : l.most = some 63) (hdf : d.params.defaults = []) (hnm : d.name = "law")
    (hY : ∀ (w : World) (h : Heap), YP w h → (K w.params).In h)
    (F : ∀ (w : World) (mg : Str → Option Value) (h : Heap), (K w.params).In h → h.Ns mainGlobals mg → Nonempty (Defs (K w.params) mg)) :
    PySem.W.WalkO q loose XP YP l.row.toRowW d [] (fun f vs => PySem.call f vs) :=
  L2.walk_of (n := 63) (k := lawK) (x := "script") (CX := fun _ => CX0) (sp := fun w => spLaw (K w.params)) hn (by decide) hdf ⟨rfl, by decide, by decide⟩ hY
    (fun w mg fa h KX G hfa => by
      obtain ⟨D⟩ := F w mg h KX G
      rw [hnm] at hfa
      have e := hfa.symm.trans D.d_law.m
      cases e
      exact ⟨D.d_law.fd, D.law_b, fun base _ _ => ok_law D⟩)
    (fun _ _ a ns hl _ hS => ⟨a, ns, rfl, hS, hl, fun _ => rfl⟩) fun _ _ _ _ _ z => z
end K1
open PySem PySem.W PyProof.Rows
set_option maxRecDepth 100000 in
set_option maxHeartbeats 0 in
theorem PySem.Challenge.cw_conceptworlds_k65_whole_texts_holds : PySem.Challenge.rw_conceptworlds_k65_whole_texts.Holds := by
  w_on; o_law; k_head; (case hw => w_witness2)
  k_fill
  refine K1.walk (l := PySem.Challenge.rw_conceptworlds_k65_whole_texts) rfl rfl rfl (fun w h Y => PySem.W.kIn_of Y) ?F
  case F =>
    intro w mg h KX G
    refine' K1.defs_mk KX G ?m_rC ?pg_rC ?hd_rC ?po_rC ?sa_rC ?mk_rC ?kp_rC ?n_rC_told ?n_rC_at ?m_bT ?x_bT ?k_bT ?b_bT ?t_bT ?i_bT ?s_bT ?a0 ?l0 ?c0 ?k0 ?a1 ?l1 ?c1 ?k1 ?a2 ?l2 ?c2 ?k2 ?a3 ?l3 ?c3 ?k3 ?a4 ?l4 ?c4 ?k4 ?a5 ?l5 ?c5 ?k5 ?a6 ?l6 ?c6 ?k6 ?a7 ?l7 ?c7 ?k7 ?a8 ?i8 ?l8 ?c8 ?k8 ?a9 ?i9 ?l9 ?c9 ?k9 ?a10 ?i10 ?l10 ?c10 ?k10 ?a11 ?i11 ?l11 ?c11 ?k11 ?a12 ?i12 ?l12 ?c12 ?k12 ?a13 ?i13 ?l13 ?c13 ?k13 ?a14 ?l14 ?c14 ?k14 ?a15 ?l15 ?c15 ?k15 ?a16 ?l16 ?c16 ?k16 ?a17 ?l17 ?c17 ?k17 ?a18 ?l18 ?c18 ?k18 ?a19 ?l19 ?c19 ?k19 ?a20 ?l20 ?c20 ?k20 ?a21 ?l21 ?c21 ?k21 ?a22 ?l22 ?c22 ?k22 ?a23 ?l23 ?c23 ?k23 ?a24 ?l24 ?c24 ?k24 ?a25 ?l25 ?c25 ?k25 ?a26 ?l26 ?c26 ?k26 ?a27 ?l27 ?c27 ?k27 ?a28 ?l28 ?c28 ?k28 ?a29 ?l29 ?c29 ?k29 ?a30 ?l30 ?c30 ?k30 ?a31 ?l31 ?c31 ?k31 ?a32 ?l32 ?c32 ?k32 ?aN ?lN ?aL ?aD ?z_isinstance ?z_str ?z_len ?z_tuple ?z_int ?z_range ?z_all
    (case m_rC => k_is)
    (case pg_rC => k_is)
    (case hd_rC => k_is)
    (case po_rC => k_is)
    (case sa_rC => k_is)
    (case mk_rC => k_is)
    (case kp_rC => k_is)
    (case n_rC_told => k_is)
    (case n_rC_at => k_is)
    (case m_bT => k_is)
    (case x_bT => k_exc)
    (case k_bT => k_is)
    (case b_bT => k_is)
    (case t_bT => k_is)
    (case i_bT => k_is)
    (case s_bT => k_is)
    (case a0 => k_is)
    (case l0 => k_is)
    (case c0 => k_is)
    (case k0 => k_is)
    (case a1 => k_is)
    (case l1 => k_is)
    (case c1 => k_is)
    (case k1 => k_is)
    (case a2 => k_is)
    (case l2 => k_is)
    (case c2 => k_is)
    (case k2 => k_is)
    (case a3 => k_is)
    (case l3 => k_is)
    (case c3 => k_is)
    (case k3 => k_is)
    (case a4 => k_is)
    (case l4 => k_is)
    (case c4 => k_is)
    (case k4 => k_is)
    (case a5 => k_is)
    (case l5 => k_is)
    (case c5 => k_is)
    (case k5 => k_is)
    (case a6 => k_is)
    (case l6 => k_is)
    (case c6 => k_is)
    (case k6 => k_is)
    (case a7 => k_is)
    (case l7 => k_is)
    (case c7 => k_is)
    (case k7 => k_is)
    (case a8 => k_is)
    (case i8 => k_is)
    (case l8 => k_is)
    (case c8 => k_is)
    (case k8 => k_is)
    (case a9 => k_is)
    (case i9 => k_is)
    (case l9 => k_is)
    (case c9 => k_is)
    (case k9 => k_is)
    (case a10 => k_is)
    (case i10 => k_is)
    (case l10 => k_is)
    (case c10 => k_is)
    (case k10 => k_is)
    (case a11 => k_is)
    (case i11 => k_is)
    (case l11 => k_is)
    (case c11 => k_is)
    (case k11 => k_is)
    (case a12 => k_is)
    (case i12 => k_is)
    (case l12 => k_is)
    (case c12 => k_is)
    (case k12 => k_is)
    (case a13 => k_is)
    (case i13 => k_is)
    (case l13 => k_is)
    (case c13 => k_is)
    (case k13 => k_is)
    (case a14 => k_is)
    (case l14 => k_is)
    (case c14 => k_is)
    (case k14 => k_is)
    (case a15 => k_is)
    (case l15 => k_is)
    (case c15 => k_is)
    (case k15 => k_is)
    (case a16 => k_is)
    (case l16 => k_is)
    (case c16 => k_is)
    (case k16 => k_is)
    (case a17 => k_is)
    (case l17 => k_is)
    (case c17 => k_is)
    (case k17 => k_is)
    (case a18 => k_is)
    (case l18 => k_is)
    (case c18 => k_is)
    (case k18 => k_is)
    (case a19 => k_is)
    (case l19 => k_is)
    (case c19 => k_is)
    (case k19 => k_is)
    (case a20 => k_is)
    (case l20 => k_is)
    (case c20 => k_is)
    (case k20 => k_is)
    (case a21 => k_is)
    (case l21 => k_is)
    (case c21 => k_is)
    (case k21 => k_is)
    (case a22 => k_is)
    (case l22 => k_is)
    (case c22 => k_is)
    (case k22 => k_is)
    (case a23 => k_is)
    (case l23 => k_is)
    (case c23 => k_is)
    (case k23 => k_is)
    (case a24 => k_is)
    (case l24 => k_is)
    (case c24 => k_is)
    (case k24 => k_is)
    (case a25 => k_is)
    (case l25 => k_is)
    (case c25 => k_is)
    (case k25 => k_is)
    (case a26 => k_is)
    (case l26 => k_is)
    (case c26 => k_is)
    (case k26 => k_is)
    (case a27 => k_is)
    (case l27 => k_is)
    (case c27 => k_is)
    (case k27 => k_is)
    (case a28 => k_is)
    (case l28 => k_is)
    (case c28 => k_is)
    (case k28 => k_is)
    (case a29 => k_is)
    (case l29 => k_is)
    (case c29 => k_is)
    (case k29 => k_is)
    (case a30 => k_is)
    (case l30 => k_is)
    (case c30 => k_is)
    (case k30 => k_is)
    (case a31 => k_is)
    (case l31 => k_is)
    (case c31 => k_is)
    (case k31 => k_is)
    (case a32 => k_is)
    (case l32 => k_is)
    (case c32 => k_is)
    (case k32 => k_is)
    (case aN => k_is)
    (case lN => k_is)
    (case aL => k_is)
    (case aD => k_is)
    (case z_isinstance => k_is)
    (case z_str => k_is)
    (case z_len => k_is)
    (case z_tuple => k_is)
    (case z_int => k_is)
    (case z_range => k_is)
    (case z_all => k_is)
#print axioms PySem.Challenge.cw_conceptworlds_k65_whole_texts_holds
