import PyProof.Rows.All
import Wide.All
import OpenK.AllK
import Wide.FinOn
import HandS.ForMost
import HandS.Wide
import HandS.Walk
import HandS.Defaults
import HandS.Exc
import HandS.ExcInit
import HandS.ExcIs
import KE.KExcIs
import HandS.ExcField
import HandS.ExcValue
import HandS.IsInst
import HandS.TryOnly
import HandS.ExcOwn
import HandS.WordsExc
import HandS.Head0
import HandS.Head1
import HandS.Head2
import HandS.HeadEnd
import HandS.HeadHook1
import HandS.HeadHook2
import HandS.HotCalls
import PySem.Challenge.RW_truebooks_k05_places_and_arrows
import KE.KMathGC
import HandS.Deep
import HandS.DictComp
import HandS.Comp
import HandS.Flow
import HandS.NoneIn
import HandS.Property
import HandS.OwnEq
import HandS.Conv
import HandS.Dict
import HandS.Codes
import HandS.Text
import HandS.TupAny
import KE.GoesEnum
import HandS.Iter
import HandS.More
import KE.KDictList
import HandS.Base
import HandS.Small
import HandS.ExcCtx
import HandS.ExcInitHot
import HandS.TryMany
import KE.KTryMore
import PyProof.RulesAs
import KE.GoesRaise
import HandS.HeadNt
import HandS.Head3
import HandS.HeadHook3
set_option Elab.async false
set_option linter.all false
set_option maxRecDepth 100000
set_option maxHeartbeats 8000000
namespace My
open PySem PySem.Spec PyProof.Rows L2
def top (i : Nat) : Stmt := PySem.Challenge.pw_truebooks_k05_places_and_arrows.main.body.getD i (.Pass ⟨0, 0, 0, 0⟩)
/-- the class at C: its name, its row of bases -/
def clsB (K : PySem.W.Frag) (C : Addr) (nm : Str) (bm : List Value) : Bool := match K.lookup C with
  | some ⟨.type t, _, .cls cd, sl⟩ => decide (t = "type") && (match cd.mro, sl.toList with
    | .ref C' :: r, [_, _, _, _, some (.builtin n), _] => decide (C' = C) && (decide (n = "ValueError.__new__") && (!cd.hasDel && (cd.hasDict && (decide (cd.name = nm) && decide (r = bm)))))
    | _, _ => false)
  | _ => false
def exB (K : PySem.W.Frag) (b : Str) (p : Str × List Str) : Bool :=
  (He.Fa.glo p.1).ok K && (clsB K (He.ga K p.1) p.1 (.ref (He.ga K b) :: He.veBase) && (decide (PySem.W.findIn K (.ref (He.ga K p.1)) "__setattr__" = some (some (.builtin "object.__setattr__"))) &&
  (decide (PySem.W.subIn K (.ref (He.ga K p.1)) (.type "BaseException") = some true) && (PySem.W.keepIn K (.ref (He.ga K p.1)) && (decide (PySem.W.findIn K (.ref (He.ga K p.1)) "__getattribute__" = some (some (.builtin "BaseException.__getattribute__"))) &&
  (decide (PySem.W.findIn K (.ref (He.ga K p.1)) "__getattr__" = some none) && (decide (PySem.W.findIn K (.ref (He.ga K p.1)) "__class__" = some (some (.builtin "object.__class__"))) && (decide (PySem.W.mroIn K (He.ga K p.1) (.type "object") = some true) &&
  ((p.2.all fun f => decide (PySem.W.findIn K (.ref (He.ga K p.1)) f = some none)) && (decide (PySem.W.kitOne K (.ref (He.ga K p.1)) (.ref (He.ga K b)) = some true) && (decide (PySem.W.kitOne K (.ref (He.ga K p.1)) (.type "ValueError") = some true) && (decide (PySem.W.exmOne K (.ref (He.ga K p.1)) (.ref (He.ga K b)) = some true) &&
  (match p.2 with
    | [] => PySem.W.excIn K (He.ga K p.1) He.veBase "ValueError.__new__"
    | _ => decide (PySem.W.findIn K (.ref (He.ga K p.1)) "__init__" = some (some (.ref (He.ma K (He.ga K p.1) "__init__")))) && decide (PySem.W.typeIn K (.ref (He.ma K (He.ga K p.1) "__init__")) = some (.type "function")))))))))))))))
abbrev words8 : List Str := ["deed", "copy", "need", "if", "either", "while", "call", "stop"]
def tblB (z : Str) : Option Int := if z = "if" then some 3 else if z = "either" then some 1 else if z = "while" then some 3 else none
def tblL (z : Str) : Option Int := if z = "deed" then some 3 else if z = "copy" then some 3 else if z = "need" then some 3 else if z = "if" then some 5 else if z = "either" then some 3 else if z = "while" then some 4 else if z = "call" then some 4 else if z = "stop" then some 1 else none
def tblV (z : Str) : Option Int := if z = "deed" then some 1 else if z = "copy" then some 1 else if z = "need" then some 1 else if z = "if" then some 1 else if z = "while" then some 1 else if z = "call" then some 3 else none
def looseN : List Str := (["is_whole", "is_whole_from", "is_sequence", "is_sequence_of", "BookError", "BadProgram", "NoProcedure", "BadPlace", "MOST", "MOST_REST", "fits_letter", "fits_test", "MOST_PROCEDURES", "MOST_VARIABLES", "MOST_ROWS"] : List Str) ++ (["DEEPEST", "MOST_CHARACTERS", "SMALL_LETTERS", "FIGURES", "LENGTHS", "VARIABLE_AT", "BLOCKS_FROM", "Program", "is_name", "_checked_heads", "_checked_procedure", "_checked_rows", "_row_fault", "_has_row_form", "_call_fault"] : List Str) ++ (["block_places", "blocks_of", "rows_count", "procedure_of", "flat_rows", "place_count", "row_at_place", "call_places", "arrows_of", "_append_arrows", "_append_row", "_arrows_at", "alphabet_of", "_law_mix", "_law_hand"] : List Str) ++ (["_law_draw", "_law_blocks", "_law_size", "_law_put", "_law_arrows", "_law_digits", "_law_cell", "_law_letter", "_law_test", "_law_names", "_law_next", "_law_block", "_law_tame_rows", "_law_tame", "_law_program"] : List Str) ++ (["_law_tight", "_law_listed", "_law_too_deep", "_law_nest", "_law_refused"] : List Str)
def dG (x : Str) (st : Stmt) : He5.DefA := ⟨fun K => He.ga K x, x, x, defArgs st, defBody st, defScope st, [], []⟩
def dM (c m q : Str) (st : Stmt) : He5.DefA := ⟨fun K => He.ma K (He.ga K c) m, m, q, defArgs st, defBody st, defScope st, [], []⟩
def gfns : List He5.DefA := ([dG "_law_draw" (top 51), dG "_law_mix" (top 49), dG "_law_listed" (top 67), dG "_law_blocks" (top 52), dG "place_count" (top 40), dG "procedure_of" (top 37), dG "rows_count" (top 36), dG "blocks_of" (top 35), dG "block_places" (top 34), dG "call_places" (top 42)] : List He5.DefA) ++
  ([dG "flat_rows" (top 39), dG "arrows_of" (top 43), dG "_append_arrows" (top 44), dG "_append_row" (top 45), dG "_arrows_at" (top 46), dG "row_at_place" (top 41), dG "is_whole_from" (top 2), dG "is_whole" (top 1), dG "_law_arrows" (top 55), dG "_law_size" (top 53)] : List He5.DefA) ++
  ([dG "_law_put" (top 54), dG "_law_refused" (top 70), dG "alphabet_of" (top 47), dG "_law_hand" (top 50), dG "_law_letter" (top 58), dG "_law_test" (top 59), dG "_law_cell" (top 57), dG "_law_program" (top 65), dG "_law_digits" (top 56), dG "_law_names" (top 60)] : List He5.DefA) ++
  ([dG "_law_next" (top 61), dG "_law_block" (top 62), dG "_law_tame" (top 64), dG "_law_tame_rows" (top 63), dG "_law_tight" (top 66), dG "_law_nest" (top 69), dG "is_sequence" (top 3), dG "_checked_heads" (top 28), dG "is_sequence_of" (top 4), dG "is_name" (top 27)] : List He5.DefA) ++
  ([dG "_checked_procedure" (top 29), dG "_checked_rows" (top 30), dG "_row_fault" (top 31), dG "_has_row_form" (top 32), dG "_call_fault" (top 33), dG "fits_letter" (top 13), dG "fits_test" (top 14), dG "_law_too_deep" (top 68), dG "law" (top 71)] : List He5.DefA)
def mfns : List He5.DefA := [dM "BadProgram" "__init__" "BadProgram.__init__" (inClass (top 7) 0), dM "NoProcedure" "__init__" "NoProcedure.__init__" (inClass (top 8) 0), dM "Program" "__init__" "Program.__init__" (inClass (top 26) 0)]
def fns : List He5.DefA := gfns ++ mfns
def gnames : List Str := gfns.map (·.name)
def tabs : List He.Tab := [(fun K => He.ga K "LENGTHS", ["deed", "copy", "need", "if", "either", "while", "call", "stop"]), (fun K => He.ga K "VARIABLE_AT", ["deed", "copy", "need", "if", "while", "call"]), (fun K => He.ga K "BLOCKS_FROM", ["if", "either", "while"])]
abbrev AlM : Type := Bool × He.AlD × List (Option (List (Option (Str × Int))))
def obsM (b : PySem.W.Frag → Bool) (K : PySem.W.Frag) : AlM := (b K, He5.obsA [] fns K, tabs.map fun t => He.dicW K (t.1 K))
def hookM (n : Nat) (b : PySem.W.Frag → Bool) : PySem.W.Hook where
  α := AlM
  obs := fun s => obsM b (He.frG s.heap.get? (He.asD s.heap.get? n))
  val := fun u => (true, He5.valA fns, tabs.map fun t => some (He.keysIn u.params t.2))
  says := fun u h => ∃ K : PySem.W.Frag, K.In h ∧ obsM b K = (true, He5.valA fns, tabs.map fun t => some (He.keysIn u.params t.2))
  of := fun _ _ e => ⟨_, He.frG_in, e⟩
  keeps := fun _ _ _ ⟨F, inF, says⟩ k => ⟨F, PySem.W.Frag.In.keeps inF k, says⟩
theorem obsM_eq {n : Nat} {b : PySem.W.Frag → Bool} {g : Addr → Option Obj} {s : Shared} (h : ∀ a, g a = s.heap.get? a) : obsM b (He.frG g (He.asD g n)) = (hookM n b).obs s := by
  have same : g = s.heap.get? := funext h
  rw [same] <;> rfl
def blts : List Str := ["int", "bool", "str", "list", "tuple", "isinstance", "enumerate", "abs", "len", "range", "min", "all", "any", "ValueError", "sum"]
def prgB (K : PySem.W.Frag) : Bool := (He.Fa.cls "Program").ok K && ((He.Fa.noat "Program" "procedures").ok K && (He.Fa.mkr "Program").ok K)
/-- a dict constant's values -/
def diB (K : PySem.W.Frag) (nm : Str) (ws : List Str) (tbl : Str → Option Int) : Bool := ws.all fun z => match tbl z, PySem.W.nsIn K (He.ga K nm) z with
  | some i, some (some (.int j _)) => decide (j = i)
  | none, some none => true
  | _, _ => false
def fL (K : PySem.W.Frag) : List Bool := [blts.all fun x => (He.Fa.free x).ok K,
  gnames.all fun x => (He.Fa.glo x).ok K,
  decide (PySem.W.specialIn K (.builtin "object.__class__") "__get__" = some (some (.builtin "getset_descriptor.__get__"))),
  decide (PySem.W.takesIn K (.builtin "object.__class__") = some true),
  (He.Fa.glo "BookError").ok K,
  (He.Fa.int "MOST" 20).ok K,
  (He.Fa.int "MOST_REST" 6).ok K,
  (He.Fa.int "MOST_PROCEDURES" 300).ok K,
  (He.Fa.int "MOST_VARIABLES" 40).ok K,
  (He.Fa.int "MOST_ROWS" 3000).ok K,
  (He.Fa.int "DEEPEST" 20).ok K,
  (He.Fa.int "MOST_CHARACTERS" 8).ok K,
  (He.Fa.str "SMALL_LETTERS" "abcdefghijklmnopqrstuvwxyz").ok K,
  (He.Fa.str "FIGURES" "0123456789").ok K,
  exB K "BookError" ("BadProgram", ["name", "place", "what"]),
  xfB K (He.ga K "BadProgram"),
  decide (PySem.W.exmOne K (.ref (He.ga K "BadProgram")) (.ref (He.ga K "BadProgram")) = some true),
  exB K "BookError" ("NoProcedure", ["name"]),
  xfB K (He.ga K "NoProcedure"),
  decide (PySem.W.exmOne K (.ref (He.ga K "NoProcedure")) (.ref (He.ga K "NoProcedure")) = some true),
  exB K "BookError" ("BadPlace", []),
  decide (PySem.W.exmOne K (.ref (He.ga K "BadPlace")) (.ref (He.ga K "NoProcedure")) = some false),
  decide (PySem.W.exmOne K (.ref (He.ga K "BadPlace")) (.ref (He.ga K "BadPlace")) = some true),
  (He.Fa.glo "LENGTHS").ok K,
  diB K "LENGTHS" words8 tblL,
  (He.Fa.glo "VARIABLE_AT").ok K,
  diB K "VARIABLE_AT" words8 tblV,
  (He.Fa.glo "BLOCKS_FROM").ok K,
  diB K "BLOCKS_FROM" words8 tblB,
  prgB K,
  (He.Fa.glo "Program").ok K]
def facts (K : PySem.W.Frag) : Bool := (fL K).all id
abbrev R : PySem.W.OpenRow := PySem.W.OpenLaw.row PySem.Challenge.rw_truebooks_k05_places_and_arrows
abbrev hk : PySem.W.Hook := hookM 5 facts
def ob (s : PySem.W.SharedT) : AlM := obsM facts (He.frG (HandSHeadRun.getT s) (He.asD (HandSHeadRun.getT s) 5))
theorem ob_eq (s : PySem.W.SharedT) : ob s = hk.obs s.abs := obsM_eq (HandSHeadRun.getT_eq s)
abbrev runAt (w : World) : Prop := HandSHeadRun.RunEq R (PySem.W.view R.prog [71]) hk ob 12000 looseN w
theorem run_f (w : World) : runAt (w.withFollow "special-get-raises" false) := by
  intro os
  kernel_rfl
theorem run_t (w : World) : runAt (w.withFollow "special-get-raises" true) := by
  intro os
  kernel_rfl
theorem run (w : World) : runAt w := by
  rw [← World.withFollow_self w "special-get-raises"]
  cases w.params.followText "special-get-raises"
  · exact run_f w
  · exact run_t w
end My

set_option Elab.async false
set_option linter.all false
set_option maxRecDepth 100000
set_option maxHeartbeats 8000000
open PySem PySem.W PySem.Calls PyProof.Rows in
theorem My.holds_of (call : WalkO (view My.R.prog [71]) My.looseN (XL (view My.R.prog [71]) []) My.hk.says My.R.toRowW (HandSHeadRun.topDef My.R.prog 71) [] fun f vs => PySem.call f vs) : PySem.Challenge.rw_truebooks_k05_places_and_arrows.Holds := by
  w_on; o_law
  refine HandSHeadRun.head_any (r := My.R) (q := view My.R.prog [71]) (H := My.hk) (ob := My.ob) (M := 12000) (loose := My.looseN) (d := HandSHeadRun.topDef My.R.prog 71) (kwd := []) My.ob_eq
    (by kernel_rfl) (fun s => by kernel_rfl) My.run (by kernel_rfl) (by kernel_rfl) (by kernel_rfl) (by rfl) (by first | assumption | decide +kernel) (by decide +kernel) ⟨rfl, rfl, rfl, rfl, rfl, by decide +kernel⟩ ?hw call
  case hw => w_witness2
set_option Elab.async false
set_option linter.all false
set_option maxRecDepth 100000
set_option maxHeartbeats 8000000
namespace My
open PySem PySem.Spec PyProof.Rows L2
local macro_rules | `(tactic| walk_at "lv") => `(tactic| first | exact Or.inl rfl | exact Or.inr rfl)
set_option hygiene false
local macro_rules | `(tactic| walk_at "we") => `(tactic| repeat (first
  | with_reducible refine Ws_seq ?_
  | with_reducible refine Ws_ret ?_
  | with_reducible refine Ws_if ?_
  | with_reducible refine Ws_next ?_
  | with_reducible refine Wx_set ?_
  | with_reducible refine Wx_name ?_
  | with_reducible refine Wx_var ?_
  | with_reducible refine We_int ?_
  | with_reducible refine We_str ?_
  | with_reducible refine We_bl ?_
  | with_reducible refine We_non ?_
  | with_reducible refine We_op rd_i0 ?_
  | with_reducible refine We_op rd_b0 ?_
  | with_reducible refine We_op rd_i ?_
  | with_reducible refine We_op rd_eqD ?_
  | with_reducible refine We_op rd_neD ?_
  | refine We_ixB Bx.box rfl ?_
  | with_reducible refine We_op rd_ixA ?_
  | with_reducible refine We_op rd_ixS ?_
  | with_reducible refine We_op rd_isN ?_
  | with_reducible refine We_op rd_inT ?_
  | with_reducible refine We_op rd_inD ?_
  | with_reducible refine We_op rd_notInD ?_
  | with_reducible refine We_op rd_notN ?_
  | with_reducible refine We_op rd_addS ?_
  | with_reducible refine We_op rd_catA ?_
  | with_reducible refine We_un rd_neg ?_
  | with_reducible refine We_tup ?_
  | with_reducible refine We_lst ?_
  | with_reducible refine We_if ?_
  | with_reducible refine We_and ?_
  | with_reducible refine We_or ?_
  | with_reducible refine We_not ?_
  | with_reducible refine We_chain rd_b0 rd_b0 ?_
  | with_reducible refine We_kdNotIn ?_
  | with_reducible refine We_kdIn ?_
  | with_reducible refine We_kdIx (by assumption) ?_
  | refine We_lenB Bx.box rfl ?_
  | with_reducible refine We_cb rf_len ?_
  | with_reducible refine We_cb rf_lenR ?_
  | with_reducible refine We_cb rf_tupR ?_
  | with_reducible refine We_cb rf_int ?_
  | with_reducible refine We_cb rf_abs ?_
  | with_reducible refine We_cb rf_tup ?_
  | with_reducible refine We_cb rf_sum ?_
  | with_reducible refine We_cb rf_all ?_
  | with_reducible refine We_cb rf_any ?_
  | with_reducible refine Wa_cons ?_
  | with_reducible refine Wa_nil ?_
  | with_reducible refine Wt_test ?_
  | with_reducible refine Wt_val ?_
  | with_reducible refine Wt_tru ?_
  | with_reducible refine Wt_not ?_
  | with_reducible refine Wt_and ?_
  | with_reducible refine Wt_or ?_
  | refine ⟨_, _, rfl, rfl, ?_⟩
  | refine ⟨_, _, _, rfl, rfl, rfl, ?_⟩
  | refine ⟨rfl, ?_⟩
  | refine ⟨[_, _, _, _, _, _], rfl, Nat.le_of_ble_eq_true rfl, ?_⟩
  | refine ⟨[_, _, _, _, _], rfl, Nat.le_of_ble_eq_true rfl, ?_⟩
  | refine ⟨[_, _, _, _], rfl, Nat.le_of_ble_eq_true rfl, ?_⟩
  | refine ⟨[_, _, _], rfl, Nat.le_of_ble_eq_true rfl, ?_⟩
  | refine ⟨[_, _], rfl, Nat.le_of_ble_eq_true rfl, ?_⟩
  | refine ⟨[_], rfl, Nat.le_of_ble_eq_true rfl, ?_⟩
  | refine ⟨[], rfl, Nat.le_of_ble_eq_true rfl, ?_⟩
  | refine ⟨[_, _, _, _, _, _], rfl, ?_⟩
  | refine ⟨[_, _, _, _, _], rfl, ?_⟩
  | refine ⟨[_, _, _, _], rfl, ?_⟩
  | refine ⟨[_, _, _], rfl, ?_⟩
  | refine ⟨[_, _], rfl, ?_⟩
  | refine ⟨[_], rfl, ?_⟩
  | refine ⟨[], rfl, ?_⟩
  | refine ⟨_, rfl, ?_⟩
  | refine ⟨_, _, rfl, (by assumption), ?_⟩
  | refine ⟨_, _, _, rfl, (by assumption), ?_⟩
  | refine And.intro (by first | assumption | exact shp_int | exact shp_bl | exact shp_non | decide +kernel) ?_
  | refine ⟨_, _, rfl, ?_⟩
  | refine ⟨fun h => (Bool.false_ne_true h).elim, fun _ => ?_⟩
  | refine ⟨fun _ => ?_, fun h => (Bool.false_ne_true h.symm).elim⟩
  | refine ⟨fun h => absurd h (by decide), fun _ => ?_⟩
  | refine ⟨fun _ => ?_, fun h => absurd h (by decide)⟩))
local macro_rules | `(tactic| walk_at "wv") => `(tactic| repeat (first
  | with_reducible refine Wx_name ?_
  | with_reducible refine Wx_var ?_
  | with_reducible refine We_int ?_
  | with_reducible refine We_str ?_
  | with_reducible refine We_bl ?_
  | with_reducible refine We_non ?_
  | with_reducible refine We_op rd_i0 ?_
  | with_reducible refine We_op rd_b0 ?_
  | with_reducible refine We_op rd_i ?_
  | with_reducible refine We_op rd_eqD ?_
  | with_reducible refine We_op rd_neD ?_
  | refine We_ixB Bx.box rfl ?_
  | with_reducible refine We_op rd_ixA ?_
  | with_reducible refine We_op rd_ixS ?_
  | with_reducible refine We_op rd_isN ?_
  | with_reducible refine We_op rd_inT ?_
  | with_reducible refine We_op rd_inD ?_
  | with_reducible refine We_op rd_notInD ?_
  | with_reducible refine We_op rd_notN ?_
  | with_reducible refine We_op rd_addS ?_
  | with_reducible refine We_op rd_catA ?_
  | with_reducible refine We_un rd_neg ?_
  | with_reducible refine We_tup ?_
  | with_reducible refine We_lst ?_
  | with_reducible refine We_if ?_
  | with_reducible refine We_and ?_
  | with_reducible refine We_or ?_
  | with_reducible refine We_not ?_
  | with_reducible refine We_chain rd_b0 rd_b0 ?_
  | with_reducible refine We_kdNotIn ?_
  | with_reducible refine We_kdIn ?_
  | with_reducible refine We_kdIx (by assumption) ?_
  | refine We_lenB Bx.box rfl ?_
  | with_reducible refine We_cb rf_len ?_
  | with_reducible refine We_cb rf_lenR ?_
  | with_reducible refine We_cb rf_tupR ?_
  | with_reducible refine We_cb rf_int ?_
  | with_reducible refine We_cb rf_abs ?_
  | with_reducible refine We_cb rf_tup ?_
  | with_reducible refine We_cb rf_sum ?_
  | with_reducible refine We_cb rf_all ?_
  | with_reducible refine We_cb rf_any ?_
  | with_reducible refine Wa_cons ?_
  | with_reducible refine Wa_nil ?_
  | with_reducible refine Wt_test ?_
  | with_reducible refine Wt_val ?_
  | with_reducible refine Wt_tru ?_
  | with_reducible refine Wt_not ?_
  | with_reducible refine Wt_and ?_
  | with_reducible refine Wt_or ?_
  | refine ⟨_, _, rfl, rfl, ?_⟩
  | refine ⟨_, _, _, rfl, rfl, rfl, ?_⟩
  | refine ⟨rfl, ?_⟩
  | refine ⟨[_, _, _, _, _, _], rfl, Nat.le_of_ble_eq_true rfl, ?_⟩
  | refine ⟨[_, _, _, _, _], rfl, Nat.le_of_ble_eq_true rfl, ?_⟩
  | refine ⟨[_, _, _, _], rfl, Nat.le_of_ble_eq_true rfl, ?_⟩
  | refine ⟨[_, _, _], rfl, Nat.le_of_ble_eq_true rfl, ?_⟩
  | refine ⟨[_, _], rfl, Nat.le_of_ble_eq_true rfl, ?_⟩
  | refine ⟨[_], rfl, Nat.le_of_ble_eq_true rfl, ?_⟩
  | refine ⟨[], rfl, Nat.le_of_ble_eq_true rfl, ?_⟩
  | refine ⟨[_, _, _, _, _, _], rfl, ?_⟩
  | refine ⟨[_, _, _, _, _], rfl, ?_⟩
  | refine ⟨[_, _, _, _], rfl, ?_⟩
  | refine ⟨[_, _, _], rfl, ?_⟩
  | refine ⟨[_, _], rfl, ?_⟩
  | refine ⟨[_], rfl, ?_⟩
  | refine ⟨[], rfl, ?_⟩
  | refine ⟨_, rfl, ?_⟩
  | refine ⟨_, _, rfl, (by assumption), ?_⟩
  | refine ⟨_, _, _, rfl, (by assumption), ?_⟩
  | refine And.intro (by first | assumption | exact shp_int | exact shp_bl | exact shp_non | decide +kernel) ?_
  | refine ⟨_, _, rfl, ?_⟩
  | refine ⟨fun h => (Bool.false_ne_true h).elim, fun _ => ?_⟩
  | refine ⟨fun _ => ?_, fun h => (Bool.false_ne_true h.symm).elim⟩
  | refine ⟨fun h => absurd h (by decide), fun _ => ?_⟩
  | refine ⟨fun _ => ?_, fun h => absurd h (by decide)⟩))
local macro_rules | `(tactic| walk_at "wq") => `(tactic| repeat (first
  | with_reducible refine Ws_seq ?_
  | with_reducible refine Ws_ret ?_
  | with_reducible refine Ws_if ?_
  | with_reducible refine Ws_next ?_
  | with_reducible refine Wx_set ?_
  | with_reducible refine Wx_name ?_
  | with_reducible refine Wx_var ?_
  | with_reducible refine We_int ?_
  | with_reducible refine We_str ?_
  | with_reducible refine We_bl ?_
  | with_reducible refine We_non ?_
  | with_reducible refine We_op rd_i0 ?_
  | with_reducible refine We_op rd_b0 ?_
  | with_reducible refine We_op rd_i ?_
  | with_reducible refine We_op rd_eqD ?_
  | with_reducible refine We_op rd_neD ?_
  | refine We_ixB Bx.box rfl ?_
  | with_reducible refine We_op rd_ixA ?_
  | with_reducible refine We_op rd_ixS ?_
  | with_reducible refine We_op rd_isN ?_
  | with_reducible refine We_op rd_inT ?_
  | with_reducible refine We_op rd_inD ?_
  | with_reducible refine We_op rd_notInD ?_
  | with_reducible refine We_op rd_notN ?_
  | with_reducible refine We_op rd_addS ?_
  | with_reducible refine We_op rd_catA ?_
  | with_reducible refine We_un rd_neg ?_
  | with_reducible refine We_tup ?_
  | with_reducible refine We_lst ?_
  | with_reducible refine We_if ?_
  | with_reducible refine We_and ?_
  | with_reducible refine We_or ?_
  | with_reducible refine We_not ?_
  | with_reducible refine We_chain rd_b0 rd_b0 ?_
  | with_reducible refine We_kdNotIn ?_
  | with_reducible refine We_kdIn ?_
  | with_reducible refine We_kdIx (by assumption) ?_
  | refine We_lenB Bx.box rfl ?_
  | with_reducible refine We_cb rf_len ?_
  | with_reducible refine We_cb rf_lenR ?_
  | with_reducible refine We_cb rf_tupR ?_
  | with_reducible refine We_cb rf_int ?_
  | with_reducible refine We_cb rf_abs ?_
  | with_reducible refine We_cb rf_tup ?_
  | with_reducible refine We_cb rf_sum ?_
  | with_reducible refine We_cb rf_all ?_
  | with_reducible refine We_cb rf_any ?_
  | with_reducible refine Wx_ty ?_
  | with_reducible refine We_isi ?_
  | with_reducible refine We_call0 Ln.pure ?_
  | with_reducible refine We_din ?_
  | with_reducible refine We_dnot ?_
  | with_reducible refine We_dget ?_
  | with_reducible refine Wa_cons ?_
  | with_reducible refine Wa_nil ?_
  | with_reducible refine Wt_test ?_
  | with_reducible refine Wt_val ?_
  | with_reducible refine Wt_tru ?_
  | with_reducible refine Wt_not ?_
  | with_reducible refine Wt_and ?_
  | with_reducible refine Wt_or ?_
  | refine ⟨_, _, rfl, rfl, ?_⟩
  | refine ⟨_, _, _, rfl, rfl, rfl, ?_⟩
  | refine ⟨rfl, ?_⟩
  | refine ⟨[_, _, _, _, _, _], rfl, Nat.le_of_ble_eq_true rfl, ?_⟩
  | refine ⟨[_, _, _, _, _], rfl, Nat.le_of_ble_eq_true rfl, ?_⟩
  | refine ⟨[_, _, _, _], rfl, Nat.le_of_ble_eq_true rfl, ?_⟩
  | refine ⟨[_, _, _], rfl, Nat.le_of_ble_eq_true rfl, ?_⟩
  | refine ⟨[_, _], rfl, Nat.le_of_ble_eq_true rfl, ?_⟩
  | refine ⟨[_], rfl, Nat.le_of_ble_eq_true rfl, ?_⟩
  | refine ⟨[], rfl, Nat.le_of_ble_eq_true rfl, ?_⟩
  | refine ⟨[_, _, _, _, _, _], rfl, ?_⟩
  | refine ⟨[_, _, _, _, _], rfl, ?_⟩
  | refine ⟨[_, _, _, _], rfl, ?_⟩
  | refine ⟨[_, _, _], rfl, ?_⟩
  | refine ⟨[_, _], rfl, ?_⟩
  | refine ⟨[_], rfl, ?_⟩
  | refine ⟨[], rfl, ?_⟩
  | refine ⟨_, rfl, ?_⟩
  | refine ⟨_, _, rfl, (by assumption), ?_⟩
  | refine ⟨_, _, _, rfl, (by assumption), ?_⟩
  | refine And.intro (by first | assumption | exact shp_int | exact shp_bl | exact shp_non | decide +kernel) ?_
  | refine ⟨_, _, rfl, ?_⟩
  | refine ⟨fun h => (Bool.false_ne_true h).elim, fun _ => ?_⟩
  | refine ⟨fun _ => ?_, fun h => (Bool.false_ne_true h.symm).elim⟩
  | refine ⟨fun h => absurd h (by decide), fun _ => ?_⟩
  | refine ⟨fun _ => ?_, fun h => absurd h (by decide)⟩))
local macro_rules | `(tactic| walk_at "wr") => `(tactic| repeat (first
  | with_reducible refine Wx_name ?_
  | with_reducible refine Wx_var ?_
  | with_reducible refine We_int ?_
  | with_reducible refine We_str ?_
  | with_reducible refine We_bl ?_
  | with_reducible refine We_non ?_
  | with_reducible refine We_op rd_i0 ?_
  | with_reducible refine We_op rd_b0 ?_
  | with_reducible refine We_op rd_i ?_
  | with_reducible refine We_op rd_eqD ?_
  | with_reducible refine We_op rd_neD ?_
  | refine We_ixB Bx.box rfl ?_
  | with_reducible refine We_op rd_ixA ?_
  | with_reducible refine We_op rd_ixS ?_
  | with_reducible refine We_op rd_isN ?_
  | with_reducible refine We_op rd_inT ?_
  | with_reducible refine We_op rd_inD ?_
  | with_reducible refine We_op rd_notInD ?_
  | with_reducible refine We_op rd_notN ?_
  | with_reducible refine We_op rd_addS ?_
  | with_reducible refine We_op rd_catA ?_
  | with_reducible refine We_un rd_neg ?_
  | with_reducible refine We_tup ?_
  | with_reducible refine We_lst ?_
  | with_reducible refine We_if ?_
  | with_reducible refine We_and ?_
  | with_reducible refine We_or ?_
  | with_reducible refine We_not ?_
  | with_reducible refine We_chain rd_b0 rd_b0 ?_
  | with_reducible refine We_kdNotIn ?_
  | with_reducible refine We_kdIn ?_
  | with_reducible refine We_kdIx (by assumption) ?_
  | refine We_lenB Bx.box rfl ?_
  | with_reducible refine We_cb rf_len ?_
  | with_reducible refine We_cb rf_lenR ?_
  | with_reducible refine We_cb rf_tupR ?_
  | with_reducible refine We_cb rf_int ?_
  | with_reducible refine We_cb rf_abs ?_
  | with_reducible refine We_cb rf_tup ?_
  | with_reducible refine We_cb rf_sum ?_
  | with_reducible refine We_cb rf_all ?_
  | with_reducible refine We_cb rf_any ?_
  | with_reducible refine Wx_ty ?_
  | with_reducible refine We_isi ?_
  | with_reducible refine We_call0 Ln.pure ?_
  | with_reducible refine We_din ?_
  | with_reducible refine We_dnot ?_
  | with_reducible refine We_dget ?_
  | with_reducible refine Wa_cons ?_
  | with_reducible refine Wa_nil ?_
  | with_reducible refine Wt_test ?_
  | with_reducible refine Wt_val ?_
  | with_reducible refine Wt_tru ?_
  | with_reducible refine Wt_not ?_
  | with_reducible refine Wt_and ?_
  | with_reducible refine Wt_or ?_
  | refine ⟨_, _, rfl, rfl, ?_⟩
  | refine ⟨_, _, _, rfl, rfl, rfl, ?_⟩
  | refine ⟨rfl, ?_⟩
  | refine ⟨[_, _, _, _, _, _], rfl, Nat.le_of_ble_eq_true rfl, ?_⟩
  | refine ⟨[_, _, _, _, _], rfl, Nat.le_of_ble_eq_true rfl, ?_⟩
  | refine ⟨[_, _, _, _], rfl, Nat.le_of_ble_eq_true rfl, ?_⟩
  | refine ⟨[_, _, _], rfl, Nat.le_of_ble_eq_true rfl, ?_⟩
  | refine ⟨[_, _], rfl, Nat.le_of_ble_eq_true rfl, ?_⟩
  | refine ⟨[_], rfl, Nat.le_of_ble_eq_true rfl, ?_⟩
  | refine ⟨[], rfl, Nat.le_of_ble_eq_true rfl, ?_⟩
  | refine ⟨[_, _, _, _, _, _], rfl, ?_⟩
  | refine ⟨[_, _, _, _, _], rfl, ?_⟩
  | refine ⟨[_, _, _, _], rfl, ?_⟩
  | refine ⟨[_, _, _], rfl, ?_⟩
  | refine ⟨[_, _], rfl, ?_⟩
  | refine ⟨[_], rfl, ?_⟩
  | refine ⟨[], rfl, ?_⟩
  | refine ⟨_, rfl, ?_⟩
  | refine ⟨_, _, rfl, (by assumption), ?_⟩
  | refine ⟨_, _, _, rfl, (by assumption), ?_⟩
  | refine And.intro (by first | assumption | exact shp_int | exact shp_bl | exact shp_non | decide +kernel) ?_
  | refine ⟨_, _, rfl, ?_⟩
  | refine ⟨fun h => (Bool.false_ne_true h).elim, fun _ => ?_⟩
  | refine ⟨fun _ => ?_, fun h => (Bool.false_ne_true h.symm).elim⟩
  | refine ⟨fun h => absurd h (by decide), fun _ => ?_⟩
  | refine ⟨fun _ => ?_, fun h => absurd h (by decide)⟩))
local macro_rules | `(tactic| walk_at "wj") => `(tactic| repeat (first
  | with_reducible refine Ws_seq ?_
  | with_reducible refine Ws_ret ?_
  | with_reducible refine Ws_if ?_
  | with_reducible refine Ws_next ?_
  | with_reducible refine Wx_set ?_
  | with_reducible refine Wx_name ?_
  | with_reducible refine Wx_var ?_
  | with_reducible refine We_int ?_
  | with_reducible refine We_str ?_
  | with_reducible refine We_bl ?_
  | with_reducible refine We_non ?_
  | with_reducible refine We_op rd_i0 ?_
  | with_reducible refine We_op rd_b0 ?_
  | with_reducible refine We_op rd_i ?_
  | with_reducible refine We_op rd_eqD ?_
  | with_reducible refine We_op rd_neD ?_
  | refine We_ixB Bx.box rfl ?_
  | with_reducible refine We_op rd_ixA ?_
  | with_reducible refine We_op rd_ixS ?_
  | with_reducible refine We_op rd_isN ?_
  | with_reducible refine We_op rd_inT ?_
  | with_reducible refine We_op rd_inD ?_
  | with_reducible refine We_op rd_notInD ?_
  | with_reducible refine We_op rd_notN ?_
  | with_reducible refine We_op rd_addS ?_
  | with_reducible refine We_op rd_catA ?_
  | with_reducible refine We_un rd_neg ?_
  | with_reducible refine We_tup ?_
  | with_reducible refine We_lst ?_
  | with_reducible refine We_if ?_
  | with_reducible refine We_and ?_
  | with_reducible refine We_or ?_
  | with_reducible refine We_not ?_
  | with_reducible refine We_chain rd_b0 rd_b0 ?_
  | with_reducible refine We_kdNotIn ?_
  | with_reducible refine We_kdIn ?_
  | with_reducible refine We_kdIx (by assumption) ?_
  | refine We_lenB Bx.box rfl ?_
  | with_reducible refine We_cb rf_len ?_
  | with_reducible refine We_cb rf_lenR ?_
  | with_reducible refine We_cb rf_tupR ?_
  | with_reducible refine We_cb rf_int ?_
  | with_reducible refine We_cb rf_abs ?_
  | with_reducible refine We_cb rf_tup ?_
  | with_reducible refine We_cb rf_sum ?_
  | with_reducible refine We_cb rf_all ?_
  | with_reducible refine We_cb rf_any ?_
  | with_reducible refine Wx_ty ?_
  | with_reducible refine We_isi ?_
  | with_reducible refine We_call0 Ln.pure ?_
  | with_reducible refine We_din ?_
  | with_reducible refine We_dnot ?_
  | with_reducible refine We_dget ?_
  | with_reducible refine Wa_cons ?_
  | with_reducible refine Wa_nil ?_
  | with_reducible refine Wt_test ?_
  | with_reducible refine Wt_val ?_
  | with_reducible refine Wt_tru ?_
  | with_reducible refine Wt_not ?_
  | with_reducible refine Wt_and ?_
  | with_reducible refine Wt_or ?_
  | refine ⟨_, _, rfl, rfl, ?_⟩
  | refine ⟨_, _, _, rfl, rfl, rfl, ?_⟩
  | refine ⟨rfl, ?_⟩
  | refine ⟨[_, _, _, _, _, _], rfl, Nat.le_of_ble_eq_true rfl, ?_⟩
  | refine ⟨[_, _, _, _, _], rfl, Nat.le_of_ble_eq_true rfl, ?_⟩
  | refine ⟨[_, _, _, _], rfl, Nat.le_of_ble_eq_true rfl, ?_⟩
  | refine ⟨[_, _, _], rfl, Nat.le_of_ble_eq_true rfl, ?_⟩
  | refine ⟨[_, _], rfl, Nat.le_of_ble_eq_true rfl, ?_⟩
  | refine ⟨[_], rfl, Nat.le_of_ble_eq_true rfl, ?_⟩
  | refine ⟨[], rfl, Nat.le_of_ble_eq_true rfl, ?_⟩
  | refine ⟨[_, _, _, _, _, _], rfl, ?_⟩
  | refine ⟨[_, _, _, _, _], rfl, ?_⟩
  | refine ⟨[_, _, _, _], rfl, ?_⟩
  | refine ⟨[_, _, _], rfl, ?_⟩
  | refine ⟨[_, _], rfl, ?_⟩
  | refine ⟨[_], rfl, ?_⟩
  | refine ⟨[], rfl, ?_⟩
  | refine ⟨_, rfl, ?_⟩
  | refine ⟨_, _, rfl, (by assumption), ?_⟩
  | refine ⟨_, _, _, rfl, (by assumption), ?_⟩
  | refine And.intro (by first | assumption | exact Or.inr ⟨by decide, by decide⟩ | exact ⟨by decide, by decide⟩ | exact ⟨by decide, by decide, by decide⟩ | exact Or.inl ⟨by decide, by decide⟩ | exact shp_int | exact shp_bl | exact shp_non | decide +kernel) ?_
  | refine ⟨_, _, rfl, ?_⟩
  | refine ⟨fun h => (Bool.false_ne_true h).elim, fun _ => ?_⟩
  | refine ⟨fun _ => ?_, fun h => (Bool.false_ne_true h.symm).elim⟩
  | refine ⟨fun h => absurd h (by decide), fun _ => ?_⟩
  | refine ⟨fun _ => ?_, fun h => absurd h (by decide)⟩))
local macro_rules | `(tactic| walk_at "wi") => `(tactic| repeat (first
  | with_reducible refine Wx_name ?_
  | with_reducible refine Wx_var ?_
  | with_reducible refine We_int ?_
  | with_reducible refine We_str ?_
  | with_reducible refine We_bl ?_
  | with_reducible refine We_non ?_
  | with_reducible refine We_op rd_i0 ?_
  | with_reducible refine We_op rd_b0 ?_
  | with_reducible refine We_op rd_i ?_
  | with_reducible refine We_op rd_eqD ?_
  | with_reducible refine We_op rd_neD ?_
  | refine We_ixB Bx.box rfl ?_
  | with_reducible refine We_op rd_ixA ?_
  | with_reducible refine We_op rd_ixS ?_
  | with_reducible refine We_op rd_isN ?_
  | with_reducible refine We_op rd_inT ?_
  | with_reducible refine We_op rd_inD ?_
  | with_reducible refine We_op rd_notInD ?_
  | with_reducible refine We_op rd_notN ?_
  | with_reducible refine We_op rd_addS ?_
  | with_reducible refine We_op rd_catA ?_
  | with_reducible refine We_un rd_neg ?_
  | with_reducible refine We_tup ?_
  | with_reducible refine We_lst ?_
  | with_reducible refine We_if ?_
  | with_reducible refine We_and ?_
  | with_reducible refine We_or ?_
  | with_reducible refine We_not ?_
  | with_reducible refine We_chain rd_b0 rd_b0 ?_
  | with_reducible refine We_kdNotIn ?_
  | with_reducible refine We_kdIn ?_
  | with_reducible refine We_kdIx (by assumption) ?_
  | refine We_lenB Bx.box rfl ?_
  | with_reducible refine We_cb rf_len ?_
  | with_reducible refine We_cb rf_lenR ?_
  | with_reducible refine We_cb rf_tupR ?_
  | with_reducible refine We_cb rf_int ?_
  | with_reducible refine We_cb rf_abs ?_
  | with_reducible refine We_cb rf_tup ?_
  | with_reducible refine We_cb rf_sum ?_
  | with_reducible refine We_cb rf_all ?_
  | with_reducible refine We_cb rf_any ?_
  | with_reducible refine Wx_ty ?_
  | with_reducible refine We_isi ?_
  | with_reducible refine We_call0 Ln.pure ?_
  | with_reducible refine We_din ?_
  | with_reducible refine We_dnot ?_
  | with_reducible refine We_dget ?_
  | with_reducible refine Wa_cons ?_
  | with_reducible refine Wa_nil ?_
  | with_reducible refine Wt_test ?_
  | with_reducible refine Wt_val ?_
  | with_reducible refine Wt_tru ?_
  | with_reducible refine Wt_not ?_
  | with_reducible refine Wt_and ?_
  | with_reducible refine Wt_or ?_
  | refine ⟨_, _, rfl, rfl, ?_⟩
  | refine ⟨_, _, _, rfl, rfl, rfl, ?_⟩
  | refine ⟨rfl, ?_⟩
  | refine ⟨[_, _, _, _, _, _], rfl, Nat.le_of_ble_eq_true rfl, ?_⟩
  | refine ⟨[_, _, _, _, _], rfl, Nat.le_of_ble_eq_true rfl, ?_⟩
  | refine ⟨[_, _, _, _], rfl, Nat.le_of_ble_eq_true rfl, ?_⟩
  | refine ⟨[_, _, _], rfl, Nat.le_of_ble_eq_true rfl, ?_⟩
  | refine ⟨[_, _], rfl, Nat.le_of_ble_eq_true rfl, ?_⟩
  | refine ⟨[_], rfl, Nat.le_of_ble_eq_true rfl, ?_⟩
  | refine ⟨[], rfl, Nat.le_of_ble_eq_true rfl, ?_⟩
  | refine ⟨[_, _, _, _, _, _], rfl, ?_⟩
  | refine ⟨[_, _, _, _, _], rfl, ?_⟩
  | refine ⟨[_, _, _, _], rfl, ?_⟩
  | refine ⟨[_, _, _], rfl, ?_⟩
  | refine ⟨[_, _], rfl, ?_⟩
  | refine ⟨[_], rfl, ?_⟩
  | refine ⟨[], rfl, ?_⟩
  | refine ⟨_, rfl, ?_⟩
  | refine ⟨_, _, rfl, (by assumption), ?_⟩
  | refine ⟨_, _, _, rfl, (by assumption), ?_⟩
  | refine And.intro (by first | assumption | exact Or.inr ⟨by decide, by decide⟩ | exact ⟨by decide, by decide⟩ | exact ⟨by decide, by decide, by decide⟩ | exact Or.inl ⟨by decide, by decide⟩ | exact shp_int | exact shp_bl | exact shp_non | decide +kernel) ?_
  | refine ⟨_, _, rfl, ?_⟩
  | refine ⟨fun h => (Bool.false_ne_true h).elim, fun _ => ?_⟩
  | refine ⟨fun _ => ?_, fun h => (Bool.false_ne_true h.symm).elim⟩
  | refine ⟨fun h => absurd h (by decide), fun _ => ?_⟩
  | refine ⟨fun _ => ?_, fun h => absurd h (by decide)⟩))
set_option hygiene true
/-! common words of the proofs -/
/-- the def at the module's name x keeps its promise -/
def Keeps (CX : CXT) (P : Program) (w : World) (K : PySem.W.Frag) (mg : Str → Option Value) (base : Heap) (x : Str) (k : Nat) (ps : List Str) (sp : Sp) : Prop :=
  ∃ fd, FnOk P w K mg base CX k (He.ga K x) fd ps sp ∧ Binds K fd ps [] ∧ PySem.W.keepIn K (.ref (He.ga K x)) = true ∧ mg x = some (.ref (He.ga K x))
theorem pe_k {X : Cx} {CX : CXT} {k : Nat} {ps : List Str} {sp : Sp} {E : XK} {x : Str} {p pos : Pos} {e : Expr} {es : List Expr} {t : TA} (h : Keeps CX X.prog X.w X.K X.mg X.base x k ps sp) (hr : Room k X.A) (hg : Gl X x) (hx : Passes CX X E)
    (ha : PA X (e :: es) t) (dbg : (x == ("__debug__" : Str)) = false := by decide) (hst : starEach (e :: es) X.env = (false, eval e X.env) :: starEach es X.env := by rfl) (hpl : (backTo pos (starEach es X.env)).any (·.1) = false := by rfl) :
    PE X (.Call (.Name x p) (e :: es) [] pos) (tCall sp [] E t) := by
  obtain ⟨fd, F, b, kp, m⟩ := h
  exact pe_call F hr hg m kp b .nil hx ha dbg hst hpl
/-- a def of the top, as it stands -/
def At (K : PySem.W.Frag) (mg : Str → Option Value) (x : Str) (st : Stmt) : Prop := mg x = some (.ref (He.ga K x)) ∧ ∃ fd, FunD K x x (defArgs st) (defBody st) (defScope st) [] [] (He.ga K x) fd
abbrev bindsBy (st : Stmt) (x : Str) (ps : List Str) : Prop := ∀ (kV doc pm : Value) (an : Option Addr) (cdv ct : Value) (us : List Value), us.length = ps.length → bindArgs (PySem.W.fnOf x x (defArgs st) (defBody st) (defScope st) .none kV doc pm an cdv ct) ⟨us, []⟩ = pure (ps.zip us)
section
variable {CX : CXT} {P : Program} {w : World} {K : PySem.W.Frag} {mg : Str → Option Value} {base : Heap}
theorem keeps_ofX {x : Str} {st : Stmt} {N ps : List Str} {k : Nat} {sp : Sp} (F : At K mg x st) (S : FnScope N ps (defScope st)) (hb : bindsBy st x ps) (len : ∀ vs H Q E, sp vs H Q E → vs.length = ps.length)
    (hbody : ∀ (f : Addr) (cdv : Value) (A : Around) (outer : List Env) (s : Shared) (H : Hp) (vs : List V) (Q : VK) (E : XK), Room k (A.deeper (envOfC x (defScope st) s.heap.objs.size f cdv)) → sp vs H Q E →
      ∃ t, PSs (cxOf CX P w K mg base N x (defScope st) f cdv A outer s H E) (defBody st) t ∧ t { nx := fun _ H' => Q .non H', rt := Q } (start N vs) H) : Keeps CX P w K mg base x (k + 1) ps sp := by
  obtain ⟨m, fd, F⟩ := F
  exact ⟨fd, F.ok S len (hbody _), F.bindsN hb, F.kp, m⟩
theorem keeps_of {x : Str} {st : Stmt} {N ps : List Str} {k : Nat} {sp : Sp} (F : At K mg x st) (S : FnScope N ps (defScope st)) (hb : bindsBy st x ps) (len : ∀ vs H Q E, sp vs H Q E → vs.length = ps.length)
    (hbody : ∀ (f : Addr) (cdv : Value) (A : Around) (outer : List Env) (s : Shared) (H : Hp) (vs : List V) (Q : VK) (E : XK), Room k (A.deeper (envOfC x (defScope st) s.heap.objs.size f cdv)) → sp vs H Q E →
      ∃ t, PSs (cxOf CX0 P w K mg base N x (defScope st) f cdv A outer s H E).nox (defBody st) t ∧ t { nx := fun _ H' => Q .non H', rt := Q } (start N vs) H) : Keeps CX0 P w K mg base x (k + 1) ps sp :=
  keeps_ofX F S hb len fun f cdv A outer s H vs Q E hr h => by
    obtain ⟨t, h1, h2⟩ := hbody f cdv A outer s H vs Q E hr h
    exact ⟨t, h1.nox, h2⟩
end
/-- all but p as it was -/
def But (p : Addr) (H H' : Hp) : Prop := ∀ b o, b ≠ p → H b = some o → H' b = some o
/-- a hand of draws stands at p, its cells at c -/
def HandC (H : Hp) (p c : Addr) : Prop := ∃ (cs : List Int) (at_ rest total : Int), H p = some (.lst [.ref c, .int at_, .int rest, .int total]) ∧ H c = some (.lst (cs.map V.int)) ∧ 0 ≤ at_
/-! ### _law_mix -/
def spMix : Sp := fun vs H Q _ => ∃ a b : Int, vs = [.int a, .int b] ∧ ∀ r : Int, Q (.int r) H
abbrev s_mix : Stmt := top 49
abbrev N_mix : List Str := ["_law_number", "_law_turn", "_law_once", "_law_twice"]
theorem sc_mix : FnScope N_mix ["_law_number", "_law_turn"] (defScope s_mix) := ⟨rfl, rfl, rfl, by decide +kernel, rfl, by decide +kernel, by decide +kernel⟩
section
variable {P : Program} {w : World} {K : PySem.W.Frag} {mg : Str → Option Value} {base : Heap}
theorem mod_lt31 {a m : Int} (h : 0 < m) (hm : m < 2 ^ 40) : -(2 ^ 64) < a % m ∧ a % m < 2 ^ 64 := by
  have h1 := Int.emod_nonneg a (b := m) (by omega)
  have h2 := Int.emod_lt_of_pos a h
  omega
theorem kp_mix (F : At K mg "_law_mix" s_mix) (nI : mg "int" = none) : Keeps CX0 P w K mg base "_law_mix" 1 ["_law_number", "_law_turn"] spMix := by
  refine keeps_of F sc_mix (fun _ _ _ _ _ _ us hl => match us, hl with | [_, _], _ => rfl) (fun vs H Q E h => ?_) (fun f cdv A outer s H vs Q E hr h => ?_)
  · obtain ⟨a, b, rfl, _⟩ := h
    rfl
  · obtain ⟨a, b, rfl, k⟩ := h
    refine ⟨_, (pss_cons (ps_set (i := 2) sc_mix.nd rfl (by walk_at "lv") (pe_op op_mod (pe_callTy call_int1 (by rfl) nI boot_int (pa_cons (pe_op op_add (pe_op op_add (pe_op op_mul (pv 0) pe_int) (pe_op op_mul (pv 1) pe_int)) pe_int) pa_nil)) pe_int))
        (pss_cons (ps_set (i := 3) sc_mix.nd rfl (by walk_at "lv") (pe_op op_mod (pe_callTy call_int1 (by rfl) nI boot_int (pa_cons (pe_op op_add (pe_op op_add (pe_op op_mul (pv 2) (pv 2)) (pe_op op_mul (pe_op op_fdiv (pv 2) pe_int) pe_int)) (pe_op op_mul (pv 1) pe_int)) pa_nil)) pe_int))
        (pss_one (ps_ret (pe_op op_fdiv (pe_op op_mod (pe_callTy call_int1 (by rfl) nI boot_int (pa_cons (pe_op op_add (pe_op op_fdiv (pe_op op_mul (pv 3) (pv 3)) pe_int) (pv 2)) pa_nil)) pe_int) pe_int))))), ?_⟩
    refine ⟨_, rfl, _, _, rfl, rfl, .inr ⟨by decide, by decide⟩, _, rfl, _, _, rfl, rfl, .inr ⟨by decide, by decide⟩, _, _, rfl, rfl, _, _, rfl, rfl, .inl ⟨_, rfl, _, _, rfl, rfl, (by show (0 : Int) < _; decide), ?_⟩⟩
    refine ⟨_, rfl, _, rfl, _, _, rfl, rfl, .inl (mod_lt31 (by decide) (by decide)), _, rfl, _, _, rfl, rfl, ⟨by decide, by decide⟩, _, _, rfl, rfl, .inr ⟨by decide, by decide⟩, _, _, rfl, rfl, _, rfl, _, _, rfl, rfl, .inr ⟨by decide, by decide⟩, _, _, rfl, rfl, .inl ⟨_, rfl, _, _, rfl, rfl, (by show (0 : Int) < _; decide), ?_⟩⟩
    refine ⟨_, rfl, _, rfl, _, _, rfl, rfl, .inl (mod_lt31 (by decide) (by decide)), _, _, rfl, rfl, ⟨by decide, by decide⟩, _, rfl, _, _, rfl, rfl, .inl ⟨_, rfl, _, _, rfl, rfl, (by show (0 : Int) < _; decide), _, _, rfl, rfl, ⟨by decide, by decide⟩, k _⟩⟩
/-! ### _law_hand -/
def spHand (K : PySem.W.Frag) : Sp := fun vs H Q _ => ∃ (a : Addr) (ns : List Int), vs = [.ref a] ∧ SqL K H a (ns.map V.int) ∧ ns.length ≤ 63 ∧ ∀ p c H', H p = none → H c = none → HandC H' p c → Same H H' → Q (.ref p) H'
abbrev s_hand : Stmt := top 50
abbrev N_hand : List Str := ["_law_script", "_law_total", "_law_at", "_law_cell_here"]
theorem sc_hand : FnScope N_hand ["_law_script"] (defScope s_hand) := ⟨rfl, rfl, rfl, by decide +kernel, rfl, by decide +kernel, by decide +kernel⟩
theorem int_at {ns : List Int} {i : Nat} {x : V} (h : (ns.map V.int)[i]? = some x) : ∃ z, ns[i]? = some z ∧ x = .int z := by
  rw [List.getElem?_map] at h
  cases e : ns[i]? with
  | none =>
    rw [e] at h
    cases h
  | some z =>
    rw [e] at h
    exact ⟨z, rfl, (Option.some.inj h).symm⟩
theorem kp_hand (F : At K mg "_law_hand" s_hand) (nI : mg "int" = none) (nE : mg "enumerate" = none) (nA : mg "abs" = none) : Keeps CX0 P w K mg base "_law_hand" 1 ["_law_script"] (spHand K) := by
  refine keeps_of F sc_hand (fun _ _ _ _ _ _ us hl => match us, hl with | [_], _ => rfl) (fun vs H Q E h => ?_) (fun f cdv A outer s H vs Q E hr h => ?_)
  · obtain ⟨a, ns, rfl, _⟩ := h
    rfl
  · obtain ⟨a, ns, rfl, hS, hlen, k⟩ := h
    refine ⟨_, (pss_cons (ps_set (i := 1) sc_hand.nd rfl (by walk_at "lv") pe_int)
        (pss_cons (ps_for PassesOwn.never rfl (pi_enum (by rfl) nE (pa_cons (pv 0) pa_nil)) (pg_tup (by rfl) (pgs_cons (pg_name (i := 2) sc_hand.nd rfl (by walk_at "lv")) (pgs_cons (pg_name (i := 3) sc_hand.nd rfl (by walk_at "lv")) pgs_nil))) (pss_one (ps_set (i := 1) sc_hand.nd rfl (by walk_at "lv") (pe_op op_mod (pe_callTy call_int1 (by rfl) nI boot_int (pa_cons (pe_op op_add (pe_op op_mul (pv 1) pe_int) (pe_op op_mul (pe_callTy call_int1 (by rfl) nI boot_int (pa_cons (pv 3) pa_nil)) (pe_op op_add (pe_op op_mul pe_int (pv 2)) pe_int))) pa_nil)) pe_int))))
        (pss_one (ps_ret (pe_lst (pa_cons (pe_lc (own := [("_law_cell_here", 3)]) (g := gName 3) (tt := tYes) rfl sc_hand.nd (pi_list (pv 0)) (blkOk_by (N := N_hand) (sc := defScope s_hand) (by decide +kernel)) (fun _ _ _ _ _ => (pg_name (i := 3) sc_hand.nd rfl (by walk_at "lv"))) (fun _ _ _ _ _ => pts_nil) (fun _ _ _ _ _ => (pe_callB call_abs (by rfl) nA boot_abs (pa_cons (pe_callTy call_int1 (by rfl) nI boot_int (pa_cons (pv 3) pa_nil)) pa_nil)))) (pa_cons pe_int (pa_cons pe_int (pa_cons (pv 1) pa_nil))))))))), ?_⟩
    refine ⟨_, rfl, a, _, rfl, hS, for_it walk_enum (fun i σ H2 => ∃ (t : Int) (x y : Option V), σ = [some (.ref a), some (.int t), x, y] ∧ Same H H2) ⟨17, none, none, rfl, Same.refl H⟩ (fun i σ H2 _ ⟨_, _, _, _, s2⟩ => s2.seq hS) ?_ ?_⟩
    · rintro i v σ H2 H3 hi ⟨t, x, y, rfl, s2⟩ ⟨T, u, z, rfl, nT, rfl, e1, e2⟩
      obtain ⟨n, hn, rfl⟩ := int_at e2
      cases Option.some.inj e1
      have hi63 : i < 63 := by
        rw [List.length_map] at hi
        omega
      have s3 : Same H (upd H2 T (.tup [V.int (i : Nat), V.int n])) := fun b o e => by
        rw [upd_ne (ne_of_none (s2 b o e) nT)]
        exact s2 b o e
      refine ⟨T, _, rfl, SqT.of upd_same, rfl, _, _, rfl, _, _, rfl, rfl, ?_⟩
      refine ⟨_, rfl, _, _, rfl, rfl, .inr ⟨by decide, by decide⟩, _, rfl, .inl ⟨_, rfl, _, rfl, _, _, rfl, rfl, .inl ⟨by decide, by decide⟩, _, _, rfl, rfl, _, _, rfl, rfl, .inr ⟨by omega, by omega⟩, _, _, rfl, rfl, .inl ⟨_, rfl, _, _, rfl, rfl, (by show (0 : Int) < _; decide), ?_⟩⟩⟩
      exact ⟨_, _, _, rfl, s3⟩
    · rintro σ H2 ⟨t, x, y, rfl, s2⟩
      refine ⟨_, rfl, a, rfl, ⟨_, s2.seq hS⟩, fun D hD => ?_⟩
      refine lc_list (K := K) (a := a) (xs := ns.map V.int) (fun i H3 => ∃ cs : List Int, H3 D = some (.lst (cs.map V.int)) ∧ cs.length = i ∧ Same H2 H3) ⟨[], upd_same, rfl, fun b o e => by rw [upd_ne (ne_of_none e hD)]; exact e⟩ (fun i H3 _ ⟨_, _, _, s3⟩ => s3.seq (s2.seq hS)) ?_ ?_
      · rintro i v H3 hi ⟨cs, hc, hl, s3⟩
        obtain ⟨n, hn, rfl⟩ := int_at hi
        have hi63 : i < 63 := by
          have q := (List.getElem?_eq_some_iff.mp hn).1
          omega
        refine ⟨rfl, _, rfl, .inl ⟨_, rfl, _, rfl, cs.map V.int, hc, small1000 (by rw [List.length_map]; omega), cs ++ [if n < 0 then -n else n], ?_, by rw [List.length_append, hl]; rfl, ?_⟩⟩
        · rw [List.map_append]
          exact upd_same
        · intro b o e
          rw [upd_ne (ne_of_none e hD)]
          exact s3 b o e
      · rintro H3 ⟨cs, hc, hl, s3⟩
        refine ⟨_, rfl, (by show 4 ≤ sizeLine; decide), fun p hp => ?_⟩
        refine k p D _ ((s2.trans s3).free hp) (s2.free hD) ⟨cs, 0, 0, t, upd_same, ?_, Int.le_refl 0⟩ fun b o e => ?_
        · rw [upd_ne (ne_of_none hc hp)]
          exact hc
        · have e2 := s3 b o (s2 b o e)
          rw [upd_ne (ne_of_none e2 hp)]
          exact e2
/-! ### _law_draw -/
def spDraw : Sp := fun vs H Q _ => ∃ (p c : Addr) (m : Int), vs = [.ref p, .int m] ∧ HandC H p c ∧ (0 < m ∧ m.natAbs.log2 < 9000) ∧ ∀ (r : Int) H', 0 ≤ r → r < m → HandC H' p c → But p H H' → Q (.int r) H'
abbrev s_draw : Stmt := top 51
abbrev N_draw : List Str := ["_law_hand_here", "_law_many", "_law_cell_here", "_law_rest"]
theorem sc_draw : FnScope N_draw ["_law_hand_here", "_law_many"] (defScope s_draw) := ⟨rfl, rfl, rfl, by decide +kernel, rfl, by decide +kernel, by decide +kernel⟩
theorem atI_of {α : Type} {xs : List α} {i : Int} (h0 : 0 ≤ i) (h1 : i < xs.length) : ∃ v, xs[i.toNat]? = some v ∧ atI xs i = some v := by
  have e : xs[i.toNat]? = some (xs[i.toNat]'(by omega)) := List.getElem?_eq_getElem _
  have e2 : ((i.toNat : Nat) : Int) = i := by omega
  refine ⟨_, e, ?_⟩
  have q := atI_nat e
  rw [e2] at q
  exact q
theorem But.upd {p : Addr} {H H' : Hp} {o : HO} (h : But p H H') : But p H (upd H' p o) := fun b u hb e => by
  rw [upd_ne hb]
  exact h b u hb e
theorem But.refl (p : Addr) (H : Hp) : But p H H := fun _ _ _ e => e
theorem kp_draw (F : At K mg "_law_draw" s_draw) (GM : Keeps CX0 P w K mg base "_law_mix" 1 ["_law_number", "_law_turn"] spMix) (nI : mg "int" = none) (nL : mg "len" = none) : Keeps CX0 P w K mg base "_law_draw" 2 ["_law_hand_here", "_law_many"] spDraw := by
  refine keeps_of F sc_draw (fun _ _ _ _ _ _ us hl => match us, hl with | [_, _], _ => rfl) (fun vs H Q E h => ?_) (fun f cdv A outer s H vs Q E hr h => ?_)
  · obtain ⟨p, c, m, rfl, _⟩ := h
    rfl
  · obtain ⟨p, c, m, rfl, ⟨cs, i, rest, tot, hp, hc, hi⟩, ⟨hm, hm2⟩, k⟩ := h
    have cp : c ≠ p := ne_of hc hp (by
      intro z
      cases cs with
      | nil => cases z
      | cons y ys => cases z)
    -- what stands behind the first if
    obtain ⟨tl, dtl, tail⟩ : ∃ tl, PSs (cxOf CX0 P w K mg base N_draw "_law_draw" (defScope s_draw) f cdv A outer s H E).nox ((defBody s_draw).drop 1) tl ∧ ∀ (H1 : Hp) (i1 r1 : Int) (x : Option V), 0 ≤ i1 → H1 p = some (.lst [.ref c, .int i1, .int r1, .int tot]) → H1 c = some (.lst (cs.map V.int)) → But p H H1 →
        tl { nx := fun _ H' => Q .non H', rt := Q } [some (V.ref p), some (V.int m), x, none] H1 := by
      refine ⟨_, (pss_cons (ps_if (pt_cmpR op_gt (pe_ix ix_list (pv 0) pe_int (fun _ _ => rfl)) pe_int (nomark _)) (pss_cons (ps_set (i := 3) sc_draw.nd rfl (by walk_at "lv") (pe_ix ix_list (pv 0) pe_int (fun _ _ => rfl)))
        (pss_cons (ps_asg (pe_op op_fdivW (pv 3) (pv 1)) (pg_sub (pv 0) pe_int set_list))
        (pss_one (ps_ret (pe_op op_mod (pe_callTy call_int1 (by rfl) nI boot_int (pa_cons (pv 3) pa_nil)) (pv 1)))))) pss_nil)
        (pss_cons (ps_asg (pe_op op_mod (pe_callTy call_int1 (by rfl) nI boot_int (pa_cons (pe_op op_add (pe_ix ix_list (pv 0) pe_int (fun _ _ => rfl)) pe_int) pa_nil)) pe_int) (pg_sub (pv 0) pe_int set_list))
        (pss_one (ps_ret (pe_op op_mod (pe_callTy call_int1 (by rfl) nI boot_int (pa_cons (pe_k GM hr (by rfl) pass0 (pa_cons (pe_ix ix_list (pv 0) pe_int (fun _ _ => rfl)) (pa_cons (pe_ix ix_list (pv 0) pe_int (fun _ _ => rfl)) pa_nil))) pa_nil)) (pv 1)))))), ?_⟩
      intro H1 i1 r1 x h0 h1 h2 b1
      refine ⟨_, rfl, p, _, _, _, rfl, rfl, SqL.of h1, rfl, _, _, rfl, rfl, _, rfl, ?_⟩
      refine ite2 (fun _ => ?_) (fun _ => ?_)
      · refine ⟨_, rfl, p, _, _, _, rfl, rfl, SqL.of h1, rfl, _, rfl, _, rfl, _, _, rfl, rfl, ⟨hm, hm2⟩, _, rfl, p, _, _, 2, rfl, rfl, h1, rfl, ?_⟩
        refine ⟨_, rfl, .inl ⟨_, rfl, _, rfl, _, _, rfl, rfl, hm, ?_⟩⟩
        exact k _ _ (Int.emod_nonneg _ (by omega)) (Int.emod_lt_of_pos _ hm) ⟨cs, i1, _, _, upd_same, by rw [upd_ne cp]; exact h2, h0⟩ b1.upd
      · refine ⟨_, rfl, p, _, _, _, rfl, rfl, SqL.of h1, rfl, _, _, rfl, rfl, .inl ⟨_, rfl, _, _, rfl, rfl, (by show (0 : Int) < _; decide), _, rfl, p, _, _, 3, rfl, rfl, h1, rfl, ?_⟩⟩
        refine ⟨_, rfl, p, _, _, _, rfl, rfl, SqL.of upd_same, rfl, _, rfl, p, _, _, _, rfl, rfl, SqL.of upd_same, rfl, _, _, rfl, fun r => .inl ⟨_, rfl, _, rfl, _, _, rfl, rfl, hm, ?_⟩⟩
        exact k _ _ (Int.emod_nonneg _ (by omega)) (Int.emod_lt_of_pos _ hm) ⟨cs, i1, _, _, upd_same, by rw [upd_ne cp]; exact h2, h0⟩ b1.upd
    refine ⟨_, pss_cons (ps_if (PW.pt (pw_and (pt_cmpR op_eq (pe_ix ix_list (pv 0) pe_int (fun _ _ => rfl)) pe_int (nomark _)) (pw_and1 (pt_cmpR op_lt (pe_ix ix_list (pv 0) pe_int (fun _ _ => rfl)) (pe_callB call_len_seq (by rfl) nL boot_len (pa_cons (pe_ix ix_list (pv 0) pe_int (fun _ _ => rfl)) pa_nil)) (nomark _))))) (pss_cons (ps_set (i := 2) sc_draw.nd rfl (by walk_at "lv") (pe_ix ix_list (pe_ix ix_list (pv 0) pe_int (fun _ _ => rfl)) (pe_ix ix_list (pv 0) pe_int (fun _ _ => rfl)) (fun _ _ => rfl)))
        (pss_cons (ps_asg (pe_op op_add (pe_ix ix_list (pv 0) pe_int (fun _ _ => rfl)) pe_int) (pg_sub (pv 0) pe_int set_list))
        (pss_cons (ps_if (pt_cmpR op_lt (pv 2) (pe_op op_pow pe_int pe_int) (nomark _)) (pss_one (ps_ret (pe_op op_mod (pe_callTy call_int1 (by rfl) nI boot_int (pa_cons (pe_k GM hr (by rfl) pass0 (pa_cons (pe_op op_mod (pe_callTy call_int1 (by rfl) nI boot_int (pa_cons (pv 2) pa_nil)) pe_int) (pa_cons (pe_ix ix_list (pv 0) pe_int (fun _ _ => rfl)) pa_nil))) pa_nil)) (pv 1)))) pss_nil)
        (pss_one (ps_asg (pv 2) (pg_sub (pv 0) pe_int set_list)))))) pss_nil) dtl, ?_⟩
    refine ⟨_, rfl, p, _, _, _, rfl, rfl, SqL.of hp, rfl, rfl, _, rfl, ?_⟩
    refine ite2 (fun _ => ?_) (fun _ => ?_)
    · refine ⟨_, rfl, p, _, _, _, rfl, rfl, SqL.of hp, rfl, _, rfl, p, _, _, _, rfl, rfl, SqL.of hp, rfl, c, _, rfl, .inl (SqL.of hc), _, _, rfl, rfl, _, rfl, ?_⟩
      refine ite2 (fun hlt => ?_) (fun _ => ?_)
      · have hlt := of_decide_eq_true hlt
        rw [List.length_map] at hlt
        obtain ⟨v, ev, eat⟩ := atI_of (xs := cs.map V.int) hi (by rw [List.length_map]; exact hlt)
        obtain ⟨z, _, rfl⟩ := int_at ev
        refine ⟨_, rfl, p, _, _, _, rfl, rfl, SqL.of hp, rfl, _, rfl, p, _, _, _, rfl, rfl, SqL.of hp, rfl, c, _, _, _, rfl, rfl, SqL.of hc, eat, ?_⟩
        refine ⟨_, rfl, p, _, _, _, rfl, rfl, SqL.of hp, rfl, _, _, rfl, rfl, _, rfl, p, _, _, 1, rfl, rfl, hp, rfl, ?_⟩
        refine ⟨_, rfl, _, _, rfl, rfl, ⟨by decide, by decide, by decide⟩, _, _, rfl, rfl, _, rfl, ?_⟩
        refine ite2 (fun _ => ?_) (fun _ => ?_)
        · refine ⟨_, rfl, .inl ⟨_, rfl, _, _, rfl, rfl, (by show (0 : Int) < _; decide), _, rfl, p, _, _, _, rfl, rfl, SqL.of upd_same, rfl, _, _, rfl, fun r => .inl ⟨_, rfl, _, rfl, _, _, rfl, rfl, hm, ?_⟩⟩⟩
          exact k _ _ (Int.emod_nonneg _ (by omega)) (Int.emod_lt_of_pos _ hm) ⟨cs, _, _, _, upd_same, by rw [upd_ne cp]; exact hc, by omega⟩ (But.refl p H).upd
        · refine ⟨_, rfl, _, rfl, p, _, _, 2, rfl, rfl, upd_same, rfl, ?_⟩
          exact tail _ (i + 1) z _ (by omega) upd_same (by rw [upd_ne cp, upd_ne cp]; exact hc) (But.refl p H).upd.upd
      · exact tail _ i rest _ hi hp hc (But.refl p H)
    · exact tail _ i rest _ hi hp hc (But.refl p H)
end
/-- the names of built-ins that the text does not take for itself -/
structure Nb (mg : Str → Option Value) : Prop where
  int : mg "int" = none
  bool : mg "bool" = none
  str : mg "str" = none
  list : mg "list" = none
  tuple : mg "tuple" = none
  isinstance : mg "isinstance" = none
  enumerate : mg "enumerate" = none
  abs : mg "abs" = none
  len : mg "len" = none
  range : mg "range" = none
  min : mg "min" = none
  all : mg "all" = none
  any : mg "any" = none
  verr : mg "ValueError" = none
  sum : mg "sum" = none
section
variable {P : Program} {w : World} {K : PySem.W.Frag} {mg : Str → Option Value} {base : Heap}
/-! ### is_whole -/
def spWhole : Sp := fun vs H Q _ => ∃ a : Int, vs = [.int a] ∧ Q (.bl true) H
abbrev s_whole : Stmt := top 1
abbrev N_whole : List Str := ["thing"]
theorem sc_whole : FnScope N_whole ["thing"] (defScope s_whole) := ⟨rfl, rfl, rfl, by decide +kernel, rfl, by decide +kernel, by decide +kernel⟩
theorem kp_whole (F : At K mg "is_whole" s_whole) (N : Nb mg) : Keeps CX0 P w K mg base "is_whole" 1 ["thing"] spWhole := by
  refine keeps_of F sc_whole (fun _ _ _ _ _ _ us hl => match us, hl with | [_], _ => rfl) (fun vs H Q E h => ?_) (fun f cdv A outer s H vs Q E hr h => ?_)
  · obtain ⟨a, rfl, _⟩ := h
    rfl
  · obtain ⟨a, rfl, k⟩ := h
    refine ⟨_, (pss_one (ps_ret (pe_and (pe_callB call_isi (by rfl) N.isinstance boot_isinstance (pa_cons (pv 0) (pa_cons (pe_bltn (v := .ty "int") (by rfl) N.int (by decide +kernel) rfl) pa_nil))) (pe_one (pe_not (pe_callB call_isi (by rfl) N.isinstance boot_isinstance (pa_cons (pv 0) (pa_cons (pe_bltn (v := .ty "bool") (by rfl) N.bool (by decide +kernel) rfl) pa_nil)))))))), ?_⟩
    refine ⟨_, rfl, .int a, .ty "int", _, _, true, rfl, .ty "int", .base (.int a), kit_ty (by decide +kernel), _, rfl, ?_⟩
    exact ⟨_, rfl, .int a, .ty "bool", _, _, false, rfl, .ty "bool", .base (.int a), kit_ty (by decide +kernel), _, rfl, k⟩
/-! ### is_whole_from -/
def spWholeF : Sp := fun vs H Q _ => ∃ a lo hi : Int, vs = [.int a, .int lo, .int hi] ∧ Q (.bl (decide (lo ≤ a) && decide (a ≤ hi))) H
abbrev s_wholeF : Stmt := top 2
abbrev N_wholeF : List Str := ["thing", "low", "high"]
theorem sc_wholeF : FnScope N_wholeF ["thing", "low", "high"] (defScope s_wholeF) := ⟨rfl, rfl, rfl, by decide +kernel, rfl, by decide +kernel, by decide +kernel⟩
theorem kp_wholeF (F : At K mg "is_whole_from" s_wholeF) (G : Keeps CX0 P w K mg base "is_whole" 1 ["thing"] spWhole) : Keeps CX0 P w K mg base "is_whole_from" 2 ["thing", "low", "high"] spWholeF := by
  refine keeps_of F sc_wholeF (fun _ _ _ _ _ _ us hl => match us, hl with | [_, _, _], _ => rfl) (fun vs H Q E h => ?_) (fun f cdv A outer s H vs Q E hr h => ?_)
  · obtain ⟨a, lo, hi, rfl, _⟩ := h
    rfl
  · obtain ⟨a, lo, hi, rfl, k⟩ := h
    refine ⟨_, (pss_one (ps_ret (pe_and (pe_k G hr (by rfl) pass0 (pa_cons (pv 0) pa_nil)) (pe_one (pe_chain op_le op_le (pv 1) (pv 0) (pv 2)))))), ?_⟩
    refine ⟨_, rfl, a, rfl, _, rfl, ?_⟩
    refine ⟨_, rfl, _, rfl, _, _, rfl, rfl, _, rfl, ?_⟩
    by_cases h1 : lo ≤ a
    · rw [decide_eq_true h1] at k ⊢
      exact ⟨_, rfl, _, _, rfl, rfl, k⟩
    · rw [decide_eq_false h1] at k ⊢
      exact k
end
/-- a list or a tuple -/
def SqA (H : Hp) (a : Addr) (xs : List V) : Prop := H a = some (.lst xs) ∨ H a = some (.tup xs)
theorem SqA.same {H H' : Hp} {a : Addr} {xs : List V} (s : Same H H') (h : SqA H a xs) : SqA H' a xs := h.elim (fun h => .inl (s _ _ h)) fun h => .inr (s _ _ h)
theorem SqA.keep {H H' : Hp} {a : Addr} {xs : List V} (s : Same H H') (h : SqA H a xs) : H' a = H a := h.elim (fun h => by rw [s _ _ h, h]) fun h => by rw [s _ _ h, h]
theorem same_new {H H1 : Hp} {p : Addr} {o : HO} (s : Same H H1) (hp : H1 p = none) : Same H (upd H1 p o) := fun b u e => by
  rw [upd_ne (ne_of_none (s _ _ e) hp)]
  exact s _ _ e
/-- a walk of a name's list or tuple -/
def iSeqV (i : Nat) : TI := fun σ H R => ∃ a xs, σ[i]? = some (some (.ref a)) ∧ SqA H a xs ∧ ∀ J, Walk J xs.length (fun H' => H' a = H a) (YAt xs) → R J H
theorem pi_seqV {X : Cx} {tg l : Expr} {i : Nat} (h : PE X l (tVar i)) : PI X tg l (iSeqV i) := ⟨fun pins s σ H R I q => by
  obtain ⟨a, xs, e, hs, k⟩ := q
  rcases hs with hs | hs
  · exact (pi_list h).run pins s σ H R I ⟨.ref a, e, a, rfl, ⟨xs, SqL.of hs⟩, k _ (walk_list.mono (fun H' e => SqL.of (e.trans hs)) fun _ _ _ _ _ _ y => y)⟩
  · exact (pi_tup h).run pins s σ H R I ⟨.ref a, e, a, rfl, ⟨xs, SqT.of hs⟩, k _ (walk_tup.mono (fun H' e => SqT.of (e.trans hs)) fun _ _ _ _ _ _ y => y)⟩⟩
section
variable {P : Program} {w : World} {K : PySem.W.Frag} {mg : Str → Option Value} {base : Heap}
/-! ### is_sequence -/
def spSeq : Sp := fun vs H Q _ => ∃ a xs, vs = [.ref a] ∧ SqA H a xs ∧ ∀ H', Same H H' → Q (.bl true) H'
abbrev s_seq : Stmt := top 3
abbrev N_seq : List Str := ["thing"]
theorem sc_seq : FnScope N_seq ["thing"] (defScope s_seq) := ⟨rfl, rfl, rfl, by decide +kernel, rfl, by decide +kernel, by decide +kernel⟩
theorem kp_seq (F : At K mg "is_sequence" s_seq) (N : Nb mg) : Keeps CX0 P w K mg base "is_sequence" 1 ["thing"] spSeq := by
  refine keeps_of F sc_seq (fun _ _ _ _ _ _ us hl => match us, hl with | [_], _ => rfl) (fun vs H Q E h => ?_) (fun f cdv A outer s H vs Q E hr h => ?_)
  · obtain ⟨a, xs, rfl, _⟩ := h
    rfl
  · obtain ⟨a, xs, rfl, hs, k⟩ := h
    refine ⟨_, (pss_one (ps_ret (pe_callB call_isiT (by rfl) N.isinstance boot_isinstance (pa_cons (pv 0) (pa_cons (pe_tup (pa_cons (pe_bltn (v := .ty "list") (by rfl) N.list (by decide +kernel) rfl) (pa_cons (pe_bltn (v := .ty "tuple") (by rfl) N.tuple (by decide +kernel) rfl) pa_nil))) pa_nil))))), ?_⟩
    refine ⟨_, rfl, ⟨(by show 2 ≤ sizeLine; decide), fun t ht => ?_⟩⟩
    have s1 := same_new (o := .tup [V.ty "list", V.ty "tuple"]) (Same.refl H) ht
    rcases hs with hs | hs
    · exact ⟨.ref a, t, [.ty "list", .ty "tuple"], _, _, true, rfl, upd_same, .cons (.ty _) (.cons (.ty _) .nil), .base (.lst (s1 _ _ hs)), kitAny_cons (b := true) (kit_ty (by decide +kernel)) (fun z => nomatch z) (fun _ => rfl), k _ s1⟩
    · exact ⟨.ref a, t, [.ty "list", .ty "tuple"], _, _, true, rfl, upd_same, .cons (.ty _) (.cons (.ty _) .nil), .base (.tup (s1 _ _ hs)), kitAny_cons (b := false) (kit_ty (by decide +kernel)) (fun _ => kitAny_cons (b := true) (kit_ty (by decide +kernel)) (fun z => nomatch z) (fun _ => rfl)) (fun z => nomatch z), k _ s1⟩
/-! ### _check_core -/
/-! ### _are_unlike_from -/
end
theorem HandC.same {H H' : Hp} {p c : Addr} (s : Same H H') (h : HandC H p c) : HandC H' p c := by
  obtain ⟨cs, i, r, t, e1, e2, e3⟩ := h
  exact ⟨cs, i, r, t, s _ _ e1, s _ _ e2, e3⟩
theorem But.of {p : Addr} {H H' : Hp} (s : Same H H') : But p H H' := fun b o _ e => s b o e
theorem dec_cong {p q : Prop} [Decidable p] [Decidable q] (h : p ↔ q) : decide p = decide q := by
  by_cases hq : q
  · rw [decide_eq_true (h.mpr hq), decide_eq_true hq]
  · rw [decide_eq_false (fun z => hq (h.mp z)), decide_eq_false hq]
theorem But.trans {p : Addr} {H H1 H2 : Hp} (a : But p H H1) (b : But p H1 H2) : But p H H2 := fun c o hc e => b c o hc (a c o hc e)
section
variable {X : L2.Cx}
/-! ### x in t, t a tuple of data -/
def rInT (K : PySem.W.Frag) : R2 := fun x y H Q => ∃ d ds, Dp K H x d ∧ Dp K H y (.tuple ds) ∧ SeqAt.shaped d = true ∧ SeqAt.shaped (.tuple ds) = true ∧ Q (.bl (ds.any fun z => PyData.eqv z d)) H
theorem op_inT (hu : X.A.units + 65 < cLine) : OpR X (compareOp .In) (rInT X.K) := by
  intro pins s σ H x y v u Q I rx ry h; obtain ⟨d, ds, hd, he, sd, se, q⟩ := h
  obtain ⟨as, r1⟩ := Dp.reads I d x v hd rx; obtain ⟨bs, r2⟩ := Dp.reads I (.tuple ds) y u he ry
  exact SeqAt.in_tuple_reads r2 r1 (SeqAt.canLay_of_shaped se) (SeqAt.canLay_of_shaped sd) (room_in_shaped sd hu) ⟨.bl _, H, I, rfl, q⟩
/-- math.lcm of two numbers -/
def rLcm : List V → Hp → VK → Prop := fun vs H Q => ∃ a b : Int, vs = [.int a, .int b] ∧ a.natAbs < 2 ^ 20 ∧ b.natAbs < 2 ^ 20 ∧ Q (.int ((Nat.lcm a.natAbs b.natAbs : Nat) : Int)) H
theorem cr_lcm : CallR X (.builtin "math.lcm") rLcm := by
  intro pins s σ H vs us Q I r h; obtain ⟨a, b, rfl, ha, hb, q⟩ := h
  obtain ⟨t, u, rfl⟩ := Vals.int2 r; exact PySem.W.mc_lcm (by omega) (by omega) fun _ => ⟨.int _, H, I.tok _, ⟨_, rfl⟩, q⟩
end
/-! ### facts of the error classes -/
theorem and_ok {a b : Bool} (h : (a && b) = true) : a = true ∧ b = true := Bool.and_eq_true_iff.mp h
theorem clsB_ok {K : PySem.W.Frag} {C : Addr} {nm : Str} {bm : List Value} (h : clsB K C nm bm = true) :
    ∃ q N bs sn sub ab col dd k0 k1 k2 k3 k5, K.lookup C = some (excClassObj nm q C N bs bm true sn sub ab col dd k0 k1 k2 k3 k5 "ValueError.__new__") := by
  unfold clsB at h
  split at h
  · rename_i t dd cd sl lk
    obtain ⟨nm', bs, mro, ns, qn, hd, sn, sb, ab, col, del⟩ := cd
    obtain ⟨l⟩ := sl
    obtain ⟨ht, h⟩ := and_ok h
    have ht := of_decide_eq_true ht
    dsimp only at h
    split at h
    · rename_i C' r k0 k1 k2 k3 n k5
      obtain ⟨h1, h⟩ := and_ok h
      obtain ⟨h2, h⟩ := and_ok h
      obtain ⟨h3, h⟩ := and_ok h
      obtain ⟨h4, h⟩ := and_ok h
      obtain ⟨h5, h6⟩ := and_ok h
      have h1 := of_decide_eq_true h1
      have h2 := of_decide_eq_true h2
      have h3 : del = false := by simpa using h3
      have h4 : hd = true := h4
      have h5 := of_decide_eq_true h5
      have h6 := of_decide_eq_true h6
      rw [lk, ht, h1, h2, h3, h4, h5, h6]
      exact ⟨_, _, _, _, _, _, _, _, _, _, _, _, _, rfl⟩
    · cases h
  · cases h
/-- what is told of an error class x with the attributes fs; b: the class above it -/
structure ExF (K : PySem.W.Frag) (mg : Str → Option Value) (x b : Str) (fs : List Str) : Prop where
  g : mg x = some (.ref (He.ga K x))
  lk : ∃ q N bs sn sub ab col dd k0 k1 k2 k3 k5, K.lookup (He.ga K x) = some (excClassObj x q (He.ga K x) N bs (.ref (He.ga K b) :: He.veBase) true sn sub ab col dd k0 k1 k2 k3 k5 "ValueError.__new__")
  sa : PySem.W.findIn K (.ref (He.ga K x)) "__setattr__" = some (some (.builtin "object.__setattr__"))
  exC : PySem.W.subIn K (.ref (He.ga K x)) (.type "BaseException") = some true
  kC : PySem.W.keepIn K (.ref (He.ga K x)) = true
  ga : PySem.W.findIn K (.ref (He.ga K x)) "__getattribute__" = some (some (.builtin "BaseException.__getattribute__"))
  gg : PySem.W.findIn K (.ref (He.ga K x)) "__getattr__" = some none
  ca : PySem.W.findIn K (.ref (He.ga K x)) "__class__" = some (some (.builtin "object.__class__"))
  mo : PySem.W.mroIn K (He.ga K x) (.type "object") = some true
  no : ∀ f ∈ fs, PySem.W.findIn K (.ref (He.ga K x)) f = some none
  kB : PySem.W.kitOne K (.ref (He.ga K x)) (.ref (He.ga K b)) = some true
  kV : PySem.W.kitOne K (.ref (He.ga K x)) (.type "ValueError") = some true
  xm : PySem.W.exmOne K (.ref (He.ga K x)) (.ref (He.ga K b)) = some true
  new : fs = [] → PySem.W.excIn K (He.ga K x) He.veBase "ValueError.__new__" = true
  ini : fs ≠ [] → PySem.W.findIn K (.ref (He.ga K x)) "__init__" = some (some (.ref (He.ma K (He.ga K x) "__init__"))) ∧ PySem.W.typeIn K (.ref (He.ma K (He.ga K x) "__init__")) = some (.type "function")
theorem exB_ok {K : PySem.W.Frag} {h : Heap} {mg : Str → Option Value} (X : K.In h) (G : h.Ns mainGlobals mg) {x b : Str} {fs : List Str} (c : exB K b (x, fs) = true) : ExF K mg x b fs := by
  obtain ⟨c1, c⟩ := and_ok c
  obtain ⟨c2, c⟩ := and_ok c
  obtain ⟨c3, c⟩ := and_ok c
  obtain ⟨c4, c⟩ := and_ok c
  obtain ⟨c5, c⟩ := and_ok c
  obtain ⟨c6, c⟩ := and_ok c
  obtain ⟨c7, c⟩ := and_ok c
  obtain ⟨c8, c⟩ := and_ok c
  obtain ⟨c9, c⟩ := and_ok c
  obtain ⟨c10, c⟩ := and_ok c
  obtain ⟨c11, c⟩ := and_ok c
  obtain ⟨c12, c⟩ := and_ok c
  obtain ⟨c13, c⟩ := and_ok c
  refine ⟨He.glo_ok X G c1, clsB_ok c2, of_decide_eq_true c3, of_decide_eq_true c4, c5, of_decide_eq_true c6, of_decide_eq_true c7, of_decide_eq_true c8, of_decide_eq_true c9, fun f hf => of_decide_eq_true (List.all_eq_true.mp c10 f hf), of_decide_eq_true c11, of_decide_eq_true c12, of_decide_eq_true c13, fun e => ?_, fun e => ?_⟩
  · subst e
    exact c
  · cases fs with
    | nil => exact absurd rfl e
    | cons f r =>
      obtain ⟨d1, d2⟩ := and_ok c
      exact ⟨of_decide_eq_true d1, of_decide_eq_true d2⟩
section
variable {K : PySem.W.Frag} {mg : Str → Option Value} {x b : Str} {fs : List Str}
theorem ExF.ty (T : ExF K mg x b fs) : PySem.W.typeIn K (.ref (He.ga K x)) = some (.type "type") := by
  obtain ⟨q, N, bs, sn, sub, ab, col, dd, k0, k1, k2, k3, k5, lk⟩ := T.lk
  show ((K.lookup (He.ga K x)).map (·.cls)) = _
  rw [lk]
  rfl
theorem ExF.cl (T : ExF K mg x b fs) : (PySem.W.clsIn K (He.ga K x)).isSome = true := by
  obtain ⟨q, N, bs, sn, sub, ab, col, dd, k0, k1, k2, k3, k5, lk⟩ := T.lk
  unfold PySem.W.clsIn
  rw [lk]
  rfl
theorem ExF.dict (T : ExF K mg x b fs) : PySem.W.hasDictIn K (He.ga K x) = true := by
  obtain ⟨q, N, bs, sn, sub, ab, col, dd, k0, k1, k2, k3, k5, lk⟩ := T.lk
  unfold PySem.W.hasDictIn PySem.W.clsIn
  rw [lk]
  rfl
theorem ExF.ox (T : ExF K mg x b fs) : OexC K (He.ga K x) := by
  obtain ⟨q, N, bs, sn, sub, ab, col, dd, k0, k1, k2, k3, k5, lk⟩ := T.lk
  exact ⟨⟨x, q, N, bs, _, sn, sub, ab, col, dd, k0, k1, k2, k3, k5, lk, (show PySem.HandSPX.refsVE He.veBase = true by decide +kernel)⟩, T.sa, T.exC, T.ty, T.kC⟩
/-- two of them: is the one the other -/
theorem kit_two {y : Str} {gs : List Str} (T : ExF K mg x b fs) (U : ExF K mg y b gs) (hb : y ≠ b) (hB : ∃ q N bs bm sn sub ab col dd k0 k1 k2 k3 k5 nid, K.lookup (He.ga K b) = some (excClassObj b q (He.ga K b) N bs bm true sn sub ab col dd k0 k1 k2 k3 k5 nid)) :
    PySem.W.kitOne K (.ref (He.ga K x)) (.ref (He.ga K y)) = some (decide (x = y)) := by
  by_cases e : x = y
  · subst e
    rw [decide_eq_true rfl]
    exact if_pos (by simp)
  · rw [decide_eq_false e]
    obtain ⟨q, N, bs, sn, sub, ab, col, dd, k0, k1, k2, k3, k5, lx⟩ := T.lk
    obtain ⟨q', N', bs', sn', sub', ab', col', dd', k0', k1', k2', k3', k5', ly⟩ := U.lk
    obtain ⟨q2, N2, bs2, bm2, sn2, sub2, ab2, col2, dd2, m0, m1, m2, m3, m5, nid, lb⟩ := hB
    have n1 : He.ga K x ≠ He.ga K y := fun z => by
      rw [z, ly] at lx
      have z1 := Option.some.inj lx
      simp only [excClassObj, Obj.mk.injEq, Data.cls.injEq, ClassData.mk.injEq] at z1
      exact e z1.2.2.1.1.symm
    have n2 : He.ga K b ≠ He.ga K y := fun z => by
      rw [z, ly] at lb
      have z1 := Option.some.inj lb
      simp only [excClassObj, Obj.mk.injEq, Data.cls.injEq, ClassData.mk.injEq] at z1
      exact hb z1.2.2.1.1
    have n3 : ¬ ((Value.ref (He.ga K x) == Value.ref (He.ga K y)) = true) := fun z => n1 (Value.ref.inj (beq_iff_eq.mp z))
    unfold PySem.W.kitOne
    rw [if_neg n3]
    show (if ((PySem.W.clsIn K (He.ga K y)).isSome && PySem.W.typeIn K (.ref (He.ga K y)) == some (.type "type")) = true then PySem.W.subIn K (.ref (He.ga K x)) (.ref (He.ga K y)) else none) = some false
    rw [if_pos (by rw [U.cl, U.ty]; rfl)]
    show PySem.W.mroIn K (He.ga K x) (.ref (He.ga K y)) = some false
    unfold PySem.W.mroIn PySem.W.clsIn
    rw [lx]
    have c1 : (Value.ref (He.ga K y) == Value.ref (He.ga K x)) = false := by
      rw [beq_eq_false_iff_ne]
      exact fun z => n1 (Value.ref.inj z).symm
    have c2 : (Value.ref (He.ga K y) == Value.ref (He.ga K b)) = false := by
      rw [beq_eq_false_iff_ne]
      exact fun z => n2 (Value.ref.inj z).symm
    simp [List.contains_cons, c1, c2, He.veBase]
    exact ⟨fun z => n1 z.symm, fun z => n2 z.symm⟩
end

/-! ### errors as values: made, asked for their class, read -/
section
variable {X : Cx} {e : Expr} {es : List Expr} {ta : TA} {te : TE} {p pos : Pos} {x b n : Str} {fs : List Str}
/-- X(), no __init__ of its own -/
theorem pe_exv0 (T : ExF X.K X.mg x b fs) (nf : fs = []) (hg : Gl X x) (dbg : (x == ("__debug__" : Str)) = false := by decide) :
    PE X (.Call (.Name x p) [] [] pos) (fun _ H Q => ∀ a, H a = none → Q (.ref a) (upd H a (exo a (He.ga X.K x) none))) := by
  refine ⟨fun pins s σ H Q I h => ?_⟩
  refine wpAny_Call_Name_kw (ld_glob I hg T.g ?_ dbg)
  refine PySem.W.callWith_K0 I.kIn T.kC ?_
  show wpAny _ _ (call (.ref (He.ga X.K x)) []) _ _ _
  obtain ⟨bm, N, nm, qn, bs, hdct, sn, sub, ab, col, dd, k0, k1, k2, k3, k5, mN, hC, hN, hni, TL⟩ := exc_obj I.kIn (T.new nf)
  refine wpAny_call_exc_subT PySem.F.excBase_ValueError TL hC hN hni (fun h' a hm => ?_) (by show 0 ≤ sizeLine; exact Nat.zero_le _)
  have hn : H a = none := I.hok.gone hm.new
  obtain ⟨tt, et, _, _⟩ := hm.there
  exact ⟨.ref a, _, I.laidN hm.keeps hm.new hn (exo_ok et), rfl, h a hn⟩
/-- the reading of X(e, ..) with an __init__ that keeps sp -/
def tExv (C : Addr) (sp : Sp) (ta : TA) : TE := fun σ H Q => ta σ H fun vs H1 => vs.length ≤ 1000 ∧ ∀ a, H1 a = none →
  sp (.ref a :: vs) (upd H1 a (exo a C none)) (fun v H2 => v = .non ∧ Q (.ref a) H2) fun _ _ _ => False
theorem pe_exv {CX : CXT} {k : Nat} {fI : Addr} {fd : FuncData} {ps : List Str} {sp : Sp} (T : ExF X.K X.mg x b fs) (nf : fs ≠ []) (ef : fI = He.ma X.K (He.ga X.K x) "__init__") (F1 : FnOk X.prog X.w X.K X.mg X.base CX k fI fd ps sp)
    (hr : Room (k + 1) X.A) (hb : Binds X.K fd ps []) (hx : Passes CX X (fun _ _ _ => False)) (hg : Gl X x) (ha : PA X (e :: es) ta)
    (dbg : (x == ("__debug__" : Str)) = false := by decide) (hst : starEach (e :: es) X.env = (false, eval e X.env) :: starEach es X.env := by rfl) (hpl : (backTo pos (starEach es X.env)).any (·.1) = false := by rfl) :
    PE X (.Call (.Name x p) (e :: es) [] pos) (tExv (He.ga X.K x) sp ta) := by
  subst ef
  refine ⟨fun pins s σ H Q I h => ?_⟩
  obtain ⟨iC, tI⟩ := T.ini nf
  obtain ⟨nm, q, N, bs, bm, sn, sub, ab, col, dd, k0, k1, k2, k3, k5, hC, hbm⟩ := T.ox.cls
  refine wpAny_Call_Name_kw (ld_glob I hg T.g ?_ dbg)
  refine PySem.W.callWith_K (h₀ := X.base) I.ok.mod.kin T.kC ?_ hst hpl
  refine thn (ha.run pos pins s σ H _ I h) fun us s1 hh => ?_
  obtain ⟨vs, H1, I1, r1, hz, q1⟩ := hh
  refine ⟨I1.kIn, ?_⟩
  show wpAny _ _ (call (.ref (He.ga X.K x)) us) _ _ _
  obtain ⟨hp, g, dr, tk, os⟩ := s1
  have hup : hp.objs.size ≤ hp.objs.size + 1 := Nat.le_succ _
  have hfr : H1 (hp.objs.size + 1) = none := I1.hok.fresh hup
  have hq := q1 _ hfr
  let h2 : Heap := (hp.push (PySem.W.kdv_tup us)).push (PySem.HandSPX.excO (He.ga X.K x) hp.objs.size)
  have kk : ∀ a o, hp.get? a = some o → h2.get? a = some o := fun a o z => Heap.get?_push_of_some _ (Heap.get?_push_of_some _ z)
  have hget : h2.get? (hp.objs.size + 1) = some (PySem.HandSPX.excO (He.ga X.K x) hp.objs.size) := by
    show ((hp.push (PySem.W.kdv_tup us)).push (PySem.HandSPX.excO (He.ga X.K x) hp.objs.size)).get? _ = _
    heap_get
  have I2 : Inv X pins σ (upd H1 (hp.objs.size + 1) (exo (hp.objs.size + 1) (He.ga X.K x) none)) ⟨h2, g, dr, tk, os⟩ := I1.laid (t' := tk) (h' := h2) kk hup (exo_ok hget)
  have rr : Vals (V.ref (hp.objs.size + 1) :: vs) (Value.ref (hp.objs.size + 1) :: us) := .cons rfl r1
  have hl : (Value.ref (hp.objs.size + 1) :: us).length = ps.length := by
    rw [← rr.length]
    exact F1.len _ _ _ _ hq
  have few : us.length ≤ sizeLine := by rw [← r1.length, sizeLine_eq]; omega
  have hbb := hb ⟨h2, g, dr, tk, os⟩ (Value.ref (hp.objs.size + 1) :: us) I2.kIn (by rw [List.append_nil]; exact hl)
  rw [List.append_nil] at hbb
  refine wpAny_call (PySem.HandSPX.call_own PySem.F.excBase_ValueError (fun Y => PySem.HandSPX.refsVE_contains Y bm hbm) (I1.kIn _ _ hC) (PySem.W.looks_findIn I1.kIn iC) (fun self => PySem.W.bind_fn I1.kIn self tI) few ?_)
  refine codeAny_mono (F1.run _ X.stack _ _ ⟨Value.ref (hp.objs.size + 1) :: us, []⟩ _ _ _ (fun _ _ _ => False) (hr.make (He.ga X.K x) us []) (I2.env0.make (He.ga X.K x) us []) hbb rr hq) fun r s' out => ?_
  cases r with
  | error er => exact hx pins σ _ _ er s' I2 out
  | ok fl =>
    cases fl with
    | ret u =>
      obtain ⟨v, H2, os2, bare2, un2, hok2, rv, ev, q2⟩ := out
      subst ev
      exact ⟨rv, .ref (hp.objs.size + 1), H2, I2.call' (ch := []) os2 un2 hok2 bare2 (fun b z => absurd z (by simp)), rfl, q2⟩
    | next => exact out.elim
    | brk => exact out.elim
    | cont => exact out.elim
/-- what the state knows of the error at a: tracked, or held by the suite -/
def ExKnown (H : Hp) (pn : List (Addr × Obj)) (C a : Addr) : Prop := (∃ d, H a = some (exo a C d) ∧ ∀ dd, d = some dd → ∃ fs, H dd = some (exd dd fs)) ∨
  ∃ oe, (a, oe) ∈ pn ∧ oe.cls = .ref C ∧ (∃ vs, oe.data = .fields vs) ∧ ∀ dd, oe.dict = some dd → ∃ fs, H dd = some (.xd fs)
/-- isinstance(e, c) -/
def rIsx (K : PySem.W.Frag) (mg : Str → Option Value) (pn : List (Addr × Obj)) : List V → Hp → VK → Prop := fun xs H Q => ∃ (a : Addr) (c : V) (cv : Value) (y z : Str) (gs : List Str) (r : Bool), xs = [.ref a, c] ∧ (∀ u, RelV c u → u = cv) ∧ ExF K mg y z gs ∧
  ExKnown H pn (He.ga K y) a ∧ PySem.W.kitOne K (.ref (He.ga K y)) cv = some r ∧ Q (.bl r) H
theorem call_isx (hn : PySem.W.specialIn X.K (.builtin "object.__class__") "__get__" = some (some (.builtin "getset_descriptor.__get__"))) (ht : PySem.W.takesIn X.K (.builtin "object.__class__") = some true) :
    CallR X (.builtin "isinstance") (rIsx X.K X.mg X.pn) := by
  intro pns s σ H xs us Q I r h
  obtain ⟨a, c, cv, y, z, gs, b, rfl, hcv, T, kn, e, q⟩ := h
  cases r with
  | cons rx rr =>
    cases rr with
    | cons rt rr =>
      cases rr
      cases rx
      have ec := hcv _ rt
      subst ec
      obtain ⟨oe, od, J⟩ : ∃ oe od, PySem.W.InstAt s.heap a oe (He.ga X.K y) od := by
        rcases kn with ⟨d, ea, hd⟩ | ⟨oe, hp, h1, ⟨vs, h2⟩, h3⟩
        · obtain ⟨t1, ho⟩ := exo_at I.hok ea
          cases d with
          | none => exact ⟨_, none, ⟨ho, rfl, rfl, trivial⟩⟩
          | some dd =>
            obtain ⟨f2, ed⟩ := hd dd rfl
            obtain ⟨mA, hns, _⟩ := exd_at I.hok ed
            obtain ⟨o2, ho2, _⟩ := lookIn_ns hns
            exact ⟨_, some o2, ⟨ho, rfl, rfl, ho2⟩⟩
        · obtain ⟨hget, _⟩ := I.pin (a, oe) (List.mem_append.mpr (.inl hp))
          obtain ⟨oc, dct, oda, osl⟩ := oe
          dsimp only at h1 h2 h3
          subst h1 h2
          cases dct with
          | none => exact ⟨_, none, ⟨hget, rfl, rfl, trivial⟩⟩
          | some dd =>
            obtain ⟨f2, ed⟩ := h3 dd rfl
            obtain ⟨mA, hns, _⟩ := (show ObjOk X.prog X.w H s.heap dd (.xd f2) from I.hok dd _ ed)
            obtain ⟨o2, ho2, _⟩ := lookIn_ns hns
            exact ⟨_, some o2, ⟨hget, rfl, rfl, ho2⟩⟩
      exact PySem.W.kia_one (PySem.W.kitx_exc T.cl T.ga T.gg T.exC T.ca hn ht T.mo) I.kIn J e (fun z => nomatch z) fun tk => ⟨.bl b, H, I.tok tk, rfl, q⟩
/-- e.f of a tracked error -/
def tXat (K : PySem.W.Frag) (mg : Str → Option Value) (f : Str) (te : TE) : TE := fun σ H Q => te σ H fun v H1 => ∃ (a d : Addr) (y z : Str) (gs : List Str) (fs : List (Str × V)) (u : V), v = .ref a ∧ ExF K mg y z gs ∧ f ∈ gs ∧
  H1 a = some (exo a (He.ga K y) (some d)) ∧ H1 d = some (exd d fs) ∧ fs.lookup f = some u ∧ Q u H1
theorem pe_xat (he : PE X e te) (hb : attributeBase e n X.env (eval e X.env) = eval e X.env := by rfl) : PE X (.Attribute e n pos) (tXat X.K X.mg n te) := by
  refine ⟨fun pins s σ H Q I h => ?_⟩
  refine attr_of hb (thn (he.run pins s σ H _ I h) fun u s1 hh => ?_)
  obtain ⟨v, H1, I1, rv, a, d, y, z, gs, fs, w, rfl, T, hf, ea, ed, l, q⟩ := hh
  cases rv
  obtain ⟨t1, ho⟩ := exo_at I1.hok ea
  obtain ⟨mA, hns, hr⟩ := exd_at I1.hok ed
  obtain ⟨od, hod, hl⟩ := lookIn_ns hns
  obtain ⟨uw, hu, ru⟩ := RelO.some_of (v := w) (o := mA n) (by rw [← l]; exact hr n)
  have J : PySem.W.InstAt s1.heap a _ (He.ga X.K y) (some od) := ⟨ho, rfl, rfl, hod⟩
  exact HandSPX.exc_get I1.kIn J T.ga T.gg T.exC (PySem.W.findObj_own T.dict (T.no n hf) rfl (by rw [hl, hu])) (handed_of ru) ⟨w, H1, I1.tok _, ru, q⟩
end

/-! ### the __init__ of an error -/
def spIni (C : Addr) (fs : List Str) : Sp := fun vs H Q _ => ∃ (a : Addr) (ys : List V), vs = .ref a :: ys ∧ ys.length = fs.length ∧ H a = some (exo a C none) ∧
  ∀ d H', H d = none → d ≠ a → H' a = some (exo a C (some d)) → H' d = some (exd d (fs.zip ys).reverse) → (∀ b o, b ≠ a → H b = some o → H' b = some o) → Q .non H'
/-- the def __init__ of the class x, as it stands -/
def AtI (K : PySem.W.Frag) (x q : Str) (st : Stmt) : Prop := ∃ fd, FunD K "__init__" q (defArgs st) (defBody st) (defScope st) [] [] (He.ma K (He.ga K x) "__init__") fd
def KeepsI (P : Program) (w : World) (K : PySem.W.Frag) (mg : Str → Option Value) (base : Heap) (x : Str) (fs : List Str) : Prop :=
  ∃ fd, FnOk P w K mg base CX0 1 (He.ma K (He.ga K x) "__init__") fd ("self" :: fs) (spIni (He.ga K x) fs) ∧ Binds K fd ("self" :: fs) []
section
variable {P : Program} {w : World} {K : PySem.W.Frag} {mg : Str → Option Value} {base : Heap}
abbrev bindsI (st : Stmt) (q : Str) (ps : List Str) : Prop := ∀ (kV doc pm : Value) (an : Option Addr) (cdv ct : Value) (us : List Value), us.length = ps.length → bindArgs (PySem.W.fnOf "__init__" q (defArgs st) (defBody st) (defScope st) .none kV doc pm an cdv ct) ⟨us, []⟩ = pure (ps.zip us)
theorem ini_of {x q : Str} {st : Stmt} {fs : List Str} (F : AtI K x q st) (S : FnScope ("self" :: fs) ("self" :: fs) (defScope st)) (hb : bindsI st q ("self" :: fs))
    (hbody : ∀ (fd : FuncData) (cdv : Value) (A : Around) (outer : List Env) (s : Shared) (H : Hp) (vs : List V) (Q : VK) (E : XK), spIni (He.ga K x) fs vs H Q E →
      ∃ t, PSs (cxOf CX0 P w K mg base ("self" :: fs) q (defScope st) (He.ma K (He.ga K x) "__init__") cdv A outer s H E).nox (defBody st) t ∧ t { nx := fun _ H' => Q .non H', rt := Q } (start ("self" :: fs) vs) H) :
    KeepsI P w K mg base x fs := by
  obtain ⟨fd, F⟩ := F
  refine ⟨fd, F.ok S (fun vs H Q E h => ?_) (fun cdv A outer s H vs Q E hr h => ?_), F.bindsN hb⟩
  · obtain ⟨a, ys, rfl, hl, _⟩ := h
    simp only [List.length_cons, hl]
  · obtain ⟨t, h1, h2⟩ := hbody fd cdv A outer s H vs Q E h
    exact ⟨t, h1.nox, h2⟩
theorem one_of {ys : List V} (h : ys.length = 1) : ∃ y, ys = [y] := match ys, h with | [y], _ => ⟨y, rfl⟩
theorem two_of {ys : List V} (h : ys.length = 2) : ∃ y z, ys = [y, z] := match ys, h with | [y, z], _ => ⟨y, z, rfl⟩
theorem three_of {ys : List V} (h : ys.length = 3) : ∃ y z u, ys = [y, z, u] := match ys, h with | [y, z, u], _ => ⟨y, z, u, rfl⟩
end
/-! ### y = {k: v for ..} -/
section
variable {X : L2.Cx}
theorem sw_dict {kx vx : Expr} {gs : List Comprehension} {sc : Scope} {pos py : Pos} {y : Str} {l : Nat} {env : Env} (h1 : env.scope.kind = .function) (h2 : env.scope.names.lookup y = some .local) (h3 : (py.line == pos.line) = true)
    (h4 : (sc.names.any fun (n, k) => n == y && (k == .local || k == .cell)) = false) : swapsWith (.DictComp kx vx gs sc pos) (some (.Name y py)) l env = pure true := by
  have b1 : env.kindOf y = some .local := h2
  have b2 : env.blockKind = .function := by unfold Env.blockKind; rw [h1]; rfl
  unfold swapsWith
  simp only [b1, b2, h4, Expr.pos, h3]
  rfl
abbrev Blk (X : L2.Cx) (sc : Scope) (p : L2.Cx → Prop) : Prop := ∀ (s : Shared) (H : Hp) (C : Addr) (cl : List (Str × Addr)) (fp : List Addr), p (X.blk s H sc (compEnvC sc cl C X.env) fp)
theorem ps_setDc {i : Nat} {y : Str} {py : Pos} {kx vx tg iter : Expr} {ifs : List Expr} {sc : Scope} {own : List (Str × Nat)} {pos spos : Pos} {wi : TI} {g : TG} {tt : TT} {tk tv : TE} (c1 : X.calm = true) (c2 : X.N.Nodup) (c3 : X.N[i]? = some y) (c4 : X.env.scope.names.lookup y = some .local)
    (sw : swapsWith (.DictComp kx vx [⟨tg, iter, ifs, 0⟩] sc pos) (some (.Name y py)) spos.line X.env = pure true) (c5 : PI X tg iter wi) (c6 : BlkOk X.N X.env.scope sc own)
    (d1 : Blk X sc fun Y => PG Y tg g) (d2 : Blk X sc fun Y => PTs Y ifs tt) (d3 : Blk X sc fun Y => PE Y kx tk) (d4 : Blk X sc fun Y => PE Y vx tv) (c7 : ∀ x, foldedSetIterable iter X.env x = pure x := by intro _; rfl) :
    PS X (.Assign [.Name y py] (.DictComp kx vx [⟨tg, iter, ifs, 0⟩] sc pos) spos) (tAsg (tDc wi g tt tk tv (own.map (·.2))) (gName i)) := by
  refine ⟨fun pns s σ H D I h => ?_⟩
  rw [exec_Assign_Name_used _ _ _ _ sw]; refine wpAny_bind (wpAny_standAt (wpAny_bind ?_))
  show wpAny _ X.A (do let _ ← comprehension (.DictComp kx vx [⟨tg, iter, ifs, 0⟩] sc pos) sc X.env (firstIterPos [⟨tg, iter, ifs, 0⟩] pos) newDict false (eval iter X.env) (some (assign (.Name y py) X.env))) _ _ s
  have h' : tDc wi g tt tk tv (own.map (·.2)) σ H (fun x H1 => gName i x σ H1 D.nx) := h
  refine wpAny_bind (thn (dc_core (Qf := fun _ s' => SP X pns D .next s') c1 c2 I c5 c6 d1 d2 d3 d4 c7 h' fun L C s' m H' I' q hn f => ?_) fun _ s' hq => wpAny_pure (wpAny_pure hq))
  show wpAny _ _ (assign (.Name y py) X.env (.ref L)) _ _ _; refine wpAny_assign_Name (store_ok2 (v := V.ref L) I' c2 c3 (.inl c4) rfl (fun s2 I2 ⟨a, sb, ha⟩ => ?_) (.inr c4))
  have ⟨f0, f1, f2, f3, f4, f5⟩ := f
  have na : C ≠ a := ha.elim (fun z => by rw [z]; exact f1) fun z e => f4 y a z e.symm
  exact ⟨m, hn.sameBut sb na, fun h3 sb3 => ⟨_, H', I2.turned (t' := s2.toks) (fun b o nb e => (sb3.2 b nb).trans e) f0 f1 f3 f4 f5, q⟩⟩
end
/-! ### letters and tests as data -/
inductive Lt where
  | set (v : Int)
  | add (v : Int)
  | turn
  | mod (m : Nat)
inductive Ts where
  | below (v : Int)
  | is (v : Int)
  | rest (m : Nat) (r : Int)
def Lt.vs : Lt → List V
  | .set v => [.str "set", .int v]
  | .add v => [.str "add", .int v]
  | .turn => [.str "turn"]
  | .mod m => [.str "mod", .int m]
def Ts.vs : Ts → List V
  | .below v => [.str "below", .int v]
  | .is v => [.str "is", .int v]
  | .rest m r => [.str "rest", .int m, .int r]
def Lt.deed : Lt → Int → Int
  | .set v, _ => v
  | .add v, n => n + v
  | .turn, n => -n
  | .mod m, n => n % (m : Int)
def Ts.pass : Ts → Int → Bool
  | .below v, n => decide (n < v)
  | .is v, n => decide (n = v)
  | .rest m r, n => decide (n % (m : Int) = r)
def Lt.Ok : Lt → Prop
  | .set v => -20 ≤ v ∧ v ≤ 20
  | .add v => -20 ≤ v ∧ v ≤ 20
  | .turn => True
  | .mod m => 1 ≤ m ∧ m ≤ 6
def Ts.Ok : Ts → Prop
  | .below v => -20 ≤ v ∧ v ≤ 20
  | .is v => -20 ≤ v ∧ v ≤ 20
  | .rest m r => (1 ≤ m ∧ m ≤ 6) ∧ 0 ≤ r ∧ r < m
theorem iteS {x : Str} {p q : Prop} (h : p) : if decide (V.str x = V.str x) = true then p else q := by
  rw [if_pos (decide_eq_true rfl)]
  exact h
theorem iteN {x y : Str} {p q : Prop} (hne : x ≠ y) (h : q) : if decide (V.str x = V.str y) = true then p else q := by
  rw [if_neg (by rw [decide_eq_false fun z => hne (V.str.inj z)]; exact Bool.false_ne_true)]
  exact h
theorem vint {a b : Int} : decide (V.int a = V.int b) = decide (a = b) := dec_cong ⟨fun h => V.int.inj h, fun h => by rw [h]⟩
section
variable {P : Program} {w : World} {K : PySem.W.Frag} {mg : Str → Option Value} {base : Heap}
/-! ### do_letter -/
/-! ### passes -/
/-! ### _law_deed -/
/-! ### _law_passes -/
theorem rest_iff0 {m : Nat} {r n : Int} (h0 : 0 ≤ r) (h1 : r < m) : (n - r) % (m : Int) = 0 ↔ n % (m : Int) = r := by
  constructor
  · intro h
    have e : n = (n - r) + r := by omega
    rw [e, Int.add_emod, h, Int.zero_add, Int.emod_emod, Int.emod_eq_of_lt h0 h1]
  · intro h
    rw [Int.sub_emod, h, Int.emod_eq_of_lt h0 h1, Int.sub_self, Int.zero_emod]
end
section
variable {P : Program} {w : World} {K : PySem.W.Frag} {mg : Str → Option Value} {base : Heap}
theorem HandC.nt {H : Hp} {p c u : Addr} {xs : List V} (h : HandC H p c) (e : H u = some (.tup xs)) : u ≠ p := fun z => by
  obtain ⟨_, _, _, _, hp, _⟩ := h
  rw [z, hp] at e
  cases e
theorem log_le {n : Nat} (h : n ≤ 60000) : (n : Int).natAbs.log2 < 9000 := by
  have h2 : (n : Int).natAbs < 2 ^ 16 := by omega
  rcases Nat.eq_zero_or_pos (n : Int).natAbs with h0 | h0
  · rw [h0]; decide
  · have := (Nat.log2_lt (by omega)).mpr h2
    omega
end
theorem hand_ne {p c D : Addr} {H2 : Hp} (h : HandC H2 p c) (hD : H2 D = none) : D ≠ p := fun z => by
  obtain ⟨_, _, _, _, hp, _⟩ := h
  rw [← z, hD] at hp
  cases hp
section
variable {P : Program} {w : World} {K : PySem.W.Frag} {mg : Str → Option Value} {base : Heap}
/-! ### _law_six -/
theorem int_nat {a : Int} (h : 0 ≤ a) : ∃ n : Nat, a = n := ⟨a.toNat, by omega⟩
theorem log_int {a : Int} (h0 : 0 ≤ a) (h1 : a ≤ 60000) : a.natAbs.log2 < 9000 := by
  obtain ⟨n, rfl⟩ := int_nat h0
  exact log_le (by omega)
end
/-! ### things of any kind -/
/-- what stands in a thing -/
inductive El (K : PySem.W.Frag) (H : Hp) : V → PyData → Prop
  | non : El K H .non .none
  | bl (b : Bool) : El K H (.bl b) (.bool b)
  | int (n : Int) : El K H (.int n) (.int n)
  | str (x : Str) (sh : SeqAt.shaped (.str x) = true) : El K H (.str x) (.str x)
  | lst {a : Addr} {xs : List V} {ds : List PyData} : H a = some (.lst xs) → DpAll K H xs ds → SeqAt.shaped (.list ds) = true → El K H (.ref a) (.list ds)
def wD (lo hi : Int) : V → Bool
  | .int n => decide (lo ≤ n) && decide (n ≤ hi)
  | _ => false
def isW (x : V) (z : Str) : Bool := match x with
  | .str y => decide (y = z)
  | _ => false
/-- does a row say a letter, a test -/
def fitsL : List V → Bool
  | [] => false
  | x :: r => if isW x "turn" then r.isEmpty else match r with
    | [y] => if isW x "mod" then wD 1 6 y else (isW x "set" || isW x "add") && wD (-20) 20 y
    | _ => false
def intOf : V → Int
  | .int n => n
  | _ => 0
def fitsT : List V → Bool
  | [] => false
  | x :: r => if isW x "rest" then (match r with
    | [y, z] => wD 1 6 y && wD 0 (intOf y - 1) z
    | _ => false) else match r with
    | [y] => (isW x "below" || isW x "is") && wD (-20) 20 y
    | _ => false
theorem El.same {K : PySem.W.Frag} {H H' : Hp} {x : V} {d : PyData} (s : Same H H') (h : El K H x d) (hf : ∀ a xs, x = .ref a → H a = some (.lst xs) → ∀ y ∈ xs, (∃ n, y = .int n) ∨ ∃ z, y = .str z) : El K H' x d := by
  cases h with
  | non => exact .non
  | bl b => exact .bl b
  | int n => exact .int n
  | str z sh => exact .str z sh
  | lst e ha sh =>
    refine .lst (s _ _ e) ?_ sh
    have q := hf _ _ rfl e
    clear hf sh e
    rename_i a xs ds
    induction xs generalizing ds with
    | nil => cases ha; exact .nil
    | cons y ys ih =>
      cases ha with
      | cons h1 h2 =>
        refine .cons ?_ (ih h2 fun z hz => q z (List.mem_cons_of_mem _ hz))
        rcases q y List.mem_cons_self with ⟨n, rfl⟩ | ⟨z, rfl⟩
        · cases h1; exact .int n
        · cases h1; exact .str z
theorem El.shaped {K : PySem.W.Frag} {H : Hp} {x : V} {d : PyData} (h : El K H x d) : SeqAt.shaped d = true := by
  cases h with
  | lst _ _ sh => exact sh
  | str _ sh => exact sh
  | _ => rfl
theorem El.dp {K : PySem.W.Frag} {H : Hp} {x : V} {d : PyData} (h : El K H x d) : Dp K H x d := by
  cases h with
  | non => exact .non
  | bl b => exact .bl b
  | int n => exact .int n
  | str z => exact .str z
  | lst e ha _ => exact .lst (SqL.of e) ha
theorem El.eqW {K : PySem.W.Frag} {H : Hp} {x : V} {d : PyData} (h : El K H x d) (z : Str) : PyData.eqv d (.str z) = isW x z := by
  cases h with
  | str y => show (y == z) = decide (y = z); by_cases e : y = z <;> simp [e]
  | _ => rfl
/-- an item of a list or a tuple -/
def rIxA (K : PySem.W.Frag) : R2 := fun x y H Q => rIxL K x y H Q ∨ rIxT K x y H Q
theorem ix_any {X : L2.Cx} : IxR X (rIxA X.K) := by
  intro a b pins s σ H x y v u Q I rx ry h hp
  rcases h with h | h
  · exact ix_list a b pins s σ H x y v u Q I rx ry h hp
  · exact ix_tup a b pins s σ H x y v u Q I rx ry h hp
theorem ixA_of {K : PySem.W.Frag} {H : Hp} {a : Addr} {xs : List V} {i : Int} {v : V} {Q : VK} (h : SqA H a xs) (e : atI xs i = some v) (k : Q v H) : rIxA K (.ref a) (.int i) H Q := by
  rcases h with h | h
  · exact .inl ⟨a, xs, i, v, rfl, rfl, SqL.of h, e, k⟩
  · exact .inr ⟨a, xs, i, v, rfl, rfl, SqT.of h, e, k⟩
theorem truA {K : PySem.W.Frag} {H : Hp} {a : Addr} {xs : List V} (h : SqA H a xs) : TruV K (.ref a) H (!xs.isEmpty) := by
  rcases h with h | h
  · exact .inl ⟨xs, SqL.of h, rfl⟩
  · exact .inr (.inl ⟨xs, SqT.of h, rfl⟩)
theorem lenA {K : PySem.W.Frag} {H : Hp} {a : Addr} {xs : List V} (h : SqA H a xs) : SqL K H a xs ∨ SqT K H a xs := by
  rcases h with h | h
  · exact .inl (SqL.of h)
  · exact .inr (SqT.of h)
section
variable {P : Program} {w : World} {K : PySem.W.Frag} {mg : Str → Option Value} {base : Heap}
/-! ### is_whole of any thing -/
def spWhD (K : PySem.W.Frag) : Sp := fun vs H Q _ => ∃ (x : V) (d : PyData), vs = [x] ∧ El K H x d ∧ Q (.bl (match x with | .int _ => true | _ => false)) H
theorem kp_whD (F : At K mg "is_whole" s_whole) (N : Nb mg) : Keeps CX0 P w K mg base "is_whole" 1 ["thing"] (spWhD K) := by
  refine keeps_of F sc_whole (fun _ _ _ _ _ _ us hl => match us, hl with | [_], _ => rfl) (fun vs H Q E h => ?_) (fun f cdv A outer s H vs Q E hr h => ?_)
  · obtain ⟨x, d, rfl, _⟩ := h
    rfl
  · obtain ⟨x, d, rfl, hx, k⟩ := h
    refine ⟨_, (pss_one (ps_ret (pe_and (pe_callB call_isi (by rfl) N.isinstance boot_isinstance (pa_cons (pv 0) (pa_cons (pe_bltn (v := .ty "int") (by rfl) N.int (by decide +kernel) rfl) pa_nil))) (pe_one (pe_not (pe_callB call_isi (by rfl) N.isinstance boot_isinstance (pa_cons (pv 0) (pa_cons (pe_bltn (v := .ty "bool") (by rfl) N.bool (by decide +kernel) rfl) pa_nil)))))))), ?_⟩
    cases hx with
    | int a =>
      refine ⟨_, rfl, .int a, .ty "int", _, _, true, rfl, .ty "int", .base (.int a), kit_ty (by decide +kernel), _, rfl, ?_⟩
      exact ⟨_, rfl, .int a, .ty "bool", _, _, false, rfl, .ty "bool", .base (.int a), kit_ty (by decide +kernel), _, rfl, k⟩
    | bl b =>
      refine ⟨_, rfl, .bl b, .ty "int", _, _, true, rfl, .ty "int", .base (.bl b), kit_ty (by decide +kernel), _, rfl, ?_⟩
      exact ⟨_, rfl, .bl b, .ty "bool", _, _, true, rfl, .ty "bool", .base (.bl b), kit_ty (by decide +kernel), _, rfl, k⟩
    | non => exact ⟨_, rfl, .non, .ty "int", _, _, false, rfl, .ty "int", .base .non, kit_ty (by decide +kernel), _, rfl, k⟩
    | str z => exact ⟨_, rfl, .str z, .ty "int", _, _, false, rfl, .ty "int", .base (.str z), kit_ty (by decide +kernel), _, rfl, k⟩
    | lst e _ _ => exact ⟨_, rfl, _, .ty "int", _, _, false, rfl, .ty "int", .base (.lst e), kit_ty (by decide +kernel), _, rfl, k⟩
def spWfD (K : PySem.W.Frag) : Sp := fun vs H Q _ => ∃ (x : V) (d : PyData) (lo hi : Int), vs = [x, .int lo, .int hi] ∧ El K H x d ∧ Q (.bl (wD lo hi x)) H
theorem kp_wfD (F : At K mg "is_whole_from" s_wholeF) (G : Keeps CX0 P w K mg base "is_whole" 1 ["thing"] (spWhD K)) : Keeps CX0 P w K mg base "is_whole_from" 2 ["thing", "low", "high"] (spWfD K) := by
  refine keeps_of F sc_wholeF (fun _ _ _ _ _ _ us hl => match us, hl with | [_, _, _], _ => rfl) (fun vs H Q E h => ?_) (fun f cdv A outer s H vs Q E hr h => ?_)
  · obtain ⟨x, d, lo, hi, rfl, _⟩ := h
    rfl
  · obtain ⟨x, d, lo, hi, rfl, hx, k⟩ := h
    refine ⟨_, (pss_one (ps_ret (pe_and (pe_k G hr (by rfl) pass0 (pa_cons (pv 0) pa_nil)) (pe_one (pe_chain op_le op_le (pv 1) (pv 0) (pv 2)))))), ?_⟩
    refine ⟨_, rfl, x, d, rfl, hx, _, rfl, ?_⟩
    cases hx with
    | int a =>
      refine ⟨_, rfl, _, rfl, _, _, rfl, rfl, _, rfl, ?_⟩
      have k : Q (.bl (decide (lo ≤ a) && decide (a ≤ hi))) H := k
      by_cases h1 : lo ≤ a
      · rw [decide_eq_true h1] at k ⊢
        exact ⟨_, rfl, _, _, rfl, rfl, k⟩
      · rw [decide_eq_false h1] at k ⊢
        exact k
    | bl b => exact k
    | non => exact k
    | str z => exact k
    | lst e _ _ => exact k
/-! ### is_sequence of any thing -/
/-- a thing that is no list and no tuple -/
def Flat (x : V) : Prop := x = .non ∨ (∃ n, x = .int n) ∨ ∃ z, x = .str z
def spSeqD : Sp := fun vs H Q _ => (∃ a xs, vs = [.ref a] ∧ SqA H a xs ∧ ∀ H', Same H H' → Q (.bl true) H') ∨ ∃ x, vs = [x] ∧ Flat x ∧ ∀ H', Same H H' → Q (.bl false) H'
theorem kp_seqD (F : At K mg "is_sequence" s_seq) (N : Nb mg) : Keeps CX0 P w K mg base "is_sequence" 1 ["thing"] spSeqD := by
  refine keeps_of F sc_seq (fun _ _ _ _ _ _ us hl => match us, hl with | [_], _ => rfl) (fun vs H Q E h => ?_) (fun f cdv A outer s H vs Q E hr h => ?_)
  · rcases h with ⟨a, xs, rfl, _⟩ | ⟨x, rfl, _⟩ <;> rfl
  · obtain ⟨v, rfl⟩ : ∃ v, vs = [v] := by
      rcases h with ⟨a, xs, rfl, _⟩ | ⟨x, rfl, _⟩
      · exact ⟨_, rfl⟩
      · exact ⟨_, rfl⟩
    refine ⟨_, (pss_one (ps_ret (pe_callB call_isiT (by rfl) N.isinstance boot_isinstance (pa_cons (pv 0) (pa_cons (pe_tup (pa_cons (pe_bltn (v := .ty "list") (by rfl) N.list (by decide +kernel) rfl) (pa_cons (pe_bltn (v := .ty "tuple") (by rfl) N.tuple (by decide +kernel) rfl) pa_nil))) pa_nil))))), ?_⟩
    refine ⟨_, rfl, ⟨(by show 2 ≤ sizeLine; decide), fun t ht => ?_⟩⟩
    have s1 := same_new (o := .tup [V.ty "list", V.ty "tuple"]) (Same.refl H) ht
    rcases h with ⟨a, xs, ev, hs, k⟩ | ⟨x, ev, hx, k⟩
    · cases ev
      rcases hs with hs | hs
      · exact ⟨.ref a, t, [.ty "list", .ty "tuple"], _, _, true, rfl, upd_same, .cons (.ty _) (.cons (.ty _) .nil), .base (.lst (s1 _ _ hs)), kitAny_cons (b := true) (kit_ty (by decide +kernel)) (fun z => nomatch z) (fun _ => rfl), k _ s1⟩
      · exact ⟨.ref a, t, [.ty "list", .ty "tuple"], _, _, true, rfl, upd_same, .cons (.ty _) (.cons (.ty _) .nil), .base (.tup (s1 _ _ hs)), kitAny_cons (b := false) (kit_ty (by decide +kernel)) (fun _ => kitAny_cons (b := true) (kit_ty (by decide +kernel)) (fun z => nomatch z) (fun _ => rfl)) (fun z => nomatch z), k _ s1⟩
    · cases ev
      rcases hx with rfl | ⟨n, rfl⟩ | ⟨z, rfl⟩
      · exact ⟨_, t, [.ty "list", .ty "tuple"], _, _, false, rfl, upd_same, .cons (.ty _) (.cons (.ty _) .nil), .base .non, kitAny_cons (b := false) (kit_ty (by decide +kernel)) (fun _ => kitAny_cons (b := false) (kit_ty (by decide +kernel)) (fun _ => rfl) (fun z => nomatch z)) (fun z => nomatch z), k _ s1⟩
      · exact ⟨_, t, [.ty "list", .ty "tuple"], _, _, false, rfl, upd_same, .cons (.ty _) (.cons (.ty _) .nil), .base (.int n), kitAny_cons (b := false) (kit_ty (by decide +kernel)) (fun _ => kitAny_cons (b := false) (kit_ty (by decide +kernel)) (fun _ => rfl) (fun z => nomatch z)) (fun z => nomatch z), k _ s1⟩
      · exact ⟨_, t, [.ty "list", .ty "tuple"], _, _, false, rfl, upd_same, .cons (.ty _) (.cons (.ty _) .nil), .base (.str z), kitAny_cons (b := false) (kit_ty (by decide +kernel)) (fun _ => kitAny_cons (b := false) (kit_ty (by decide +kernel)) (fun _ => rfl) (fun z => nomatch z)) (fun z => nomatch z), k _ s1⟩
end
theorem El.eqW' {K : PySem.W.Frag} {H : Hp} {x : V} {d : PyData} (h : El K H x d) (z : Str) : PyData.eqv (.str z) d = isW x z := by
  cases h with
  | str y =>
    show (z == y) = decide (y = z)
    rw [show (z == y) = decide (z = y) from by by_cases e : z = y <;> simp [e]]
    exact dec_cong ⟨Eq.symm, Eq.symm⟩
  | _ => rfl
theorem at_head {x : V} {r : List V} : atI (x :: r) 0 = some x := atI_nat (j := 0) (xs := x :: r) rfl
theorem fitsL_turn {x : V} {r : List V} (h : isW x "turn" = true) : fitsL (x :: r) = r.isEmpty := by
  show (if isW x "turn" = true then r.isEmpty else _) = _
  rw [if_pos h]
theorem fitsL_len {x : V} {r : List V} (h : isW x "turn" = false) (hl : r.length ≠ 1) : fitsL (x :: r) = false := by
  match r, hl with
  | [], _ => show (if isW x "turn" = true then _ else false) = _; rw [h, if_neg Bool.false_ne_true]
  | [_], hl => exact absurd rfl hl
  | _ :: _ :: _, _ => show (if isW x "turn" = true then _ else false) = _; rw [h, if_neg Bool.false_ne_true]
theorem fitsL_mod {x y : V} (h : isW x "turn" = false) (h2 : isW x "mod" = true) : fitsL [x, y] = wD 1 6 y := by
  show (if isW x "turn" = true then _ else (if isW x "mod" = true then wD 1 6 y else _)) = _
  rw [h, if_neg Bool.false_ne_true, h2, if_pos rfl]
theorem fitsL_sa {x y : V} (h : isW x "turn" = false) (h2 : isW x "mod" = false) : fitsL [x, y] = ((isW x "set" || isW x "add") && wD (-20) 20 y) := by
  show (if isW x "turn" = true then _ else (if isW x "mod" = true then wD 1 6 y else _)) = _
  rw [h, if_neg Bool.false_ne_true, h2, if_neg Bool.false_ne_true]
theorem fitsT_rest {x y z : V} (h : isW x "rest" = true) : fitsT [x, y, z] = (wD 1 6 y && wD 0 (intOf y - 1) z) := by
  show (if isW x "rest" = true then (wD 1 6 y && wD 0 (intOf y - 1) z) else _) = _
  rw [if_pos h]
theorem fitsT_restN {x : V} {r : List V} (h : isW x "rest" = true) (hl : r.length ≠ 2) : fitsT (x :: r) = false := by
  match r, hl with
  | [], _ => show (if isW x "rest" = true then false else _) = _; rw [if_pos h]
  | [_], _ => show (if isW x "rest" = true then false else _) = _; rw [if_pos h]
  | [_, _], hl => exact absurd rfl hl
  | _ :: _ :: _ :: _, _ => show (if isW x "rest" = true then false else _) = _; rw [if_pos h]
theorem fitsT_bi {x y : V} (h : isW x "rest" = false) : fitsT [x, y] = ((isW x "below" || isW x "is") && wD (-20) 20 y) := by
  show (if isW x "rest" = true then _ else ((isW x "below" || isW x "is") && wD (-20) 20 y)) = _
  rw [h, if_neg Bool.false_ne_true]
theorem fitsT_len {x : V} {r : List V} (h : isW x "rest" = false) (hl : r.length ≠ 1) : fitsT (x :: r) = false := by
  match r, hl with
  | [], _ => show (if isW x "rest" = true then _ else false) = _; rw [h, if_neg Bool.false_ne_true]
  | [_], hl => exact absurd rfl hl
  | _ :: _ :: _, _ => show (if isW x "rest" = true then _ else false) = _; rw [h, if_neg Bool.false_ne_true]
/-- a thing's part that stays -/
def Fine (K : PySem.W.Frag) (H : Hp) (x : V) : Prop := ∃ d, El K H x d ∧ ∀ a xs, x = .ref a → H a = some (.lst xs) → ∀ y ∈ xs, (∃ n, y = .int n) ∨ ∃ z, y = .str z
theorem Fine.same {K : PySem.W.Frag} {H H' : Hp} {x : V} (s : Same H H') (h : Fine K H x) : Fine K H' x := by
  obtain ⟨d, e, f⟩ := h
  refine ⟨d, e.same s f, fun a xs hx hH => ?_⟩
  cases e with
  | lst e1 _ _ =>
    cases hx
    have e2 := s _ _ e1
    rw [hH] at e2
    cases e2
    exact f _ _ rfl e1
  | _ => cases hx
theorem fine_int {K : PySem.W.Frag} {H : Hp} (n : Int) : Fine K H (.int n) := ⟨_, .int n, fun _ _ z => nomatch z⟩
theorem fine_bl {K : PySem.W.Frag} {H : Hp} (b : Bool) : Fine K H (.bl b) := ⟨_, .bl b, fun _ _ z => nomatch z⟩
theorem fine_non {K : PySem.W.Frag} {H : Hp} : Fine K H .non := ⟨_, .non, fun _ _ z => nomatch z⟩
theorem fine_str {K : PySem.W.Frag} {H : Hp} (x : Str) (sh : SeqAt.shaped (.str x) = true) : Fine K H (.str x) := ⟨_, .str x sh, fun _ _ z => nomatch z⟩
section
variable {P : Program} {w : World} {K : PySem.W.Frag} {mg : Str → Option Value} {base : Heap}
/-! ### fits_letter, fits_test -/
def spFit (K : PySem.W.Frag) (f : List V → Bool) : Sp := fun vs H Q _ => ∃ x, vs = [x] ∧ ((Flat x ∧ ∀ H', Same H H' → Q (.bl false) H') ∨ ∃ a xs, x = .ref a ∧ SqA H a xs ∧ (∀ y ∈ xs, Fine K H y) ∧ ∀ H', Same H H' → Q (.bl (f xs)) H')
abbrev s_fl : Stmt := top 13
abbrev N_fl : List Str := ["letter"]
theorem sc_fl : FnScope N_fl ["letter"] (defScope s_fl) := ⟨rfl, rfl, rfl, by decide +kernel, rfl, by decide +kernel, by decide +kernel⟩
theorem vlen {n : Nat} {m : Int} : decide (V.int (n : Int) = V.int m) = decide ((n : Int) = m) := vint
theorem kp_fl (F : At K mg "fits_letter" s_fl) (N : Nb mg) (mM : ∃ t, mg "MOST" = some (.int 20 t)) (mR : ∃ t, mg "MOST_REST" = some (.int 6 t)) (Gs : Keeps CX0 P w K mg base "is_sequence" 1 ["thing"] spSeqD) (Gw : Keeps CX0 P w K mg base "is_whole_from" 2 ["thing", "low", "high"] (spWfD K)) :
    Keeps CX0 P w K mg base "fits_letter" 3 ["letter"] (spFit K fitsL) := by
  refine keeps_of F sc_fl (fun _ _ _ _ _ _ us hl => match us, hl with | [_], _ => rfl) (fun vs H Q E h => ?_) (fun f cdv A outer s H vs Q E hr h => ?_)
  · obtain ⟨x, rfl, _⟩ := h
    rfl
  · obtain ⟨x, rfl, h⟩ := h
    obtain ⟨tM, mM⟩ := mM
    obtain ⟨tR, mR⟩ := mR
    have h1 : Room 1 (A.deeper (envOfC "fits_letter" (defScope s_fl) s.heap.objs.size f cdv)) := hr.mono (by decide)
    have hu65 : (A.deeper (envOfC "fits_letter" (defScope s_fl) s.heap.objs.size f cdv)).units + 65 < cLine := by have := hr.un; omega
    refine ⟨_, (pss_cons (ps_if (PW.pt (pw_or (pt_not (pt_val (pe_k Gs h1 (by rfl) pass0 (pa_cons (pv 0) pa_nil)))) (pw_or1 (pt_not (pt_truth (pv 0) (by intro _; rfl)))))) (pss_one (ps_ret pe_bl)) pss_nil)
        (pss_cons (ps_if (pt_cmpR (op_eqD hr.units) (pe_ix ix_any (pv 0) pe_int (fun _ _ => rfl)) pe_str (nomark _)) (pss_one (ps_ret (pe_cmpR op_eq (pe_callB call_len_seq (by rfl) N.len (by decide +kernel) (pa_cons (pv 0) pa_nil)) pe_int (nomark _)))) pss_nil)
        (pss_cons (ps_if (pt_cmpR op_ne (pe_callB call_len_seq (by rfl) N.len (by decide +kernel) (pa_cons (pv 0) pa_nil)) pe_int (nomark _)) (pss_one (ps_ret pe_bl)) pss_nil)
        (pss_cons (ps_if (pt_cmpR (op_eqD hr.units) (pe_ix ix_any (pv 0) pe_int (fun _ _ => rfl)) pe_str (nomark _)) (pss_one (ps_ret (pe_k Gw hr (by rfl) pass0 (pa_cons (pe_ix ix_any (pv 0) pe_int (fun _ _ => rfl)) (pa_cons pe_int (pa_cons (pe_glob (v := .int 6) (by rfl) mR ⟨_, rfl⟩) pa_nil)))))) pss_nil)
        (pss_one (ps_ret (pe_and (pe_cmpR (op_inT hu65) (pe_ix ix_any (pv 0) pe_int (fun _ _ => rfl)) (pe_tup (pa_cons pe_str (pa_cons pe_str pa_nil))) (by rfl)) (pe_one (pe_k Gw hr (by rfl) pass0 (pa_cons (pe_ix ix_any (pv 0) pe_int (fun _ _ => rfl)) (pa_cons (pe_un un_neg (pe_glob (v := .int 20) (by rfl) mM ⟨_, rfl⟩)) (pa_cons (pe_glob (v := .int 20) (by rfl) mM ⟨_, rfl⟩) pa_nil)))))))))))), ?_⟩
    rcases h with ⟨fx, k⟩ | ⟨a, xs, rfl, hs, fine, k⟩
    · exact ⟨_, rfl, .inr ⟨x, rfl, fx, fun H1 s1 => ⟨_, rfl, iteT (iteT (k H1 s1))⟩⟩⟩
    · refine ⟨_, rfl, .inl ⟨a, xs, rfl, hs, fun H1 s1 => ⟨_, rfl, iteF ⟨_, rfl, _, truA (hs.same s1), ?_⟩⟩⟩⟩
      have hs1 := hs.same s1
      cases xs with
      | nil => exact iteT (k H1 s1)
      | cons x r =>
        obtain ⟨d, e0, _⟩ := (fine x List.mem_cons_self).same s1
        refine iteF ⟨_, rfl, ixA_of hs1 at_head ⟨d, _, e0.dp, .str _, e0.shaped, by decide +kernel, _, rfl, ?_⟩⟩
        rw [e0.eqW]
        have kk := k H1 s1
        cases ew : isW x "turn" with
        | true =>
          rw [fitsL_turn ew] at kk
          refine iteT ⟨_, rfl, a, _, rfl, lenA hs1, rfl, ?_⟩
          rw [vint]
          cases r with
          | nil => exact kk
          | cons y t =>
            rw [decide_eq_false (by rw [List.length_cons, List.length_cons]; omega)]
            exact kk
        | false =>
          refine iteF ⟨_, rfl, a, _, rfl, lenA hs1, rfl, _, rfl, ?_⟩
          rw [vint]
          by_cases hl : r.length = 1
          · obtain ⟨y, rfl⟩ : ∃ y, r = [y] := match r, hl with | [y], _ => ⟨y, rfl⟩
            obtain ⟨d1, e1, _⟩ := (fine y (List.mem_cons_of_mem _ List.mem_cons_self)).same s1
            refine iteF ⟨_, rfl, ixA_of hs1 rfl ⟨d, _, e0.dp, .str _, e0.shaped, by decide +kernel, _, rfl, ?_⟩⟩
            rw [e0.eqW]
            cases em : isW x "mod" with
            | true =>
              rw [fitsL_mod ew em] at kk
              exact iteT ⟨_, rfl, ixA_of hs1 rfl ⟨y, d1, 1, 6, rfl, e1, kk⟩⟩
            | false =>
              refine iteF ⟨_, rfl, ixA_of hs1 rfl ⟨(by show 2 ≤ sizeLine; decide), fun t ht => ?_⟩⟩
              have s2 := same_new (o := .tup [V.str "set", V.str "add"]) (Same.refl H1) ht
              obtain ⟨d', e0', _⟩ := (fine x List.mem_cons_self).same (s1.trans s2)
              obtain ⟨d2, e2, _⟩ := (fine y (List.mem_cons_of_mem _ List.mem_cons_self)).same (s1.trans s2)
              have k4 := k _ (s1.trans s2)
              rw [fitsL_sa ew em] at k4
              refine ⟨d', [.str "set", .str "add"], e0'.dp, .tup (SqT.of upd_same) (.cons (.str _) (.cons (.str _) .nil)), e0'.shaped, by decide +kernel, _, rfl, ?_⟩
              rw [show (([.str "set", .str "add"] : List PyData).any fun z => PyData.eqv z d') = (isW x "set" || isW x "add") from by
                show (PyData.eqv (.str "set") d' || (PyData.eqv (.str "add") d' || false)) = _
                rw [e0'.eqW', e0'.eqW', Bool.or_false]]
              cases eo : (isW x "set" || isW x "add") with
              | false =>
                rw [eo] at k4
                exact iteF k4
              | true =>
                rw [eo] at k4
                exact iteT ⟨_, rfl, ixA_of (hs1.same s2) rfl ⟨_, rfl, y, d2, -20, 20, rfl, e2, k4⟩⟩
          · rw [fitsL_len ew hl] at kk
            rw [decide_eq_false (by rw [List.length_cons]; omega)]
            exact iteT kk
abbrev s_ft : Stmt := top 14
abbrev N_ft : List Str := ["test"]
theorem sc_ft : FnScope N_ft ["test"] (defScope s_ft) := ⟨rfl, rfl, rfl, by decide +kernel, rfl, by decide +kernel, by decide +kernel⟩
theorem kp_ft (F : At K mg "fits_test" s_ft) (N : Nb mg) (mM : ∃ t, mg "MOST" = some (.int 20 t)) (mR : ∃ t, mg "MOST_REST" = some (.int 6 t)) (Gs : Keeps CX0 P w K mg base "is_sequence" 1 ["thing"] spSeqD) (Gw : Keeps CX0 P w K mg base "is_whole_from" 2 ["thing", "low", "high"] (spWfD K)) :
    Keeps CX0 P w K mg base "fits_test" 3 ["test"] (spFit K fitsT) := by
  refine keeps_of F sc_ft (fun _ _ _ _ _ _ us hl => match us, hl with | [_], _ => rfl) (fun vs H Q E h => ?_) (fun f cdv A outer s H vs Q E hr h => ?_)
  · obtain ⟨x, rfl, _⟩ := h
    rfl
  · obtain ⟨x, rfl, h⟩ := h
    obtain ⟨tM, mM⟩ := mM
    obtain ⟨tR, mR⟩ := mR
    have h1 : Room 1 (A.deeper (envOfC "fits_test" (defScope s_ft) s.heap.objs.size f cdv)) := hr.mono (by decide)
    have hu65 : (A.deeper (envOfC "fits_test" (defScope s_ft) s.heap.objs.size f cdv)).units + 65 < cLine := by have := hr.un; omega
    refine ⟨_, (pss_cons (ps_if (PW.pt (pw_or (pt_not (pt_val (pe_k Gs h1 (by rfl) pass0 (pa_cons (pv 0) pa_nil)))) (pw_or1 (pt_not (pt_truth (pv 0) (by intro _; rfl)))))) (pss_one (ps_ret pe_bl)) pss_nil)
        (pss_cons (ps_if (pt_cmpR (op_eqD hr.units) (pe_ix ix_any (pv 0) pe_int (fun _ _ => rfl)) pe_str (nomark _)) (pss_one (ps_ret (pe_and (pe_cmpR op_eq (pe_callB call_len_seq (by rfl) N.len (by decide +kernel) (pa_cons (pv 0) pa_nil)) pe_int (nomark _)) (pe_and (pe_k Gw hr (by rfl) pass0 (pa_cons (pe_ix ix_any (pv 0) pe_int (fun _ _ => rfl)) (pa_cons pe_int (pa_cons (pe_glob (v := .int 6) (by rfl) mR ⟨_, rfl⟩) pa_nil)))) (pe_one (pe_k Gw hr (by rfl) pass0 (pa_cons (pe_ix ix_any (pv 0) pe_int (fun _ _ => rfl)) (pa_cons pe_int (pa_cons (pe_op op_sub (pe_ix ix_any (pv 0) pe_int (fun _ _ => rfl)) pe_int) pa_nil))))))))) pss_nil)
        (pss_one (ps_ret (pe_and (pe_cmpR op_eq (pe_callB call_len_seq (by rfl) N.len (by decide +kernel) (pa_cons (pv 0) pa_nil)) pe_int (nomark _)) (pe_and (pe_cmpR (op_inT hu65) (pe_ix ix_any (pv 0) pe_int (fun _ _ => rfl)) (pe_tup (pa_cons pe_str (pa_cons pe_str pa_nil))) (by rfl)) (pe_one (pe_k Gw hr (by rfl) pass0 (pa_cons (pe_ix ix_any (pv 0) pe_int (fun _ _ => rfl)) (pa_cons (pe_un un_neg (pe_glob (v := .int 20) (by rfl) mM ⟨_, rfl⟩)) (pa_cons (pe_glob (v := .int 20) (by rfl) mM ⟨_, rfl⟩) pa_nil))))))))))), ?_⟩
    rcases h with ⟨fx, k⟩ | ⟨a, xs, rfl, hs, fine, k⟩
    · exact ⟨_, rfl, .inr ⟨x, rfl, fx, fun H1 s1 => ⟨_, rfl, iteT (iteT (k H1 s1))⟩⟩⟩
    · refine ⟨_, rfl, .inl ⟨a, xs, rfl, hs, fun H1 s1 => ⟨_, rfl, iteF ⟨_, rfl, _, truA (hs.same s1), ?_⟩⟩⟩⟩
      have hs1 := hs.same s1
      cases xs with
      | nil => exact iteT (k H1 s1)
      | cons x r =>
        obtain ⟨d, e0, _⟩ := (fine x List.mem_cons_self).same s1
        refine iteF ⟨_, rfl, ixA_of hs1 at_head ⟨d, _, e0.dp, .str _, e0.shaped, by decide +kernel, _, rfl, ?_⟩⟩
        rw [e0.eqW]
        have kk := k H1 s1
        cases ew : isW x "rest" with
        | true =>
          refine iteT ⟨_, rfl, a, _, rfl, lenA hs1, rfl, _, rfl, ?_⟩
          rw [vint]
          by_cases hl : r.length = 2
          · obtain ⟨y, z, rfl⟩ : ∃ y z, r = [y, z] := match r, hl with | [y, z], _ => ⟨y, z, rfl⟩
            obtain ⟨d1, e1, _⟩ := (fine y (List.mem_cons_of_mem _ List.mem_cons_self)).same s1
            obtain ⟨d2, e2, _⟩ := (fine z (List.mem_cons_of_mem _ (List.mem_cons_of_mem _ List.mem_cons_self))).same s1
            rw [fitsT_rest ew] at kk
            refine iteT ⟨_, rfl, ixA_of hs1 rfl ⟨y, d1, 1, 6, rfl, e1, _, rfl, ?_⟩⟩
            cases e1 with
            | int n =>
              cases ey : wD 1 6 (.int n) with
              | false =>
                rw [ey] at kk
                exact iteF kk
              | true =>
                rw [ey] at kk
                exact iteT ⟨_, rfl, ixA_of hs1 rfl ⟨_, rfl, ixA_of hs1 rfl ⟨_, _, rfl, rfl, z, d2, 0, n - 1, rfl, e2, kk⟩⟩⟩
            | non => exact iteF kk
            | bl b => exact iteF kk
            | str u _ => exact iteF kk
            | lst _ _ _ => exact iteF kk
          · rw [fitsT_restN ew hl] at kk
            rw [decide_eq_false (by rw [List.length_cons]; omega)]
            exact iteF kk
        | false =>
          refine iteF ⟨_, rfl, a, _, rfl, lenA hs1, rfl, _, rfl, ?_⟩
          rw [vint]
          by_cases hl : r.length = 1
          · obtain ⟨y, rfl⟩ : ∃ y, r = [y] := match r, hl with | [y], _ => ⟨y, rfl⟩
            refine iteT ⟨_, rfl, ixA_of hs1 rfl ⟨(by show 2 ≤ sizeLine; decide), fun t ht => ?_⟩⟩
            have s2 := same_new (o := .tup [V.str "below", V.str "is"]) (Same.refl H1) ht
            obtain ⟨d', e0', _⟩ := (fine x List.mem_cons_self).same (s1.trans s2)
            obtain ⟨d2, e2, _⟩ := (fine y (List.mem_cons_of_mem _ List.mem_cons_self)).same (s1.trans s2)
            have k4 := k _ (s1.trans s2)
            rw [fitsT_bi ew] at k4
            refine ⟨d', [.str "below", .str "is"], e0'.dp, .tup (SqT.of upd_same) (.cons (.str _) (.cons (.str _) .nil)), e0'.shaped, by decide +kernel, _, rfl, ?_⟩
            rw [show (([.str "below", .str "is"] : List PyData).any fun z => PyData.eqv z d') = (isW x "below" || isW x "is") from by
              show (PyData.eqv (.str "below") d' || (PyData.eqv (.str "is") d' || false)) = _
              rw [e0'.eqW', e0'.eqW', Bool.or_false]]
            cases eo : (isW x "below" || isW x "is") with
            | false =>
              rw [eo] at k4
              exact iteF k4
            | true =>
              rw [eo] at k4
              exact iteT ⟨_, rfl, ixA_of (hs1.same s2) rfl ⟨_, rfl, y, d2, -20, 20, rfl, e2, k4⟩⟩
          · rw [fitsT_len ew hl] at kk
            rw [decide_eq_false (by rw [List.length_cons]; omega)]
            exact iteF kk
end
/-! ### X() raised, isinstance of it -/
theorem pmk0 {X : L2.Cx} {x b : Str} {p pos : Pos} (T : ExF X.K X.mg x b []) (hg : Gl X x) (dbg : (x == ("__debug__" : Str)) = false := by decide) :
    PMk X (.Call (.Name x p) [] [] pos) (fun _ H Q => Q (.ref (He.ga X.K x)) none H) := by
  intro pins s σ H Q I h
  refine wpAny_Call_Name_kw (ld_glob I hg T.g ?_ dbg)
  refine PySem.W.callWith_K0 I.kIn T.kC ?_
  show wpAny _ _ (call (.ref (He.ga X.K x)) []) _ _ _
  obtain ⟨bm, N, nm, qn, bs, hdct, sn, sub, ab, col, dd, k0, k1, k2, k3, k5, mN, hC, hN, hni, TL⟩ := exc_obj I.kIn (T.new rfl)
  refine wpAny_call_exc_subT PySem.F.excBase_ValueError TL hC hN hni (fun h' a hm => ?_) (by show 0 ≤ sizeLine; exact Nat.zero_le _)
  exact mk_of I hm (raises_own T.exC T.ty) h (I.hok.gone hm.new)
def rIsE0 (K : PySem.W.Frag) (D a : Addr) (cls : Value) (d : Option Addr) : List V → Hp → VK → Prop := fun xs H Q => cls = .ref D ∧ d = none ∧ rIsE K D a xs H Q
theorem call_isE0 {X : L2.Cx} {a D : Addr} {oe : Obj} {cls : Value} {d : Option Addr} {pn : List (Addr × Obj)} (C : ExcC X.K D) (hz : Zc cls d oe) (hf : ∃ vs, oe.data = .fields vs) : CallR (X.suite a ((a, oe) :: pn)) (.builtin "isinstance") (rIsE0 X.K D a cls d) := by
  intro pns s σ H xs us Q I r h
  obtain ⟨rfl, rfl, h⟩ := h
  exact call_isE C hz hf pns s σ H xs us Q I r h
section
variable {P : Program} {w : World} {K : PySem.W.Frag} {mg : Str → Option Value} {base : Heap}
/-! ### check_letter, check_test -/
theorem chk_walk {K : PySem.W.Frag} {a : Addr} {xs : List V} {H H1 : Hp} {Q : VK} (hs : SqA H a xs) (s1 : Same H H1) (k : ∀ q H', Same H H' → H' q = some (.tup xs) → Q (.ref q) H') :
    ∃ p ys, ([V.ref a] : List V) = [.ref p] ∧ ((SqL K H1 p ys ∧ ∀ l, H1 l = none → Q (.ref l) (upd H1 l (.tup ys))) ∨ (SqT K H1 p ys ∧ Q (.ref p) H1)) := by
  rcases hs with hs | hs
  · exact ⟨a, xs, rfl, .inl ⟨SqL.of (s1 _ _ hs), fun l hl => k l _ (same_new s1 hl) upd_same⟩⟩
  · exact ⟨a, xs, rfl, .inr ⟨SqT.of (s1 _ _ hs), k a _ s1 (s1 _ _ hs)⟩⟩
/-! ### _law_letter_told, _law_test_told -/
end
/-! ### things of any depth, by their data -/
/-- a thing with the data d at x, which stays but at p -/
def Th (K : PySem.W.Frag) (p : Addr) (H : Hp) (x : V) (d : PyData) : Prop := SeqAt.shaped d = true ∧ ∀ H', But p H H' → Dp K H' x d
theorem Th.but {K : PySem.W.Frag} {p : Addr} {H H' : Hp} {x : V} {d : PyData} (b : But p H H') (h : Th K p H x d) : Th K p H' x d := ⟨h.1, fun H2 b2 => h.2 H2 (b.trans b2)⟩
theorem Th.same {K : PySem.W.Frag} {p : Addr} {H H' : Hp} {x : V} {d : PyData} (s : Same H H') (h : Th K p H x d) : Th K p H' x d := h.but (But.of s)
theorem Th.dp {K : PySem.W.Frag} {p : Addr} {H : Hp} {x : V} {d : PyData} (h : Th K p H x d) : Dp K H x d := h.2 H (But.refl p H)
theorem th_int {K : PySem.W.Frag} {p : Addr} {H : Hp} (n : Int) : Th K p H (.int n) (.int n) := ⟨rfl, fun _ _ => .int n⟩
theorem th_bl {K : PySem.W.Frag} {p : Addr} {H : Hp} (b : Bool) : Th K p H (.bl b) (.bool b) := ⟨rfl, fun _ _ => .bl b⟩
theorem th_non {K : PySem.W.Frag} {p : Addr} {H : Hp} : Th K p H .non .none := ⟨rfl, fun _ _ => .non⟩
theorem th_str {K : PySem.W.Frag} {p : Addr} {H : Hp} (z : Str) (sh : SeqAt.shaped (.str z) = true) : Th K p H (.str z) (.str z) := ⟨sh, fun _ _ => .str z⟩
def ThAll (K : PySem.W.Frag) (p : Addr) (H : Hp) (xs : List V) (ds : List PyData) : Prop := ∀ H', But p H H' → DpAll K H' xs ds
theorem thAll_nil {K : PySem.W.Frag} {p : Addr} {H : Hp} : ThAll K p H [] [] := fun _ _ => .nil
theorem thAll_cons {K : PySem.W.Frag} {p : Addr} {H : Hp} {x : V} {d : PyData} {xs : List V} {ds : List PyData} (h : Th K p H x d) (r : ThAll K p H xs ds) : ThAll K p H (x :: xs) (d :: ds) := fun H' b => .cons (h.2 H' b) (r H' b)
theorem th_tup {K : PySem.W.Frag} {p a : Addr} {H : Hp} {xs : List V} {ds : List PyData} (e : H a = some (.tup xs)) (ne : a ≠ p) (r : ThAll K p H xs ds) (sh : SeqAt.shaped (.tuple ds) = true) : Th K p H (.ref a) (.tuple ds) := ⟨sh, fun H' b => .tup (SqT.of (b _ _ ne e)) (r H' b)⟩
theorem th_lst {K : PySem.W.Frag} {p a : Addr} {H : Hp} {xs : List V} {ds : List PyData} (e : H a = some (.lst xs)) (ne : a ≠ p) (r : ThAll K p H xs ds) (sh : SeqAt.shaped (.list ds) = true) : Th K p H (.ref a) (.list ds) := ⟨sh, fun H' b => .lst (SqL.of (b _ _ ne e)) (r H' b)⟩
/-- the name of the type of data -/
def tyN : PyData → String
  | .none => "NoneType"
  | .bool _ => "bool"
  | .int _ => "int"
  | .str _ => "str"
  | .list _ => "list"
  | .tuple _ => "tuple"
  | _ => "?"
theorem dp_ty {K : PySem.W.Frag} {H : Hp} {x : V} {d : PyData} (h : Dp K H x d) : TyX K H x (.type (tyN d)) := by
  cases h with
  | non => exact .base .non
  | bl b => exact .base (.bl b)
  | int n => exact .base (.int n)
  | str z => exact .base (.str z)
  | lst s _ =>
    rcases s with s | ⟨o, its, n, e, c, _⟩
    · rcases s with s | ⟨o, s⟩
      · exact .base (.lst s)
      · exact .base (.frz s)
    · exact .kList e c
  | tup s _ =>
    rcases s with s | ⟨o, its, n, e, c, _⟩
    · rcases s with s | ⟨o, s⟩
      · exact .base (.tup s)
      · exact .fTuple s
    · exact .kTuple e c
def isSq : PyData → Bool
  | .list _ => true
  | .tuple _ => true
  | _ => false
section
variable {P : Program} {w : World} {K : PySem.W.Frag} {mg : Str → Option Value} {base : Heap}
def spSeqT (K : PySem.W.Frag) : Sp := fun vs H Q _ => ∃ (p : Addr) (x : V) (d : PyData), vs = [x] ∧ Th K p H x d ∧ ∀ H', Same H H' → Q (.bl (isSq d)) H'
theorem kp_seqT (F : At K mg "is_sequence" s_seq) (N : Nb mg) : Keeps CX0 P w K mg base "is_sequence" 1 ["thing"] (spSeqT K) := by
  refine keeps_of F sc_seq (fun _ _ _ _ _ _ us hl => match us, hl with | [_], _ => rfl) (fun vs H Q E h => ?_) (fun f cdv A outer s H vs Q E hr h => ?_)
  · obtain ⟨p, x, d, rfl, _⟩ := h
    rfl
  · obtain ⟨p, x, d, rfl, hx, k⟩ := h
    refine ⟨_, (pss_one (ps_ret (pe_callB call_isiT (by rfl) N.isinstance boot_isinstance (pa_cons (pv 0) (pa_cons (pe_tup (pa_cons (pe_bltn (v := .ty "list") (by rfl) N.list (by decide +kernel) rfl) (pa_cons (pe_bltn (v := .ty "tuple") (by rfl) N.tuple (by decide +kernel) rfl) pa_nil))) pa_nil))))), ?_⟩
    refine ⟨_, rfl, ⟨(by show 2 ≤ sizeLine; decide), fun t ht => ?_⟩⟩
    have s1 := same_new (o := .tup [V.ty "list", V.ty "tuple"]) (Same.refl H) ht
    have hx1 := (hx.same s1).dp
    have ty := dp_ty hx1
    have k1 := k _ s1
    refine ⟨x, t, [.ty "list", .ty "tuple"], _, _, isSq d, rfl, upd_same, .cons (.ty _) (.cons (.ty _) .nil), ty, ?_, k1⟩
    cases hx1 with
    | lst _ _ => exact kitAny_cons (b := true) (kit_ty (a := "list") (by decide +kernel)) (fun z => nomatch z) (fun _ => rfl)
    | tup _ _ => exact kitAny_cons (b := false) (kit_ty (a := "tuple") (by decide +kernel)) (fun _ => kitAny_cons (b := true) (kit_ty (a := "tuple") (by decide +kernel)) (fun z => nomatch z) (fun _ => rfl)) (fun z => nomatch z)
    | non => exact kitAny_cons (b := false) (kit_ty (a := "NoneType") (by decide +kernel)) (fun _ => kitAny_cons (b := false) (kit_ty (a := "NoneType") (by decide +kernel)) (fun _ => rfl) (fun z => nomatch z)) (fun z => nomatch z)
    | bl b => exact kitAny_cons (b := false) (kit_ty (a := "bool") (by decide +kernel)) (fun _ => kitAny_cons (b := false) (kit_ty (a := "bool") (by decide +kernel)) (fun _ => rfl) (fun z => nomatch z)) (fun z => nomatch z)
    | int n => exact kitAny_cons (b := false) (kit_ty (a := "int") (by decide +kernel)) (fun _ => kitAny_cons (b := false) (kit_ty (a := "int") (by decide +kernel)) (fun _ => rfl) (fun z => nomatch z)) (fun z => nomatch z)
    | str z => exact kitAny_cons (b := false) (kit_ty (a := "str") (by decide +kernel)) (fun _ => kitAny_cons (b := false) (kit_ty (a := "str") (by decide +kernel)) (fun _ => rfl) (fun z => nomatch z)) (fun z => nomatch z)
end
def wDd (lo hi : Int) : PyData → Bool
  | .int n => decide (lo ≤ n) && decide (n ≤ hi)
  | _ => false
def isIntD : PyData → Bool
  | .int _ => true
  | _ => false
/-- a list or a tuple of the data ds stands at x -/
def SqD (K : PySem.W.Frag) (H : Hp) (x : V) (ds : List PyData) : Prop := ∃ a xs, x = .ref a ∧ (SqL K H a xs ∨ SqT K H a xs) ∧ DpAll K H xs ds
theorem SqD.of {K : PySem.W.Frag} {H : Hp} {x : V} {d : PyData} {ds : List PyData} (h : Dp K H x d) (e : d = .list ds ∨ d = .tuple ds) : SqD K H x ds := by
  rcases e with rfl | rfl
  · cases h with
    | lst s r => exact ⟨_, _, rfl, .inl s, r⟩
  · cases h with
    | tup s r => exact ⟨_, _, rfl, .inr s, r⟩
theorem dpAll_len {K : PySem.W.Frag} {H : Hp} : ∀ {xs : List V} {ds : List PyData}, DpAll K H xs ds → xs.length = ds.length
  | _, _, .nil => rfl
  | _, _, .cons _ r => congrArg Nat.succ (dpAll_len r)
theorem dpAll_get {K : PySem.W.Frag} {H : Hp} : ∀ {xs : List V} {ds : List PyData} {i : Nat} {d : PyData}, DpAll K H xs ds → ds[i]? = some d → ∃ x, xs[i]? = some x ∧ Dp K H x d
  | _, _, 0, _, .cons h _, e => by cases e; exact ⟨_, rfl, h⟩
  | _, _, i + 1, _, .cons _ r, e => dpAll_get (i := i) r (by simpa using e)
  | _, _, _, _, .nil, hq => by simp at hq
/-- an item -/
theorem SqD.ix {K : PySem.W.Frag} {H : Hp} {x : V} {ds : List PyData} {i : Nat} {d : PyData} {Q : VK} (h : SqD K H x ds) (e : ds[i]? = some d) (k : ∀ v, Dp K H v d → Q v H) : rIxA K x (.int i) H Q := by
  obtain ⟨a, xs, rfl, s, r⟩ := h
  obtain ⟨v, e1, hv⟩ := dpAll_get r e
  have e2 := atI_nat e1
  rcases s with s | s
  · exact .inl ⟨a, xs, i, v, rfl, rfl, s, e2, k v hv⟩
  · exact .inr ⟨a, xs, i, v, rfl, rfl, s, e2, k v hv⟩
theorem SqD.tru {K : PySem.W.Frag} {H : Hp} {x : V} {ds : List PyData} (h : SqD K H x ds) : TruV K x H (!ds.isEmpty) := by
  obtain ⟨a, xs, rfl, s, r⟩ := h
  have e : xs.isEmpty = ds.isEmpty := by cases r <;> rfl
  rw [← e]
  rcases s with s | s
  · exact .inl ⟨xs, s, rfl⟩
  · exact .inr (.inl ⟨xs, s, rfl⟩)
/-- its length -/
theorem SqD.len {K : PySem.W.Frag} {H : Hp} {x : V} {ds : List PyData} {Q : VK} (h : SqD K H x ds) (k : Q (.int ds.length) H) : ∃ p ys, ([x] : List V) = [V.ref p] ∧ (SqL K H p ys ∨ SqT K H p ys) ∧ Q (.int (ys.length : Nat)) H := by
  obtain ⟨a, xs, rfl, s, r⟩ := h
  refine ⟨a, xs, rfl, s, ?_⟩
  rw [dpAll_len r]
  exact k
section
variable {P : Program} {w : World} {K : PySem.W.Frag} {mg : Str → Option Value} {base : Heap}
def spWhT (K : PySem.W.Frag) : Sp := fun vs H Q _ => ∃ (x : V) (d : PyData), vs = [x] ∧ Dp K H x d ∧ Q (.bl (isIntD d)) H
theorem kp_whT (F : At K mg "is_whole" s_whole) (N : Nb mg) : Keeps CX0 P w K mg base "is_whole" 1 ["thing"] (spWhT K) := by
  refine keeps_of F sc_whole (fun _ _ _ _ _ _ us hl => match us, hl with | [_], _ => rfl) (fun vs H Q E h => ?_) (fun f cdv A outer s H vs Q E hr h => ?_)
  · obtain ⟨x, d, rfl, _⟩ := h
    rfl
  · obtain ⟨x, d, rfl, hx, k⟩ := h
    have ty := dp_ty hx
    refine ⟨_, (pss_one (ps_ret (pe_and (pe_callB call_isi (by rfl) N.isinstance boot_isinstance (pa_cons (pv 0) (pa_cons (pe_bltn (v := .ty "int") (by rfl) N.int (by decide +kernel) rfl) pa_nil))) (pe_one (pe_not (pe_callB call_isi (by rfl) N.isinstance boot_isinstance (pa_cons (pv 0) (pa_cons (pe_bltn (v := .ty "bool") (by rfl) N.bool (by decide +kernel) rfl) pa_nil)))))))), ?_⟩
    cases hx with
    | int a => exact ⟨_, rfl, _, .ty "int", _, _, true, rfl, .ty "int", ty, kit_ty (a := "int") (by decide +kernel), _, rfl, _, rfl, _, .ty "bool", _, _, false, rfl, .ty "bool", ty, kit_ty (a := "int") (by decide +kernel), _, rfl, k⟩
    | bl b => exact ⟨_, rfl, _, .ty "int", _, _, true, rfl, .ty "int", ty, kit_ty (a := "bool") (by decide +kernel), _, rfl, _, rfl, _, .ty "bool", _, _, true, rfl, .ty "bool", ty, kit_ty (a := "bool") (by decide +kernel), _, rfl, k⟩
    | non => exact ⟨_, rfl, _, .ty "int", _, _, false, rfl, .ty "int", ty, kit_ty (a := "NoneType") (by decide +kernel), _, rfl, k⟩
    | str z => exact ⟨_, rfl, _, .ty "int", _, _, false, rfl, .ty "int", ty, kit_ty (a := "str") (by decide +kernel), _, rfl, k⟩
    | lst _ _ => exact ⟨_, rfl, _, .ty "int", _, _, false, rfl, .ty "int", ty, kit_ty (a := "list") (by decide +kernel), _, rfl, k⟩
    | tup _ _ => exact ⟨_, rfl, _, .ty "int", _, _, false, rfl, .ty "int", ty, kit_ty (a := "tuple") (by decide +kernel), _, rfl, k⟩
def spWfT (K : PySem.W.Frag) : Sp := fun vs H Q _ => ∃ (x : V) (d : PyData) (lo hi : Int), vs = [x, .int lo, .int hi] ∧ Dp K H x d ∧ Q (.bl (wDd lo hi d)) H
theorem kp_wfT (F : At K mg "is_whole_from" s_wholeF) (G : Keeps CX0 P w K mg base "is_whole" 1 ["thing"] (spWhT K)) : Keeps CX0 P w K mg base "is_whole_from" 2 ["thing", "low", "high"] (spWfT K) := by
  refine keeps_of F sc_wholeF (fun _ _ _ _ _ _ us hl => match us, hl with | [_, _, _], _ => rfl) (fun vs H Q E h => ?_) (fun f cdv A outer s H vs Q E hr h => ?_)
  · obtain ⟨x, d, lo, hi, rfl, _⟩ := h
    rfl
  · obtain ⟨x, d, lo, hi, rfl, hx, k⟩ := h
    refine ⟨_, (pss_one (ps_ret (pe_and (pe_k G hr (by rfl) pass0 (pa_cons (pv 0) pa_nil)) (pe_one (pe_chain op_le op_le (pv 1) (pv 0) (pv 2)))))), ?_⟩
    refine ⟨_, rfl, x, d, rfl, hx, _, rfl, ?_⟩
    cases hx with
    | int a =>
      refine ⟨_, rfl, _, rfl, _, _, rfl, rfl, _, rfl, ?_⟩
      have k : Q (.bl (decide (lo ≤ a) && decide (a ≤ hi))) H := k
      by_cases h1 : lo ≤ a
      · rw [decide_eq_true h1] at k ⊢
        exact ⟨_, rfl, _, _, rfl, rfl, k⟩
      · rw [decide_eq_false h1] at k ⊢
        exact k
    | bl b => exact k
    | non => exact k
    | str z => exact k
    | lst _ _ => exact k
    | tup _ _ => exact k
/-! ### is_sequence_of -/
def lenIs (many : Int) : PyData → Bool
  | .list ds => decide ((ds.length : Int) = many)
  | .tuple ds => decide ((ds.length : Int) = many)
  | _ => false
end
def eqS (d : PyData) (z : Str) : Bool := PyData.eqv d (.str z)
def flD : List PyData → Bool
  | [] => false
  | x :: r => if eqS x "turn" then r.isEmpty else match r with
    | [y] => if eqS x "mod" then wDd 1 6 y else (PyData.eqv (.str "set") x || PyData.eqv (.str "add") x) && wDd (-20) 20 y
    | _ => false
def rowsOf : PyData → Option (List PyData)
  | .list ds => some ds
  | .tuple ds => some ds
  | _ => none
def flT (d : PyData) : Bool := match rowsOf d with
  | some ds => flD ds
  | none => false
theorem flD_turn {x : PyData} {r : List PyData} (h : eqS x "turn" = true) : flD (x :: r) = r.isEmpty := by
  show (if eqS x "turn" = true then r.isEmpty else _) = _
  rw [if_pos h]
theorem flD_len {x : PyData} {r : List PyData} (h : eqS x "turn" = false) (hl : r.length ≠ 1) : flD (x :: r) = false := by
  match r, hl with
  | [], _ => show (if eqS x "turn" = true then _ else false) = _; rw [h, if_neg Bool.false_ne_true]
  | [_], hl => exact absurd rfl hl
  | _ :: _ :: _, _ => show (if eqS x "turn" = true then _ else false) = _; rw [h, if_neg Bool.false_ne_true]
theorem flD_mod {x y : PyData} (h : eqS x "turn" = false) (h2 : eqS x "mod" = true) : flD [x, y] = wDd 1 6 y := by
  show (if eqS x "turn" = true then _ else (if eqS x "mod" = true then wDd 1 6 y else _)) = _
  rw [h, if_neg Bool.false_ne_true, h2, if_pos rfl]
theorem flD_sa {x y : PyData} (h : eqS x "turn" = false) (h2 : eqS x "mod" = false) : flD [x, y] = ((PyData.eqv (.str "set") x || PyData.eqv (.str "add") x) && wDd (-20) 20 y) := by
  show (if eqS x "turn" = true then _ else (if eqS x "mod" = true then wDd 1 6 y else _)) = _
  rw [h, if_neg Bool.false_ne_true, h2, if_neg Bool.false_ne_true]
theorem Th.sq {K : PySem.W.Frag} {p : Addr} {H : Hp} {x : V} {d : PyData} {ds : List PyData} (h : Th K p H x d) (e : rowsOf d = some ds) : SqD K H x ds := SqD.of h.dp (by
  cases d <;> first | (cases e; exact .inl rfl) | (cases e; exact .inr rfl) | cases e)
theorem isSq_rows {d : PyData} : isSq d = (rowsOf d).isSome := by cases d <;> rfl
section
variable {P : Program} {w : World} {K : PySem.W.Frag} {mg : Str → Option Value} {base : Heap}
end
/-! ### things whose parts are things -/
mutual
inductive Tg (p : Addr) (H : Hp) : V → PyData → Prop
  | non : Tg p H .non .none
  | bl (b : Bool) : Tg p H (.bl b) (.bool b)
  | int (n : Int) : Tg p H (.int n) (.int n)
  | str (z : Str) (sh : SeqAt.shaped (.str z) = true) : Tg p H (.str z) (.str z)
  | lst {a : Addr} {xs : List V} {ds : List PyData} : H a = some (.lst xs) → a ≠ p → TgAll p H xs ds → SeqAt.shaped (.list ds) = true → Tg p H (.ref a) (.list ds)
  | tup {a : Addr} {xs : List V} {ds : List PyData} : H a = some (.tup xs) → a ≠ p → TgAll p H xs ds → SeqAt.shaped (.tuple ds) = true → Tg p H (.ref a) (.tuple ds)
inductive TgAll (p : Addr) (H : Hp) : List V → List PyData → Prop
  | nil : TgAll p H [] []
  | cons {x : V} {xs : List V} {d : PyData} {ds : List PyData} : Tg p H x d → TgAll p H xs ds → TgAll p H (x :: xs) (d :: ds)
end
section
variable {K : PySem.W.Frag} {p : Addr} {H H' : Hp}
mutual
theorem Tg.but (b : But p H H') : ∀ (d : PyData) (x : V), Tg p H x d → Tg p H' x d
  | .none, _, h => by cases h; exact .non
  | .bool _, _, h => by cases h; exact .bl _
  | .int _, _, h => by cases h; exact .int _
  | .str _, _, h => by cases h with | str _ sh => exact .str _ sh
  | .list ds, _, h => by cases h with | lst e ne r sh => exact .lst (b _ _ ne e) ne (TgAll.but b ds _ r) sh
  | .tuple ds, _, h => by cases h with | tup e ne r sh => exact .tup (b _ _ ne e) ne (TgAll.but b ds _ r) sh
theorem TgAll.but (b : But p H H') : ∀ (ds : List PyData) (xs : List V), TgAll p H xs ds → TgAll p H' xs ds
  | [], _, h => by cases h; exact .nil
  | d :: ds, _, h => by cases h with | cons h r => exact .cons (Tg.but b d _ h) (TgAll.but b ds _ r)
end
mutual
theorem Tg.dp : ∀ (d : PyData) (x : V), Tg p H x d → Dp K H x d
  | .none, _, h => by cases h; exact .non
  | .bool _, _, h => by cases h; exact .bl _
  | .int _, _, h => by cases h; exact .int _
  | .str _, _, h => by cases h; exact .str _
  | .list ds, _, h => by cases h with | lst e _ r _ => exact .lst (SqL.of e) (TgAll.dp ds _ r)
  | .tuple ds, _, h => by cases h with | tup e _ r _ => exact .tup (SqT.of e) (TgAll.dp ds _ r)
theorem TgAll.dp : ∀ (ds : List PyData) (xs : List V), TgAll p H xs ds → DpAll K H xs ds
  | [], _, h => by cases h; exact .nil
  | d :: ds, _, h => by cases h with | cons h r => exact .cons (Tg.dp d _ h) (TgAll.dp ds _ r)
end
theorem Tg.shaped {d : PyData} {x : V} (h : Tg p H x d) : SeqAt.shaped d = true := by
  cases h with
  | str _ sh => exact sh
  | lst _ _ _ sh => exact sh
  | tup _ _ _ sh => exact sh
  | _ => rfl
theorem TgAll.get : ∀ {xs : List V} {ds : List PyData} {i : Nat} {d : PyData}, TgAll p H xs ds → ds[i]? = some d → ∃ x, xs[i]? = some x ∧ Tg p H x d
  | _, _, 0, _, .cons h _, e => by cases e; exact ⟨_, rfl, h⟩
  | _, _, i + 1, _, .cons _ r, e => TgAll.get (i := i) r (by simpa using e)
  | _, _, _, _, .nil, hq => by simp at hq
theorem TgAll.len : ∀ {xs : List V} {ds : List PyData}, TgAll p H xs ds → xs.length = ds.length
  | _, _, .nil => rfl
  | _, _, .cons _ r => congrArg Nat.succ (TgAll.len r)
/-- a list or a tuple of things -/
theorem Tg.rows {d : PyData} {x : V} {ds : List PyData} (h : Tg p H x d) (e : rowsOf d = some ds) : ∃ a xs, x = .ref a ∧ SqA H a xs ∧ TgAll p H xs ds := by
  cases h with
  | lst e1 _ r _ => cases e; exact ⟨_, _, rfl, .inl e1, r⟩
  | tup e1 _ r _ => cases e; exact ⟨_, _, rfl, .inr e1, r⟩
  | _ => cases e
end
theorem Tg.th {K : PySem.W.Frag} {p : Addr} {H : Hp} {x : V} {d : PyData} (h : Tg p H x d) : Th K p H x d := ⟨h.shaped, fun _ b => (Tg.but b _ _ h).dp⟩
theorem Tg.same {p : Addr} {H H' : Hp} {x : V} {d : PyData} (s : Same H H') (h : Tg p H x d) : Tg p H' x d := Tg.but (But.of s) _ _ h
section
variable {P : Program} {w : World} {K : PySem.W.Frag} {mg : Str → Option Value} {base : Heap}
/-! ### fits_letter, fits_test of things -/
def spFitT (K : PySem.W.Frag) (f : PyData → Bool) : Sp := fun vs H Q _ => ∃ (p : Addr) (x : V) (d : PyData), vs = [x] ∧ Tg p H x d ∧ ∀ H', Same H H' → Q (.bl (f d)) H'
theorem kp_flT (F : At K mg "fits_letter" s_fl) (N : Nb mg) (mM : ∃ t, mg "MOST" = some (.int 20 t)) (mR : ∃ t, mg "MOST_REST" = some (.int 6 t)) (Gs : Keeps CX0 P w K mg base "is_sequence" 1 ["thing"] (spSeqT K)) (Gw : Keeps CX0 P w K mg base "is_whole_from" 2 ["thing", "low", "high"] (spWfT K)) :
    Keeps CX0 P w K mg base "fits_letter" 3 ["letter"] (spFitT K flT) := by
  refine keeps_of F sc_fl (fun _ _ _ _ _ _ us hl => match us, hl with | [_], _ => rfl) (fun vs H Q E h => ?_) (fun f cdv A outer s H vs Q E hr h => ?_)
  · obtain ⟨p, x, d, rfl, _⟩ := h
    rfl
  · obtain ⟨p, x, d, rfl, hx, k⟩ := h
    obtain ⟨tM, mM⟩ := mM
    obtain ⟨tR, mR⟩ := mR
    have h1 : Room 1 (A.deeper (envOfC "fits_letter" (defScope s_fl) s.heap.objs.size f cdv)) := hr.mono (by decide)
    have hu65 : (A.deeper (envOfC "fits_letter" (defScope s_fl) s.heap.objs.size f cdv)).units + 65 < cLine := by have := hr.un; omega
    refine ⟨_, (pss_cons (ps_if (PW.pt (pw_or (pt_not (pt_val (pe_k Gs h1 (by rfl) pass0 (pa_cons (pv 0) pa_nil)))) (pw_or1 (pt_not (pt_truth (pv 0) (by intro _; rfl)))))) (pss_one (ps_ret pe_bl)) pss_nil)
        (pss_cons (ps_if (pt_cmpR (op_eqD hr.units) (pe_ix ix_any (pv 0) pe_int (fun _ _ => rfl)) pe_str (nomark _)) (pss_one (ps_ret (pe_cmpR op_eq (pe_callB call_len_seq (by rfl) N.len (by decide +kernel) (pa_cons (pv 0) pa_nil)) pe_int (nomark _)))) pss_nil)
        (pss_cons (ps_if (pt_cmpR op_ne (pe_callB call_len_seq (by rfl) N.len (by decide +kernel) (pa_cons (pv 0) pa_nil)) pe_int (nomark _)) (pss_one (ps_ret pe_bl)) pss_nil)
        (pss_cons (ps_if (pt_cmpR (op_eqD hr.units) (pe_ix ix_any (pv 0) pe_int (fun _ _ => rfl)) pe_str (nomark _)) (pss_one (ps_ret (pe_k Gw hr (by rfl) pass0 (pa_cons (pe_ix ix_any (pv 0) pe_int (fun _ _ => rfl)) (pa_cons pe_int (pa_cons (pe_glob (v := .int 6) (by rfl) mR ⟨_, rfl⟩) pa_nil)))))) pss_nil)
        (pss_one (ps_ret (pe_and (pe_cmpR (op_inT hu65) (pe_ix ix_any (pv 0) pe_int (fun _ _ => rfl)) (pe_tup (pa_cons pe_str (pa_cons pe_str pa_nil))) (by rfl)) (pe_one (pe_k Gw hr (by rfl) pass0 (pa_cons (pe_ix ix_any (pv 0) pe_int (fun _ _ => rfl)) (pa_cons (pe_un un_neg (pe_glob (v := .int 20) (by rfl) mM ⟨_, rfl⟩)) (pa_cons (pe_glob (v := .int 20) (by rfl) mM ⟨_, rfl⟩) pa_nil)))))))))))), ?_⟩
    refine ⟨_, rfl, p, x, d, rfl, hx.th, fun H1 s1 => ⟨_, rfl, ?_⟩⟩
    rw [isSq_rows]
    have k0 : ∀ ds, rowsOf d = some ds → ∀ H', Same H H' → Q (.bl (flD ds)) H' := fun ds e H' s' => by
      have := k H' s'
      unfold flT at this
      rw [e] at this
      exact this
    have hx1 := hx.same s1
    cases er : rowsOf d with
    | none =>
      have k1 := k H1 s1
      unfold flT at k1
      rw [er] at k1
      exact iteT (iteT k1)
    | some ds =>
      have k1 := k0 ds er H1 s1
      obtain ⟨a, xs, rfl, sq, tg⟩ := hx1.rows er
      refine iteF ⟨_, rfl, _, truA sq, ?_⟩
      cases tg with
      | nil => exact iteT k1
      | @cons x0 xr e r t0 tr =>
        refine iteF ⟨_, rfl, ixA_of sq at_head ⟨e, _, t0.dp, .str _, t0.shaped, by decide +kernel, _, rfl, ?_⟩⟩
        show if eqS e "turn" = true then _ else _
        have ln := tr.len
        cases ew : eqS e "turn" with
        | true =>
          rw [flD_turn ew] at k1
          refine iteT ⟨_, rfl, a, _, rfl, lenA sq, rfl, ?_⟩
          rw [vint]
          cases tr with
          | nil => exact k1
          | cons _ _ =>
            rw [decide_eq_false (by rw [List.length_cons, List.length_cons]; omega)]
            exact k1
        | false =>
          refine iteF ⟨_, rfl, a, _, rfl, lenA sq, rfl, _, rfl, ?_⟩
          rw [vint]
          by_cases hl : r.length = 1
          · obtain ⟨y, rfl⟩ : ∃ y, r = [y] := match r, hl with | [y], _ => ⟨y, rfl⟩
            cases tr with
            | @cons y0 _ _ _ ty tn =>
            cases tn
            refine iteF ⟨_, rfl, ixA_of sq at_head ⟨e, _, t0.dp, .str _, t0.shaped, by decide +kernel, _, rfl, ?_⟩⟩
            show if eqS e "mod" = true then _ else _
            cases em : eqS e "mod" with
            | true =>
              rw [flD_mod ew em] at k1
              exact iteT ⟨_, rfl, ixA_of sq rfl ⟨y0, y, 1, 6, rfl, ty.dp, k1⟩⟩
            | false =>
              refine iteF ⟨_, rfl, ixA_of sq at_head ⟨(by show 2 ≤ sizeLine; decide), fun t ht => ?_⟩⟩
              have s2 := same_new (o := .tup [V.str "set", V.str "add"]) (Same.refl H1) ht
              have k4 := k0 _ er _ (s1.trans s2)
              rw [flD_sa ew em] at k4
              refine ⟨e, [.str "set", .str "add"], (t0.same s2).dp, .tup (SqT.of upd_same) (.cons (.str _) (.cons (.str _) .nil)), t0.shaped, by decide +kernel, _, rfl, ?_⟩
              rw [show (([.str "set", .str "add"] : List PyData).any fun z => PyData.eqv z e) = (PyData.eqv (.str "set") e || PyData.eqv (.str "add") e) from by
                show (PyData.eqv (.str "set") e || (PyData.eqv (.str "add") e || false)) = _
                rw [Bool.or_false]]
              cases eo : (PyData.eqv (.str "set") e || PyData.eqv (.str "add") e) with
              | false =>
                rw [eo] at k4
                exact iteF k4
              | true =>
                rw [eo] at k4
                exact iteT ⟨_, rfl, ixA_of (sq.same s2) rfl ⟨_, rfl, y0, y, -20, 20, rfl, (ty.same s2).dp, k4⟩⟩
          · rw [flD_len ew hl] at k1
            rw [decide_eq_false (by rw [List.length_cons]; omega)]
            exact iteT k1
end
def ftD : List PyData → Bool
  | [] => false
  | x :: r => if eqS x "rest" then (match r with
    | [y, z] => wDd 1 6 y && (match y with | .int n => wDd 0 (n - 1) z | _ => false)
    | _ => false) else match r with
    | [y] => (PyData.eqv (.str "below") x || PyData.eqv (.str "is") x) && wDd (-20) 20 y
    | _ => false
def ftT (d : PyData) : Bool := match rowsOf d with
  | some ds => ftD ds
  | none => false
theorem ftD_rest {x y z : PyData} (h : eqS x "rest" = true) : ftD [x, y, z] = (wDd 1 6 y && (match y with | .int n => wDd 0 (n - 1) z | _ => false)) := by
  show (if eqS x "rest" = true then _ else _) = _
  rw [if_pos h]
theorem ftD_restN {x : PyData} {r : List PyData} (h : eqS x "rest" = true) (hl : r.length ≠ 2) : ftD (x :: r) = false := by
  match r, hl with
  | [], _ => show (if eqS x "rest" = true then false else _) = _; rw [if_pos h]
  | [_], _ => show (if eqS x "rest" = true then false else _) = _; rw [if_pos h]
  | [_, _], hl => exact absurd rfl hl
  | _ :: _ :: _ :: _, _ => show (if eqS x "rest" = true then false else _) = _; rw [if_pos h]
theorem ftD_bi {x y : PyData} (h : eqS x "rest" = false) : ftD [x, y] = ((PyData.eqv (.str "below") x || PyData.eqv (.str "is") x) && wDd (-20) 20 y) := by
  show (if eqS x "rest" = true then _ else _) = _
  rw [h, if_neg Bool.false_ne_true]
theorem ftD_len {x : PyData} {r : List PyData} (h : eqS x "rest" = false) (hl : r.length ≠ 1) : ftD (x :: r) = false := by
  match r, hl with
  | [], _ => show (if eqS x "rest" = true then _ else false) = _; rw [h, if_neg Bool.false_ne_true]
  | [_], hl => exact absurd rfl hl
  | _ :: _ :: _, _ => show (if eqS x "rest" = true then _ else false) = _; rw [h, if_neg Bool.false_ne_true]
section
variable {P : Program} {w : World} {K : PySem.W.Frag} {mg : Str → Option Value} {base : Heap}
theorem kp_ftT (F : At K mg "fits_test" s_ft) (N : Nb mg) (mM : ∃ t, mg "MOST" = some (.int 20 t)) (mR : ∃ t, mg "MOST_REST" = some (.int 6 t)) (Gs : Keeps CX0 P w K mg base "is_sequence" 1 ["thing"] (spSeqT K)) (Gw : Keeps CX0 P w K mg base "is_whole_from" 2 ["thing", "low", "high"] (spWfT K)) :
    Keeps CX0 P w K mg base "fits_test" 3 ["test"] (spFitT K ftT) := by
  refine keeps_of F sc_ft (fun _ _ _ _ _ _ us hl => match us, hl with | [_], _ => rfl) (fun vs H Q E h => ?_) (fun f cdv A outer s H vs Q E hr h => ?_)
  · obtain ⟨p, x, d, rfl, _⟩ := h
    rfl
  · obtain ⟨p, x, d, rfl, hx, k⟩ := h
    obtain ⟨tM, mM⟩ := mM
    obtain ⟨tR, mR⟩ := mR
    have h1 : Room 1 (A.deeper (envOfC "fits_test" (defScope s_ft) s.heap.objs.size f cdv)) := hr.mono (by decide)
    have hu65 : (A.deeper (envOfC "fits_test" (defScope s_ft) s.heap.objs.size f cdv)).units + 65 < cLine := by have := hr.un; omega
    refine ⟨_, (pss_cons (ps_if (PW.pt (pw_or (pt_not (pt_val (pe_k Gs h1 (by rfl) pass0 (pa_cons (pv 0) pa_nil)))) (pw_or1 (pt_not (pt_truth (pv 0) (by intro _; rfl)))))) (pss_one (ps_ret pe_bl)) pss_nil)
        (pss_cons (ps_if (pt_cmpR (op_eqD hr.units) (pe_ix ix_any (pv 0) pe_int (fun _ _ => rfl)) pe_str (nomark _)) (pss_one (ps_ret (pe_and (pe_cmpR op_eq (pe_callB call_len_seq (by rfl) N.len (by decide +kernel) (pa_cons (pv 0) pa_nil)) pe_int (nomark _)) (pe_and (pe_k Gw hr (by rfl) pass0 (pa_cons (pe_ix ix_any (pv 0) pe_int (fun _ _ => rfl)) (pa_cons pe_int (pa_cons (pe_glob (v := .int 6) (by rfl) mR ⟨_, rfl⟩) pa_nil)))) (pe_one (pe_k Gw hr (by rfl) pass0 (pa_cons (pe_ix ix_any (pv 0) pe_int (fun _ _ => rfl)) (pa_cons pe_int (pa_cons (pe_op op_sub (pe_ix ix_any (pv 0) pe_int (fun _ _ => rfl)) pe_int) pa_nil))))))))) pss_nil)
        (pss_one (ps_ret (pe_and (pe_cmpR op_eq (pe_callB call_len_seq (by rfl) N.len (by decide +kernel) (pa_cons (pv 0) pa_nil)) pe_int (nomark _)) (pe_and (pe_cmpR (op_inT hu65) (pe_ix ix_any (pv 0) pe_int (fun _ _ => rfl)) (pe_tup (pa_cons pe_str (pa_cons pe_str pa_nil))) (by rfl)) (pe_one (pe_k Gw hr (by rfl) pass0 (pa_cons (pe_ix ix_any (pv 0) pe_int (fun _ _ => rfl)) (pa_cons (pe_un un_neg (pe_glob (v := .int 20) (by rfl) mM ⟨_, rfl⟩)) (pa_cons (pe_glob (v := .int 20) (by rfl) mM ⟨_, rfl⟩) pa_nil))))))))))), ?_⟩
    refine ⟨_, rfl, p, x, d, rfl, hx.th, fun H1 s1 => ⟨_, rfl, ?_⟩⟩
    rw [isSq_rows]
    have k0 : ∀ ds, rowsOf d = some ds → ∀ H', Same H H' → Q (.bl (ftD ds)) H' := fun ds e H' s' => by
      have := k H' s'
      unfold ftT at this
      rw [e] at this
      exact this
    have hx1 := hx.same s1
    cases er : rowsOf d with
    | none =>
      have k1 := k H1 s1
      unfold ftT at k1
      rw [er] at k1
      exact iteT (iteT k1)
    | some ds =>
      have k1 := k0 ds er H1 s1
      obtain ⟨a, xs, rfl, sq, tg⟩ := hx1.rows er
      refine iteF ⟨_, rfl, _, truA sq, ?_⟩
      cases tg with
      | nil => exact iteT k1
      | @cons x0 xr e r t0 tr =>
        refine iteF ⟨_, rfl, ixA_of sq at_head ⟨e, _, t0.dp, .str _, t0.shaped, by decide +kernel, _, rfl, ?_⟩⟩
        show if eqS e "rest" = true then _ else _
        have ln := tr.len
        cases ew : eqS e "rest" with
        | true =>
          refine iteT ⟨_, rfl, a, _, rfl, lenA sq, rfl, _, rfl, ?_⟩
          rw [vint]
          by_cases hl : r.length = 2
          · obtain ⟨y, z, rfl⟩ : ∃ y z, r = [y, z] := match r, hl with | [y, z], _ => ⟨y, z, rfl⟩
            cases tr with
            | @cons y0 _ _ _ ty tn =>
            cases tn with
            | @cons z0 _ _ _ tz tn =>
            cases tn
            rw [ftD_rest ew] at k1
            refine iteT ⟨_, rfl, ixA_of sq rfl ⟨y0, y, 1, 6, rfl, ty.dp, _, rfl, ?_⟩⟩
            cases ty with
            | int n =>
              cases ey : wDd 1 6 (.int n) with
              | false =>
                rw [ey] at k1
                exact iteF k1
              | true =>
                rw [ey] at k1
                exact iteT ⟨_, rfl, ixA_of sq rfl ⟨_, rfl, ixA_of sq rfl ⟨_, _, rfl, rfl, z0, z, 0, n - 1, rfl, tz.dp, k1⟩⟩⟩
            | non => exact iteF k1
            | bl b => exact iteF k1
            | str u _ => exact iteF k1
            | lst _ _ _ _ => exact iteF k1
            | tup _ _ _ _ => exact iteF k1
          · rw [ftD_restN ew hl] at k1
            rw [decide_eq_false (by rw [List.length_cons]; omega)]
            exact iteF k1
        | false =>
          refine iteF ⟨_, rfl, a, _, rfl, lenA sq, rfl, _, rfl, ?_⟩
          rw [vint]
          by_cases hl : r.length = 1
          · obtain ⟨y, rfl⟩ : ∃ y, r = [y] := match r, hl with | [y], _ => ⟨y, rfl⟩
            cases tr with
            | @cons y0 _ _ _ ty tn =>
            cases tn
            refine iteT ⟨_, rfl, ixA_of sq at_head ⟨(by show 2 ≤ sizeLine; decide), fun t ht => ?_⟩⟩
            have s2 := same_new (o := .tup [V.str "below", V.str "is"]) (Same.refl H1) ht
            have k4 := k0 _ er _ (s1.trans s2)
            rw [ftD_bi ew] at k4
            refine ⟨e, [.str "below", .str "is"], (t0.same s2).dp, .tup (SqT.of upd_same) (.cons (.str _) (.cons (.str _) .nil)), t0.shaped, by decide +kernel, _, rfl, ?_⟩
            rw [show (([.str "below", .str "is"] : List PyData).any fun z => PyData.eqv z e) = (PyData.eqv (.str "below") e || PyData.eqv (.str "is") e) from by
              show (PyData.eqv (.str "below") e || (PyData.eqv (.str "is") e || false)) = _
              rw [Bool.or_false]]
            cases eo : (PyData.eqv (.str "below") e || PyData.eqv (.str "is") e) with
            | false =>
              rw [eo] at k4
              exact iteF k4
            | true =>
              rw [eo] at k4
              exact iteT ⟨_, rfl, ixA_of (sq.same s2) rfl ⟨_, rfl, y0, y, -20, 20, rfl, (ty.same s2).dp, k4⟩⟩
          · rw [ftD_len ew hl] at k1
            rw [decide_eq_false (by rw [List.length_cons]; omega)]
            exact iteF k1
end
/-! ### moves, starts, arrows as data -/
inductive Mv where
  | stay
  | deed (L : Lt)
  | so (T : Ts)
  | not (T : Ts)
def Lt.ds : Lt → List PyData
  | .set v => [.str "set", .int v]
  | .add v => [.str "add", .int v]
  | .turn => [.str "turn"]
  | .mod m => [.str "mod", .int m]
def Ts.ds : Ts → List PyData
  | .below v => [.str "below", .int v]
  | .is v => [.str "is", .int v]
  | .rest m r => [.str "rest", .int m, .int r]
def Lt.d (L : Lt) : PyData := .tuple L.ds
def Ts.d (T : Ts) : PyData := .tuple T.ds
/-! ### read off things -/
def rowsN (d : PyData) : List PyData := (rowsOf d).getD []
def ltOf (d : PyData) : Lt := match rowsN d with
  | [.str z, .int v] => if z = "set" then .set v else if z = "add" then .add v else .mod v.toNat
  | _ => .turn
def tsOf (d : PyData) : Ts := match rowsN d with
  | [.str z, .int v] => if z = "below" then .below v else .is v
  | [.str _, .int m, .int r] => .rest m.toNat r
  | _ => .is 0
theorem eqS_eq {d : PyData} {z : Str} (h : eqS d z = true) : d = .str z := by
  unfold eqS at h
  cases d <;> simp [PyData.eqv] at h
  rw [h]
theorem eqS_eq' {d : PyData} {z : Str} (h : PyData.eqv (.str z) d = true) : d = .str z := by
  cases d <;> simp [PyData.eqv] at h
  rw [h]
theorem eqS_self (z : Str) : eqS (.str z) z = true := by
  unfold eqS
  simp [PyData.eqv]
theorem eqS_self' (z : Str) : PyData.eqv (.str z) (.str z) = true := by simp [PyData.eqv]
theorem eqS_ne {z y : Str} (h : z ≠ y) : eqS (.str z) y = false := by
  unfold eqS
  simp [PyData.eqv, h]
theorem wDd_ok {lo hi : Int} {d : PyData} (h : wDd lo hi d = true) : ∃ n, d = .int n ∧ lo ≤ n ∧ n ≤ hi := by
  cases d <;> simp [wDd] at h
  exact ⟨_, rfl, h.1, h.2⟩
theorem wDd_int {lo hi n : Int} (h : lo ≤ n ∧ n ≤ hi) : wDd lo hi (.int n) = true := by simp [wDd, h]
theorem flT_ok {d : PyData} (h : flT d = true) : (ltOf d).Ok ∧ rowsOf d = some (ltOf d).ds := by
  unfold flT at h
  cases er : rowsOf d with
  | none => rw [er] at h; exact Bool.noConfusion h
  | some ds =>
    rw [er] at h
    have e0 : rowsN d = ds := by unfold rowsN; rw [er]; rfl
    unfold ltOf
    rw [e0]
    cases ds with
    | nil => exact Bool.noConfusion h
    | cons x r =>
      cases ew : eqS x "turn" with
      | true =>
        have h : flD (x :: r) = true := h
        rw [flD_turn ew] at h
        cases r with
        | nil =>
          rw [eqS_eq ew]
          exact ⟨trivial, rfl⟩
        | cons y t => exact Bool.noConfusion h
      | false =>
        by_cases hl : r.length = 1
        · obtain ⟨y, rfl⟩ : ∃ y, r = [y] := match r, hl with | [y], _ => ⟨y, rfl⟩
          have h : flD [x, y] = true := h
          cases em : eqS x "mod" with
          | true =>
            rw [flD_mod ew em] at h
            obtain ⟨n, rfl, h1, h2⟩ := wDd_ok h
            rw [eqS_eq em]
            have e1 : ((n.toNat : Nat) : Int) = n := by omega
            refine ⟨(show 1 ≤ n.toNat ∧ n.toNat ≤ 6 by omega), ?_⟩
            show some [PyData.str "mod", .int n] = some [.str "mod", .int (n.toNat : Int)]
            rw [e1]
          | false =>
            rw [flD_sa ew em] at h
            obtain ⟨h0, h3⟩ := and_ok h
            obtain ⟨n, rfl, h1, h2⟩ := wDd_ok h3
            rcases Bool.or_eq_true_iff.mp h0 with h0 | h0
            · rw [eqS_eq' h0]
              exact ⟨⟨h1, h2⟩, rfl⟩
            · rw [eqS_eq' h0]
              exact ⟨⟨h1, h2⟩, rfl⟩
        · have h : flD (x :: r) = true := h
          rw [flD_len ew hl] at h
          exact Bool.noConfusion h
theorem ftT_ok {d : PyData} (h : ftT d = true) : (tsOf d).Ok ∧ rowsOf d = some (tsOf d).ds := by
  unfold ftT at h
  cases er : rowsOf d with
  | none => rw [er] at h; exact Bool.noConfusion h
  | some ds =>
    rw [er] at h
    have e0 : rowsN d = ds := by unfold rowsN; rw [er]; rfl
    unfold tsOf
    rw [e0]
    cases ds with
    | nil => exact Bool.noConfusion h
    | cons x r =>
      have h : ftD (x :: r) = true := h
      cases ew : eqS x "rest" with
      | true =>
        by_cases hl : r.length = 2
        · obtain ⟨y, z, rfl⟩ : ∃ y z, r = [y, z] := match r, hl with | [y, z], _ => ⟨y, z, rfl⟩
          rw [ftD_rest ew] at h
          obtain ⟨h0, h3⟩ := and_ok h
          obtain ⟨n, rfl, h1, h2⟩ := wDd_ok h0
          obtain ⟨q, rfl, h4, h5⟩ := wDd_ok (show wDd 0 (n - 1) z = true from h3)
          rw [eqS_eq ew]
          have e1 : ((n.toNat : Nat) : Int) = n := by omega
          refine ⟨(show (1 ≤ n.toNat ∧ n.toNat ≤ 6) ∧ 0 ≤ q ∧ q < (n.toNat : Int) by omega), ?_⟩
          show some [PyData.str "rest", .int n, .int q] = some [.str "rest", .int (n.toNat : Int), .int q]
          rw [e1]
        · rw [ftD_restN ew hl] at h
          exact Bool.noConfusion h
      | false =>
        by_cases hl : r.length = 1
        · obtain ⟨y, rfl⟩ : ∃ y, r = [y] := match r, hl with | [y], _ => ⟨y, rfl⟩
          rw [ftD_bi ew] at h
          obtain ⟨h0, h3⟩ := and_ok h
          obtain ⟨n, rfl, h1, h2⟩ := wDd_ok h3
          rcases Bool.or_eq_true_iff.mp h0 with h0 | h0
          · rw [eqS_eq' h0]
            exact ⟨⟨h1, h2⟩, rfl⟩
          · rw [eqS_eq' h0]
            exact ⟨⟨h1, h2⟩, rfl⟩
        · rw [ftD_len ew hl] at h
          exact Bool.noConfusion h
/-! the other way -/
theorem flT_of {L : Lt} {d : PyData} (ok : L.Ok) (h : rowsOf d = some L.ds) : flT d = true := by
  unfold flT
  rw [h]
  show flD L.ds = true
  cases L with
  | set v => show flD [.str "set", .int v] = true; rw [flD_sa (eqS_ne (by decide)) (eqS_ne (by decide)), eqS_self', wDd_int ok]; rfl
  | add v => show flD [.str "add", .int v] = true; rw [flD_sa (eqS_ne (by decide)) (eqS_ne (by decide)), eqS_self', wDd_int ok, Bool.or_true]; rfl
  | turn => show flD [.str "turn"] = true; rw [flD_turn (eqS_self _)]; rfl
  | mod m =>
    show flD [.str "mod", .int m] = true
    rw [flD_mod (eqS_ne (by decide)) (eqS_self _)]
    have ok : 1 ≤ m ∧ m ≤ 6 := ok
    exact wDd_int (by omega)
theorem ftT_of {T : Ts} {d : PyData} (ok : T.Ok) (h : rowsOf d = some T.ds) : ftT d = true := by
  unfold ftT
  rw [h]
  show ftD T.ds = true
  cases T with
  | below v => show ftD [.str "below", .int v] = true; rw [ftD_bi (eqS_ne (by decide)), eqS_self', wDd_int ok]; rfl
  | is v => show ftD [.str "is", .int v] = true; rw [ftD_bi (eqS_ne (by decide)), eqS_self', wDd_int ok, Bool.or_true]; rfl
  | rest m r =>
    show ftD [.str "rest", .int m, .int r] = true
    have ok : (1 ≤ m ∧ m ≤ 6) ∧ 0 ≤ r ∧ r < m := ok
    rw [ftD_rest (eqS_self _), wDd_int (by omega)]
    exact wDd_int (show 0 ≤ r ∧ r ≤ (m : Int) - 1 by omega)
theorem rowsN_of {d : PyData} {ds : List PyData} (h : rowsOf d = some ds) : rowsN d = ds := by unfold rowsN; rw [h]; rfl
theorem ltOf_of {L : Lt} {d : PyData} (h : rowsOf d = some L.ds) : ltOf d = L := by
  unfold ltOf
  rw [rowsN_of h]
  cases L with
  | set v => rfl
  | add v => rfl
  | turn => rfl
  | mod m => rfl
theorem tsOf_of {T : Ts} {d : PyData} (h : rowsOf d = some T.ds) : tsOf d = T := by
  unfold tsOf
  rw [rowsN_of h]
  cases T with
  | below v => rfl
  | is v => rfl
  | rest m r => rfl
section
variable {K : PySem.W.Frag} {p : Addr} {H H' H2 : Hp}
/-- tuples and instances stay -/
def Kt (H H' : Hp) : Prop := (∀ a xs, H a = some (.tup xs) → H' a = some (.tup xs)) ∧ ∀ a C dx fs, H a = some (.ins C dx fs) → H' a = some (.ins C dx fs)
theorem Kt.refl (H : Hp) : Kt H H := ⟨fun _ _ e => e, fun _ _ _ _ e => e⟩
theorem Kt.trans (a : Kt H H') (b : Kt H' H2) : Kt H H2 := ⟨fun x xs e => b.1 x xs (a.1 x xs e), fun x C dx fs e => b.2 x C dx fs (a.2 x C dx fs e)⟩
theorem Kt.of (s : Same H H') : Kt H H' := ⟨fun a _ e => s a _ e, fun a _ _ _ e => s a _ e⟩
theorem Kt.but {xs : List V} (hp : H p = some (.lst xs)) (b : But p H H') : Kt H H' :=
  ⟨fun a _ e => b a _ (ne_of e hp (fun z => nomatch z)) e, fun a _ _ _ e => b a _ (ne_of e hp (fun z => nomatch z)) e⟩
theorem Kt.hand {c : Addr} (h : HandC H p c) (b : But p H H') : Kt H H' := by
  obtain ⟨_, _, _, _, hp, _⟩ := h
  exact Kt.but hp b
theorem Kt.lst {xs ys : List V} (hp : H p = some (.lst xs)) : Kt H (upd H p (.lst ys)) :=
  Kt.but hp fun b o hb e => by rw [upd_ne hb]; exact e
theorem shp_list {ds : List PyData} (h : SeqAt.shaped (.tuple ds) = true) : ∀ d ∈ ds, SeqAt.shaped d = true := by
  intro d hd
  unfold SeqAt.shaped at h ⊢
  obtain ⟨g1, g2⟩ := and_ok h
  have g3 := of_decide_eq_true g2
  have h1 : PyData.canLayAll0 ds = true := by simpa [PyData.canLay0] using g1
  have h2 : PyData.depthAll ds + 1 ≤ 64 := by simpa [PyData.depth] using g3
  have q : d.canLay0 = true ∧ d.depth ≤ PyData.depthAll ds := by
    clear g1 g2 g3 h2 h
    induction ds with
    | nil => simp at hd
    | cons e es ih =>
      obtain ⟨a, b⟩ := and_ok (show (PyData.canLay0 e && PyData.canLayAll0 es) = true by simpa [PyData.canLayAll0] using h1); rcases List.mem_cons.mp hd with rfl | hd
      · exact ⟨a, by simp only [PyData.depthAll]; omega⟩
      · obtain ⟨q1, q2⟩ := ih hd b
        exact ⟨q1, by simp only [PyData.depthAll]; omega⟩
  rw [q.1, decide_eq_true (by omega)]
  rfl
end
theorem shp_lt (L : Lt) : SeqAt.shaped L.d = true := by cases L <;> kernel_rfl
theorem shp_ts (T : Ts) : SeqAt.shaped T.d = true := by cases T <;> kernel_rfl
def Small (n : Nat) (d : PyData) : Prop := d.canLay0 = true ∧ d.depth ≤ n
theorem canAll_of : ∀ {ds : List PyData}, (∀ d ∈ ds, d.canLay0 = true) → PyData.canLayAll0 ds = true
  | [], _ => by simp [PyData.canLayAll0]
  | d :: ds, h => by
    have ih := canAll_of (ds := ds) fun e he => h e (List.mem_cons_of_mem _ he)
    simp only [PyData.canLayAll0, h d List.mem_cons_self, ih, Bool.and_self]
theorem depAll_of {n : Nat} : ∀ {ds : List PyData}, (∀ d ∈ ds, d.depth ≤ n) → PyData.depthAll ds ≤ n
  | [], _ => by simp [PyData.depthAll]
  | d :: ds, h => by
    have ih := depAll_of (ds := ds) fun e he => h e (List.mem_cons_of_mem _ he)
    have := h d List.mem_cons_self
    simp only [PyData.depthAll]
    omega
theorem small_tup {n : Nat} {ds : List PyData} (h : ∀ d ∈ ds, Small n d) : Small (n + 1) (.tuple ds) := by
  refine ⟨?_, ?_⟩
  · simp only [PyData.canLay0]
    exact canAll_of fun d hd => (h d hd).1
  · simp only [PyData.depth]
    have := depAll_of (ds := ds) (n := n) fun d hd => (h d hd).2
    omega
theorem small_lst {n : Nat} {ds : List PyData} (h : ∀ d ∈ ds, Small n d) : Small (n + 1) (.list ds) := by
  refine ⟨?_, ?_⟩
  · simp only [PyData.canLay0]
    exact canAll_of fun d hd => (h d hd).1
  · simp only [PyData.depth]
    have := depAll_of (ds := ds) (n := n) fun d hd => (h d hd).2
    omega
theorem Small.shaped {n : Nat} {d : PyData} (h : Small n d) (hn : n ≤ 64) : SeqAt.shaped d = true := by
  have h1 := h.1
  have h2 := h.2
  unfold SeqAt.shaped
  rw [h1, decide_eq_true (by omega)]
  rfl
theorem same_at {H H' : Hp} {D : Addr} {o : HO} (s : Same H H') (hD : H D = none) : Same H (upd H' D o) := fun b u e => by
  rw [upd_ne (ne_of_none e hD)]
  exact s b u e
/-- (a, b, ..) = a list or a tuple of that length -/
def gTupA (n : Nat) (t : TGs) : TG := fun v σ H Q => ∃ a xs, v = .ref a ∧ SqA H a xs ∧ xs.length = n ∧ t xs σ H Q
theorem pg_tupA {X : L2.Cx} {pos : Pos} {es : List Expr} {k : Nat} {t : TGs} {n : Nat} (hc : X.calm = true) (h : PGs X es t)
    (hn : (assignEach es X.env).length = n := by rfl) (hst : (assignEach es X.env).findIdx? (·.1) = none := by rfl) : PG X (.Tuple es k pos) (gTupA n t) := by
  refine ⟨fun pins s σ H v u Q I r hw => ?_⟩; obtain ⟨a, xs, e1, hq, hl, hw⟩ := hw
  rcases hq with hq | hq
  · exact (pg_unl hc h hn hst).run pins s σ H v u Q I r ⟨a, xs, e1, SqL.of hq, hl, hw⟩
  · exact (pg_tup hc h hn hst).run pins s σ H v u Q I r ⟨a, xs, e1, SqT.of hq, hl, hw⟩
/-- tuple(x), as a reading that does not name where it stands -/
def rTupOf (K : PySem.W.Frag) : List V → Hp → VK → Prop := fun xs H Q => ∃ p ys, xs = [.ref p] ∧ ((SqL K H p ys ∧ ∀ l, H l = none → Q (.ref l) (upd H l (.tup ys))) ∨ (SqT K H p ys ∧ Q (.ref p) H))
theorem take_snoc {α : Type} {l : List α} {i : Nat} {x : α} (e : l[i]? = some x) : l.take (i + 1) = l.take i ++ [x] := by
  rw [List.take_add_one, e]
  rfl
/-- a row of odd things so far -/
structure Od (p c : Addr) (H0 : Hp) (R : PyData → Prop) (H : Hp) (xs : List V) : Prop where
  b : But p H0 H
  h : HandC H p c
  x : ∀ v ∈ xs, ∃ d, Tg p H v d ∧ R d
section
variable {p c : Addr} {H0 H H' : Hp} {R : PyData → Prop} {xs : List V}
theorem Od.but (a : Od p c H0 R H xs) (b : But p H H') (h : HandC H' p c) : Od p c H0 R H' xs :=
  ⟨a.b.trans b, h, fun v hv => by obtain ⟨d, t, r⟩ := a.x v hv; exact ⟨d, Tg.but b _ _ t, r⟩⟩
theorem Od.alloc (a : Od p c H0 R H xs) {t : Addr} {o : HO} (h : H t = none) : Od p c H0 R (upd H t o) xs := a.but (But.of (same_new (Same.refl H) h)) (a.h.same (same_new (Same.refl H) h))
theorem Od.add (a : Od p c H0 R H xs) {x : V} {d : PyData} (t : Tg p H x d) (r : R d) : Od p c H0 R H (xs ++ [x]) :=
  ⟨a.b, a.h, fun v hv => by
    rcases List.mem_append.mp hv with hv | hv
    · exact a.x v hv
    · rw [List.mem_singleton.mp hv]; exact ⟨d, t, r⟩⟩
theorem Od.nil (h : HandC H p c) : Od p c H R H [] := ⟨But.refl p H, h, fun v hv => by cases hv⟩
end
theorem wDd_no {lo hi m : Int} (h : ¬ (lo ≤ m ∧ m ≤ hi)) : wDd lo hi (.int m) = false := by
  show (decide (lo ≤ m) && decide (m ≤ hi)) = false
  by_cases h1 : lo ≤ m
  · rw [decide_eq_false (p := m ≤ hi) fun z => h ⟨h1, z⟩, Bool.and_false]
  · rw [decide_eq_false h1]; rfl
theorem Small.mono {a b : Nat} {d : PyData} (h : Small a d) (l : a ≤ b) : Small b d := ⟨h.1, Nat.le_trans h.2 l⟩
theorem cut_from {xs : List V} {i : Nat} : cutV xs (some (i : Int)) none = xs.drop i := by
  unfold cutV
  rw [HT.sIx_nat, HT.sIx_none]
  by_cases h : i ≤ xs.length
  · rw [Nat.min_eq_left h, List.take_of_length_le (by rw [List.length_drop]; exact Nat.le_refl _)]
  · rw [Nat.min_eq_right (by omega), List.drop_of_length_le (Nat.le_refl _), List.drop_of_length_le (by omega), List.take_nil]
theorem cut_to {xs : List V} {i : Nat} : cutV xs none (some (i : Int)) = xs.take i := by
  unfold cutV
  rw [HT.sIx_nat, HT.sIx_none, List.drop_zero, Nat.sub_zero]
  by_cases h : i ≤ xs.length
  · rw [Nat.min_eq_left h]
  · rw [Nat.min_eq_right (by omega), List.take_length, List.take_of_length_le (by omega)]
section
variable {p : Addr} {H H' : Hp}
theorem TgAll.app : ∀ {xs ys : List V} {ds es : List PyData}, TgAll p H xs ds → TgAll p H ys es → TgAll p H (xs ++ ys) (ds ++ es)
  | _, _, _, _, .nil, h => h
  | _, _, _, _, .cons a r, h => .cons a (TgAll.app r h)
theorem TgAll.drop : ∀ {xs : List V} {ds : List PyData} (i : Nat), TgAll p H xs ds → TgAll p H (xs.drop i) (ds.drop i)
  | _, _, 0, h => h
  | _, _, i + 1, .nil => .nil
  | _, _, i + 1, .cons _ r => TgAll.drop i r
theorem TgAll.take : ∀ {xs : List V} {ds : List PyData} (i : Nat), TgAll p H xs ds → TgAll p H (xs.take i) (ds.take i)
  | _, _, 0, _ => .nil
  | _, _, i + 1, .nil => .nil
  | _, _, i + 1, .cons a r => .cons a (TgAll.take i r)
theorem TgAll.same {xs : List V} {ds : List PyData} (s : Same H H') (h : TgAll p H xs ds) : TgAll p H' xs ds := TgAll.but (But.of s) _ _ h
end
theorem ite_b {b : Bool} {p q : Prop} (h1 : b = true → p) (h2 : b = false → q) : if b = true then p else q := by
  cases b with
  | true => exact h1 rfl
  | false => exact h2 rfl
theorem smallB {n : Nat} (h : n ≤ 60000) : n < sizeLine := by
  rw [sizeLine_eq]
  omega
/-! ### data that stays while only S changes -/
abbrev Ad := Addr → Prop
/-- all but what stands in S as it was -/
def Frm (S : Ad) (H H' : Hp) : Prop := ∀ a o, ¬ S a → H a = some o → H' a = some o
def isT : HO → Prop
  | .tup _ => True
  | .xd _ => True
  | _ => False
/-- what stands in S is there, and no tuple -/
def Old (S : Ad) (H : Hp) : Prop := ∀ a, S a → ∃ o, H a = some o ∧ ¬ isT o
section
variable {S T : Ad} {H H1 H2 H' : Hp} {a b : Addr} {o : HO}
theorem Frm.refl (S : Ad) (H : Hp) : Frm S H H := fun _ _ _ e => e
theorem Frm.of (s : Same H H') : Frm S H H' := fun a o _ e => s a o e
theorem Frm.trans (x : Frm S H H1) (y : Frm S H1 H2) : Frm S H H2 := fun a o n e => y a o n (x a o n e)
theorem Frm.wide (x : Frm S H H') (h : ∀ a, S a → T a) : Frm T H H' := fun a o n e => x a o (fun z => n (h a z)) e
/-- S and one place more -/
def Ad.add (S : Ad) (a : Addr) : Ad := fun b => S b ∨ b = a
theorem Frm.put (x : Frm S H H') (h : S a) : Frm S H (upd H' a o) := fun b u n e => by
  rw [upd_ne (fun z => n (by rw [z]; exact h))]
  exact x b u n e
theorem Old.same (x : Old S H) (s : Same H H') : Old S H' := fun a h => let ⟨o, e, n⟩ := x a h; ⟨o, s a o e, n⟩
theorem Old.put (x : Old S H) (m : ¬ isT o) : Old S (upd H a o) := fun b h => by
  by_cases q : b = a
  · rw [q, upd_same]; exact ⟨o, rfl, m⟩
  · rw [upd_ne q]; exact x b h
theorem Old.add (x : Old S H) (e : H a = some o) (m : ¬ isT o) : Old (S.add a) H := fun b h => by
  rcases h with h | rfl
  · exact x b h
  · exact ⟨o, e, m⟩
theorem Old.new (x : Old S H) (m : ¬ isT o) : Old (S.add a) (upd H a o) := fun b h => by
  rcases h with h | rfl
  · exact x.put m b h
  · exact ⟨o, upd_same, m⟩
theorem Old.not (x : Old S H) (n : H a = none) : ¬ S a := fun h => by
  obtain ⟨o, e, _⟩ := x a h
  rw [n] at e; cases e
theorem Old.tup {xs : List V} (x : Old S H) (e : H a = some (.tup xs)) : ¬ S a := fun h => by
  obtain ⟨o, e2, n⟩ := x a h
  rw [e] at e2; cases e2
  exact n trivial
theorem Frm.add (n : H a = none) (x : Frm (S.add a) H H') : Frm S H H' := fun b u m e => x b u (fun z => z.elim m (ne_of_none e n)) e
theorem Frm.new (n : H a = none) (x : Frm (S.add a) (upd H a o) H') : Frm S H H' := fun b u m e => by
  have ne : b ≠ a := ne_of_none e n
  exact x b u (fun z => z.elim m ne) (by rw [upd_ne ne]; exact e)
theorem Frm.gone (x : Frm S H H') (y : Old S H') (n : H' a = none) : H a = none := by
  cases e : H a with
  | none => rfl
  | some o =>
    by_cases h : S a
    · exact absurd h (y.not n)
    · rw [x a o h e] at n; cases n
theorem Frm.same (x : Frm (fun _ => False) H H') : Same H H' := fun a o e => x a o (fun z => z) e
end
/-- a key's data -/
def keyD : Key → PyData
  | .inl i => .int i
  | .inr z => .str z
mutual
/-- data at x -/
inductive Da (K : PySem.W.Frag) (S : Ad) (H : Hp) : V → PyData → Prop
  | non : Da K S H .non .none
  | bl (b : Bool) : Da K S H (.bl b) (.bool b)
  | int (n : Int) : Da K S H (.int n) (.int n)
  | str (z : Str) : Da K S H (.str z) (.str z)
  | ref {a : Addr} {d : PyData} : Ho K S H a d → ¬ S a → Da K S H (.ref a) d
/-- what stands at a; an instance of C is the pair of None and its name, then its attributes -/
inductive Ho (K : PySem.W.Frag) (S : Ad) (H : Hp) : Addr → PyData → Prop
  | lst {a : Addr} {xs : List V} {ds : List PyData} : H a = some (.lst xs) → DaL K S H xs ds → Ho K S H a (.list ds)
  | tup {a : Addr} {xs : List V} {ds : List PyData} : H a = some (.tup xs) → DaL K S H xs ds → Ho K S H a (.tuple ds)
  | ins {a dx : Addr} {C : Str} {fs : List (Str × V)} {gs : List (PyData × PyData)} : H a = some (.ins (He.ga K C) dx fs) → DaF K S H (fs.map fun p => (PyData.str p.1, p.2)) gs → Ho K S H a (.dict ((.none, .str C) :: gs))
  | dic {a : Addr} {kvs : List (Key × V)} {gs : List (PyData × PyData)} : H a = some (.dK kvs) → DaF K S H (kvs.map fun p => (keyD p.1, p.2)) gs → Ho K S H a (.dict gs)
  | dit {a : Addr} {kvs : List (List Key × V)} {gs : List (PyData × PyData)} : H a = some (.dT kvs) → DaF K S H (kvs.map fun p => (PyData.tuple (p.1.map keyD), p.2)) gs → Ho K S H a (.dict ((.bool true, .none) :: gs))
inductive DaL (K : PySem.W.Frag) (S : Ad) (H : Hp) : List V → List PyData → Prop
  | nil : DaL K S H [] []
  | cons {x : V} {xs : List V} {d : PyData} {ds : List PyData} : Da K S H x d → DaL K S H xs ds → DaL K S H (x :: xs) (d :: ds)
inductive DaF (K : PySem.W.Frag) (S : Ad) (H : Hp) : List (PyData × V) → List (PyData × PyData) → Prop
  | nil : DaF K S H [] []
  | cons {f : PyData} {x : V} {fs : List (PyData × V)} {d : PyData} {gs : List (PyData × PyData)} : Da K S H x d → DaF K S H fs gs → DaF K S H ((f, x) :: fs) ((f, d) :: gs)
end
section
variable {K : PySem.W.Frag} {S T : Ad} {H H1 H2 H' : Hp} {a b : Addr} {o : HO}
/-- what holds of the places holds of all -/
theorem da_rec {S' : Ad} {G : Hp} (w : ∀ a o, H a = some o → ¬ S a → G a = some o ∧ ¬ S' a) : (∀ {x : V} {d : PyData}, Da K S H x d → Da K S' G x d) ∧ (∀ {a : Addr} {d : PyData}, Ho K S H a d → G a = H a → Ho K S' G a d) ∧ (∀ {xs : List V} {ds : List PyData}, DaL K S H xs ds → DaL K S' G xs ds) ∧ (∀ {fs : List (PyData × V)} {gs : List (PyData × PyData)}, DaF K S H fs gs → DaF K S' G fs gs) := by
  have A : ∀ (xs : List V) (ds : List PyData) (h : DaL K S H xs ds), DaL K S' G xs ds := fun xs ds h =>
    DaL.rec (motive_1 := fun x d _ => Da K S' G x d) (motive_2 := fun a d _ => ((∃ o, H a = some o ∧ (G a = some o → Ho K S' G a d)))) (motive_3 := fun xs ds _ => DaL K S' G xs ds) (motive_4 := fun fs gs _ => DaF K S' G fs gs)
      .non .bl .int .str (fun _ n r => by obtain ⟨o, e, r⟩ := r; exact .ref (r (w _ _ e n).1) (w _ _ e n).2)
      (fun e _ r => ⟨_, e, fun e2 => .lst e2 r⟩) (fun e _ r => ⟨_, e, fun e2 => .tup e2 r⟩) (fun e _ r => ⟨_, e, fun e2 => .ins e2 r⟩) (fun e _ r => ⟨_, e, fun e2 => .dic e2 r⟩) (fun e _ r => ⟨_, e, fun e2 => .dit e2 r⟩)
      .nil (fun _ _ h r => .cons h r) .nil (fun _ _ h r => .cons h r) h
  have B : ∀ (x : V) (d : PyData) (h : Da K S H x d), Da K S' G x d := fun x d h => by
    cases A [x] [d] (.cons h .nil) with | cons h _ => exact h
  have C : ∀ (fs : List (PyData × V)) (gs : List (PyData × PyData)) (h : DaF K S H fs gs), DaF K S' G fs gs := fun fs gs h => by
    induction fs generalizing gs with
    | nil => cases h; exact .nil
    | cons p r ih => cases h with | cons h k => exact .cons (B _ _ h) (ih _ k)
  refine ⟨fun h => B _ _ h, fun h e => ?_, fun h => A _ _ h, fun h => C _ _ h⟩
  cases h with
  | lst q r => exact .lst (e.trans q) (A _ _ r)
  | tup q r => exact .tup (e.trans q) (A _ _ r)
  | ins q r => exact .ins (e.trans q) (C _ _ r)
  | dic q r => exact .dic (e.trans q) (C _ _ r)
  | dit q r => exact .dit (e.trans q) (C _ _ r)
theorem Da.keep (b : Frm S H H') {d : PyData} {x : V} (h : Da K S H x d) : Da K S H' x d := (da_rec fun a o e n => ⟨b _ _ n e, n⟩).1 h
theorem Ho.keep (b : Frm S H H') {d : PyData} (e : H' a = H a) (h : Ho K S H a d) : Ho K S H' a d := (da_rec fun a o e n => ⟨b _ _ n e, n⟩).2.1 h e
theorem DaL.keep (b : Frm S H H') {ds : List PyData} {xs : List V} (h : DaL K S H xs ds) : DaL K S H' xs ds := (da_rec fun a o e n => ⟨b _ _ n e, n⟩).2.2.1 h
theorem DaF.keep (b : Frm S H H') {gs : List (PyData × PyData)} {fs : List (PyData × V)} (h : DaF K S H fs gs) : DaF K S H' fs gs := (da_rec fun a o e n => ⟨b _ _ n e, n⟩).2.2.2 h
theorem Da.same {x : V} {d : PyData} (s : Same H H') (h : Da K S H x d) : Da K S H' x d := h.keep (Frm.of s)
theorem DaL.same {xs : List V} {ds : List PyData} (s : Same H H') (h : DaL K S H xs ds) : DaL K S H' xs ds := h.keep (Frm.of s)
/-- what is new may stand in S too -/
theorem Da.mono (w : ∀ a o, H a = some o → T a → S a) {d : PyData} {x : V} (h : Da K S H x d) : Da K T H x d := (da_rec fun a o e n => ⟨e, fun z => n (w _ _ e z)⟩).1 h
theorem Ho.mono (w : ∀ a o, H a = some o → T a → S a) {d : PyData} (h : Ho K S H a d) : Ho K T H a d := (da_rec fun a o e n => ⟨e, fun z => n (w _ _ e z)⟩).2.1 h rfl
theorem DaL.mono (w : ∀ a o, H a = some o → T a → S a) {ds : List PyData} {xs : List V} (h : DaL K S H xs ds) : DaL K T H xs ds := (da_rec fun a o e n => ⟨e, fun z => n (w _ _ e z)⟩).2.2.1 h
theorem DaF.mono (w : ∀ a o, H a = some o → T a → S a) {gs : List (PyData × PyData)} {fs : List (PyData × V)} (h : DaF K S H fs gs) : DaF K T H fs gs := (da_rec fun a o e n => ⟨e, fun z => n (w _ _ e z)⟩).2.2.2 h
theorem Da.less {x : V} {d : PyData} (h : Da K (S.add a) H x d) : Da K S H x d := h.mono fun _ _ _ z => .inl z
theorem DaL.less {xs : List V} {ds : List PyData} (h : DaL K (S.add a) H xs ds) : DaL K S H xs ds := h.mono fun _ _ _ z => .inl z
theorem Ho.less {b : Addr} {d : PyData} (h : Ho K (S.add a) H b d) : Ho K S H b d := h.mono fun _ _ _ z => .inl z
theorem Da.add {x : V} {d : PyData} (h : Da K S H x d) (n : H a = none) : Da K (S.add a) H x d := h.mono fun b o e z => z.elim id fun q => by rw [q, n] at e; cases e
theorem DaL.add {xs : List V} {ds : List PyData} (h : DaL K S H xs ds) (n : H a = none) : DaL K (S.add a) H xs ds := h.mono fun b o e z => z.elim id fun q => by rw [q, n] at e; cases e
theorem Ho.there {d : PyData} (h : Ho K S H a d) : ∃ o, H a = some o := by
  cases h with
  | lst q _ => exact ⟨_, q⟩
  | tup q _ => exact ⟨_, q⟩
  | ins q _ => exact ⟨_, q⟩
  | dic q _ => exact ⟨_, q⟩
  | dit q _ => exact ⟨_, q⟩
/-- no tuple -/
def NT (d : PyData) : Prop := ∀ ds, d ≠ .tuple ds
theorem nt_l {ds : List PyData} : NT (.list ds) := fun _ z => nomatch z
theorem nt_d {gs : List (PyData × PyData)} : NT (.dict gs) := fun _ z => nomatch z
theorem Ho.nt {d : PyData} (h : Ho K S H a d) (n : NT d) : ∃ o, H a = some o ∧ ¬ isT o := by
  cases h with
  | lst q _ => exact ⟨_, q, fun z => z⟩
  | tup q _ => exact absurd rfl (n _)
  | ins q _ => exact ⟨_, q, fun z => z⟩
  | dic q _ => exact ⟨_, q, fun z => z⟩
  | dit q _ => exact ⟨_, q, fun z => z⟩
/-- data of what is there: on to a later heap with other places taken -/
theorem Da.on {x : V} {d : PyData} (f : Frm S H H') (t : ∀ a, T a → S a ∨ H a = none) (h : Da K S H x d) : Da K T H' x d := (da_rec fun a o e n => ⟨f a o n e, fun z => (t a z).elim n fun q => by rw [q] at e; cases e⟩).1 h
theorem DaL.on {xs : List V} {ds : List PyData} (f : Frm S H H') (t : ∀ a, T a → S a ∨ H a = none) (h : DaL K S H xs ds) : DaL K T H' xs ds := (da_rec fun a o e n => ⟨f a o n e, fun z => (t a z).elim n fun q => by rw [q] at e; cases e⟩).2.2.1 h
theorem da_dp : (∀ {x : V} {d : PyData}, Da K S H x d → d.canLay0 = true → Dp K H x d) ∧ (∀ {xs : List V} {ds : List PyData}, DaL K S H xs ds → PyData.canLayAll0 ds = true → DpAll K H xs ds) := by
  have A : ∀ (xs : List V) (ds : List PyData) (h : DaL K S H xs ds), PyData.canLayAll0 ds = true → DpAll K H xs ds := fun xs ds h =>
    DaL.rec (motive_1 := fun x d _ => d.canLay0 = true → Dp K H x d) (motive_2 := fun a d _ => d.canLay0 = true → Dp K H (.ref a) d) (motive_3 := fun xs ds _ => PyData.canLayAll0 ds = true → DpAll K H xs ds) (motive_4 := fun fs gs _ => True)
      (fun _ => .non) (fun b _ => .bl b) (fun n _ => .int n) (fun z _ => .str z) (fun _ _ r => r)
      (fun e _ r c => .lst (SqL.of e) (r (by simpa [PyData.canLay0] using c))) (fun e _ r c => .tup (SqT.of e) (r (by simpa [PyData.canLay0] using c))) (fun _ _ _ c => (by simp [PyData.canLay0] at c)) (fun _ _ _ c => (by simp [PyData.canLay0] at c)) (fun _ _ _ c => (by simp [PyData.canLay0] at c))
      (fun _ => .nil) (fun _ _ h r c => (by
        simp only [PyData.canLayAll0, Bool.and_eq_true] at c
        exact .cons (h c.1) (r c.2))) trivial (fun _ _ h r => trivial) h
  refine ⟨fun {x d} h c => ?_, fun h c => A _ _ h c⟩
  cases A [x] [d] (.cons h .nil) (by simp [PyData.canLayAll0, c]) with | cons h _ => exact h
theorem Da.dp {d : PyData} {x : V} (h : Da K S H x d) (c : SeqAt.shaped d = true) : Dp K H x d := da_dp.1 h (and_ok c).1
theorem DaL.len : ∀ {xs : List V} {ds : List PyData}, DaL K S H xs ds → xs.length = ds.length
  | _, _, .nil => rfl
  | _, _, .cons _ r => congrArg Nat.succ (DaL.len r)
theorem DaL.get : ∀ {xs : List V} {ds : List PyData} {i : Nat} {d : PyData}, DaL K S H xs ds → ds[i]? = some d → ∃ x, xs[i]? = some x ∧ Da K S H x d
  | _, _, 0, _, .cons h _, e => by cases e; exact ⟨_, rfl, h⟩
  | _, _, i + 1, _, .cons _ r, e => DaL.get (i := i) r (by simpa using e)
  | _, _, _, _, .nil, hq => by simp at hq
theorem DaL.of {i : Nat} {x : V} : ∀ {xs : List V} {ds : List PyData}, DaL K S H xs ds → xs[i]? = some x → ∃ d, ds[i]? = some d ∧ Da K S H x d := fun {xs ds} h e => by
  have hi : i < ds.length := by rw [← h.len]; exact (List.getElem?_eq_some_iff.mp e).1
  obtain ⟨y, e2, h2⟩ := h.get (List.getElem?_eq_getElem hi)
  rw [e] at e2
  cases e2
  exact ⟨_, List.getElem?_eq_getElem hi, h2⟩
theorem DaL.app : ∀ {xs ys : List V} {ds es : List PyData}, DaL K S H xs ds → DaL K S H ys es → DaL K S H (xs ++ ys) (ds ++ es)
  | _, _, _, _, .nil, k => k
  | _, _, _, _, .cons h r, k => .cons h (DaL.app r k)
theorem DaL.take : ∀ {xs : List V} {ds : List PyData} (i : Nat), DaL K S H xs ds → DaL K S H (xs.take i) (ds.take i)
  | _, _, 0, _ => .nil
  | _, _, _ + 1, .nil => .nil
  | _, _, i + 1, .cons h r => .cons h (DaL.take i r)
theorem DaL.drop : ∀ {xs : List V} {ds : List PyData} (i : Nat), DaL K S H xs ds → DaL K S H (xs.drop i) (ds.drop i)
  | _, _, 0, k => k
  | _, _, _ + 1, .nil => .nil
  | _, _, i + 1, .cons h r => DaL.drop i r
theorem DaL.set {x : V} {d : PyData} : ∀ {xs : List V} {ds : List PyData} (i : Nat), DaL K S H xs ds → Da K S H x d → DaL K S H (xs.set i x) (ds.set i d)
  | _, _, _, .nil, _ => .nil
  | _, _, 0, .cons _ r, k => .cons k r
  | _, _, i + 1, .cons h r, k => .cons h (DaL.set i r k)
theorem DaL.ints : ∀ ns : List Int, DaL K S H (ns.map V.int) (ns.map PyData.int)
  | [] => .nil
  | n :: r => .cons (.int n) (DaL.ints r)
theorem DaL.int_inv : ∀ {ns : List Int} {xs : List V}, DaL K S H xs (ns.map PyData.int) → xs = ns.map V.int
  | [], _, h => by cases h; rfl
  | n :: r, _, h => by cases h with | cons h k => cases h with
    | int _ => rw [DaL.int_inv (ns := r) k]; rfl
    | ref h _ => cases h
theorem DaL.bl_inv : ∀ {ns : List Bool} {xs : List V}, DaL K S H xs (ns.map PyData.bool) → xs = ns.map V.bl
  | [], _, h => by cases h; rfl
  | n :: r, _, h => by cases h with | cons h k => cases h with
    | bl _ => rw [DaL.bl_inv (ns := r) k]; rfl
    | ref h _ => cases h
theorem DaL.str_inv : ∀ {ns : List Str} {xs : List V}, DaL K S H xs (ns.map PyData.str) → xs = ns.map V.str
  | [], _, h => by cases h; rfl
  | n :: r, _, h => by cases h with | cons h k => cases h with
    | str _ => rw [DaL.str_inv (ns := r) k]; rfl
    | ref h _ => cases h
theorem Da.int_inv {x : V} {n : Int} (h : Da K S H x (.int n)) : x = .int n := by
  cases h with
  | int _ => rfl
  | ref h _ => cases h
theorem Da.bl_inv {x : V} {n : Bool} (h : Da K S H x (.bool n)) : x = .bl n := by
  cases h with
  | bl _ => rfl
  | ref h _ => cases h
theorem Da.str_inv {x : V} {n : Str} (h : Da K S H x (.str n)) : x = .str n := by
  cases h with
  | str _ => rfl
  | ref h _ => cases h
theorem Da.non_inv {x : V} (h : Da K S H x .none) : x = .non := by
  cases h with
  | non => rfl
  | ref h _ => cases h
theorem Da.none_iff {x : V} {d : PyData} (h : Da K S H x d) : x = .non ↔ d = .none := by
  constructor
  · rintro rfl; cases h; rfl
  · rintro rfl; exact h.non_inv
/-- a list or a tuple of data -/
theorem Da.rows {d : PyData} {x : V} {ds : List PyData} (h : Da K S H x d) (e : rowsOf d = some ds) : ∃ a xs, x = .ref a ∧ SqA H a xs ∧ ¬ S a ∧ DaL K S H xs ds := by
  cases h with
  | ref h n =>
    cases h with
    | lst e1 r => cases e; exact ⟨_, _, rfl, .inl e1, n, r⟩
    | tup e1 r => cases e; exact ⟨_, _, rfl, .inr e1, n, r⟩
    | _ => cases e
  | _ => cases e
theorem Ho.lst_inv {ds : List PyData} (h : Ho K S H a (.list ds)) : ∃ xs, H a = some (.lst xs) ∧ DaL K S H xs ds := by
  cases h with
  | lst e r => exact ⟨_, e, r⟩
theorem Da.tup_inv {ds : List PyData} {x : V} (h : Da K S H x (.tuple ds)) : ∃ a xs, x = .ref a ∧ H a = some (.tup xs) ∧ ¬ S a ∧ DaL K S H xs ds := by
  cases h with
  | ref h n =>
    cases h with
    | tup e1 r => exact ⟨_, _, rfl, e1, n, r⟩
theorem Da.lst_inv {ds : List PyData} {x : V} (h : Da K S H x (.list ds)) : ∃ a xs, x = .ref a ∧ H a = some (.lst xs) ∧ ¬ S a ∧ DaL K S H xs ds := by
  cases h with
  | ref h n =>
    cases h with
    | lst e1 r => exact ⟨_, _, rfl, e1, n, r⟩
theorem sq_of {xs : List V} (h : SqA H a xs) : SqL K H a xs ∨ SqT K H a xs := h.elim (fun e => .inl (SqL.of e)) fun e => .inr (SqT.of e)
theorem Da.new_tup {xs : List V} {ds : List PyData} (old : Old S H) (n : H a = none) (h : DaL K S H xs ds) : Da K S (upd H a (.tup xs)) (.ref a) (.tuple ds) :=
  .ref (.tup upd_same (h.same (same_new (Same.refl H) n))) (old.not n)
theorem Da.new_lst {xs : List V} {ds : List PyData} (old : Old S H) (n : H a = none) (h : DaL K S H xs ds) : Da K S (upd H a (.lst xs)) (.ref a) (.list ds) :=
  .ref (.lst upd_same (h.same (same_new (Same.refl H) n))) (old.not n)
/-- what is neither list, tuple, dict nor instance -/
def Prim : PyData → Prop
  | .none => True
  | .bool _ => True
  | .int _ => True
  | .str _ => True
  | _ => False
theorem Da.prim {x : V} {d : PyData} (p : Prim d) (h : Da K S H x d) : Da K T H' x d := by
  cases h with
  | non => exact .non
  | bl b => exact .bl b
  | int n => exact .int n
  | str z => exact .str z
  | ref h _ => cases h <;> exact p.elim
end
/-! ### slots of data -/
inductive En where
  | no
  | da (d : PyData)
  | own (d : PyData)
  | raw (v : V)
/-- what may change (M), and what holds of it by its ghost; its data keep off T -/
structure Co (γ : Type) where
  M : Ad
  I : Ad → γ → Hp → Prop
  old : ∀ T g H, I T g H → Old M H
  keep : ∀ T g H H', (∀ a, M a → T a) → (∀ a, M a → H' a = H a) → Frm T H H' → I T g H → I T g H'
  mono : ∀ T T' g H, (∀ a o, H a = some o → T' a → T a) → I T g H → I T' g H
/-- the objects that are grown here -/
def Tow (σ : L2.St) (ρ : List En) : Ad := fun a => ∃ (i : Nat) (d : PyData), ρ[i]? = some (En.own d) ∧ σ[i]? = some (some (V.ref a))
def SS (S : Ad) (σ : L2.St) (ρ : List En) : Ad := fun a => S a ∨ Tow σ ρ a
structure Sl {γ : Type} (K : PySem.W.Frag) (C : Co γ) (S : Ad) (H0 : Hp) (g : γ) (H : Hp) (σ : L2.St) (ρ : List En) : Prop where
  frm : Frm C.M H0 H
  old : Old S H
  sub : ∀ a, C.M a → S a
  tn : ∀ a, Tow σ ρ a → H0 a = none ∧ ¬ S a
  I : C.I (SS S σ ρ) g H
  len : σ.length = ρ.length
  da : ∀ (i : Nat) d, ρ[i]? = some (En.da d) → ∃ x, σ[i]? = some (some x) ∧ Da K (SS S σ ρ) H x d
  own : ∀ (i : Nat) d, ρ[i]? = some (En.own d) → ∃ o, σ[i]? = some (some (V.ref o)) ∧ Ho K (SS S σ ρ) H o d
  raw : ∀ (i : Nat) v, ρ[i]? = some (En.raw v) → σ[i]? = some (some v)
  nt : ∀ (i : Nat) d, ρ[i]? = some (En.own d) → NT d
  inj : ∀ (i j : Nat) d e o, ρ[i]? = some (En.own d) → ρ[j]? = some (En.own e) → σ[i]? = some (some (V.ref o)) → σ[j]? = some (some (V.ref o)) → i = j
section
variable {γ : Type} {K : PySem.W.Frag} {C : Co γ} {S S' : Ad} {H0 H H1 H2 H' : Hp} {g g' : γ} {σ σ1 σ' : L2.St} {ρ ρ1 ρ' : List En} {a b o : Addr} {i j : Nat} {d e d' : PyData} {x v : V} {ob : HO}
theorem Sl.olds (h : Sl K C S H0 g H σ ρ) : Old (SS S σ ρ) H := fun a ha => by
  rcases ha with ha | ⟨i, ds, e1, e2⟩
  · exact h.old a ha
  · obtain ⟨o, e3, e4⟩ := h.own i ds e1
    rw [e2] at e3
    cases e3
    exact e4.nt (h.nt i ds e1)
theorem Sl.subs (h : Sl K C S H0 g H σ ρ) : ∀ a, C.M a → SS S σ ρ a := fun a m => .inl (h.sub a m)
theorem Co.oldS (C : Co γ) (x : Old S H) (f : Frm C.M H H') (I : C.I S' g' H') : Old S H' := fun a ha => by
  by_cases m : C.M a
  · exact C.old _ _ _ I a m
  · obtain ⟨o, e, n⟩ := x a ha
    exact ⟨o, f a o m e, n⟩
/-- on, where only M changes -/
theorem Sl.step (h : Sl K C S H0 g H σ ρ) (f : Frm C.M H H') (I : C.I (SS S σ ρ) g' H') : Sl K C S H0 g' H' σ ρ := by
  have fs : Frm (SS S σ ρ) H H' := f.wide h.subs
  refine ⟨h.frm.trans f, C.oldS h.old f I, h.sub, h.tn, I, h.len, fun i d e => ?_, fun i ds e => ?_, h.raw, h.nt, h.inj⟩
  · obtain ⟨x, e1, dx⟩ := h.da i d e
    exact ⟨x, e1, dx.keep fs⟩
  · obtain ⟨o, e1, e2⟩ := h.own i ds e
    obtain ⟨u, e3⟩ := e2.there
    exact ⟨o, e1, e2.keep fs ((f _ _ (fun z => (h.tn o ⟨i, ds, e, e1⟩).2 (h.sub _ z)) e3).trans e3.symm)⟩
theorem same_eq (s : Same H H') (x : Old S H) : ∀ a, S a → H' a = H a := fun a ha => by
  obtain ⟨o, e, _⟩ := x a ha
  rw [e]; exact s a o e
theorem Co.same (C : Co γ) {T : Ad} (t : ∀ a, C.M a → T a) (I : C.I T g H) (s : Same H H') : C.I T g H' := C.keep T g H H' t (same_eq s (C.old _ _ _ I)) (Frm.of s) I
theorem Sl.same (h : Sl K C S H0 g H σ ρ) (s : Same H H') : Sl K C S H0 g H' σ ρ := h.step (Frm.of s) (C.same h.subs h.I s)
theorem get_set {α : Type} {l : List α} {i j : Nat} {x y : α} (h : (l.set i x)[j]? = some y) : (i = j ∧ y = x) ∨ (i ≠ j ∧ l[j]? = some y) := by
  rw [List.getElem?_set] at h
  by_cases q : i = j
  · subst q
    rw [if_pos rfl] at h
    split at h
    · exact .inl ⟨rfl, (Option.some.inj h).symm⟩
    · cases h
  · rw [if_neg q] at h
    exact .inr ⟨q, h⟩
theorem set_ne {α : Type} {l : List α} {i j : Nat} {x : α} (q : i ≠ j) : (l.set i x)[j]? = l[j]? := by
  rw [List.getElem?_set, if_neg q]
theorem set_eq {α : Type} {l : List α} {i : Nat} {x : α} (q : i < l.length) : (l.set i x)[i]? = some x := by
  rw [List.getElem?_set, if_pos rfl, if_pos q]
/-- a slot that is set to what is not grown -/
theorem tow_set {e : En} {y : Option V} (ne : ∀ ds, e ≠ En.own ds) (h : Tow (σ.set i y) (ρ.set i e) a) : Tow σ ρ a := by
  obtain ⟨j, ds, e1, e2⟩ := h
  rcases get_set e1 with ⟨_, q⟩ | ⟨q, e1⟩
  · exact absurd q.symm (ne ds)
  · rw [set_ne q] at e2
    exact ⟨j, ds, e1, e2⟩
theorem Sl.set_opt (h : Sl K C S H0 g H σ ρ) {e : En} {y : Option V} (ne : ∀ ds, e ≠ En.own ds) (hd : ∀ d, e = En.da d → ∃ x, y = some x ∧ Da K (SS S σ ρ) H x d) (hr : ∀ v, e = En.raw v → y = some v) (hi : i < σ.length) : Sl K C S H0 g H (σ.set i y) (ρ.set i e) := by
  have w : ∀ a o, H a = some o → SS S (σ.set i y) (ρ.set i e) a → SS S σ ρ a := fun a o _ z => z.elim .inl fun z => .inr (tow_set ne z)
  refine ⟨h.frm, h.old, h.sub, fun a z => h.tn a (tow_set ne z), C.mono _ _ _ _ w h.I, by rw [List.length_set, List.length_set]; exact h.len, fun j d z => ?_, fun j ds z => ?_, fun j v z => ?_, fun j d z => (get_set z).elim (fun z => absurd z.2.symm (ne d)) fun z => h.nt j d z.2, fun j k ds es o z1 z2 z3 z4 => ?_⟩
  · rcases get_set z with ⟨rfl, q⟩ | ⟨q, z⟩
    · obtain ⟨x, rfl, dx⟩ := hd d q.symm
      exact ⟨x, set_eq hi, dx.mono w⟩
    · obtain ⟨y, e1, dy⟩ := h.da j d z
      exact ⟨y, by rw [set_ne q]; exact e1, dy.mono w⟩
  · rcases get_set z with ⟨rfl, q⟩ | ⟨q, z⟩
    · exact absurd q.symm (ne ds)
    · obtain ⟨o, e1, e2⟩ := h.own j ds z
      exact ⟨o, by rw [set_ne q]; exact e1, e2.mono w⟩
  · rcases get_set z with ⟨rfl, q⟩ | ⟨q, z⟩
    · rw [hr v q.symm]
      exact set_eq hi
    · rw [set_ne q]
      exact h.raw j v z
  · rcases get_set z1 with ⟨_, q⟩ | ⟨q1, z1⟩
    · exact absurd q.symm (ne ds)
    rcases get_set z2 with ⟨_, q⟩ | ⟨q2, z2⟩
    · exact absurd q.symm (ne es)
    rw [set_ne q1] at z3
    rw [set_ne q2] at z4
    exact h.inj j k ds es o z1 z2 z3 z4
theorem Sl.set_da (h : Sl K C S H0 g H σ ρ) (hd : Da K (SS S σ ρ) H x d) (hi : i < ρ.length) : Sl K C S H0 g H (σ.set i (some x)) (ρ.set i (En.da d)) :=
  h.set_opt (fun _ z => nomatch z) (fun d' z => by cases z; exact ⟨x, rfl, hd⟩) (fun _ z => nomatch z) (by rw [h.len]; exact hi)
theorem Sl.set_no {y : Option V} (h : Sl K C S H0 g H σ ρ) (hi : i < ρ.length) : Sl K C S H0 g H (σ.set i y) (ρ.set i En.no) :=
  h.set_opt (fun _ z => nomatch z) (fun _ z => nomatch z) (fun _ z => nomatch z) (by rw [h.len]; exact hi)
theorem Sl.set_raw (h : Sl K C S H0 g H σ ρ) (hi : i < ρ.length) : Sl K C S H0 g H (σ.set i (some x)) (ρ.set i (En.raw x)) :=
  h.set_opt (fun _ z => nomatch z) (fun _ z => nomatch z) (fun v z => by cases z; rfl) (by rw [h.len]; exact hi)
/-- a slot forgotten -/
theorem set_self {α : Type} {l : List α} {i : Nat} {x : α} (h : l[i]? = some x) : l.set i x = l := List.ext_getElem? fun j => by
  by_cases q : i = j
  · subst q; rw [set_eq (List.getElem?_eq_some_iff.mp h).1, h]
  · rw [set_ne q]
theorem Sl.drop (h : Sl K C S H0 g H σ ρ) (hi : i < ρ.length) : Sl K C S H0 g H σ (ρ.set i En.no) := by
  obtain ⟨y, e⟩ : ∃ y, σ[i]? = some y := ⟨_, List.getElem?_eq_getElem (by rw [h.len]; exact hi)⟩
  have z := h.set_no (y := y) hi
  rwa [set_self e] at z
theorem Sl.gone (h : Sl K C S H0 g H σ ρ) (n : H a = none) : H0 a = none := by
  cases e : H0 a with
  | none => rfl
  | some u =>
    by_cases m : C.M a
    · exact absurd (h.sub a m) (h.old.not n)
    · rw [h.frm a u m e] at n; cases n
theorem tow_own {y : V} {e : PyData} (hi : i < σ.length) (h : Tow (σ.set i (some y)) (ρ.set i (En.own e)) b) : y = .ref b ∨ Tow σ ρ b := by
  obtain ⟨j, es, e1, e2⟩ := h
  rcases get_set e1 with ⟨rfl, _⟩ | ⟨q, e1⟩
  · rw [set_eq hi] at e2
    cases e2
    exact .inl rfl
  · rw [set_ne q] at e2
    exact .inr ⟨j, es, e1, e2⟩
/-- a new object at a slot, to be grown -/
theorem Sl.set_own (h : Sl K C S H0 g H σ ρ) (n : H0 a = none) (ns : ¬ SS S σ ρ a) (I : C.I ((SS S σ ρ).add a) g H) (dd : ∀ (i : Nat) d, ρ[i]? = some (En.da d) → ∃ x, σ[i]? = some (some x) ∧ Da K ((SS S σ ρ).add a) H x d)
    (dO : ∀ (i : Nat) d, ρ[i]? = some (En.own d) → ∃ o, σ[i]? = some (some (V.ref o)) ∧ Ho K ((SS S σ ρ).add a) H o d) (dx : Ho K ((SS S σ ρ).add a) H a d) (nt : NT d) (hi : i < ρ.length) : Sl K C S H0 g H (σ.set i (some (V.ref a))) (ρ.set i (En.own d)) := by
  have hi' : i < σ.length := by rw [h.len]; exact hi
  have w : ∀ b u, H b = some u → SS S (σ.set i (some (V.ref a))) (ρ.set i (En.own d)) b → (SS S σ ρ).add a b := fun b u _ z => by
    rcases z with z | z
    · exact .inl (.inl z)
    · rcases tow_own hi' z with z | z
      · cases z; exact .inr rfl
      · exact .inl (.inr z)
  refine ⟨h.frm, h.old, h.sub, fun b z => ?_, C.mono _ _ _ _ w I, by rw [List.length_set, List.length_set]; exact h.len, fun j d z => ?_, fun j es z => ?_, fun j v z => ?_, fun j d' z => (get_set z).elim (fun z => by cases z.2; exact nt) fun z => h.nt j d' z.2, fun j k es fs o z1 z2 z3 z4 => ?_⟩
  · rcases tow_own hi' z with z | z
    · cases z; exact ⟨n, fun z => ns (.inl z)⟩
    · exact h.tn b z
  · rcases get_set z with ⟨_, q⟩ | ⟨q, z⟩
    · cases q
    · obtain ⟨y, e1, dy⟩ := dd j d z
      exact ⟨y, by rw [set_ne q]; exact e1, dy.mono w⟩
  · rcases get_set z with ⟨rfl, q⟩ | ⟨q, z⟩
    · cases q
      exact ⟨a, set_eq hi', dx.mono w⟩
    · obtain ⟨o, e1, e2⟩ := dO j es z
      exact ⟨o, by rw [set_ne q]; exact e1, e2.mono w⟩
  · rcases get_set z with ⟨_, q⟩ | ⟨q, z⟩
    · cases q
    · rw [set_ne q]
      exact h.raw j v z
  · have off : ∀ (k : Nat) fs, ρ[k]? = some (En.own fs) → σ[k]? ≠ some (some (V.ref a)) := fun k fs y1 y2 => ns (.inr ⟨k, fs, y1, y2⟩)
    rcases get_set z1 with ⟨rfl, _⟩ | ⟨q1, z1⟩ <;> rcases get_set z2 with ⟨rfl, _⟩ | ⟨q2, z2⟩
    · rfl
    · rw [set_eq hi'] at z3
      cases z3
      rw [set_ne q2] at z4
      exact absurd z4 (off _ _ z2)
    · rw [set_eq hi'] at z4
      cases z4
      rw [set_ne q1] at z3
      exact absurd z3 (off _ _ z1)
    · rw [set_ne q1] at z3
      rw [set_ne q2] at z4
      exact h.inj j k es fs o z1 z2 z3 z4
/-- .. just made: all else is older -/
theorem Sl.new_own (h : Sl K C S H0 g H σ ρ) (n : H a = none) (s : Same H H') (I : C.I (SS S σ ρ) g H') (dx : Ho K ((SS S σ ρ).add a) H' a d) (nt : NT d) (hi : i < ρ.length) : Sl K C S H0 g H' (σ.set i (some (V.ref a))) (ρ.set i (En.own d)) := by
  have h' := h.same s
  have t : ∀ b, (SS S σ ρ).add a b → SS S σ ρ b ∨ H b = none := fun b z => z.elim .inl fun z => .inr (z ▸ n)
  refine h'.set_own (h.gone n) (h.olds.not n) ?_ (fun i d e => ?_) (fun i d e => ?_) dx nt hi
  · exact C.same (fun b m => .inl (h.subs b m)) (C.mono _ _ _ _ (fun b o e z => (t b z).elim id fun q => by rw [q] at e; cases e) h.I) s
  · obtain ⟨x, e1, dx⟩ := h.da i d e
    exact ⟨x, e1, dx.on (Frm.of s) t⟩
  · obtain ⟨o, e1, dx⟩ := h.own i d e
    obtain ⟨u, e3⟩ := dx.there
    exact ⟨o, e1, (dx.mono (fun b o e z => (t b z).elim id fun q => by rw [q] at e; cases e)).keep (Frm.of s) ((s _ _ e3).trans e3.symm)⟩
/-- a grown object that is changed -/
theorem Sl.put_own (h : Sl K C S H0 g H σ ρ) (e : ρ[i]? = some (En.own d)) (eo : σ[i]? = some (some (V.ref o))) (dx : Ho K (SS S σ ρ) (upd H o ob) o d') (nt : NT d') : Sl K C S H0 g (upd H o ob) σ (ρ.set i (En.own d')) := by
  have hi : i < ρ.length := (List.getElem?_eq_some_iff.mp e).1
  have tw : ∀ b, Tow σ (ρ.set i (En.own d')) b ↔ Tow σ ρ b := fun b => by
    constructor
    · rintro ⟨j, fs, e1, e2⟩
      rcases get_set e1 with ⟨rfl, _⟩ | ⟨q, e1⟩
      · exact ⟨i, d, e, e2⟩
      · exact ⟨j, fs, e1, e2⟩
    · rintro ⟨j, fs, e1, e2⟩
      by_cases q : i = j
      · subst q
        exact ⟨i, d', set_eq hi, e2⟩
      · exact ⟨j, fs, by rw [set_ne q]; exact e1, e2⟩
  have ss : SS S σ (ρ.set i (En.own d')) = SS S σ ρ := funext fun b => propext ⟨fun z => z.elim .inl fun z => .inr ((tw b).mp z), fun z => z.elim .inl fun z => .inr ((tw b).mpr z)⟩
  have to : Tow σ ρ o := ⟨i, d, e, eo⟩
  have f : Frm (SS S σ ρ) H (upd H o ob) := (Frm.refl _ H).put (.inr to)
  have no : ¬ isT ob := by
    obtain ⟨u, e1, n⟩ := dx.nt nt
    rw [upd_same] at e1; cases e1; exact n
  refine ⟨fun b u m z => ?_, h.old.put no, h.sub, fun b z => h.tn b ((tw b).mp z), ?_, by rw [List.length_set]; exact h.len, fun j d z => ?_, fun j fs z => ?_, fun j v z => ?_, fun j d2 z => (get_set z).elim (fun z => by cases z.2; exact nt) fun z => h.nt j d2 z.2, fun j k fs gs b z1 z2 z3 z4 => ?_⟩
  · rw [upd_ne (ne_of_none z (h.tn o to).1)]
    exact h.frm b u m z
  · rw [ss]
    exact C.keep _ _ _ _ h.subs (fun b m => upd_ne fun z => (h.tn o to).2 (h.sub o (z ▸ m))) f h.I
  · rw [ss]
    rcases get_set z with ⟨_, q⟩ | ⟨q, z⟩
    · cases q
    · obtain ⟨y, e1, dy⟩ := h.da j d z
      exact ⟨y, e1, dy.keep f⟩
  · rw [ss]
    rcases get_set z with ⟨rfl, q⟩ | ⟨q, z⟩
    · cases q
      exact ⟨o, eo, dx⟩
    · obtain ⟨b, e1, dy⟩ := h.own j fs z
      refine ⟨b, e1, dy.keep f ?_⟩
      exact upd_ne (fun y => q (h.inj i j d fs o e z eo (by rw [← y]; exact e1)))
  · rcases get_set z with ⟨_, q⟩ | ⟨q, z⟩
    · cases q
    · exact h.raw j v z
  · have old : ∀ (k : Nat) fs, (ρ.set i (En.own d'))[k]? = some (En.own fs) → ∃ fs', ρ[k]? = some (En.own fs') := fun k fs y => by
      rcases get_set y with ⟨rfl, _⟩ | ⟨_, y⟩
      · exact ⟨d, e⟩
      · exact ⟨fs, y⟩
    obtain ⟨f1, y1⟩ := old j fs z1
    obtain ⟨f2, y2⟩ := old k gs z2
    exact h.inj j k f1 f2 b y1 y2 z3 z4
/-- a grown object, done -/
theorem Sl.freeze (h : Sl K C S H0 g H σ ρ) (e : ρ[i]? = some (En.own d)) : Sl K C S H0 g H σ (ρ.set i (En.da d)) := by
  have hi : i < ρ.length := (List.getElem?_eq_some_iff.mp e).1
  obtain ⟨o, e1, e2⟩ := h.own i d e
  have tw : ∀ b, Tow σ (ρ.set i (En.da d)) b → b ≠ o ∧ Tow σ ρ b := fun b => by
    rintro ⟨j, fs, y1, y2⟩
    rcases get_set y1 with ⟨_, q⟩ | ⟨q, y1⟩
    · cases q
    · exact ⟨fun z => q (h.inj i j d fs o e y1 e1 (z ▸ y2)), ⟨j, fs, y1, y2⟩⟩
  have w : ∀ b u, H b = some u → SS S σ (ρ.set i (En.da d)) b → SS S σ ρ b := fun b u _ z => z.elim .inl fun z => .inr (tw b z).2
  refine ⟨h.frm, h.old, h.sub, fun b z => h.tn b (tw b z).2, C.mono _ _ _ _ w h.I, by rw [List.length_set]; exact h.len, fun j d z => ?_, fun j fs z => ?_, fun j v z => ?_, fun j d2 z => (get_set z).elim (fun z => nomatch z.2) fun z => h.nt j d2 z.2, fun j k fs gs b z1 z2 z3 z4 => ?_⟩
  · rcases get_set z with ⟨rfl, q⟩ | ⟨q, z⟩
    · cases q
      exact ⟨.ref o, e1, .ref (e2.mono w) (fun z => z.elim (h.tn o ⟨i, _, e, e1⟩).2 fun z => (tw o z).1 rfl)⟩
    · obtain ⟨y, y1, dy⟩ := h.da j d z
      exact ⟨y, y1, dy.mono w⟩
  · rcases get_set z with ⟨_, q⟩ | ⟨q, z⟩
    · cases q
    · obtain ⟨b, y1, dy⟩ := h.own j fs z
      exact ⟨b, y1, dy.mono w⟩
  · rcases get_set z with ⟨_, q⟩ | ⟨q, z⟩
    · cases q
    · exact h.raw j v z
  · rcases get_set z1 with ⟨_, q⟩ | ⟨_, z1⟩
    · cases q
    rcases get_set z2 with ⟨_, q⟩ | ⟨_, z2⟩
    · cases q
    exact h.inj j k fs gs b z1 z2 z3 z4
/-- a step from slots and heap to others -/
structure Stp (S : Ad) (σ : L2.St) (ρ : List En) (H : Hp) (σ' : L2.St) (ρ' : List En) (H' : Hp) : Prop where
  f : Frm (SS S σ ρ) H H'
  t : ∀ a, Tow σ' ρ' a → Tow σ ρ a ∨ H a = none
  v : ∀ a, H' a = none → H a = none
theorem Stp.refl : Stp S σ ρ H σ ρ H := ⟨Frm.refl _ _, fun _ h => .inl h, fun _ h => h⟩
theorem Stp.trans (x : Stp S σ ρ H σ1 ρ1 H1) (y : Stp S σ1 ρ1 H1 σ' ρ' H') : Stp S σ ρ H σ' ρ' H' := by
  refine ⟨fun a o n e => y.f a o (fun z => ?_) (x.f a o n e), fun a z => ?_, fun a z => x.v a (y.v a z)⟩
  · rcases z with z | z
    · exact n (.inl z)
    · rcases x.t a z with z | z
      · exact n (.inr z)
      · rw [z] at e; cases e
  · rcases y.t a z with z | z
    · exact x.t a z
    · exact .inr (x.v a z)
theorem Stp.s (x : Stp S σ ρ H σ' ρ' H') : ∀ a, SS S σ' ρ' a → SS S σ ρ a ∨ H a = none := fun a z => z.elim (fun z => .inl (.inl z)) fun z => (x.t a z).elim (fun z => .inl (.inr z)) .inr
theorem upd_none {u : HO} (z : upd H a u b = none) : H b = none := by
  by_cases q : b = a
  · rw [q, upd_same] at z; cases z
  · rw [upd_ne q] at z; exact z
theorem Frm.van {M : Ad} (f : Frm M H H') (I : Old M H') (z : H' a = none) : H a = none := f.gone I z
/-- a step of the heap alone -/
theorem Sl.stp (h : Sl K C S H0 g H σ ρ) (f : Frm C.M H H') (I : C.I (SS S σ ρ) g' H') : Stp S σ ρ H σ ρ H' := ⟨f.wide h.subs, fun _ h => .inl h, fun _ z => f.gone (C.old _ _ _ I) z⟩
theorem Stp.set {e : En} {y : Option V} (ne : ∀ ds, e ≠ En.own ds) (x : Stp S σ ρ H σ' ρ' H') : Stp S σ ρ H (σ'.set i y) (ρ'.set i e) H' := ⟨x.f, fun a z => x.t a (tow_set ne z), x.v⟩
end
/-! ### readings by data -/
/-- what is passed -/
inductive ArL (K : PySem.W.Frag) (S : Ad) (H : Hp) : List V → List En → Prop
  | nil : ArL K S H [] []
  | da {x : V} {d : PyData} {xs : List V} {es : List En} : Da K S H x d → ArL K S H xs es → ArL K S H (x :: xs) (En.da d :: es)
  | raw {x : V} {xs : List V} {es : List En} : ArL K S H xs es → ArL K S H (x :: xs) (En.raw x :: es)
abbrev KD (γ : Type) := PyData → γ → Prop
abbrev KX (γ : Type) := Str → List (PyData × PyData) → γ → Prop
structure Bd (γ : Type) where
  K : PySem.W.Frag
  C : Co γ
  E : XK
  x : KX γ
/-- what an error bears -/
def XD (K : PySem.W.Frag) (S : Ad) (H : Hp) (od : Option Addr) (es : List (PyData × PyData)) : Prop := (od = none ∧ es = []) ∨ ∃ dd fs, od = some dd ∧ H dd = some (.xd fs) ∧ DaF K S H (fs.map fun p => (PyData.str p.1, p.2)) es
section
variable {γ γ' : Type}
def XE (B : Bd γ) (S : Ad) (H0 : Hp) : Prop := ∀ nm od H' g' es, Frm B.C.M H0 H' → B.C.I S g' H' → XD B.K S H' od es → B.x nm es g' → B.E (.ref (He.ga B.K nm)) od H'
def We (B : Bd γ) (te : TE) (g : γ) (ρ : List En) (k : KD γ) : Prop := ∀ S H0 σ H (Q : VK), Sl B.K B.C S H0 g H σ ρ → XE B S H0 → (∀ y H' d g', Frm B.C.M H H' → B.C.I (SS S σ ρ) g' H' → Da B.K (SS S σ ρ) H' y d → k d g' → Q y H') → te σ H Q
def Wt (B : Bd γ) (tt : TT) (g : γ) (ρ : List En) (k : Bool → γ → Prop) : Prop := ∀ S H0 σ H (Q : Bool → Hp → Prop), Sl B.K B.C S H0 g H σ ρ → XE B S H0 → (∀ b H' g', Frm B.C.M H H' → B.C.I (SS S σ ρ) g' H' → k b g' → Q b H') → tt σ H Q
def Wa (B : Bd γ) (ta : TA) (g : γ) (ρ : List En) (k : List En → γ → Prop) : Prop := ∀ S H0 σ H (Q : List V → Hp → Prop), Sl B.K B.C S H0 g H σ ρ → XE B S H0 → (∀ ys H' es g', Frm B.C.M H H' → B.C.I (SS S σ ρ) g' H' → ArL B.K (SS S σ ρ) H' ys es → k es g' → Q ys H') → ta σ H Q
/-- .. a new object that nothing else knows -/
def Wn (B : Bd γ) (te : TE) (g : γ) (ρ : List En) (k : KD γ) : Prop := ∀ S H0 σ H (Q : VK), Sl B.K B.C S H0 g H σ ρ → XE B S H0 → (∀ a H' d g', H a = none → Frm B.C.M H H' → B.C.I ((SS S σ ρ).add a) g' H' → Ho B.K ((SS S σ ρ).add a) H' a d → NT d → k d g' → Q (.ref a) H') → te σ H Q
def RdO (K : PySem.W.Frag) (r : R2) (f : PyData → PyData → (PyData → Prop) → Prop) : Prop := ∀ (T : Ad) (H : Hp) (x y : V) (d e : PyData) (k : PyData → Prop) (Q : VK), Old T H → Da K T H x d → Da K T H y e → f d e k → (∀ z H' u, Same H H' → Da K T H' z u → k u → Q z H') → r x y H Q
def RdU (K : PySem.W.Frag) (r : V → Hp → VK → Prop) (f : PyData → (PyData → Prop) → Prop) : Prop := ∀ (T : Ad) (H : Hp) (x : V) (d : PyData) (k : PyData → Prop) (Q : VK), Old T H → Da K T H x d → f d k → (∀ z H' u, Same H H' → Da K T H' z u → k u → Q z H') → r x H Q
def RdF (K : PySem.W.Frag) (r : List V → Hp → VK → Prop) (f : List PyData → (PyData → Prop) → Prop) : Prop := ∀ (T : Ad) (H : Hp) (xs : List V) (ds : List PyData) (k : PyData → Prop) (Q : VK), Old T H → DaL K T H xs ds → f ds k → (∀ z H' u, Same H H' → Da K T H' z u → k u → Q z H') → r xs H Q
/-- .. that makes a new object -/
def RnO (K : PySem.W.Frag) (r : R2) (f : PyData → PyData → (PyData → Prop) → Prop) : Prop := ∀ (T : Ad) (H : Hp) (x y : V) (d e : PyData) (k : PyData → Prop) (Q : VK), Old T H → Da K T H x d → Da K T H y e → f d e k → (∀ a H' u, H a = none → Same H H' → Ho K (T.add a) H' a u → NT u → k u → Q (.ref a) H') → r x y H Q
def RnF (K : PySem.W.Frag) (r : List V → Hp → VK → Prop) (f : List PyData → (PyData → Prop) → Prop) : Prop := ∀ (T : Ad) (H : Hp) (xs : List V) (ds : List PyData) (k : PyData → Prop) (Q : VK), Old T H → DaL K T H xs ds → f ds k → (∀ a H' u, H a = none → Same H H' → Ho K (T.add a) H' a u → NT u → k u → Q (.ref a) H') → r xs H Q
end
section
variable {γ γ' : Type} {B : Bd γ} {te ta tb : TE} {tt tu : TT} {tl : TA} {g : γ} {ρ : List En} {k k' : KD γ} {kb kb' : Bool → γ → Prop} {ka : List En → γ → Prop} {i : Nat} {d : PyData} {K : PySem.W.Frag}
theorem We.mono (h : We B te g ρ k) (m : ∀ d g', k d g' → k' d g') : We B te g ρ k' := fun S H0 σ H Q s x q => h S H0 σ H Q s x fun y H' d g' f I dy hk => q y H' d g' f I dy (m _ _ hk)
theorem Wt.mono (h : Wt B tt g ρ kb) (m : ∀ d g', kb d g' → kb' d g') : Wt B tt g ρ kb' := fun S H0 σ H Q s x q => h S H0 σ H Q s x fun b H' g' f I hk => q b H' g' f I (m _ _ hk)
theorem We_var (e : ρ[i]? = some (En.da d)) (h : k d g) : We B (tVar i) g ρ k := fun S H0 σ H Q s x q => by
  obtain ⟨y, e1, dy⟩ := s.da i d e
  exact ⟨y, e1, q y H d g (Frm.refl _ _) s.I dy h⟩
theorem We_int {n : Int} (h : k (.int n) g) : We B (tC (.int n)) g ρ k := fun S H0 σ H Q s x q => q _ H _ g (Frm.refl _ _) s.I (.int n) h
theorem We_bl {n : Bool} (h : k (.bool n) g) : We B (tC (.bl n)) g ρ k := fun S H0 σ H Q s x q => q _ H _ g (Frm.refl _ _) s.I (.bl n) h
theorem We_str {n : Str} (h : k (.str n) g) : We B (tC (.str n)) g ρ k := fun S H0 σ H Q s x q => q _ H _ g (Frm.refl _ _) s.I (.str n) h
theorem We_non (h : k .none g) : We B (tC .non) g ρ k := fun S H0 σ H Q s x q => q _ H _ g (Frm.refl _ _) s.I .non h
theorem We_op {r : R2} {f : PyData → PyData → (PyData → Prop) → Prop} (rd : RdO B.K r f) (h : We B ta g ρ fun d g1 => We B tb g1 ρ fun e g2 => f d e fun z => k z g2) : We B (tOp r ta tb) g ρ k := fun S H0 σ H Q s x q =>
  h S H0 σ H _ s x fun y1 H1 d g1 f1 I1 d1 h1 => h1 S H0 σ H1 _ (s.step f1 I1) x fun y2 H2 e g2 f2 I2 d2 h2 =>
    rd _ H2 y1 y2 d e _ _ ((s.step f1 I1).step f2 I2).olds (d1.keep (f2.wide s.subs)) d2 h2 fun z H3 u s3 dz hu => q z H3 u g2 ((f1.trans f2).trans (Frm.of s3)) (B.C.same s.subs I2 s3) dz hu
theorem We_un {r : V → Hp → VK → Prop} {f : PyData → (PyData → Prop) → Prop} (rd : RdU B.K r f) (h : We B ta g ρ fun d g1 => f d fun z => k z g1) : We B (tUn r ta) g ρ k := fun S H0 σ H Q s x q =>
  h S H0 σ H _ s x fun y1 H1 d g1 f1 I1 d1 h1 => rd _ H1 y1 d _ _ (s.step f1 I1).olds d1 h1 fun z H3 u s3 dz hu => q z H3 u g1 (f1.trans (Frm.of s3)) (B.C.same s.subs I1 s3) dz hu
theorem arl_da {T : Ad} {H : Hp} : ∀ {xs : List V} {ds : List PyData}, ArL K T H xs (ds.map En.da) → DaL K T H xs ds
  | _, [], .nil => .nil
  | _, _ :: _, .da h r => .cons h (arl_da r)
theorem ArL.keep {T : Ad} {H H' : Hp} (f : Frm T H H') : ∀ {xs : List V} {es : List En}, ArL K T H xs es → ArL K T H' xs es
  | _, _, .nil => .nil
  | _, _, .da h r => .da (h.keep f) (ArL.keep f r)
  | _, _, .raw r => .raw (ArL.keep f r)
theorem We_cb {r : List V → Hp → VK → Prop} {f : List PyData → (PyData → Prop) → Prop} (rd : RdF B.K r f) (h : Wa B tl g ρ fun es g1 => ∃ ds : List PyData, es = ds.map En.da ∧ f ds fun z => k z g1) : We B (tCB r tl) g ρ k := fun S H0 σ H Q s x q =>
  h S H0 σ H _ s x fun ys H1 es g1 f1 I1 a1 ⟨ds, e, h1⟩ => by
    subst e
    exact rd _ H1 ys ds _ _ (s.step f1 I1).olds (arl_da a1) h1 fun z H3 u s3 dz hu => q z H3 u g1 (f1.trans (Frm.of s3)) (B.C.same s.subs I1 s3) dz hu
theorem Wa_nil (h : ka [] g) : Wa B tNil g ρ ka := fun S H0 σ H Q s x q => q [] H [] g (Frm.refl _ _) s.I .nil h
theorem Wa_cons (h : We B te g ρ fun d g1 => Wa B tl g1 ρ fun es g2 => ka (En.da d :: es) g2) : Wa B (tCons te tl) g ρ ka := fun S H0 σ H Q s x q =>
  h S H0 σ H _ s x fun y H1 d g1 f1 I1 d1 h1 => h1 S H0 σ H1 _ (s.step f1 I1) x fun ys H2 es g2 f2 I2 a2 h2 => q _ H2 _ g2 (f1.trans f2) I2 (.da (d1.keep (f2.wide s.subs)) a2) h2
theorem Wa_raw {v : V} (e : ρ[i]? = some (En.raw v)) (h : Wa B tl g ρ fun es g2 => ka (En.raw v :: es) g2) : Wa B (tCons (tVar i) tl) g ρ ka := fun S H0 σ H Q s x q =>
  ⟨v, s.raw i v e, h S H0 σ H _ s x fun ys H2 es g2 f2 I2 a2 h2 => q _ H2 _ g2 f2 I2 (.raw a2) h2⟩
theorem Wa_ty {v : V} (h : Wa B tl g ρ fun es g2 => ka (En.raw v :: es) g2) : Wa B (tCons (tC v) tl) g ρ ka := fun S H0 σ H Q s x q =>
  h S H0 σ H _ s x fun ys H2 es g2 f2 I2 a2 h2 => q _ H2 _ g2 f2 I2 (.raw a2) h2
theorem We_tup (h : Wa B tl g ρ fun es g1 => ∃ ds : List PyData, es = ds.map En.da ∧ ds.length ≤ 60000 ∧ k (.tuple ds) g1) : We B (tTup tl) g ρ k := fun S H0 σ H Q s x q =>
  h S H0 σ H _ s x fun ys H1 es g1 f1 I1 a1 ⟨ds, e, h1, h2⟩ => by
    subst e
    have dl := arl_da a1
    refine ⟨by rw [dl.len]; exact Nat.le_of_lt (smallB h1), fun p hp => ?_⟩
    have s1 := same_new (o := .tup ys) (Same.refl H1) hp
    exact q _ _ _ g1 (f1.trans (Frm.of s1)) (B.C.same s.subs I1 s1) (Da.new_tup (s.step f1 I1).olds hp dl) h2
theorem Wn_lst (h : Wa B tl g ρ fun es g1 => ∃ ds : List PyData, es = ds.map En.da ∧ ds.length ≤ 60000 ∧ k (.list ds) g1) : Wn B (tLst tl) g ρ k := fun S H0 σ H Q s x q =>
  h S H0 σ H _ s x fun ys H1 es g1 f1 I1 a1 ⟨ds, e, h1, h2⟩ => by
    subst e
    have dl := arl_da a1
    refine ⟨by rw [dl.len]; exact Nat.le_of_lt (smallB h1), fun p hp => ?_⟩
    have s1 := same_new (o := .lst ys) (Same.refl H1) hp
    refine q p _ _ g1 (f1.gone (B.C.old _ _ _ I1) hp) (f1.trans (Frm.of s1)) ?_ (.lst upd_same ((dl.add hp).same s1)) nt_l h2
    exact B.C.same (fun a m => .inl (s.subs a m)) (B.C.mono _ _ _ _ (fun b o e z => z.elim id fun z => by rw [z, hp] at e; cases e) I1) s1
theorem We_new (h : Wn B te g ρ k) : We B te g ρ k := fun S H0 σ H Q s x q =>
  h S H0 σ H _ s x fun a H' d g' n f I o _ hk => q _ H' d g' f (B.C.mono _ _ _ _ (fun _ _ _ z => .inl z) I) (.ref o.less (s.olds.not n)) hk
theorem We_lst (h : Wa B tl g ρ fun es g1 => ∃ ds : List PyData, es = ds.map En.da ∧ ds.length ≤ 60000 ∧ k (.list ds) g1) : We B (tLst tl) g ρ k := We_new (Wn_lst h)
theorem add_old {T : Ad} {H : Hp} {C : Co γ} {a : Addr} (n : H a = none) (I : C.I T g H) : C.I (T.add a) g H := C.mono _ _ _ _ (fun b o e z => z.elim id fun z => by rw [z, n] at e; cases e) I
theorem Wn_op {r : R2} {f : PyData → PyData → (PyData → Prop) → Prop} (rd : RnO B.K r f) (h : We B ta g ρ fun d g1 => We B tb g1 ρ fun e g2 => f d e fun z => k z g2) : Wn B (tOp r ta tb) g ρ k := fun S H0 σ H Q s x q =>
  h S H0 σ H _ s x fun y1 H1 d g1 f1 I1 d1 h1 => h1 S H0 σ H1 _ (s.step f1 I1) x fun y2 H2 e g2 f2 I2 d2 h2 =>
    rd _ H2 y1 y2 d e _ _ ((s.step f1 I1).step f2 I2).olds (d1.keep (f2.wide s.subs)) d2 h2 fun a H3 u n s3 dz nt hu =>
      q a H3 u g2 ((f1.trans f2).gone (B.C.old _ _ _ I2) n) ((f1.trans f2).trans (Frm.of s3)) (B.C.same (fun b m => .inl (s.subs b m)) (add_old n I2) s3) dz nt hu
theorem Wn_cb {r : List V → Hp → VK → Prop} {f : List PyData → (PyData → Prop) → Prop} (rd : RnF B.K r f) (h : Wa B tl g ρ fun es g1 => ∃ ds : List PyData, es = ds.map En.da ∧ f ds fun z => k z g1) : Wn B (tCB r tl) g ρ k := fun S H0 σ H Q s x q =>
  h S H0 σ H _ s x fun ys H1 es g1 f1 I1 a1 ⟨ds, e, h1⟩ => by
    subst e
    exact rd _ H1 ys ds _ _ (s.step f1 I1).olds (arl_da a1) h1 fun a H3 u n s3 dz nt hu => q a H3 u g1 (f1.gone (B.C.old _ _ _ I1) n) (f1.trans (Frm.of s3)) (B.C.same (fun b m => .inl (s.subs b m)) (add_old n I1) s3) dz nt hu
/-! tests -/
theorem Wt_val (h : We B te g ρ fun d g1 => ∃ b, d = .bool b ∧ kb b g1) : Wt B (tB te) g ρ kb := fun S H0 σ H Q s x q =>
  h S H0 σ H _ s x fun y H1 d g1 f1 I1 d1 ⟨b, e, h1⟩ => by
    subst e
    exact ⟨b, d1.bl_inv, q b H1 g1 f1 I1 h1⟩
theorem Wt_test (h : We B te g ρ fun d g1 => ∃ b, d = .bool b ∧ kb b g1) : Wt B (tTest te) g ρ kb := fun S H0 σ H Q s x q =>
  h S H0 σ H _ s x fun y H1 d g1 f1 I1 d1 ⟨b, e, h1⟩ => by
    subst e
    exact ⟨b, d1.bl_inv, q b H1 g1 f1 I1 h1⟩
theorem Wt_not (h : Wt B tt g ρ fun b g1 => kb (!b) g1) : Wt B (tNot tt) g ρ kb := fun S H0 σ H Q s x q => h S H0 σ H _ s x fun b H1 g1 f1 I1 h1 => q _ H1 g1 f1 I1 h1
theorem Wt_yes (h : kb true g) : Wt B tYes g ρ kb := fun S H0 σ H Q s x q => q true H g (Frm.refl _ _) s.I h
theorem Wt_and (h : Wt B tt g ρ fun b g1 => (b = true → Wt B tu g1 ρ kb) ∧ (b = false → kb false g1)) : Wt B (tAnd tt tu) g ρ kb := fun S H0 σ H Q s x q => h S H0 σ H _ s x fun b H1 g1 f1 I1 h1 => by
  cases b with
  | true => exact (if_pos rfl).mpr (h1.1 rfl S H0 σ H1 _ (s.step f1 I1) x fun c H2 g2 f2 I2 h2 => q c H2 g2 (f1.trans f2) I2 h2)
  | false => exact (if_neg (fun z => nomatch z)).mpr (q false H1 g1 f1 I1 (h1.2 rfl))
theorem Wt_or (h : Wt B tt g ρ fun b g1 => (b = false → Wt B tu g1 ρ kb) ∧ (b = true → kb true g1)) : Wt B (tOr tt tu) g ρ kb := fun S H0 σ H Q s x q => h S H0 σ H _ s x fun b H1 g1 f1 I1 h1 => by
  cases b with
  | false => exact (if_neg (fun z => nomatch z)).mpr (h1.1 rfl S H0 σ H1 _ (s.step f1 I1) x fun c H2 g2 f2 I2 h2 => q c H2 g2 (f1.trans f2) I2 h2)
  | true => exact (if_pos rfl).mpr (q true H1 g1 f1 I1 (h1.2 rfl))
theorem We_if (h : Wt B tt g ρ fun b g1 => (b = true → We B ta g1 ρ k) ∧ (b = false → We B tb g1 ρ k)) : We B (tIf tt ta tb) g ρ k := fun S H0 σ H Q s x q => h S H0 σ H _ s x fun b H1 g1 f1 I1 h1 => by
  cases b with
  | true => exact (if_pos rfl).mpr (h1.1 rfl S H0 σ H1 _ (s.step f1 I1) x fun c H2 d2 g2 f2 I2 h2 => q c H2 d2 g2 (f1.trans f2) I2 h2)
  | false => exact (if_neg (fun z => nomatch z)).mpr (h1.2 rfl S H0 σ H1 _ (s.step f1 I1) x fun c H2 d2 g2 f2 I2 h2 => q c H2 d2 g2 (f1.trans f2) I2 h2)
theorem Wn_if (h : Wt B tt g ρ fun b g1 => (b = true → Wn B ta g1 ρ k) ∧ (b = false → Wn B tb g1 ρ k)) : Wn B (tIf tt ta tb) g ρ k := fun S H0 σ H Q s x q => h S H0 σ H _ s x fun b H1 g1 f1 I1 h1 => by
  cases b with
  | true => exact (if_pos rfl).mpr (h1.1 rfl S H0 σ H1 _ (s.step f1 I1) x fun c H2 d2 g2 n2 f2 I2 h2 => q c H2 d2 g2 (f1.gone (B.C.old _ _ _ I1) n2) (f1.trans f2) I2 h2)
  | false => exact (if_neg (fun z => nomatch z)).mpr (h1.2 rfl S H0 σ H1 _ (s.step f1 I1) x fun c H2 d2 g2 n2 f2 I2 h2 => q c H2 d2 g2 (f1.gone (B.C.old _ _ _ I1) n2) (f1.trans f2) I2 h2)
theorem We_and (h : We B ta g ρ fun d g1 => ∃ b, d = .bool b ∧ (b = true → We B tb g1 ρ k) ∧ (b = false → k (.bool false) g1)) : We B (tAndV ta tb) g ρ k := fun S H0 σ H Q s x q => h S H0 σ H _ s x fun y H1 d g1 f1 I1 d1 ⟨b, e, h1⟩ => by
  subst e
  refine ⟨b, d1.bl_inv, ?_⟩
  cases b with
  | true => exact (if_pos rfl).mpr (h1.1 rfl S H0 σ H1 _ (s.step f1 I1) x fun c H2 d2 g2 f2 I2 h2 => q c H2 d2 g2 (f1.trans f2) I2 h2)
  | false => exact (if_neg (fun z => nomatch z)).mpr (q _ H1 _ g1 f1 I1 (.bl false) (h1.2 rfl))
theorem We_or (h : We B ta g ρ fun d g1 => ∃ b, d = .bool b ∧ (b = false → We B tb g1 ρ k) ∧ (b = true → k (.bool true) g1)) : We B (tOrV ta tb) g ρ k := fun S H0 σ H Q s x q => h S H0 σ H _ s x fun y H1 d g1 f1 I1 d1 ⟨b, e, h1⟩ => by
  subst e
  refine ⟨b, d1.bl_inv, ?_⟩
  cases b with
  | false => exact (if_neg (fun z => nomatch z)).mpr (h1.1 rfl S H0 σ H1 _ (s.step f1 I1) x fun c H2 d2 g2 f2 I2 h2 => q c H2 d2 g2 (f1.trans f2) I2 h2)
  | true => exact (if_pos rfl).mpr (q _ H1 _ g1 f1 I1 (.bl true) (h1.2 rfl))
theorem We_not (h : We B ta g ρ fun d g1 => ∃ b, d = .bool b ∧ k (.bool (!b)) g1) : We B (tNotV ta) g ρ k := fun S H0 σ H Q s x q => h S H0 σ H _ s x fun y H1 d g1 f1 I1 d1 ⟨b, e, h1⟩ => by
  subst e
  exact ⟨b, d1.bl_inv, q _ H1 _ g1 f1 I1 (.bl _) h1⟩
/-! calls -/
def spX (K : PySem.W.Frag) (C : Co γ) (R : List En → γ → KD γ → KX γ → Prop) : Sp := fun vs H Q E => ∃ (S : Ad) (g : γ) (es : List En) (k : KD γ) (x : KX γ), (∀ a, C.M a → S a) ∧ Old S H ∧ C.I S g H ∧ ArL K S H vs es ∧ R es g k x ∧
  (∀ y H' d g', Frm C.M H H' → C.I S g' H' → Da K S H' y d → k d g' → Q y H') ∧ XE ⟨K, C, E, x⟩ S H
structure Ln (C : Co γ) (C' : Co γ') (get : γ → γ') (put : γ → γ' → γ) : Prop where
  M : ∀ a, C'.M a → C.M a
  get : ∀ T g H, C.I T g H → C'.I T (get g) H
  put : ∀ T g g' H H', (∀ a, C.M a → T a) → C.I T g H → Frm C'.M H H' → C'.I T g' H' → C.I T (put g g') H'
theorem XD.mono {S T : Ad} {H : Hp} {od : Option Addr} {es : List (PyData × PyData)} (w : ∀ a o, H a = some o → T a → S a) (h : XD K S H od es) : XD K T H od es := by
  rcases h with h | ⟨dd, fs, e, e2, h⟩
  · exact .inl h
  · exact .inr ⟨dd, fs, e, e2, h.mono w⟩
theorem spX_run {C' : Co γ'} {get : γ → γ'} {put : γ → γ' → γ} (L : Ln B.C C' get put) {R : List En → γ' → KD γ' → KX γ' → Prop} {S : Ad} {H0 H1 : Hp} {σ : L2.St} {ys : List V} {es : List En} {Q : VK} {E : XK} {x : KX γ'} (s1 : Sl B.K B.C S H0 g H1 σ ρ) (a1 : ArL B.K (SS S σ ρ) H1 ys es) (hR : R es (get g) (fun d g' => k d (put g g')) x) (hx : XE ⟨B.K, C', E, x⟩ (SS S σ ρ) H1)
    (q : ∀ y H' d g', Frm B.C.M H1 H' → B.C.I (SS S σ ρ) g' H' → Da B.K (SS S σ ρ) H' y d → k d g' → Q y H') : spX B.K C' R ys H1 Q E :=
  ⟨SS S σ ρ, get g, es, _, x, fun a m => s1.subs a (L.M a m), s1.olds, L.get _ _ _ s1.I, a1, hR, fun y H2 d g2 f2 I2 d2 h2 => q y H2 d _ (f2.wide L.M) (L.put _ _ _ _ _ s1.subs s1.I f2 I2) d2 h2, hx⟩
theorem XE.into {C' : Co γ'} {get : γ → γ'} {put : γ → γ' → γ} (L : Ln B.C C' get put) {S : Ad} {H0 H1 : Hp} {σ : L2.St} (s1 : Sl B.K B.C S H0 g H1 σ ρ) (x : XE B S H0) : XE ⟨B.K, C', B.E, fun nm xs g' => B.x nm xs (put g g')⟩ (SS S σ ρ) H1 := fun nm od H2 g2 xs f2 I2 xd hx =>
  x nm od H2 _ xs (s1.frm.trans (f2.wide L.M)) (B.C.mono _ _ _ _ (fun _ _ _ z => .inl z) (L.put _ _ _ _ _ s1.subs s1.I f2 I2)) (xd.mono fun _ _ _ z => .inl z) hx
/-- promises by data; C may hang on places -/
def spY {ι : Type} (K : PySem.W.Frag) (C : ι → Co γ) (R : ι → List En → γ → KD γ → KX γ → Prop) : Sp := fun vs H Q E => ∃ i, spX K (C i) (R i) vs H Q E
abbrev Nev (γ : Type) : KX γ := fun _ _ _ => False
theorem XE.nev {B : Bd γ} {S : Ad} {H : Hp} (e : B.x = Nev γ) : XE B S H := fun nm od H' g es _ _ _ hx => by rw [e] at hx; exact hx.elim
/-- a call that cannot raise -/
theorem We_call0 {C' : Co γ'} {get : γ → γ'} {put : γ → γ' → γ} (L : Ln B.C C' get put) {R : List En → γ' → KD γ' → KX γ' → Prop} (h : Wa B tl g ρ fun es g1 => R es (get g1) (fun d g' => k d (put g1 g')) (Nev γ')) : We B (tCall (spX B.K C' R) [] E0 tl) g ρ k := fun S H0 σ H Q s x q =>
  h S H0 σ H _ s x fun ys H1 es g1 f1 I1 a1 h1 => by
    rw [List.append_nil]
    exact spX_run L (s.step f1 I1) a1 h1 (XE.nev rfl) fun y H2 d g2 f2 I2 d2 h2 => q y H2 d g2 (f1.trans f2) I2 d2 h2
theorem We_callY0 {ι : Type} {C' : ι → Co γ'} (j : ι) {get : γ → γ'} {put : γ → γ' → γ} (L : Ln B.C (C' j) get put) {R : ι → List En → γ' → KD γ' → KX γ' → Prop} (h : Wa B tl g ρ fun es g1 => R j es (get g1) (fun d g' => k d (put g1 g')) (Nev γ')) : We B (tCall (spY B.K C' R) [] E0 tl) g ρ k := fun S H0 σ H Q s x q =>
  h S H0 σ H _ s x fun ys H1 es g1 f1 I1 a1 h1 => by
    rw [List.append_nil]
    exact ⟨j, spX_run L (s.step f1 I1) a1 h1 (XE.nev rfl) fun y H2 d g2 f2 I2 d2 h2 => q y H2 d g2 (f1.trans f2) I2 d2 h2⟩
/-- a call that may raise -/
theorem We_call {C' : Co γ'} {get : γ → γ'} {put : γ → γ' → γ} (L : Ln B.C C' get put) {R : List En → γ' → KD γ' → KX γ' → Prop} (h : Wa B tl g ρ fun es g1 => R es (get g1) (fun d g' => k d (put g1 g')) fun nm xs g' => B.x nm xs (put g1 g')) : We B (tCall (spX B.K C' R) [] B.E tl) g ρ k := fun S H0 σ H Q s x q =>
  h S H0 σ H _ s x fun ys H1 es g1 f1 I1 a1 h1 => by
    rw [List.append_nil]
    exact spX_run L (s.step f1 I1) a1 h1 (x.into L (s.step f1 I1)) fun y H2 d g2 f2 I2 d2 h2 => q y H2 d g2 (f1.trans f2) I2 d2 h2
theorem We_callY {ι : Type} {C' : ι → Co γ'} (j : ι) {get : γ → γ'} {put : γ → γ' → γ} (L : Ln B.C (C' j) get put) {R : ι → List En → γ' → KD γ' → KX γ' → Prop} (h : Wa B tl g ρ fun es g1 => R j es (get g1) (fun d g' => k d (put g1 g')) fun nm xs g' => B.x nm xs (put g1 g')) : We B (tCall (spY B.K C' R) [] B.E tl) g ρ k := fun S H0 σ H Q s x q =>
  h S H0 σ H _ s x fun ys H1 es g1 f1 I1 a1 h1 => by
    rw [List.append_nil]
    exact ⟨j, spX_run L (s.step f1 I1) a1 h1 (x.into L (s.step f1 I1)) fun y H2 d g2 f2 I2 d2 h2 => q y H2 d g2 (f1.trans f2) I2 d2 h2⟩
/-- no thing may change -/
def Co.pure : Co Unit := ⟨fun _ => False, fun _ _ _ => True, fun _ _ _ _ _ h => h.elim, fun _ _ _ _ _ _ _ _ => trivial, fun _ _ _ _ _ _ => trivial⟩
theorem Ln.pure {C : Co γ} : Ln C Co.pure (fun _ => ()) (fun g _ => g) := ⟨fun _ h => h.elim, fun _ _ _ _ => trivial, fun _ _ _ _ _ t I f _ => C.same t I f.same⟩
theorem Ln.id {C : Co γ} : Ln C C (fun g => g) (fun _ g => g) := ⟨fun _ h => h, fun _ _ _ h => h, fun _ _ _ _ _ _ _ _ h => h⟩
/-- one object more that may change, at p -/
def Co.box (K : PySem.W.Frag) (C : Co γ) (p : Addr) : Co (γ × PyData) where
  M := C.M.add p
  I := fun T g H => C.I T g.1 H ∧ ¬ C.M p ∧ Ho K T H p g.2 ∧ NT g.2
  old := fun T g H h a m => by
    rcases m with m | rfl
    · exact C.old _ _ _ h.1 a m
    · exact h.2.2.1.nt h.2.2.2
  keep := fun T g H H' t e f h => ⟨C.keep T g.1 H H' (fun a m => t a (.inl m)) (fun a m => e a (.inl m)) f h.1, h.2.1, h.2.2.1.keep f (e p (.inr rfl)), h.2.2.2⟩
  mono := fun T T' g H w h => ⟨C.mono T T' g.1 H w h.1, h.2.1, h.2.2.1.mono w, h.2.2.2⟩
theorem Ln.box {C : Co γ} {C' : Co γ'} {get : γ → γ'} {put : γ → γ' → γ} {p : Addr} (L : Ln C C' get put) : Ln (C.box K p) (C'.box K p) (fun g => (get g.1, g.2)) (fun g g' => (put g.1 g'.1, g'.2)) := by
  refine ⟨fun a m => m.elim (fun m => .inl (L.M a m)) .inr, fun T g H h => ⟨L.get _ _ _ h.1, fun m => h.2.1 (L.M p m), h.2.2⟩, fun T g g' H H' t h f h' => ⟨?_, h.2.1, h'.2.2⟩⟩
  have f2 : Frm (C'.M.add p) H H' := f
  -- all but p first, then p
  obtain ⟨o, ep⟩ := h.2.2.1.there
  obtain ⟨o', ep'⟩ := h'.2.2.1.there
  let Hm : Hp := upd H' p o
  have fm : Frm C'.M H Hm := fun a u n e => by
    by_cases q : a = p
    · subst q; rw [ep] at e; cases e; exact upd_same
    · show upd H' p o a = some u
      rw [upd_ne q]; exact f2 a u (fun z => z.elim n q) e
  have np' : ¬ C'.M p := h'.2.1
  have tp : T p := t p (.inr rfl)
  have hm : C'.I T g'.1 Hm := C'.keep T g'.1 H' Hm (fun a m => t a (.inl (L.M a m))) (fun a m => upd_ne fun z => np' (z ▸ m)) ((Frm.refl T H').put tp) h'.1
  have im : C.I T (put g.1 g'.1) Hm := L.put _ _ _ _ _ (fun a m => t a (.inl m)) h.1 fm hm
  refine C.keep T _ Hm H' (fun a m => t a (.inl m)) (fun a m => (upd_ne (fun (z : a = p) => h.2.1 (z ▸ m))).symm) (fun a u n e => ?_) im
  have q : a ≠ p := fun z => n (z ▸ tp)
  have e2 : upd H' p o a = some u := e
  rwa [upd_ne q] at e2
/-- all but the last -/
theorem Ln.fst {C : Co γ} {p : Addr} : Ln (C.box K p) C (fun g => g.1) (fun g g' => (g', g.2)) := by
  refine ⟨fun _ m => .inl m, fun _ _ _ h => h.1, fun T g g' H H' t h f h' => ⟨h', h.2.1, ?_, h.2.2.2⟩⟩
  obtain ⟨o, e⟩ := h.2.2.1.there
  exact h.2.2.1.keep (f.wide fun a m => t a (.inl m)) ((f _ _ h.2.1 e).trans e.symm)
theorem Ln.trans {γ'' : Type} {C : Co γ} {C' : Co γ'} {C'' : Co γ''} {get : γ → γ'} {put : γ → γ' → γ} {get' : γ' → γ''} {put' : γ' → γ'' → γ'} (L : Ln C C' get put) (L' : Ln C' C'' get' put') : Ln C C'' (fun g => get' (get g)) (fun g g'' => put g (put' (get g) g'')) :=
  ⟨fun a m => L.M a (L'.M a m), fun T g H h => L'.get _ _ _ (L.get _ _ _ h), fun T g g'' H H' t h f h' => L.put _ _ _ _ _ t h (f.wide L'.M) (L'.put _ _ _ _ _ (fun a m => t a (L.M a m)) (L.get _ _ _ h) f h')⟩
end
/-! ### statements, targets, walks by data -/
structure Kz (γ : Type) where
  nx : γ → List En → Prop
  rt : KD γ
  bk : γ → List En → Prop := fun _ _ => False
  ct : γ → List En → Prop := fun _ _ => False
section
variable {γ : Type}
def LkN (B : Bd γ) (S : Ad) (H0 : Hp) (σ : L2.St) (ρ : List En) (H : Hp) (n : γ → List En → Prop) (N : L2.St → Hp → Prop) : Prop := ∀ σ' H' ρ' g', Sl B.K B.C S H0 g' H' σ' ρ' → Stp S σ ρ H σ' ρ' H' → n g' ρ' → N σ' H'
def LkR (B : Bd γ) (S : Ad) (H0 : Hp) (r : KD γ) (R : VK) : Prop := ∀ y H' d g', Frm B.C.M H0 H' → B.C.I S g' H' → Da B.K S H' y d → r d g' → R y H'
structure Lk (B : Bd γ) (S : Ad) (H0 : Hp) (σ : L2.St) (ρ : List En) (H : Hp) (kt : Kz γ) (D : Ends) : Prop where
  nx : LkN B S H0 σ ρ H kt.nx D.nx
  rt : LkR B S H0 kt.rt D.rt
  bk : LkN B S H0 σ ρ H kt.bk D.bk
  ct : LkN B S H0 σ ρ H kt.ct D.ct
def Ws (B : Bd γ) (ts : TS) (g : γ) (ρ : List En) (kt : Kz γ) : Prop := ∀ S H0 σ H D, Sl B.K B.C S H0 g H σ ρ → XE B S H0 → Lk B S H0 σ ρ H kt D → ts D σ H
def Wg (B : Bd γ) (gt : TG) (d : PyData) (g : γ) (ρ : List En) (n : γ → List En → Prop) : Prop := ∀ S H0 σ H y N, Sl B.K B.C S H0 g H σ ρ → XE B S H0 → Da B.K (SS S σ ρ) H y d → LkN B S H0 σ ρ H n N → gt y σ H N
def Wgs (B : Bd γ) (gt : TGs) (ds : List PyData) (g : γ) (ρ : List En) (n : γ → List En → Prop) : Prop := ∀ S H0 σ H ys N, Sl B.K B.C S H0 g H σ ρ → XE B S H0 → DaL B.K (SS S σ ρ) H ys ds → LkN B S H0 σ ρ H n N → gt ys σ H N
/-- a walk that gives ds while T keeps -/
def WkD (K : PySem.W.Frag) (T : Ad) (H1 : Hp) (J : It) (ds : List PyData) : Prop := ∃ Y, Walk J ds.length (Frm T H1) Y ∧ ∀ (i : Nat) (H : Hp) (x : V) (H' : Hp) (T' : Ad), i < ds.length → Frm T H1 H → Old T' H → (∀ a, T' a → T a ∨ H1 a = none) → Y i H x H' → Same H H' ∧ ∃ d, ds[i]? = some d ∧ Da K T' H' x d
def Wi (B : Bd γ) (ti : TI) (g : γ) (ρ : List En) (k : List PyData → γ → Prop) : Prop := ∀ S H0 σ H (R : It → Hp → Prop), Sl B.K B.C S H0 g H σ ρ → XE B S H0 → (∀ J H' ds g', Frm B.C.M H H' → B.C.I (SS S σ ρ) g' H' → WkD B.K (SS S σ ρ) H' J ds → k ds g' → R J H') → ti σ H R
end
section
variable {γ : Type} {B : Bd γ} {S : Ad} {H0 H H1 H' : Hp} {σ σ1 : L2.St} {g : γ} {ρ ρ1 : List En} {kt kt' : Kz γ} {te ti : TE} {tt : TT} {t u : TS} {gt : TG} {gs : TGs} {wi : TI} {D : Ends} {n n' : γ → List En → Prop} {N : L2.St → Hp → Prop} {i : Nat} {d : PyData} {k : List PyData → γ → Prop}
theorem LkN.on (st : Stp S σ ρ H σ1 ρ1 H1) (h : LkN B S H0 σ ρ H n N) : LkN B S H0 σ1 ρ1 H1 n N := fun σ' H' ρ' g' s st' => h σ' H' ρ' g' s (st.trans st')
theorem Lk.on (st : Stp S σ ρ H σ1 ρ1 H1) (h : Lk B S H0 σ ρ H kt D) : Lk B S H0 σ1 ρ1 H1 kt D := ⟨h.nx.on st, h.rt, h.bk.on st, h.ct.on st⟩
theorem Ws_seq (h : Ws B t g ρ { kt with nx := fun g1 ρ1 => Ws B u g1 ρ1 kt }) : Ws B (tSeq t u) g ρ kt := fun S H0 σ H D s x L =>
  h S H0 σ H _ s x ⟨fun σ' H' ρ' g' s' st w => w S H0 σ' H' D s' x (L.on st), L.rt, L.bk, L.ct⟩
theorem Ws_next (h : kt.nx g ρ) : Ws B tNext g ρ kt := fun S H0 σ H D s x L => L.nx σ H ρ g s Stp.refl h
theorem Ws_break (h : kt.bk g ρ) : Ws B tBreak g ρ kt := fun S H0 σ H D s x L => L.bk σ H ρ g s Stp.refl h
theorem Ws_cont (h : kt.ct g ρ) : Ws B tCont g ρ kt := fun S H0 σ H D s x L => L.ct σ H ρ g s Stp.refl h
theorem Ws.mono (h : Ws B t g ρ kt) (h1 : ∀ g ρ, kt.nx g ρ → kt'.nx g ρ) (h2 : ∀ d g, kt.rt d g → kt'.rt d g) (h3 : ∀ g ρ, kt.bk g ρ → kt'.bk g ρ) (h4 : ∀ g ρ, kt.ct g ρ → kt'.ct g ρ) : Ws B t g ρ kt' := fun S H0 σ H D s x L =>
  h S H0 σ H D s x ⟨fun σ' H' ρ' g' s' st w => L.nx σ' H' ρ' g' s' st (h1 _ _ w), fun y H' d g' f I dy r => L.rt y H' d g' f I dy (h2 _ _ r), fun σ' H' ρ' g' s' st w => L.bk σ' H' ρ' g' s' st (h3 _ _ w), fun σ' H' ρ' g' s' st w => L.ct σ' H' ρ' g' s' st (h4 _ _ w)⟩
theorem Ws_if (h : Wt B tt g ρ fun b g1 => (b = true → Ws B t g1 ρ kt) ∧ (b = false → Ws B u g1 ρ kt)) : Ws B (tIfS tt t u) g ρ kt := fun S H0 σ H D s x L => h S H0 σ H _ s x fun b H1 g1 f I h1 => by
  have st := s.stp f I
  cases b with
  | true => exact (if_pos rfl).mpr (h1.1 rfl S H0 σ H1 D (s.step f I) x (L.on st))
  | false => exact (if_neg (fun z => nomatch z)).mpr (h1.2 rfl S H0 σ H1 D (s.step f I) x (L.on st))
theorem Ws_ret (h : We B te g ρ kt.rt) : Ws B (tRet te) g ρ kt := fun S H0 σ H D s x L => h S H0 σ H _ s x fun y H1 d g1 f I dy h1 =>
  L.rt y H1 d g1 (s.frm.trans f) (B.C.mono _ _ _ _ (fun _ _ _ z => .inl z) I) (dy.mono fun _ _ _ z => .inl z) h1
theorem Ws_retN (h : kt.rt .none g) : Ws B tRetN g ρ kt := fun S H0 σ H D s x L => L.rt .non H .none g s.frm (B.C.mono _ _ _ _ (fun _ _ _ z => .inl z) s.I) .non h
theorem Ws_drop (h : We B te g ρ fun _ g1 => kt.nx g1 ρ) : Ws B (tDrop te) g ρ kt := fun S H0 σ H D s x L => h S H0 σ H _ s x fun y H1 d g1 f I dy h1 => L.nx σ H1 ρ g1 (s.step f I) (s.stp f I) h1
theorem Ws_asg (h : We B te g ρ fun d g1 => Wg B gt d g1 ρ kt.nx) : Ws B (tAsg te gt) g ρ kt := fun S H0 σ H D s x L => h S H0 σ H _ s x fun y H1 d g1 f I dy h1 => h1 S H0 σ H1 y D.nx (s.step f I) x dy (L.nx.on (s.stp f I))
theorem Wg_name (hi : i < ρ.length) (h : n g (ρ.set i (En.da d))) : Wg B (gName i) d g ρ n := fun S H0 σ H y N s x dy L => L _ H _ g (s.set_da dy hi) (Stp.refl.set (fun _ z => nomatch z)) h
theorem Ws_set (h : We B te g ρ fun d g1 => i < ρ.length ∧ kt.nx g1 (ρ.set i (En.da d))) : Ws B (tAsg te (gName i)) g ρ kt := Ws_asg (h.mono fun _ _ z => Wg_name z.1 z.2)
theorem Wg_tupA {m : Nat} (h : ∃ ds, rowsOf d = some ds ∧ ds.length = m ∧ Wgs B gs ds g ρ n) : Wg B (gTupA m gs) d g ρ n := fun S H0 σ H y N s x dy L => by
  obtain ⟨ds, e, hl, h⟩ := h
  obtain ⟨a, xs, rfl, sq, ns, dl⟩ := dy.rows e
  exact ⟨a, xs, rfl, sq, dl.len.trans hl, h S H0 σ H xs N s x dl L⟩
theorem Wg_tup {m : Nat} (h : ∃ ds, d = .tuple ds ∧ ds.length = m ∧ Wgs B gs ds g ρ n) : Wg B (gTup B.K m gs) d g ρ n := fun S H0 σ H y N s x dy L => by
  obtain ⟨ds, rfl, hl, h⟩ := h
  obtain ⟨a, xs, rfl, sq, ns, dl⟩ := dy.tup_inv
  exact ⟨a, xs, rfl, SqT.of sq, dl.len.trans hl, h S H0 σ H xs N s x dl L⟩
theorem Wgs_nil (h : n g ρ) : Wgs B gNil [] g ρ n := fun S H0 σ H ys N s x dl L => by
  cases dl
  exact ⟨rfl, L σ H ρ g s Stp.refl h⟩
theorem Wgs_cons {ds : List PyData} (h : Wg B gt d g ρ fun g1 ρ1 => Wgs B gs ds g1 ρ1 n) : Wgs B (gCons gt gs) (d :: ds) g ρ n := fun S H0 σ H ys N s x dl L => by
  cases dl with
  | cons dy dl => exact ⟨_, _, rfl, h S H0 σ H _ _ s x dy fun σ' H' ρ' g' s' st w => w S H0 σ' H' _ N s' x (dl.on st.f st.s) (L.on st)⟩
/-- a new object at a name, to be grown -/
theorem Sl.own_at {K : PySem.W.Frag} {C : Co γ} {g' : γ} {a : Addr} (h : Sl K C S H0 g H σ ρ) (n : H a = none) (f : Frm C.M H H') (I : C.I ((SS S σ ρ).add a) g' H') (dx : Ho K ((SS S σ ρ).add a) H' a d) (nt : NT d) (hi : i < ρ.length) : Sl K C S H0 g' H' (σ.set i (some (V.ref a))) (ρ.set i (En.own d)) ∧ Stp S σ ρ H (σ.set i (some (V.ref a))) (ρ.set i (En.own d)) H' := by
  have fs := f.wide h.subs
  have t : ∀ b, (SS S σ ρ).add a b → SS S σ ρ b ∨ H b = none := fun b z => z.elim .inl fun z => .inr (z ▸ n)
  have s1 := h.step f (C.mono _ _ _ _ (fun _ _ _ z => .inl z) I)
  refine ⟨s1.set_own (h.gone n) (h.olds.not n) I (fun j e q => ?_) (fun j e q => ?_) dx nt hi, ⟨fs, fun b z => ?_, fun b z => f.gone (C.old _ _ _ I) z⟩⟩
  · obtain ⟨y, e1, dy⟩ := h.da j e q
    exact ⟨y, e1, dy.on fs t⟩
  · obtain ⟨o, e1, dy⟩ := h.own j e q
    obtain ⟨u, e3⟩ := dy.there
    obtain ⟨o', e1', dy'⟩ := s1.own j e q
    rw [e1] at e1'
    cases e1'
    exact ⟨o, e1, (dy.mono fun b v w z => (t b z).elim (fun z => z) fun z => by rw [z] at w; cases w).keep (fs.wide fun _ z => .inl z) ((f _ _ (fun z => (h.tn o ⟨j, e, q, e1⟩).2 (h.sub _ z)) e3).trans e3.symm)⟩
  · rcases tow_own (by rw [h.len]; exact hi) z with z | z
    · cases z; exact .inr n
    · exact .inl z
theorem Ws_new (h : Wn B te g ρ fun d g1 => i < ρ.length ∧ kt.nx g1 (ρ.set i (En.own d))) : Ws B (tAsg te (gName i)) g ρ kt := fun S H0 σ H D s x L => h S H0 σ H _ s x fun a H1 d g1 nn f I o nt h1 => by
  obtain ⟨s1, st⟩ := s.own_at nn f I o nt h1.1
  exact L.nx _ H1 _ g1 s1 st h1.2
/-- a grown thing is done -/
theorem Ws_freeze {i : Nat} (e : ρ[i]? = some (En.own d)) (h : Ws B t g (ρ.set i (En.da d)) kt) : Ws B t g ρ kt := fun S H0 σ H D s x L => by
  have tw : ∀ b, Tow σ (ρ.set i (En.da d)) b → Tow σ ρ b := fun b => by
    rintro ⟨j, fs, y1, y2⟩
    rcases get_set y1 with ⟨_, q⟩ | ⟨q, y1⟩
    · cases q
    · exact ⟨j, fs, y1, y2⟩
  have st : Stp S σ ρ H σ (ρ.set i (En.da d)) H := ⟨Frm.refl _ _, fun a z => .inl (tw a z), fun _ z => z⟩
  exact h S H0 σ H D (s.freeze e) x (L.on st)
theorem Ws_no {i : Nat} (hi : i < ρ.length) (h : Ws B t g (ρ.set i En.no) kt) : Ws B t g ρ kt := fun S H0 σ H D s x L => by
  have tw : ∀ b, Tow σ (ρ.set i En.no) b → Tow σ ρ b := fun b => by
    rintro ⟨j, fs, y1, y2⟩
    rcases get_set y1 with ⟨_, q⟩ | ⟨q, y1⟩
    · cases q
    · exact ⟨j, fs, y1, y2⟩
  have st : Stp S σ ρ H σ (ρ.set i En.no) H := ⟨Frm.refl _ _, fun a z => .inl (tw a z), fun _ z => z⟩
  exact h S H0 σ H D (s.drop hi) x (L.on st)
/-- reading grown things as they stand: what comes is no part of them -/
def frz : En → En
  | .own d => .da d
  | e => e
theorem frz_own {ρ : List En} {i : Nat} {d : PyData} : (ρ.map frz)[i]? ≠ some (En.own d) := fun z => by
  rw [List.getElem?_map] at z
  cases e : ρ[i]? with
  | none => rw [e] at z; cases z
  | some x => rw [e] at z; cases x <;> cases z
theorem Sl.peek {K : PySem.W.Frag} {C : Co γ} (h : Sl K C S H0 g H σ ρ) : Sl K Co.pure S H () H σ (ρ.map frz) := by
  refine ⟨Frm.refl _ _, h.old, fun _ z => z.elim, fun a ⟨j, d, e, _⟩ => (frz_own e).elim, trivial, by rw [List.length_map]; exact h.len, fun j d e => ?_, fun j d e => (frz_own e).elim, fun j v e => ?_, fun j d e => (frz_own e).elim, fun j _ d _ _ e => (frz_own e).elim⟩
  · have w : ∀ a o, H a = some o → SS S σ (ρ.map frz) a → SS S σ ρ a := fun a o _ z => z.elim .inl fun ⟨j, d, e, _⟩ => (frz_own e).elim
    rw [List.getElem?_map] at e
    cases q : ρ[j]? with
    | none => (rw [q] at e; cases e)
    | some x =>
      rw [q] at e
      cases x with
      | da d' =>
        cases e
        obtain ⟨y, e1, dy⟩ := h.da j d q
        exact ⟨y, e1, dy.mono w⟩
      | own d' =>
        cases e
        obtain ⟨o, e1, dy⟩ := h.own j d q
        exact ⟨_, e1, .ref (dy.mono w) fun z => z.elim (h.tn o ⟨j, d, q, e1⟩).2 fun ⟨j, d, e, _⟩ => (frz_own e).elim⟩
      | no => cases e
      | raw v => cases e
  · rw [List.getElem?_map] at e
    cases q : ρ[j]? with
    | none => (rw [q] at e; cases e)
    | some x => rw [q] at e; cases x <;> cases e; exact h.raw j v q
def Bd.pure (B : Bd γ) : Bd Unit := ⟨B.K, Co.pure, B.E, fun _ _ _ => False⟩
theorem XE.pure : XE B.pure S H := fun _ _ _ _ _ _ _ _ z => z.elim
theorem We_peek {k : KD γ} (h : We B.pure te () (ρ.map frz) fun u _ => Prim u ∧ k u g) : We B te g ρ k := fun S H0 σ H Q s x q =>
  h S H σ H Q s.peek XE.pure fun y H1 u g1 f I dy ⟨p, hk⟩ => q y H1 u g (Frm.of f.same) (B.C.same s.subs s.I f.same) (dy.prim p) hk
theorem Wt_peek {k : Bool → γ → Prop} (h : Wt B.pure tt () (ρ.map frz) fun u _ => k u g) : Wt B tt g ρ k := fun S H0 σ H Q s x q =>
  h S H σ H Q s.peek XE.pure fun y H1 g1 f I hk => q y H1 g (Frm.of f.same) (B.C.same s.subs s.I f.same) hk
/-! walks -/
/-- an invariant by turns -/
inductive ForI (B : Bd γ) (gt : TG) (t : TS) (kt : Kz γ) (ds : List PyData) (g1 : γ) (ρ : List En) : Prop
  | mk (J : Nat → γ → List En → Prop) (h0 : J 0 g1 ρ) (hs : ∀ i d g2 ρ2, ds[i]? = some d → J i g2 ρ2 → Wg B gt d g2 ρ2 fun g3 ρ3 => Ws B t g3 ρ3 ⟨J (i + 1), kt.rt, kt.nx, J (i + 1)⟩) (hd : ∀ g2 ρ2, J ds.length g2 ρ2 → kt.nx g2 ρ2)
theorem Ws_for (h : Wi B wi g ρ fun ds g1 => ForI B gt t kt ds g1 ρ) : Ws B (tFor wi gt t) g ρ kt := fun S H0 σ H D s x L =>
  h S H0 σ H _ s x fun Jt H1 ds g1 f1 I1 ⟨Y, w, wy⟩ ⟨J, j0, js, jd⟩ => by
    have s1 := s.step f1 I1
    have st1 := s.stp f1 I1
    refine for_it w (fun i σ' H' => ∃ g' ρ', Sl B.K B.C S H0 g' H' σ' ρ' ∧ Stp S σ ρ H1 σ' ρ' H' ∧ J i g' ρ') ⟨g1, ρ, s1, Stp.refl, j0⟩ (fun i σ' H' _ ⟨_, _, _, st, _⟩ => st.f) ?_ ?_
    · intro i v σ' H' H'' hi pv y
      obtain ⟨g', ρ', s', st, j⟩ := pv
      obtain ⟨sm, d, hd, dx⟩ := wy i H' v H'' (SS S σ' ρ') hi st.f s'.olds st.s y
      have s'' := s'.same sm
      have sq : Stp S σ' ρ' H' σ' ρ' H'' := s'.stp (Frm.of sm) (B.C.same s'.subs s'.I sm)
      refine js i d g' ρ' hd j S H0 σ' H'' v _ s'' x dx fun σ3 H3 ρ3 g3 s3 st3 hw => ?_
      have all : Stp S σ ρ H1 σ3 ρ3 H3 := (st.trans sq).trans st3
      exact hw S H0 σ3 H3 _ s3 x ⟨fun σ4 H4 ρ4 g4 s4 st4 j4 => ⟨g4, ρ4, s4, all.trans st4, j4⟩, L.rt, L.nx.on (st1.trans all), fun σ4 H4 ρ4 g4 s4 st4 j4 => ⟨g4, ρ4, s4, all.trans st4, j4⟩⟩
    · intro σ' H' pv
      obtain ⟨g', ρ', s', st, j⟩ := pv
      exact L.nx σ' H' ρ' g' s' (st1.trans st) (jd _ _ j)
theorem wk_list {K : PySem.W.Frag} {T : Ad} {a : Addr} {xs : List V} {ds : List PyData} {J : It} (sq : SqA H a xs) (ns : ¬ T a) (dl : DaL K T H xs ds) (w : Walk J xs.length (fun H' => H' a = H a) (YAt xs)) : WkD K T H J ds := by
  refine ⟨YAt xs, ?_, fun i H' x H'' T' hi f o t y => ?_⟩
  · rw [← dl.len]
    exact w.mono (fun H' f => by
      rcases sq with e | e
      · rw [f _ _ ns e, e]
      · rw [f _ _ ns e, e]) fun _ _ _ _ _ _ y => y
  · obtain ⟨rfl, e⟩ := y
    obtain ⟨d, hd, dx⟩ := dl.of e
    exact ⟨Same.refl _, d, hd, dx.on f t⟩
/-- over a list or a tuple, however it comes -/
def iSeqE (te : TE) : TI := fun σ H R => te σ H fun x H1 => ∃ a xs, x = .ref a ∧ SqA H1 a xs ∧ ∀ J, Walk J xs.length (fun H' => H' a = H1 a) (YAt xs) → R J H1
theorem Wi_seq (h : We B te g ρ fun d g1 => ∃ ds, rowsOf d = some ds ∧ k ds g1) : Wi B (iSeqE te) g ρ k := fun S H0 σ H R s x q => h S H0 σ H _ s x fun y H1 d g1 f I dy ⟨ds, e, hk⟩ => by
  obtain ⟨a, xs, rfl, sq, ns, dl⟩ := dy.rows e
  exact ⟨a, xs, rfl, sq, fun J w => q J H1 ds g1 f I (wk_list sq ns dl w) hk⟩
theorem Wi_rng1 {ta : TA} (h : Wa B ta g ρ fun es g1 => ∃ j : Int, es = [En.da (.int j)] ∧ -(2 ^ 62) ≤ j ∧ j < 2 ^ 62 ∧ k ((List.range j.toNat).map fun i => .int (i : Nat)) g1) : Wi B (iRng1 ta) g ρ k := fun S H0 σ H R s x q => h S H0 σ H _ s x fun ys H1 es g1 f I al ⟨j, e, h1, h2, hk⟩ => by
  subst e
  cases al with
  | da dj r =>
    cases r
    refine ⟨j, by rw [dj.int_inv], h1, h2, q _ H1 _ g1 f I ⟨YFn fun i => .int (0 + i), ?_, fun i H' x H'' T' hi f o t y => ?_⟩ hk⟩
    · rw [List.length_map, List.length_range]; exact walk_range.mono (fun _ _ => trivial) fun _ _ _ _ _ _ y => y
    · obtain ⟨rfl, rfl⟩ := y
      rw [List.length_map, List.length_range] at hi
      refine ⟨Same.refl _, .int (i : Nat), ?_, ?_⟩
      · rw [List.getElem?_map, List.getElem?_range hi]; rfl
      · show Da _ _ _ (V.int (0 + (i : Nat))) _
        rw [Int.zero_add]; exact .int _
end
section
variable {X : L2.Cx} {tg e : Expr} {te : TE}
theorem pi_seqE (h : PE X e te) : PI X tg e (iSeqE te) where
  run pins s σ H R I q := by
    refine thn (h.run pins s σ H _ I q) fun v s1 z => ?_
    obtain ⟨x, H1, I1, r1, a, xs, rfl, sq, q1⟩ := z
    have ev : v = .ref a := r1
    subst ev
    have I2 : ∀ oi, Inv X pins σ H1 { s1 with heap := s1.heap.push oi } := fun oi => I1.kept (t' := s1.toks) fun _ _ => Heap.get?_push_of_some _
    have fr : ∀ b ∈ [s1.heap.objs.size], FpOk X pins H1 b := fun b hb => List.mem_singleton.mp hb ▸ I1.fpOk Nat.le.refl (I1.hok.fresh Nat.le.refl)
    cases sq with
    | inl hl =>
      obtain ⟨its, rv, p, _⟩ := I1.list (SqL.of hl)
      exact wpAny_pyIter_list p.isList ⟨_, _, _, _, H1, rfl, I2 _, turn_list a _, ⟨_, Heap.get?_push_size _ rfl, rfl, rfl⟩, fr, q1 _ (walk_list.mono (fun H' z => SqL.of (z.trans hl)) fun _ _ _ _ _ _ y => y)⟩
    | inr ht =>
      obtain ⟨its, rv, p, _⟩ := I1.tuple (SqT.of ht)
      have p' : s1.heap.IsTuple a its.toArray := p
      exact wpAny_pyIter_tuple p' ⟨_, _, _, _, H1, rfl, I2 _, turn_tuple a _, ⟨_, Heap.get?_push_size _ rfl, rfl, rfl⟩, fr, q1 _ (walk_tup.mono (fun H' z => SqT.of (z.trans ht)) fun _ _ _ _ _ _ y => y)⟩
end
/-! ### comprehensions by data -/
def wipeE (ρ : List En) : List Nat → List En
  | [] => ρ
  | v :: vs => (wipeE ρ vs).set v En.no
/-- nothing grown -/
def nown : En → En
  | .own _ => .no
  | e => e
theorem nown_own {ρ : List En} {i : Nat} {d : PyData} : (ρ.map nown)[i]? ≠ some (En.own d) := fun z => by
  rw [List.getElem?_map] at z
  cases e : ρ[i]? with
  | none => rw [e] at z; cases z
  | some x => rw [e] at z; cases x <;> cases z
theorem wipeE_own {ρ : List En} {d : PyData} : ∀ {vs : List Nat} {i : Nat}, (wipeE (ρ.map nown) vs)[i]? ≠ some (En.own d)
  | [], _, z => nown_own z
  | v :: vs, i, z => by
    rcases get_set z with ⟨_, q⟩ | ⟨_, q⟩
    · cases q
    · exact wipeE_own q
theorem wipeE_len (ρ : List En) : ∀ vs : List Nat, (wipeE ρ vs).length = ρ.length
  | [] => rfl
  | v :: vs => by unfold wipeE; rw [List.length_set, wipeE_len ρ vs]
theorem wipe_eq {σ τ : L2.St} {vs : List Nat} (hl : σ.length = τ.length) (h : ∀ j, j ∉ vs → σ[j]? = τ[j]?) : wipe σ vs = wipe τ vs := by
  refine List.ext_getElem? fun j => ?_; by_cases m : j ∈ vs
  · have both : ∀ τ : L2.St, (wipe τ vs)[j]? = none ∨ (wipe τ vs)[j]? = some none := fun τ => by
      cases w : (wipe τ vs)[j]? with
      | none => exact .inl rfl
      | some o =>
        cases o with
        | none => exact .inr rfl
        | some x => exact absurd m (wipe_some w).2
    have ln : (wipe σ vs).length = (wipe τ vs).length := by rw [wipe_length, wipe_length, hl]
    rcases both σ with h1 | h1 <;> rcases both τ with h2 | h2
    · rw [h1, h2]
    · have := (List.getElem?_eq_some_iff.mp h2).1
      have := List.getElem?_eq_none_iff.mp h1
      omega
    · have := (List.getElem?_eq_some_iff.mp h1).1
      have := List.getElem?_eq_none_iff.mp h2
      omega
    · rw [h1, h2]
  · rw [wipe_out m, wipe_out m, h j m]
theorem wipe_mem {σ : L2.St} {y : Option V} {i : Nat} {vs : List Nat} (h : i ∈ vs) : wipe (σ.set i y) vs = wipe σ vs :=
  wipe_eq (by rw [List.length_set]) fun j m => set_ne fun (z : i = j) => m (z ▸ h)
theorem wipe_wipe {σ : L2.St} {vs : List Nat} : wipe (wipe σ vs) vs = wipe σ vs := wipe_eq (by rw [wipe_length]) fun j m => wipe_out m
/-- a target that touches only vs -/
def GIn (gt : TG) (vs : List Nat) : Prop := ∀ x σ H Q, gt x σ H Q → gt x σ H fun σ2 H2 => wipe σ2 vs = wipe σ vs ∧ Q σ2 H2
def GIns (gs : TGs) (vs : List Nat) : Prop := ∀ xs σ H Q, gs xs σ H Q → gs xs σ H fun σ2 H2 => wipe σ2 vs = wipe σ vs ∧ Q σ2 H2
theorem GIn.name {i : Nat} {vs : List Nat} (h : i ∈ vs) : GIn (gName i) vs := fun x σ H Q q => ⟨wipe_mem h, q⟩
theorem GIns.nil {vs : List Nat} : GIns gNil vs := fun xs σ H Q q => ⟨q.1, rfl, q.2⟩
theorem tg_mono {gt : TG} {vs : List Nat} (h : GIn gt vs) (hm : ∀ x σ H (Q Q' : L2.St → Hp → Prop), (∀ σ H, Q σ H → Q' σ H) → gt x σ H Q → gt x σ H Q') {gs : TGs} (hs : GIns gs vs) : GIns (gCons gt gs) vs := fun xs σ H Q ⟨v, r, e, q⟩ =>
  ⟨v, r, e, hm _ _ _ _ _ (fun σ2 H2 ⟨w, q2⟩ => by
    have z := hs _ _ _ _ q2
    rw [w] at z
    exact z) (h _ _ _ _ q)⟩
theorem GIns.name {i : Nat} {vs : List Nat} (h : i ∈ vs) {gs : TGs} (hs : GIns gs vs) : GIns (gCons (gName i) gs) vs := tg_mono (GIn.name h) (fun _ _ _ _ _ m q => m _ _ q) hs
theorem GIn.tupA {n : Nat} {gs : TGs} {vs : List Nat} (h : GIns gs vs) : GIn (gTupA n gs) vs := fun x σ H Q ⟨a, xs, e, sq, hl, q⟩ => ⟨a, xs, e, sq, hl, h _ _ _ _ q⟩
theorem GIn.tup {K : PySem.W.Frag} {n : Nat} {gs : TGs} {vs : List Nat} (h : GIns gs vs) : GIn (gTup K n gs) vs := fun x σ H Q ⟨a, xs, e, sq, hl, q⟩ => ⟨a, xs, e, sq, hl, h _ _ _ _ q⟩
section
variable {γ : Type} {B : Bd γ} {S : Ad} {H0 H H1 H' : Hp} {σ σ1 : L2.St} {g : γ} {ρ ρ1 : List En} {k : KD γ} {te : TE} {tt : TT} {gt : TG} {wi : TI} {vs : List Nat} {K : PySem.W.Frag} {C : Co γ} {a : Addr} {ob : HO}
/-- what a wiped slot was -/
theorem wipeE_at {e : En} (n1 : ∀ d, e ≠ En.own d) (n2 : e ≠ En.no) : ∀ {vs : List Nat} {i : Nat}, (wipeE (ρ.map nown) vs)[i]? = some e → ρ[i]? = some e ∧ i ∉ vs
  | [], i, z => by
    refine ⟨?_, List.not_mem_nil⟩
    have z : (ρ.map nown)[i]? = some e := z
    rw [List.getElem?_map] at z
    cases q : ρ[i]? with
    | none => rw [q] at z; cases z
    | some x =>
      rw [q] at z
      cases x with
      | own d => exact absurd (Option.some.inj z).symm n2
      | no => exact z
      | da d => exact z
      | raw v => exact z
  | v :: vs, i, z => by
    rcases get_set z with ⟨_, q⟩ | ⟨q, z⟩
    · exact absurd q n2
    · exact ⟨(wipeE_at n1 n2 z).1, fun m => (List.mem_cons.mp m).elim (fun w => q w.symm) (wipeE_at n1 n2 z).2⟩
/-- within a comprehension: nothing grows but the list at a -/
theorem Sl.lcin (h : Sl K C S H0 g H σ ρ) (n : H a = none) (no : ¬ isT ob) : Sl K C ((SS S σ ρ).add a) (upd H a ob) g (upd H a ob) (wipe σ vs) (wipeE (ρ.map nown) vs) := by
  have s1 := same_new (o := ob) (Same.refl H) n
  have t : ∀ b u, H b = some u → SS ((SS S σ ρ).add a) (wipe σ vs) (wipeE (ρ.map nown) vs) b → SS S σ ρ b := fun b u e z => by
    rcases z with (z | z) | ⟨_, _, z, _⟩
    · exact z
    · rw [z, n] at e; cases e
    · exact (wipeE_own z).elim
  refine ⟨Frm.refl _ _, h.olds.new no, fun b m => .inl (h.subs b m), fun b ⟨_, _, z, _⟩ => (wipeE_own z).elim, ?_, by rw [wipe_length, wipeE_len, List.length_map]; exact h.len, fun i d e => ?_, fun i d e => (wipeE_own e).elim, fun i v e => ?_, fun i _ e => (wipeE_own e).elim, fun i _ _ _ _ e => (wipeE_own e).elim⟩
  · exact C.same (fun b m => .inl (.inl (h.subs b m))) (C.mono _ _ _ _ t h.I) s1
  · obtain ⟨e, m⟩ := wipeE_at (e := En.da d) (fun _ z => nomatch z) (fun z => nomatch z) e
    obtain ⟨y, e1, dy⟩ := h.da i d e
    exact ⟨y, by rw [wipe_out m]; exact e1, (dy.mono t).same s1⟩
  · obtain ⟨e, m⟩ := wipeE_at (e := En.raw v) (fun _ z => nomatch z) (fun z => nomatch z) e
    rw [wipe_out m]
    exact h.raw i v e
/-- a turn of it is over: the slots as at its start, its list changed -/
theorem Sl.turn (h : Sl K C S H g H σ ρ) (no : ∀ (i : Nat) d, ρ[i]? ≠ some (En.own d)) {g1 : γ} (h1 : Sl K C S H g1 H1 σ1 ρ1) (hs : S a) (nm : ¬ C.M a) (nt : ¬ isT ob) : Sl K C S (upd H1 a ob) g1 (upd H1 a ob) σ ρ := by
  have fS : Frm S H H1 := h1.frm.wide h.sub
  have f2 : Frm S H1 (upd H1 a ob) := (Frm.refl S H1).put hs
  have w : ∀ b o, H1 b = some o → SS S σ ρ b → SS S σ1 ρ1 b := fun b o _ z => z.elim .inl fun ⟨_, _, e, _⟩ => (no _ _ e).elim
  refine ⟨Frm.refl _ _, h1.old.put nt, h.sub, fun b ⟨_, _, z, _⟩ => (no _ _ z).elim, ?_, h.len, fun i d e => ?_, fun i d e => (no _ _ e).elim, h.raw, fun i _ e => (no _ _ e).elim, fun i _ _ _ _ e => (no _ _ e).elim⟩
  · exact C.keep _ _ _ _ h.subs (fun b m => upd_ne (fun (z : b = a) => nm (z ▸ m))) (f2.wide fun _ z => .inl z) (C.mono _ _ _ _ w h1.I)
  · obtain ⟨y, e1, dy⟩ := h.da i d e
    exact ⟨y, e1, dy.keep ((fS.trans f2).wide fun _ z => .inl z)⟩
theorem Sl.turn0 (h : Sl K C S H g H σ ρ) (no : ∀ (i : Nat) d, ρ[i]? ≠ some (En.own d)) {g1 : γ} (h1 : Sl K C S H g1 H1 σ1 ρ1) : Sl K C S H1 g1 H1 σ ρ := by
  have fS : Frm S H H1 := h1.frm.wide h.sub
  have w : ∀ b o, H1 b = some o → SS S σ ρ b → SS S σ1 ρ1 b := fun b o _ z => z.elim .inl fun ⟨_, _, e, _⟩ => (no _ _ e).elim
  refine ⟨Frm.refl _ _, h1.old, h.sub, fun b ⟨_, _, z, _⟩ => (no _ _ z).elim, C.mono _ _ _ _ w h1.I, h.len, fun i d e => ?_, fun i d e => (no _ _ e).elim, h.raw, fun i _ e => (no _ _ e).elim, fun i _ _ _ _ e => (no _ _ e).elim⟩
  obtain ⟨y, e1, dy⟩ := h.da i d e
  exact ⟨y, e1, dy.keep (fS.wide fun _ z => .inl z)⟩
inductive LcI (B : Bd γ) (gt : TG) (tt : TT) (te : TE) (vs : List Nat) (ρ : List En) (k : KD γ) (ds : List PyData) (g1 : γ) : Prop
  | mk (hl : ds.length ≤ 60000) (J : Nat → List PyData → γ → Prop) (h0 : J 0 [] g1) (hs : ∀ i d acc g2, ds[i]? = some d → J i acc g2 → Wg B gt d g2 (wipeE (ρ.map nown) vs) fun g3 ρ3 => Wt B tt g3 ρ3 fun b g4 => (b = true → We B te g4 ρ3 fun e g5 => J (i + 1) (acc ++ [e]) g5) ∧ (b = false → J (i + 1) acc g4)) (hd : ∀ acc g2, J ds.length acc g2 → k (.list acc) g2)
theorem Wn_lc (gi : GIn gt vs) (h : Wi B wi g ρ fun ds g1 => LcI B gt tt te vs ρ k ds g1) : Wn B (tLc wi gt tt te vs) g ρ k := fun S H0 σ H Q s x q =>
  h S H0 σ H _ s x fun Jt H1 ds g1 f1 I1 ⟨Y, w, wy⟩ ⟨hl, J, j0, js, jd⟩ D hD => by
    have s1 := s.step f1 I1
    have nS : ¬ SS S σ ρ D := s1.olds.not hD
    have nM : ¬ B.C.M D := fun m => nS (s1.subs D m)
    have sD : (SS S σ ρ).add D D := .inr rfl
    have no : ∀ (i : Nat) d, (wipeE (ρ.map nown) vs)[i]? ≠ some (En.own d) := fun _ _ => wipeE_own
    have noT : ∀ b, SS ((SS S σ ρ).add D) (wipe σ vs) (wipeE (ρ.map nown) vs) b → (SS S σ ρ).add D b := fun b z => z.elim (fun z => z) fun ⟨_, _, z, _⟩ => (wipeE_own z).elim
    refine lc_it w (fun i H' => ∃ g' acc es, Sl B.K B.C ((SS S σ ρ).add D) H' g' H' (wipe σ vs) (wipeE (ρ.map nown) vs) ∧ H' D = some (.lst acc) ∧ DaL B.K ((SS S σ ρ).add D) H' acc es ∧ Frm B.C.M H1 H' ∧ es.length ≤ i ∧ J i es g')
      ⟨g1, [], [], s1.lcin hD (fun z => z), upd_same, .nil, (Frm.of (same_new (Same.refl H1) hD)), Nat.le_refl _, j0⟩ (fun i H' _ ⟨_, _, _, _, _, _, f, _⟩ => f.wide s1.subs) ?_ ?_
    · intro i v H' H'' hi pv y
      obtain ⟨g', acc, es, s', eD, dl, f, le, j⟩ := pv
      have x' : XE B ((SS S σ ρ).add D) H' := fun nm od H2 g2 es f2 I2 xd hx => x nm od H2 g2 es (s1.frm.trans (f.trans f2)) (B.C.mono _ _ _ _ (fun _ _ _ z => .inl (.inl z)) I2) (xd.mono fun _ _ _ z => .inl (.inl z)) hx
      obtain ⟨sm, d, hd, dx⟩ := wy i H' v H'' (SS ((SS S σ ρ).add D) (wipe σ vs) (wipeE (ρ.map nown) vs)) hi (f.wide s1.subs) s'.olds (fun b z => (noT b z).elim .inl fun z => .inr (z ▸ hD)) y
      have s'' := s'.same sm
      have eD2 : ∀ {H2 : Hp} {g2 : γ} {σ2 : L2.St} {ρ2 : List En}, Sl B.K B.C ((SS S σ ρ).add D) H' g2 H2 σ2 ρ2 → H2 D = some (.lst acc) ∧ DaL B.K ((SS S σ ρ).add D) H2 acc es ∧ Frm B.C.M H1 H2 := fun s2 => ⟨s2.frm _ _ nM eD, dl.keep (s2.frm.wide s'.sub), f.trans s2.frm⟩
      have z := gi v (wipe σ vs) H'' _ (js i d es g' hd j _ H' _ H'' v (fun σ3 H3 => tt σ3 H3 fun b H4 => if b = true then te σ3 H4 fun y H5 => ∃ acc, H5 D = some (.lst acc) ∧ acc.length < sizeLine ∧ ∃ g' ac es, Sl B.K B.C ((SS S σ ρ).add D) (upd H5 D (.lst (acc ++ [y]))) g' (upd H5 D (.lst (acc ++ [y]))) (wipe σ vs) (wipeE (ρ.map nown) vs) ∧ (upd H5 D (.lst (acc ++ [y]))) D = some (.lst ac) ∧ DaL B.K ((SS S σ ρ).add D) (upd H5 D (.lst (acc ++ [y]))) ac es ∧ Frm B.C.M H1 (upd H5 D (.lst (acc ++ [y]))) ∧ es.length ≤ i + 1 ∧ J (i + 1) es g' else ∃ g' ac es, Sl B.K B.C ((SS S σ ρ).add D) H4 g' H4 (wipe σ vs) (wipeE (ρ.map nown) vs) ∧ H4 D = some (.lst ac) ∧ DaL B.K ((SS S σ ρ).add D) H4 ac es ∧ Frm B.C.M H1 H4 ∧ es.length ≤ i + 1 ∧ J (i + 1) es g') s'' x' dx fun σ3 H3 ρ3 g3 s3 st3 hw => hw _ H' σ3 H3 _ s3 x' fun b H4 g4 f4 I4 hb => by
        have s4 := s3.step f4 I4
        cases b with
        | false =>
          obtain ⟨e1, e2, e3⟩ := eD2 s4
          exact (if_neg (fun z => nomatch z)).mpr ⟨g4, acc, es, s'.turn0 no s4, e1, e2, e3, Nat.le_succ_of_le le, hb.2 rfl⟩
        | true =>
          refine (if_pos rfl).mpr (hb.1 rfl _ H' σ3 H4 _ s4 x' fun y H5 e g5 f5 I5 dy hj => ?_)
          have s5 := s4.step f5 I5
          obtain ⟨e1, e2, e3⟩ := eD2 s5
          have up : Frm ((SS S σ ρ).add D) H5 (upd H5 D (.lst (acc ++ [y]))) := (Frm.refl _ H5).put sD
          refine ⟨acc, e1, smallB (by rw [dl.len]; omega), g5, acc ++ [y], es ++ [e], s'.turn no s5 sD nM (fun z => z), upd_same, (e2.keep up).app (.cons ((dy.mono fun _ _ _ z => .inl z).keep up) .nil), fun b u n q => by rw [upd_ne (ne_of_none q hD)]; exact e3 b u n q, by rw [List.length_append]; exact Nat.succ_le_succ le, hj⟩)
      rw [wipe_wipe] at z
      exact z
    · intro H' pv
      obtain ⟨g', acc, es, s', eD, dl, f, le, j⟩ := pv
      exact q D H' (.list es) g' (f1.gone (B.C.old _ _ _ I1) hD) (f1.trans f) (B.C.mono _ _ _ _ (fun _ _ _ z => .inl z) s'.I) (.lst eD dl) nt_l (jd _ _ j)
end
/-! ### things that grow, by data -/
section
variable {γ : Type} {B : Bd γ} {S : Ad} {H0 H H1 H' : Hp} {σ σ1 : L2.St} {g : γ} {ρ ρ1 : List En} {k : KD γ} {kt : Kz γ} {te ti : TE} {tt : TT} {ts : TS} {gt : TG} {wi : TI} {vs : List Nat} {K : PySem.W.Frag} {C : Co γ} {a o : Addr} {ob : HO} {i : Nat} {d d' : PyData} {ds : List PyData} {n : γ → List En → Prop}
theorem Stp.own_put (e : ρ[i]? = some (En.own d)) (eo : σ[i]? = some (some (V.ref o))) : Stp S σ ρ H σ (ρ.set i (En.own d')) (upd H o ob) := by
  refine ⟨(Frm.refl _ H).put (.inr ⟨i, d, e, eo⟩), fun b ⟨j, fs, e1, e2⟩ => .inl ?_, fun b z => upd_none z⟩
  rcases get_set e1 with ⟨rfl, _⟩ | ⟨q, e1⟩
  · exact ⟨i, d, e, e2⟩
  · exact ⟨j, fs, e1, e2⟩
theorem Ho.put {T : Ad} {d : PyData} (t : T o) (h : ∀ H', Frm T H H' → H' o = some ob → Ho K T H' o d) : Ho K T (upd H o ob) o d := h _ ((Frm.refl T H).put t) upd_same
/-- x.append(e), x our own -/
theorem Ws_app (e : ρ[i]? = some (En.own (.list ds))) (h : We B te g ρ fun d g1 => ds.length ≤ 60000 ∧ kt.nx g1 (ρ.set i (En.own (.list (ds ++ [d]))))) : Ws B (tDrop (tBM B.K "list" rAppend (tVar i) (tCons te tNil))) g ρ kt := fun S H0 σ H D s x L => by
  obtain ⟨o, e1, ho⟩ := s.own i _ e
  obtain ⟨xs, e2, dl⟩ := ho.lst_inv
  refine ⟨_, e1, .inl ⟨rfl, xs, SqL.of e2⟩, h S H0 σ H _ s x fun y H1 d g1 f I dy ⟨hl, h1⟩ => ?_⟩
  have s1 := s.step f I
  obtain ⟨o', e1', ho'⟩ := s1.own i _ e
  rw [e1] at e1'
  cases e1'
  obtain ⟨ys, e3, dl'⟩ := ho'.lst_inv
  have to : SS S σ ρ o := .inr ⟨i, _, e, e1⟩
  have fu : Frm (SS S σ ρ) H1 (upd H1 o (.lst (ys ++ [y]))) := (Frm.refl _ H1).put to
  exact ⟨o, ys, y, rfl, rfl, e3, smallB (by rw [dl'.len]; exact hl), L.nx σ _ _ g1 (s1.put_own e e1 (.lst upd_same ((dl'.keep fu).app (.cons (dy.keep fu) .nil))) nt_l) ((s.stp f I).trans (Stp.own_put e e1)) h1⟩
/-- x.extend(e), x our own -/
theorem Ws_ext (e : ρ[i]? = some (En.own (.list ds))) (h : We B te g ρ fun d g1 => ∃ es, d = .list es ∧ ds.length + es.length ≤ 60000 ∧ kt.nx g1 (ρ.set i (En.own (.list (ds ++ es))))) : Ws B (tDrop (tBM B.K "list" rExtend (tVar i) (tCons te tNil))) g ρ kt := fun S H0 σ H D s x L => by
  obtain ⟨o, e1, ho⟩ := s.own i _ e
  obtain ⟨xs, e2, dl⟩ := ho.lst_inv
  refine ⟨_, e1, .inl ⟨rfl, xs, SqL.of e2⟩, h S H0 σ H _ s x fun y H1 d g1 f I dy ⟨es, ed, hl, h1⟩ => ?_⟩
  subst ed
  have s1 := s.step f I
  obtain ⟨o', e1', ho'⟩ := s1.own i _ e
  rw [e1] at e1'
  cases e1'
  obtain ⟨ys, e3, dl'⟩ := ho'.lst_inv
  obtain ⟨b, zs, rfl, e4, nb, dz⟩ := dy.lst_inv
  have to : SS S σ ρ o := .inr ⟨i, _, e, e1⟩
  have fu : Frm (SS S σ ρ) H1 (upd H1 o (.lst (ys ++ zs))) := (Frm.refl _ H1).put to
  exact ⟨o, b, ys, zs, rfl, rfl, e3, e4, Nat.le_of_lt (smallB (by rw [dl'.len, dz.len]; exact hl)), L.nx σ _ _ g1 (s1.put_own e e1 (.lst upd_same ((dl'.keep fu).app (dz.keep fu))) nt_l) ((s.stp f I).trans (Stp.own_put e e1)) h1⟩
theorem ixN_nat {n j : Nat} (h : j < n) : ixN n (j : Int) = some j := by
  unfold ixN
  rw [if_pos (Int.ofNat_nonneg j), if_pos (by omega), Int.toNat_natCast]
/-- x[e] = .., x our own -/
theorem Wg_put (e : ρ[i]? = some (En.own (.list ds))) (h : We B ti g ρ fun u g1 => ∃ j : Nat, u = .int j ∧ j < ds.length ∧ n g1 (ρ.set i (En.own (.list (ds.set j d))))) : Wg B (gSub (tVar i) ti rSetL) d g ρ n := fun S H0 σ H y N s x dy L => by
  obtain ⟨o, e1, ho⟩ := s.own i _ e
  refine ⟨_, e1, h S H0 σ H _ s x fun z H1 u g1 f I dz ⟨j, eu, hj, h1⟩ => ?_⟩
  subst eu
  have s1 := s.step f I
  obtain ⟨o', e1', ho'⟩ := s1.own i _ e
  rw [e1] at e1'
  cases e1'
  obtain ⟨ys, e3, dl'⟩ := ho'.lst_inv
  have to : SS S σ ρ o := .inr ⟨i, _, e, e1⟩
  have fu : Frm (SS S σ ρ) H1 (upd H1 o (.lst (ys.set j y))) := (Frm.refl _ H1).put to
  exact ⟨o, ys, _, j, rfl, dz.int_inv, e3, ixN_nat (by rw [dl'.len]; exact hj), L σ _ _ g1 (s1.put_own e e1 (.lst upd_same ((dl'.keep fu).set j ((dy.keep (f.wide s.subs)).keep fu))) nt_l) ((s.stp f I).trans (Stp.own_put e e1)) h1⟩
/-- name += e, ints -/
theorem Ws_aug {f : Int → Int → Int} {m : Int} (e : ρ[i]? = some (En.da (.int m))) (h : We B te g ρ fun d g1 => ∃ j : Int, d = .int j ∧ kt.nx g1 (ρ.set i (En.da (.int (f m j))))) : Ws B (tAug i te (ipI f)) g ρ kt := fun S H0 σ H D s x L => by
  obtain ⟨y, e1, dy⟩ := s.da i _ e
  cases dy.int_inv
  refine ⟨_, e1, h S H0 σ H _ s x fun z H1 d g1 fr I dz ⟨j, ed, h1⟩ => ?_⟩
  subst ed
  cases dz.int_inv
  exact ⟨m, j, rfl, rfl, L.nx _ H1 _ g1 ((s.step fr I).set_da (.int _) (List.getElem?_eq_some_iff.mp e).1) ((s.stp fr I).set fun _ z => nomatch z) h1⟩
theorem daF_zip {T : Ad} : ∀ {fs : List Str} {ys : List V} {ds : List PyData}, DaL K T H ys ds → DaF K T H ((fs.zip ys).map fun p => (PyData.str p.1, p.2)) ((fs.zip ds).map fun p => (PyData.str p.1, p.2))
  | [], _, _, _ => .nil
  | _ :: _, _, _, .nil => .nil
  | _ :: _, _, _, .cons h r => .cons h (daF_zip r)
theorem DaF.app {T : Ad} : ∀ {fs fs' : List (PyData × V)} {gs gs' : List (PyData × PyData)}, DaF K T H fs gs → DaF K T H fs' gs' → DaF K T H (fs ++ fs') (gs ++ gs')
  | _, _, _, _, .nil, k => k
  | _, _, _, _, .cons h r, k => .cons h (DaF.app r k)
theorem DaF.rev {T : Ad} {fs : List (PyData × V)} {gs : List (PyData × PyData)} (h : DaF K T H fs gs) : DaF K T H fs.reverse gs.reverse := by
  induction fs generalizing gs with
  | nil => cases h; exact .nil
  | cons p r ih =>
    cases h with
    | cons h k =>
      rw [List.reverse_cons, List.reverse_cons]; exact (ih k).app (.cons h .nil)
/-- raise nm(..), its attributes fs -/
theorem Ws_raise {nm : Str} {fs : List Str} {ta : TA} (h : Wa B ta g ρ fun es g1 => ∃ ds : List PyData, es = ds.map En.da ∧ ds.length = fs.length ∧ ds.length ≤ 1000 ∧ B.x nm ((fs.zip ds).map fun p => (PyData.str p.1, p.2)).reverse g1) : Ws B (fun _ σ H => tMkO (He.ga B.K nm) (spIni (He.ga B.K nm) fs) [] ta σ H fun cls d H' => B.E cls d H') g ρ kt := fun S H0 σ H D s x L => h S H0 σ H _ s x fun ys H1 es g1 f I al ⟨ds, e, hl, h9, hx⟩ => by
  subst e
  have dl := arl_da al
  refine ⟨by rw [dl.len]; exact h9, fun a ha => ⟨a, ys, (by rw [List.append_nil]), dl.len.trans hl, upd_same, fun d H' hd hne e1 e2 k1 => ⟨rfl, d, _, e1, e2, ?_, ?_⟩⟩⟩
  · rw [upd_ne hne] at hd; exact hd
  · have hd1 : H1 d = none := by rw [upd_ne hne] at hd; exact hd
    have sm : Same H1 (upd (del H' a) d (.xd (fs.zip ys).reverse)) := fun b u z => by
      have nba : b ≠ a := ne_of_none z ha
      rw [upd_ne (ne_of_none z hd1), del_ne nba]
      exact k1 b u nba (by rw [upd_ne nba]; exact z)
    refine x nm (some d) _ g1 _ (s.frm.trans (f.trans (Frm.of sm))) (B.C.mono _ _ _ _ (fun _ _ _ z => .inl z) (B.C.same s.subs I sm)) (.inr ⟨d, _, rfl, upd_same, ?_⟩) hx
    rw [List.map_reverse]
    exact ((daF_zip ((dl.same sm).mono fun _ _ _ z => .inl z)).rev)
/-- a thing of ours is lent for a statement -/
theorem Ws_lend {γ : Type} {K : PySem.W.Frag} {C : Co γ} {E : XK} {x : KX γ} {g : γ} {kt : Kz γ} {i : Nat} {d : PyData} (e : ρ[i]? = some (En.own d))
    (h : ∀ o, Ws ⟨K, C.box K o, E, fun nm es g => x nm es g.1⟩ ts (g, d) (ρ.set i (En.raw (.ref o))) ⟨fun g' ρ' => ρ'[i]? = some (En.raw (.ref o)) ∧ kt.nx g'.1 (ρ'.set i (En.own g'.2)), fun d g' => kt.rt d g'.1, fun g' ρ' => ρ'[i]? = some (En.raw (.ref o)) ∧ kt.bk g'.1 (ρ'.set i (En.own g'.2)), fun g' ρ' => ρ'[i]? = some (En.raw (.ref o)) ∧ kt.ct g'.1 (ρ'.set i (En.own g'.2))⟩) :
    Ws ⟨K, C, E, x⟩ ts g ρ kt := fun S H0 σ H D s xe L => by
  obtain ⟨o, e1, ho⟩ := s.own i _ e
  have hi : i < ρ.length := (List.getElem?_eq_some_iff.mp e).1
  have to : Tow σ ρ o := ⟨i, d, e, e1⟩
  obtain ⟨n0, nS⟩ := s.tn o to
  have nM : ¬ C.M o := fun m => nS (s.sub o m)
  have tw : ∀ b, Tow σ (ρ.set i (En.raw (.ref o))) b → b ≠ o ∧ Tow σ ρ b := fun b => by
    rintro ⟨j, fs, y1, y2⟩
    rcases get_set y1 with ⟨_, q⟩ | ⟨q, y1⟩
    · cases q
    · exact ⟨fun z => q (s.inj i j d fs o e y1 e1 (z ▸ y2)), ⟨j, fs, y1, y2⟩⟩
  have tw2 : ∀ b, Tow σ ρ b → b = o ∨ Tow σ (ρ.set i (En.raw (.ref o))) b := fun b => by
    rintro ⟨j, fs, y1, y2⟩
    by_cases q : i = j
    · subst q
      rw [e1] at y2; cases y2; exact .inl rfl
    · exact .inr ⟨j, fs, by rw [set_ne q]; exact y1, y2⟩
  have sub1 : ∀ b, SS (S.add o) σ (ρ.set i (En.raw (.ref o))) b → SS S σ ρ b := fun b z => by
    rcases z with (z | z) | z
    · exact .inl z
    · exact .inr (z ▸ to)
    · exact .inr (tw b z).2
  have sub2 : ∀ b, SS S σ ρ b → SS (S.add o) σ (ρ.set i (En.raw (.ref o))) b := fun b z => by
    rcases z with z | z
    · exact .inl (.inl z)
    · exact (tw2 b z).elim (fun z => .inl (.inr z)) .inr
  have fz : ∀ {H'}, Frm (C.M.add o) H0 H' → Frm C.M H0 H' := fun f => Frm.add n0 f
  have lift : ∀ {σ' : L2.St} {H' : Hp} {ρ' : List En} {g' : γ × PyData}, Sl K (C.box K o) (S.add o) H0 g' H' σ' ρ' → ρ'[i]? = some (En.raw (.ref o)) → Stp (S.add o) σ (ρ.set i (En.raw (.ref o))) H σ' ρ' H' → Sl K C S H0 g'.1 H' σ' (ρ'.set i (En.own g'.2)) ∧ Stp S σ ρ H σ' (ρ'.set i (En.own g'.2)) H' := fun {σ' H' ρ' g'} s' e' st => by
    have es' := s'.raw i _ e'
    have hi' : i < ρ'.length := (List.getElem?_eq_some_iff.mp e').1
    have so : (S.add o) o := .inr rfl
    have tb : ∀ b, Tow σ' (ρ'.set i (En.own g'.2)) b → b = o ∨ Tow σ' ρ' b := fun b => by
      rintro ⟨j, fs, y1, y2⟩
      rcases get_set y1 with ⟨rfl, _⟩ | ⟨q, y1⟩
      · rw [es'] at y2; cases y2; exact .inl rfl
      · exact .inr ⟨j, fs, y1, y2⟩
    have w : ∀ b u, H' b = some u → SS S σ' (ρ'.set i (En.own g'.2)) b → SS (S.add o) σ' ρ' b := fun b u _ z => by
      rcases z with z | z
      · exact .inl (.inl z)
      · exact (tb b z).elim (fun z => .inl (.inr z)) .inr
    refine ⟨⟨fz s'.frm, fun b z => s'.old b (.inl z), s.sub, fun b z => ?_, C.mono _ _ _ _ w s'.I.1, by rw [List.length_set]; exact s'.len, fun j u z => ?_, fun j u z => ?_, fun j u z => ?_, fun j u z => (get_set z).elim (fun z => by cases z.2; exact s'.I.2.2.2) fun z => s'.nt j u z.2, fun j l u v b z1 z2 z3 z4 => ?_⟩, ⟨fun b u n z => st.f b u (fun q => n (sub1 b q)) z, fun b z => ?_, st.v⟩⟩
    · rcases tb b z with rfl | z
      · exact ⟨n0, nS⟩
      · exact ⟨(s'.tn b z).1, fun q => (s'.tn b z).2 (.inl q)⟩
    · rcases get_set z with ⟨_, q⟩ | ⟨_, z⟩
      · cases q
      · obtain ⟨y, y1, dy⟩ := s'.da j u z
        exact ⟨y, y1, dy.mono w⟩
    · rcases get_set z with ⟨rfl, q⟩ | ⟨_, z⟩
      · cases q
        exact ⟨o, es', s'.I.2.2.1.mono w⟩
      · obtain ⟨y, y1, dy⟩ := s'.own j u z
        exact ⟨y, y1, dy.mono w⟩
    · rcases get_set z with ⟨_, q⟩ | ⟨_, z⟩
      · cases q
      · exact s'.raw j u z
    · have off : ∀ (l : Nat) fs, ρ'[l]? = some (En.own fs) → σ'[l]? ≠ some (some (V.ref o)) := fun l fs y1 y2 => (s'.tn o ⟨l, fs, y1, y2⟩).2 so
      rcases get_set z1 with ⟨rfl, _⟩ | ⟨q1, z1⟩ <;> rcases get_set z2 with ⟨rfl, _⟩ | ⟨q2, z2⟩
      · rfl
      · rw [es'] at z3; cases z3; exact absurd z4 (off _ _ z2)
      · rw [es'] at z4; cases z4; exact absurd z3 (off _ _ z1)
      · exact s'.inj j l u v b z1 z2 z3 z4
    · rcases tb b z with rfl | z
      · exact .inl to
      · exact (st.t b z).elim (fun z => .inl (tw b z).2) .inr
  have w0 : ∀ b u, H b = some u → SS (S.add o) σ (ρ.set i (En.raw (.ref o))) b → SS S σ ρ b := fun b _ _ z => sub1 b z
  have s0 : Sl K (C.box K o) (S.add o) H0 (g, d) H σ (ρ.set i (En.raw (.ref o))) := by
    refine ⟨s.frm.wide fun _ m => .inl m, (let ⟨_, z, n⟩ := ho.nt (s.nt i d e); s.old.add z n), fun b m => m.elim (fun m => .inl (s.sub b m)) .inr, fun b z => ⟨(s.tn b (tw b z).2).1, fun q => q.elim (s.tn b (tw b z).2).2 (tw b z).1⟩, ⟨C.mono _ _ _ _ w0 s.I, nM, ho.mono w0, s.nt i d e⟩, by rw [List.length_set]; exact s.len, fun j u z => ?_, fun j u z => ?_, fun j u z => ?_, fun j u z => (get_set z).elim (fun z => nomatch z.2) fun z => s.nt j u z.2, fun j l u v b z1 z2 z3 z4 => ?_⟩
    · rcases get_set z with ⟨_, q⟩ | ⟨_, z⟩
      · cases q
      · obtain ⟨y, y1, dy⟩ := s.da j u z
        exact ⟨y, y1, dy.mono w0⟩
    · rcases get_set z with ⟨_, q⟩ | ⟨_, z⟩
      · cases q
      · obtain ⟨y, y1, dy⟩ := s.own j u z
        exact ⟨y, y1, dy.mono w0⟩
    · rcases get_set z with ⟨rfl, q⟩ | ⟨_, z⟩
      · cases q; exact e1
      · exact s.raw j u z
    · rcases get_set z1 with ⟨_, q⟩ | ⟨_, z1⟩
      · cases q
      rcases get_set z2 with ⟨_, q⟩ | ⟨_, z2⟩
      · cases q
      exact s.inj j l u v b z1 z2 z3 z4
  refine h o (S.add o) H0 σ H D s0 (fun nm od H' g' es f I xd hx => xe nm od H' g'.1 es (fz f) (C.mono _ _ _ _ (fun _ _ _ z => .inl z) I.1) (xd.mono fun _ _ _ z => .inl z) hx) ⟨fun σ' H' ρ' g' s' st w => ?_, fun y H' u g' f I dy r => ?_, fun σ' H' ρ' g' s' st w => ?_, fun σ' H' ρ' g' s' st w => ?_⟩
  · obtain ⟨l1, l2⟩ := lift s' w.1 st
    exact L.nx σ' H' _ _ l1 l2 w.2
  · exact L.rt y H' u g'.1 (fz f) (C.mono _ _ _ _ (fun _ _ _ z => .inl z) I.1) (dy.mono fun _ _ _ z => .inl z) r
  · obtain ⟨l1, l2⟩ := lift s' w.1 st
    exact L.bk σ' H' _ _ l1 l2 w.2
  · obtain ⟨l1, l2⟩ := lift s' w.1 st
    exact L.ct σ' H' _ _ l1 l2 w.2
end
/-! ### readings told by data -/
section
variable {K : PySem.W.Frag} {T : Ad} {H : Hp}
theorem rd_i0 {f : Int → Int → Int} : RdO K (rI0 fun i j => .int (f i j)) fun d e k => ∃ i j : Int, d = .int i ∧ e = .int j ∧ k (.int (f i j)) := fun T H x y d e k Q _ dx dy ⟨i, j, h1, h2, hk⟩ q => by
  subst h1 h2
  exact ⟨i, j, dx.int_inv, dy.int_inv, q _ H _ (Same.refl _) (.int _) hk⟩
theorem rd_b0 {f : Int → Int → Bool} : RdO K (rI0 fun i j => .bl (f i j)) fun d e k => ∃ i j : Int, d = .int i ∧ e = .int j ∧ k (.bool (f i j)) := fun T H x y d e k Q _ dx dy ⟨i, j, h1, h2, hk⟩ q => by
  subst h1 h2
  exact ⟨i, j, dx.int_inv, dy.int_inv, q _ H _ (Same.refl _) (.bl _) hk⟩
theorem rd_i {c : Int → Int → Prop} {f : Int → Int → Int} : RdO K (rI c fun i j => .int (f i j)) fun d e k => ∃ i j : Int, d = .int i ∧ e = .int j ∧ c i j ∧ k (.int (f i j)) := fun T H x y d e k Q _ dx dy ⟨i, j, h1, h2, hc, hk⟩ q => by
  subst h1 h2
  exact ⟨i, j, dx.int_inv, dy.int_inv, hc, q _ H _ (Same.refl _) (.int _) hk⟩
theorem rd_neg {f : Int → Int} : RdU K (rU fun i => .int (f i)) fun d k => ∃ i : Int, d = .int i ∧ k (.int (f i)) := fun T H x d k Q _ dx ⟨i, h1, hk⟩ q => by
  subst h1
  exact ⟨i, dx.int_inv, q _ H _ (Same.refl _) (.int _) hk⟩
theorem rd_eqD : RdO K (rEqD K) fun d e k => SeqAt.shaped d = true ∧ SeqAt.shaped e = true ∧ k (.bool (PyData.eqv d e)) := fun T H x y d e k Q _ dx dy ⟨h1, h2, hk⟩ q => ⟨d, e, dx.dp h1, dy.dp h2, h1, h2, q _ H _ (Same.refl _) (.bl _) hk⟩
theorem rd_neD : RdO K (rNeD K) fun d e k => SeqAt.shaped d = true ∧ SeqAt.shaped e = true ∧ k (.bool (!PyData.eqv d e)) := fun T H x y d e k Q _ dx dy ⟨h1, h2, hk⟩ q => ⟨d, e, dx.dp h1, dy.dp h2, h1, h2, q _ H _ (Same.refl _) (.bl _) hk⟩
theorem rd_inT : RdO K (rInT K) fun d e k => ∃ ds, e = .tuple ds ∧ SeqAt.shaped d = true ∧ SeqAt.shaped (.tuple ds) = true ∧ k (.bool (ds.any fun z => PyData.eqv z d)) := fun T H x y d e k Q _ dx dy ⟨ds, h0, h1, h2, hk⟩ q => by
  subst h0
  exact ⟨d, ds, dx.dp h1, dy.dp h2, h1, h2, q _ H _ (Same.refl _) (.bl _) hk⟩
theorem rd_inD : RdO K (rInD K) fun d e k => ∃ ds, e = .list ds ∧ SeqAt.shaped d = true ∧ SeqAt.shaped (.list ds) = true ∧ k (.bool (ds.any fun z => PyData.eqv z d)) := fun T H x y d e k Q _ dx dy ⟨ds, h0, h1, h2, hk⟩ q => by
  subst h0
  exact ⟨d, ds, dx.dp h1, dy.dp h2, h1, h2, q _ H _ (Same.refl _) (.bl _) hk⟩
theorem rd_notInD : RdO K (rNotInD K) fun d e k => ∃ ds, e = .list ds ∧ SeqAt.shaped d = true ∧ SeqAt.shaped (.list ds) = true ∧ k (.bool (!ds.any fun z => PyData.eqv z d)) := fun T H x y d e k Q _ dx dy ⟨ds, h0, h1, h2, hk⟩ q => by
  subst h0
  exact ⟨d, ds, dx.dp h1, dy.dp h2, h1, h2, q _ H _ (Same.refl _) (.bl _) hk⟩
def isNo : PyData → Bool
  | .none => true
  | _ => false
theorem vnon {x : V} {d : PyData} {H : Hp} (h : Da K T H x d) : decide (x = .non) = isNo d := by
  cases h with
  | non => rfl
  | bl b => rfl
  | int n => rfl
  | str z => rfl
  | ref h _ => cases h <;> rfl
theorem rd_isN : RdO K (fun x y H Q => y = .non ∧ Q (.bl (decide (x = .non))) H) fun d e k => e = .none ∧ k (.bool (isNo d)) := fun T H x y d e k Q _ dx dy ⟨h0, hk⟩ q => by
  subst h0
  refine ⟨dy.non_inv, ?_⟩
  rw [vnon dx]
  exact q _ H _ (Same.refl _) (.bl _) hk
theorem rd_notN : RdO K (fun x y H Q => y = .non ∧ Q (.bl (!decide (x = .non))) H) fun d e k => e = .none ∧ k (.bool (!isNo d)) := fun T H x y d e k Q _ dx dy ⟨h0, hk⟩ q => by
  subst h0
  refine ⟨dy.non_inv, ?_⟩
  rw [vnon dx]
  exact q _ H _ (Same.refl _) (.bl _) hk
theorem DaL.atI {xs : List V} {ds : List PyData} {i : Int} {u : PyData} (h : DaL K T H xs ds) (e : L2.atI ds i = some u) : ∃ x, L2.atI xs i = some x ∧ Da K T H x u := by
  unfold L2.atI at e ⊢
  rw [h.len]
  cases q : ixN ds.length i with
  | none => (rw [q] at e; cases e)
  | some j => rw [q] at e; exact h.get e
theorem rd_ixA : RdO K (rIxA K) fun d e k => ∃ ds i u, rowsOf d = some ds ∧ e = .int i ∧ atI ds i = some u ∧ k u := fun T H x y d e k Q _ dx dy ⟨ds, i, u, h0, h1, h2, hk⟩ q => by
  subst h1
  obtain ⟨a, xs, rfl, sq, ns, dl⟩ := dx.rows h0
  obtain ⟨v, e1, dv⟩ := dl.atI h2
  rw [dy.int_inv]
  exact ixA_of sq e1 (q _ H _ (Same.refl _) dv hk)
theorem rd_ixS : RdO K rIxS fun d e k => ∃ z i c, d = .str z ∧ e = .int i ∧ z.length ≤ 60000 ∧ atI z.cps.toList i = some c ∧ k (.str ⟨#[c]⟩) := fun T H x y d e k Q _ dx dy ⟨z, i, c, h0, h1, h2, h3, hk⟩ q => by
  subst h0 h1
  exact ⟨z, i, c, dx.str_inv, dy.int_inv, Nat.le_of_lt (smallB h2), h3, q _ H _ (Same.refl _) (.str _) hk⟩
theorem rd_addS : RdO K (fun x y H Q => ∃ i j, x = .str i ∧ y = .str j ∧ i.length + j.length ≤ sizeLine ∧ Q (.str (i ++ j)) H) fun d e k => ∃ i j : Str, d = .str i ∧ e = .str j ∧ i.length + j.length ≤ 60000 ∧ k (.str (i ++ j)) := fun T H x y d e k Q _ dx dy ⟨i, j, h0, h1, h2, hk⟩ q => by
  subst h0 h1
  exact ⟨i, j, dx.str_inv, dy.str_inv, Nat.le_of_lt (smallB h2), q _ H _ (Same.refl _) (.str _) hk⟩
theorem rd_inS : RdO K (fun x y H Q => ∃ (c : Nat) (z : Str), x = .str ⟨#[c]⟩ ∧ y = .str z ∧ Q (.bl (decide (c ∈ z.cps.toList))) H) fun d e k => ∃ c z, d = .str ⟨#[c]⟩ ∧ e = .str z ∧ k (.bool (decide (c ∈ z.cps.toList))) := fun T H x y d e k Q _ dx dy ⟨i, j, h0, h1, hk⟩ q => by
  subst h0 h1
  exact ⟨i, j, dx.str_inv, dy.str_inv, q _ H _ (Same.refl _) (.bl _) hk⟩
theorem rd_notInS : RdO K (fun x y H Q => ∃ (c : Nat) (z : Str), x = .str ⟨#[c]⟩ ∧ y = .str z ∧ Q (.bl (!decide (c ∈ z.cps.toList))) H) fun d e k => ∃ c z, d = .str ⟨#[c]⟩ ∧ e = .str z ∧ k (.bool (!decide (c ∈ z.cps.toList))) := fun T H x y d e k Q _ dx dy ⟨i, j, h0, h1, hk⟩ q => by
  subst h0 h1
  exact ⟨i, j, dx.str_inv, dy.str_inv, q _ H _ (Same.refl _) (.bl _) hk⟩
theorem rn_cat : RnO K rCat fun d e k => ∃ ds es, d = .list ds ∧ e = .list es ∧ ds.length + es.length ≤ 60000 ∧ k (.list (ds ++ es)) := fun T H x y d e k Q old dx dy ⟨ds, es, h0, h1, h2, hk⟩ q => by
  subst h0 h1
  obtain ⟨a, xs, rfl, e1, n1, d1⟩ := dx.lst_inv
  obtain ⟨b, ys, rfl, e2, n2, d2⟩ := dy.lst_inv
  refine ⟨a, b, xs, ys, rfl, rfl, e1, e2, by rw [d1.len, d2.len]; exact Nat.le_of_lt (smallB h2), fun p hp => ?_⟩
  have s := same_new (o := .lst (xs ++ ys)) (Same.refl H) hp
  exact q p _ _ hp s (.lst upd_same (((d1.app d2).add hp).same s)) nt_l hk
theorem rd_catA : RdO K (rCatA K) fun d e k => ∃ ds es, d = .tuple ds ∧ e = .tuple es ∧ ds.length + es.length ≤ 60000 ∧ k (.tuple (ds ++ es)) := fun T H x y d e k Q old dx dy ⟨ds, es, h0, h1, h2, hk⟩ q => by
  subst h0 h1
  obtain ⟨a, xs, rfl, e1, n1, d1⟩ := dx.tup_inv
  obtain ⟨b, ys, rfl, e2, n2, d2⟩ := dy.tup_inv
  refine ⟨a, b, xs, ys, rfl, rfl, SqT.of e1, SqT.of e2, by rw [d1.len, d2.len]; exact Nat.le_of_lt (smallB h2), fun z => ?_, fun _ z => ?_, fun _ _ p hp => ?_⟩
  · subst z
    cases d1
    exact q _ H _ (Same.refl _) dy hk
  · subst z
    cases d2
    rw [List.append_nil] at hk
    exact q _ H _ (Same.refl _) dx hk
  · have s := same_new (o := .tup (xs ++ ys)) (Same.refl H) hp
    exact q _ _ _ s (Da.new_tup old hp (d1.app d2)) hk
def lenD : PyData → Option Nat
  | .str z => if z.length ≤ 60000 then some z.length else none
  | .list ds => some ds.length
  | .tuple ds => some ds.length
  | _ => none
theorem rf_len : RdF K (fun xs H Q => ∃ x n, xs = [x] ∧ LenV K x H n ∧ Q (.int n) H) fun ds k => ∃ d n, ds = [d] ∧ lenD d = some n ∧ k (.int (n : Nat)) := fun T H xs ds k Q _ dl ⟨d, n, h0, h1, hk⟩ q => by
  subst h0
  cases dl with
  | cons dx r =>
    cases r
    refine ⟨_, n, rfl, ?_, q _ H _ (Same.refl _) (.int _) hk⟩
    cases dx with
    | str z =>
      have h1 : (if z.length ≤ 60000 then some z.length else none) = some n := h1
      split at h1
      · rename_i hz; cases h1; exact ⟨Nat.le_of_lt (smallB hz), rfl⟩
      · cases h1
    | ref h _ =>
      cases h with
      | lst e r => cases h1; exact .inl ⟨_, SqL.of e, r.len.symm⟩
      | tup e r => cases h1; exact .inr ⟨_, SqT.of e, r.len.symm⟩
      | _ => cases h1
    | _ => cases h1
theorem rf_lenR : RdF K (rLen K) fun ds k => ∃ d n, ds = [d] ∧ lenD d = some n ∧ k (.int (n : Nat)) := rf_len
theorem rf_int : RdF K (fun xs H Q => (∃ i, xs = [.int i] ∧ Q (.int i) H) ∨ ∃ k, xs = [.bl k] ∧ Q (.int (if k then 1 else 0)) H) fun ds k => ∃ i : Int, ds = [.int i] ∧ k (.int i) := fun T H xs ds k Q _ dl ⟨i, h0, hk⟩ q => by
  subst h0
  cases dl with
  | cons dx r => cases r; exact .inl ⟨i, by rw [dx.int_inv], q _ H _ (Same.refl _) (.int _) hk⟩
theorem rf_abs : RdF K (fun xs H Q => ∃ i, xs = [.int i] ∧ Q (.int (if i < 0 then -i else i)) H) fun ds k => ∃ i : Int, ds = [.int i] ∧ k (.int (if i < 0 then -i else i)) := fun T H xs ds k Q _ dl ⟨i, h0, hk⟩ q => by
  subst h0
  cases dl with
  | cons dx r => cases r; exact ⟨i, by rw [dx.int_inv], q _ H _ (Same.refl _) (.int _) hk⟩
theorem rf_strI : RdF K (fun xs H Q => ∃ i, xs = [.int i] ∧ i.natAbs.log2 < 1920 ∧ Q (.str (toString i)) H) fun ds k => ∃ i : Int, ds = [.int i] ∧ i.natAbs.log2 < 1920 ∧ k (.str (toString i)) := fun T H xs ds k Q _ dl ⟨i, h0, h1, hk⟩ q => by
  subst h0
  cases dl with
  | cons dx r => cases r; exact ⟨i, by rw [dx.int_inv], h1, q _ H _ (Same.refl _) (.str _) hk⟩
theorem rf_sum : RdF K (rSum K) fun ds k => ∃ ns : List Int, ds = [.list (ns.map .int)] ∧ k (.int ns.sum) := fun T H xs ds k Q _ dl ⟨ns, h0, hk⟩ q => by
  subst h0
  cases dl with
  | cons dx r =>
    cases r
    obtain ⟨a, xs, rfl, e, _, d1⟩ := dx.lst_inv
    rw [d1.int_inv] at e
    exact ⟨a, ns, rfl, SqL.of e, q _ H _ (Same.refl _) (.int _) hk⟩
theorem rf_all : RdF K (rAll K) fun ds k => ∃ ns : List Bool, ds = [.list (ns.map .bool)] ∧ k (.bool (ns.all id)) := fun T H xs ds k Q _ dl ⟨ns, h0, hk⟩ q => by
  subst h0
  cases dl with
  | cons dx r =>
    cases r
    obtain ⟨a, xs, rfl, e, _, d1⟩ := dx.lst_inv
    rw [d1.bl_inv] at e
    exact ⟨a, ns, rfl, SqL.of e, q _ H _ (Same.refl _) (.bl _) hk⟩
theorem rf_any : RdF K (rAny K) fun ds k => ∃ ns : List Bool, ds = [.list (ns.map .bool)] ∧ k (.bool (ns.any id)) := fun T H xs ds k Q _ dl ⟨ns, h0, hk⟩ q => by
  subst h0
  cases dl with
  | cons dx r =>
    cases r
    obtain ⟨a, xs, rfl, e, _, d1⟩ := dx.lst_inv
    rw [d1.bl_inv] at e
    exact ⟨a, ns, rfl, SqL.of e, q _ H _ (Same.refl _) (.bl _) hk⟩
theorem rf_tup : RdF K (fun xs H Q => ∃ p ys, xs = [.ref p] ∧ ((SqL K H p ys ∧ ∀ l, H l = none → Q (.ref l) (upd H l (.tup ys))) ∨ (SqT K H p ys ∧ Q (.ref p) H))) fun ds k => ∃ d es, ds = [d] ∧ rowsOf d = some es ∧ k (.tuple es) := fun T H xs ds k Q old dl ⟨d, es, h0, h1, hk⟩ q => by
  subst h0
  cases dl with
  | cons dx r =>
    cases r
    cases dx with
    | ref h n =>
      cases h with
      | lst e r =>
        cases h1
        exact ⟨_, _, rfl, .inl ⟨SqL.of e, fun l hl => q _ _ _ (same_new (Same.refl H) hl) (Da.new_tup old hl r) hk⟩⟩
      | tup e r =>
        cases h1
        exact ⟨_, _, rfl, .inr ⟨SqT.of e, q _ H _ (Same.refl _) (.ref (.tup e r) n) hk⟩⟩
      | _ => cases h1
    | _ => cases h1
theorem rf_tupR : RdF K (rTupOf K) fun ds k => ∃ d es, ds = [d] ∧ rowsOf d = some es ∧ k (.tuple es) := rf_tup
theorem rn_list : RnF K (fun xs H Q => ∃ p ys, xs = [.ref p] ∧ (SqL K H p ys ∨ SqT K H p ys) ∧ ∀ l, H l = none → Q (.ref l) (upd H l (.lst ys))) fun ds k => ∃ d es, ds = [d] ∧ rowsOf d = some es ∧ k (.list es) := fun T H xs ds k Q old dl ⟨d, es, h0, h1, hk⟩ q => by
  subst h0
  cases dl with
  | cons dx r =>
    cases r
    obtain ⟨a, xs, rfl, sq, ns, d1⟩ := dx.rows h1
    refine ⟨a, xs, rfl, sq_of sq, fun l hl => ?_⟩
    have s := same_new (o := .lst xs) (Same.refl H) hl
    exact q l _ _ hl s (.lst upd_same ((d1.add hl).same s)) nt_l hk
/-- isinstance(x, T) -/
theorem da_ty {x : V} {d : PyData} (h : Da K T H x d) (c : tyN d ≠ "?") : TyX K H x (.type (tyN d)) := by
  cases h with
  | non => exact .base .non
  | bl b => exact .base (.bl b)
  | int n => exact .base (.int n)
  | str z => exact .base (.str z)
  | ref h _ =>
    cases h with
    | lst e _ => exact .base (.lst e)
    | tup e _ => exact .base (.tup e)
    | _ => exact absurd rfl c
end
section
variable {γ γ' : Type} {B : Bd γ} {te ta tb tc : TE} {tt tu : TT} {tl : TA} {g : γ} {ρ : List En} {k k' : KD γ} {kb kb' : Bool → γ → Prop} {ka : List En → γ → Prop} {i : Nat} {d : PyData} {K : PySem.W.Frag}
def isiD (t : String) (d : PyData) : Option Bool := if tyN d = "?" then none else kitB (tyN d) t
theorem We_isi (h : Wa B tl g ρ fun es g1 => ∃ d t b, es = [En.da d, En.raw (.ty t)] ∧ isiD t d = some b ∧ k (.bool b) g1) : We B (tCB (rIsi B.K) tl) g ρ k := fun S H0 σ H Q s x q =>
  h S H0 σ H _ s x fun ys H1 es g1 f1 I1 a1 ⟨d, t, b, e, h1, h2⟩ => by
    subst e
    unfold isiD at h1
    split at h1
    · cases h1
    · rename_i c
      cases a1 with
      | da dx r =>
        cases r with
        | raw r =>
          cases r
          exact ⟨_, .ty t, _, _, b, rfl, .ty t, da_ty dx c, kit_ty h1, q _ H1 _ g1 f1 I1 (.bl b) h2⟩
/-- truth -/
def truD : PyData → Option Bool
  | .none => some false
  | .bool b => some b
  | .int i => some (i != 0)
  | .str z => if z.length ≤ 60000 then some ((z.length : Int) != 0) else none
  | .list ds => some (!ds.isEmpty)
  | .tuple ds => some (!ds.isEmpty)
  | _ => none
theorem dal_empty {S : Ad} {H : Hp} {xs : List V} {ds : List PyData} (h : DaL K S H xs ds) : xs.isEmpty = ds.isEmpty := by cases h <;> rfl
theorem Da.tru {S : Ad} {H : Hp} {x : V} {d : PyData} {b : Bool} (h : Da K S H x d) (e : truD d = some b) : TruV K x H b := by
  cases h with
  | non => cases e; rfl
  | bl b => cases e; rfl
  | int n => cases e; rfl
  | str z =>
    have e : (if z.length ≤ 60000 then some ((z.length : Int) != 0) else none) = some b := e
    split at e
    · rename_i hz; cases e; exact ⟨Nat.le_of_lt (smallB hz), rfl⟩
    · cases e
  | ref h _ =>
    cases h with
    | lst e1 r => cases e; exact .inl ⟨_, SqL.of e1, by rw [dal_empty r]⟩
    | tup e1 r => cases e; exact .inr (.inl ⟨_, SqT.of e1, by rw [dal_empty r]⟩)
    | _ => cases e
theorem Wt_tru (h : We B te g ρ fun d g1 => ∃ b, truD d = some b ∧ kb b g1) : Wt B (fun σ H Q => te σ H fun x H' => ∃ k, TruV B.K x H' k ∧ Q k H') g ρ kb := fun S H0 σ H Q s x q =>
  h S H0 σ H _ s x fun y H1 d g1 f1 I1 d1 ⟨b, e, h1⟩ => ⟨b, d1.tru e, q b H1 g1 f1 I1 h1⟩
/-- a op b op' c -/
theorem We_chain {r r' : R2} {f f' : PyData → PyData → (PyData → Prop) → Prop} (rd : RdO B.K r f) (rd' : RdO B.K r' f') (h : We B ta g ρ fun d g1 => We B tb g1 ρ fun e g2 => f d e fun z => ∃ b, z = .bool b ∧ (b = true → We B tc g2 ρ fun e' g3 => f' e e' fun z' => k z' g3) ∧ (b = false → k (.bool false) g2)) : We B (tChain r r' ta tb tc) g ρ k := fun S H0 σ H Q s x q =>
  h S H0 σ H _ s x fun y1 H1 d g1 f1 I1 d1 h1 => h1 S H0 σ H1 _ (s.step f1 I1) x fun y2 H2 e g2 f2 I2 d2 h2 => by
    have s2 := (s.step f1 I1).step f2 I2
    refine rd _ H2 y1 y2 d e _ _ s2.olds (d1.keep (f2.wide s.subs)) d2 h2 fun z H3 u s3 dz ⟨b, eb, hu⟩ => ?_
    subst eb
    have s4 := s2.same s3
    have I3 := B.C.same s.subs I2 s3
    refine ⟨b, dz.bl_inv, ?_⟩
    cases b with
    | false => exact (if_neg (fun z => nomatch z)).mpr (q _ H3 _ g2 ((f1.trans f2).trans (Frm.of s3)) I3 (.bl false) (hu.2 rfl))
    | true => exact (if_pos rfl).mpr (hu.1 rfl S H0 σ H3 _ s4 x fun y4 H4 e' g4 f4 I4 d4 h4 => rd' _ H4 y2 y4 e e' _ _ (s4.step f4 I4).olds ((d2.same s3).keep (f4.wide s.subs)) d4 h4 fun z5 H5 u5 s5 dz5 hu5 => q z5 H5 u5 g4 (((f1.trans f2).trans (Frm.of s3)).trans (f4.trans (Frm.of s5))) (B.C.same s.subs I4 s5) dz5 hu5)
/-! attributes -/
def lkD (f : Str) : List (PyData × PyData) → Option PyData
  | [] => none
  | (.str z, d) :: r => if f = z then some d else lkD f r
  | _ :: r => lkD f r
theorem lk_fld {S : Ad} {H : Hp} {f : Str} {d : PyData} : ∀ {fs : List (Str × V)} {gs : List (PyData × PyData)}, DaF K S H (fs.map fun p => (PyData.str p.1, p.2)) gs → lkD f gs = some d → ∃ v, fs.lookup f = some v ∧ Da K S H v d
  | [], _, .nil, e => by cases e
  | (z, v) :: r, _, .cons h k, e => by
    rw [lkD] at e
    by_cases q : f = z
    · rw [if_pos q] at e
      cases e
      subst q
      exact ⟨v, by simp, h⟩
    · rw [if_neg q] at e
      obtain ⟨u, e1, d1⟩ := lk_fld k e
      exact ⟨u, by rw [List.lookup_cons]; have : (f == z) = false := beq_eq_false_iff_ne.mpr q; rw [this]; exact e1, d1⟩
theorem We_fld {nm f : Str} (c : Cls B.K (He.ga B.K nm)) (na : NoAttr B.K (He.ga B.K nm) f) (h : We B ta g ρ fun d g1 => ∃ gs u, d = .dict ((.none, .str nm) :: gs) ∧ lkD f gs = some u ∧ k u g1) : We B (tFld B.K ta f) g ρ k := fun S H0 σ H Q s x q =>
  h S H0 σ H _ s x fun y H1 d g1 f1 I1 d1 ⟨gs, u, e, h1, h2⟩ => by
    subst e
    cases d1 with
    | ref o n =>
      cases o with
      | ins e1 r =>
        obtain ⟨v, e2, dv⟩ := lk_fld r h1
        exact ⟨_, _, _, _, v, rfl, e1, c, na, e2, q v H1 u g1 f1 I1 dv h2⟩
      | dic e1 r =>
        rename_i kvs
        cases kvs with
        | nil => cases r
        | cons p rest =>
          exfalso
          obtain ⟨p1, p2⟩ := p
          cases p1 <;> cases r
end
/-! ### what may change, read and changed -/
structure Bx {γ : Type} (K : PySem.W.Frag) (C : Co γ) (p : Addr) (get : γ → PyData) (put : γ → PyData → γ) : Prop where
  M : C.M p
  get : ∀ T g H, C.I T g H → Ho K T H p (get g)
  put : ∀ T g H ob d, (∀ a, C.M a → T a) → C.I T g H → Ho K T (upd H p ob) p d → NT d → C.I T (put g d) (upd H p ob)
theorem Bx.box {γ : Type} {K : PySem.W.Frag} {C : Co γ} {p : Addr} : Bx K (C.box K p) p (fun g => g.2) (fun g d => (g.1, d)) where
  M := .inr rfl
  get := fun _ _ _ h => h.2.2.1
  put := fun T g H ob d t h ho nt => ⟨C.keep T g.1 H _ (fun a m => t a (.inl m)) (fun a m => upd_ne fun (z : a = p) => h.2.1 (z ▸ m)) ((Frm.refl T H).put (t p (.inr rfl))) h.1, h.2.1, ho, nt⟩
theorem Bx.up {γ : Type} {K : PySem.W.Frag} {C : Co γ} {p q : Addr} {get : γ → PyData} {put : γ → PyData → γ} (b : Bx K C p get put) : Bx K (C.box K q) p (fun g => get g.1) (fun g d => (put g.1 d, g.2)) where
  M := .inl b.M
  get := fun _ _ _ h => b.get _ _ _ h.1
  put := fun T g H ob d t h ho nt => ⟨b.put T g.1 H ob d (fun a m => t a (.inl m)) h.1 ho nt, h.2.1, h.2.2.1.keep ((Frm.refl T H).put (t p (.inl b.M))) (upd_ne fun z => h.2.1 (z ▸ b.M)), h.2.2.2⟩
section
variable {γ γ' : Type} {B : Bd γ} {te ti tb : TE} {tl : TA} {g : γ} {ρ : List En} {k : KD γ} {kt : Kz γ} {i : Nat} {d : PyData} {p : Addr} {get : γ → PyData} {put : γ → PyData → γ} {n : γ → List En → Prop}
theorem We_lenB (b : Bx B.K B.C p get put) (e : ρ[i]? = some (En.raw (.ref p))) (h : ∃ ds, get g = .list ds ∧ k (.int ds.length) g) : We B (tCB (fun xs H Q => ∃ x n, xs = [x] ∧ LenV B.K x H n ∧ Q (.int n) H) (tCons (tVar i) tNil)) g ρ k := fun S H0 σ H Q s x q => by
  obtain ⟨ds, e1, hk⟩ := h
  have o := b.get _ _ _ s.I
  rw [e1] at o
  obtain ⟨xs, e2, dl⟩ := o.lst_inv
  exact ⟨_, s.raw i _ e, _, _, rfl, .inl ⟨xs, SqL.of e2, rfl⟩, q _ H _ g (Frm.refl _ _) s.I (.int _) (by rw [dl.len]; exact hk)⟩
theorem We_ixB (b : Bx B.K B.C p get put) (e : ρ[i]? = some (En.raw (.ref p))) (h : We B tb g ρ fun d g1 => ∃ ds j u, get g1 = .list ds ∧ d = .int j ∧ atI ds j = some u ∧ k u g1) : We B (tOp (rIxA B.K) (tVar i) tb) g ρ k := fun S H0 σ H Q s x q =>
  ⟨_, s.raw i _ e, h S H0 σ H _ s x fun y H1 d g1 f I dy ⟨ds, j, u, e1, e2, e3, hk⟩ => by
    subst e2
    have o := b.get _ _ _ I
    rw [e1] at o
    obtain ⟨xs, e4, dl⟩ := o.lst_inv
    obtain ⟨v, e5, dv⟩ := dl.atI e3
    rw [dy.int_inv]
    exact ixA_of (.inl e4) e5 (q v H1 u g1 f I dv hk)⟩
theorem Ws_appB (b : Bx B.K B.C p get put) (e : ρ[i]? = some (En.raw (.ref p))) (h0 : ∃ ds, get g = .list ds) (h : We B te g ρ fun d g1 => ∃ ds, get g1 = .list ds ∧ ds.length ≤ 60000 ∧ kt.nx (put g1 (.list (ds ++ [d]))) ρ) : Ws B (tDrop (tBM B.K "list" rAppend (tVar i) (tCons te tNil))) g ρ kt := fun S H0 σ H D s x L => by
  obtain ⟨ds0, e0⟩ := h0
  have o0 := b.get _ _ _ s.I
  rw [e0] at o0
  obtain ⟨xs0, e2, _⟩ := o0.lst_inv
  refine ⟨_, s.raw i _ e, .inl ⟨rfl, xs0, SqL.of e2⟩, h S H0 σ H _ s x fun y H1 d g1 f I dy ⟨ds, e1, hl, h1⟩ => ?_⟩
  have s1 := s.step f I
  have o := b.get _ _ _ I
  rw [e1] at o
  obtain ⟨xs, e3, dl⟩ := o.lst_inv
  have tp : SS S σ ρ p := s.subs p b.M
  have fu : Frm (SS S σ ρ) H1 (upd H1 p (.lst (xs ++ [y]))) := (Frm.refl _ H1).put tp
  have fm : Frm B.C.M H1 (upd H1 p (.lst (xs ++ [y]))) := (Frm.refl _ H1).put b.M
  have I2 := b.put (SS S σ ρ) g1 H1 (.lst (xs ++ [y])) (.list (ds ++ [d])) s.subs I (.lst upd_same ((dl.keep fu).app (.cons (dy.keep fu) .nil))) nt_l
  exact ⟨p, xs, y, rfl, rfl, e3, smallB (by rw [dl.len]; exact hl), L.nx σ _ ρ _ (s1.step fm I2) ((s.stp f I).trans (s1.stp fm I2)) h1⟩
theorem Wg_putB (b : Bx B.K B.C p get put) (e : ρ[i]? = some (En.raw (.ref p))) (h : We B ti g ρ fun u g1 => ∃ ds, ∃ j : Nat, get g1 = .list ds ∧ u = .int j ∧ j < ds.length ∧ n (put g1 (.list (ds.set j d))) ρ) : Wg B (gSub (tVar i) ti rSetL) d g ρ n := fun S H0 σ H y N s x dy L => by
  refine ⟨_, s.raw i _ e, h S H0 σ H _ s x fun z H1 u g1 f I dz ⟨ds, j, e1, eu, hj, h1⟩ => ?_⟩
  subst eu
  have s1 := s.step f I
  have o := b.get _ _ _ I
  rw [e1] at o
  obtain ⟨xs, e3, dl⟩ := o.lst_inv
  have tp : SS S σ ρ p := s.subs p b.M
  have fu : Frm (SS S σ ρ) H1 (upd H1 p (.lst (xs.set j y))) := (Frm.refl _ H1).put tp
  have fm : Frm B.C.M H1 (upd H1 p (.lst (xs.set j y))) := (Frm.refl _ H1).put b.M
  have I2 := b.put (SS S σ ρ) g1 H1 (.lst (xs.set j y)) (.list (ds.set j d)) s.subs I (.lst upd_same ((dl.keep fu).set j ((dy.keep (f.wide s.subs)).keep fu))) nt_l
  exact ⟨p, xs, _, j, rfl, dz.int_inv, e3, ixN_nat (by rw [dl.len]; exact hj), L σ _ ρ _ (s1.step fm I2) ((s.stp f I).trans (s1.stp fm I2)) h1⟩
end
/-! ### promises by data -/
section
variable {γ : Type} {CX : CXT} {P : Program} {w : World} {K : PySem.W.Frag} {mg : Str → Option Value} {base : Heap}
theorem Keeps.imp {nm : Str} {lv : Nat} {ps : List Str} {sp sp' : Sp} (F : Keeps CX P w K mg base nm lv ps sp) (h : ∀ vs H Q E, sp' vs H Q E → sp vs H Q E) : Keeps CX P w K mg base nm lv ps sp' := by
  obtain ⟨fd, F, r⟩ := F
  exact ⟨fd, F.imp h, r⟩
theorem Keeps.up {nm : Str} {lv lv' : Nat} {ps : List Str} {sp : Sp} (F : Keeps CX P w K mg base nm lv ps sp) (h : lv ≤ lv') : Keeps CX P w K mg base nm lv' ps sp := by
  obtain ⟨fd, F, r⟩ := F
  exact ⟨fd, F.mono h, r⟩
theorem arl_len {S : Ad} {H : Hp} : ∀ {vs : List V} {es : List En}, ArL K S H vs es → vs.length = es.length
  | _, _, .nil => rfl
  | _, _, .da _ r => congrArg Nat.succ (arl_len r)
  | _, _, .raw r => congrArg Nat.succ (arl_len r)
theorem arl_get {S : Ad} {H : Hp} : ∀ {vs : List V} {es : List En} {i : Nat} {e : En} {m : Nat}, ArL K S H vs es → (es ++ List.replicate m En.no)[i]? = some e → e ≠ En.no → ∃ x, (vs.map some ++ List.replicate m none)[i]? = some (some x) ∧ (∀ d, e = En.da d → Da K S H x d) ∧ (∀ v, e = En.raw v → v = x) ∧ ∀ d, e ≠ En.own d
  | _, _, i, e, m, .nil, h, n => by
    have := List.mem_of_getElem? h
    exact absurd (List.eq_of_mem_replicate (by simpa using this)) n
  | _, _, 0, e, m, .da dx r, h, n => by
    cases h
    exact ⟨_, rfl, (fun d z => by cases z; exact dx), (fun _ z => nomatch z), (fun _ z => nomatch z)⟩
  | _, _, 0, e, m, .raw r, h, n => by
    cases h
    exact ⟨_, rfl, (fun _ z => nomatch z), (fun v z => by cases z; rfl), (fun _ z => nomatch z)⟩
  | _, _, i + 1, e, m, .da dx r, h, n => arl_get (i := i) r (by simpa using h) n
  | _, _, i + 1, e, m, .raw r, h, n => arl_get (i := i) r (by simpa using h) n
/-- the slots at the start -/
theorem Sl.start {C : Co γ} {S : Ad} {H : Hp} {g : γ} {vs : List V} {es : List En} {m : Nat} (sub : ∀ a, C.M a → S a) (old : Old S H) (I : C.I S g H) (al : ArL K S H vs es) : Sl K C S H g H (vs.map some ++ List.replicate m none) (es ++ List.replicate m En.no) := by
  have no : ∀ (i : Nat) d, (es ++ List.replicate m En.no)[i]? ≠ some (En.own d) := fun i d z => by
    obtain ⟨_, _, _, _, n⟩ := arl_get al z (fun z => nomatch z)
    exact n d rfl
  have w : ∀ a o, H a = some o → SS S (vs.map some ++ List.replicate m none) (es ++ List.replicate m En.no) a → S a := fun a o _ z => z.elim id fun ⟨_, _, z, _⟩ => (no _ _ z).elim
  refine ⟨Frm.refl _ _, old, sub, fun a ⟨_, _, z, _⟩ => (no _ _ z).elim, C.mono _ _ _ _ w I, by simp [arl_len al], fun i d z => ?_, fun i d z => (no _ _ z).elim, fun i v z => ?_, fun i _ z => (no _ _ z).elim, fun i _ _ _ _ z => (no _ _ z).elim⟩
  · obtain ⟨x, e1, h1, _⟩ := arl_get al z (fun z => nomatch z)
    exact ⟨x, e1, (h1 d rfl).mono w⟩
  · obtain ⟨x, e1, _, h2, _⟩ := arl_get al z (fun z => nomatch z)
    rw [h2 v rfl]; exact e1
/-- the slots: what is passed, then nothing -/
def slots (N : List Str) (es : List En) : List En := es ++ List.replicate (N.length - es.length) En.no
theorem ws_run {C : Co γ} {N : List Str} {H : Hp} {vs : List V} {Q : VK} {E : XK} {t : TS} {S : Ad} {g : γ} {es : List En} {k : KD γ} {x : KX γ} (sub : ∀ a, C.M a → S a) (old : Old S H) (I : C.I S g H) (al : ArL K S H vs es)
    (q : ∀ y H' d g', Frm C.M H H' → C.I S g' H' → Da K S H' y d → k d g' → Q y H') (hx : XE ⟨K, C, E, x⟩ S H) (w : Ws ⟨K, C, E, x⟩ t g (slots N es) ⟨fun g' _ => k .none g', k, fun _ _ => False, fun _ _ => False⟩) : t { nx := fun _ H' => Q .non H', rt := Q } (L2.start N vs) H := by
  have s := Sl.start (m := N.length - es.length) sub old I al
  have e : L2.start N vs = vs.map some ++ List.replicate (N.length - es.length) none := by unfold L2.start; rw [arl_len al]
  rw [e]
  refine w S H _ H _ s hx ⟨fun σ' H' ρ' g' s' _ hk => q _ H' _ g' s'.frm (C.mono _ _ _ _ (fun _ _ _ z => .inl z) s'.I) .non hk, fun y H' d g' f I' dy hk => q y H' d g' f I' dy hk, fun _ _ _ _ _ _ z => z.elim, fun _ _ _ _ _ _ z => z.elim⟩
theorem keeps_xX {C : Co γ} {R : List En → γ → KD γ → KX γ → Prop} {nm : Str} {st : Stmt} {N ps : List Str} {lv : Nat} (F : At K mg nm st) (sc : FnScope N ps (defScope st)) (hb : bindsBy st nm ps) (len : ∀ es g k x, R es g k x → es.length = ps.length)
    (hbody : ∀ (f : Addr) (cdv : Value) (A : Around) (outer : List Env) (s : Shared) (H : Hp) (E : XK) es g k x, Room lv (A.deeper (envOfC nm (defScope st) s.heap.objs.size f cdv)) → R es g k x →
      ∃ t, PSs (cxOf CX P w K mg base N nm (defScope st) f cdv A outer s H E) (defBody st) t ∧ Ws ⟨K, C, E, x⟩ t g (slots N es) ⟨fun g' _ => k .none g', k, fun _ _ => False, fun _ _ => False⟩) : Keeps CX P w K mg base nm (lv + 1) ps (spX K C R) := by
  refine keeps_ofX F sc hb (fun vs H Q E h => ?_) (fun f cdv A outer s H vs Q E hr h => ?_)
  · obtain ⟨S, g, es, k, x, _, _, _, al, hR, _⟩ := h
    rw [arl_len al]; exact len _ _ _ _ hR
  · obtain ⟨S, g, es, k, x, sub, old, I, al, hR, q, hx⟩ := h
    obtain ⟨t, h1, h2⟩ := hbody f cdv A outer s H E es g k x hr hR
    exact ⟨t, h1, ws_run sub old I al q hx h2⟩
theorem keeps_yX {ι : Type} {C : ι → Co γ} {R : ι → List En → γ → KD γ → KX γ → Prop} {nm : Str} {st : Stmt} {N ps : List Str} {lv : Nat} (F : At K mg nm st) (sc : FnScope N ps (defScope st)) (hb : bindsBy st nm ps) (len : ∀ i es g k x, R i es g k x → es.length = ps.length)
    (hbody : ∀ (f : Addr) (cdv : Value) (A : Around) (outer : List Env) (s : Shared) (H : Hp) (E : XK) i es g k x, Room lv (A.deeper (envOfC nm (defScope st) s.heap.objs.size f cdv)) → R i es g k x →
      ∃ t, PSs (cxOf CX P w K mg base N nm (defScope st) f cdv A outer s H E) (defBody st) t ∧ Ws ⟨K, C i, E, x⟩ t g (slots N es) ⟨fun g' _ => k .none g', k, fun _ _ => False, fun _ _ => False⟩) : Keeps CX P w K mg base nm (lv + 1) ps (spY K C R) := by
  refine keeps_ofX F sc hb (fun vs H Q E h => ?_) (fun f cdv A outer s H vs Q E hr h => ?_)
  · obtain ⟨i, S, g, es, k, x, _, _, _, al, hR, _⟩ := h
    rw [arl_len al]; exact len _ _ _ _ _ hR
  · obtain ⟨i, S, g, es, k, x, sub, old, I, al, hR, q, hx⟩ := h
    obtain ⟨t, h1, h2⟩ := hbody f cdv A outer s H E i es g k x hr hR
    exact ⟨t, h1, ws_run sub old I al q hx h2⟩
theorem keeps_x {C : Co γ} {R : List En → γ → KD γ → KX γ → Prop} {nm : Str} {st : Stmt} {N ps : List Str} {lv : Nat} (F : At K mg nm st) (sc : FnScope N ps (defScope st)) (hb : bindsBy st nm ps) (len : ∀ es g k x, R es g k x → es.length = ps.length)
    (hbody : ∀ (f : Addr) (cdv : Value) (A : Around) (outer : List Env) (s : Shared) (H : Hp) (E : XK) es g k x, Room lv (A.deeper (envOfC nm (defScope st) s.heap.objs.size f cdv)) → R es g k x →
      ∃ t, PSs (cxOf CX0 P w K mg base N nm (defScope st) f cdv A outer s H E).nox (defBody st) t ∧ Ws ⟨K, C, E, x⟩ t g (slots N es) ⟨fun g' _ => k .none g', k, fun _ _ => False, fun _ _ => False⟩) : Keeps CX0 P w K mg base nm (lv + 1) ps (spX K C R) :=
  keeps_xX F sc hb len fun f cdv A outer s H E es g k x hr hR => by
    obtain ⟨t, h1, h2⟩ := hbody f cdv A outer s H E es g k x hr hR
    exact ⟨t, h1.nox, h2⟩
theorem keeps_y {ι : Type} {C : ι → Co γ} {R : ι → List En → γ → KD γ → KX γ → Prop} {nm : Str} {st : Stmt} {N ps : List Str} {lv : Nat} (F : At K mg nm st) (sc : FnScope N ps (defScope st)) (hb : bindsBy st nm ps) (len : ∀ i es g k x, R i es g k x → es.length = ps.length)
    (hbody : ∀ (f : Addr) (cdv : Value) (A : Around) (outer : List Env) (s : Shared) (H : Hp) (E : XK) i es g k x, Room lv (A.deeper (envOfC nm (defScope st) s.heap.objs.size f cdv)) → R i es g k x →
      ∃ t, PSs (cxOf CX0 P w K mg base N nm (defScope st) f cdv A outer s H E).nox (defBody st) t ∧ Ws ⟨K, C i, E, x⟩ t g (slots N es) ⟨fun g' _ => k .none g', k, fun _ _ => False, fun _ _ => False⟩) : Keeps CX0 P w K mg base nm (lv + 1) ps (spY K C R) :=
  keeps_yX F sc hb len fun f cdv A outer s H E i es g k x hr hR => by
    obtain ⟨t, h1, h2⟩ := hbody f cdv A outer s H E i es g k x hr hR
    exact ⟨t, h1.nox, h2⟩
end
section
variable {p g : Addr} {H H' : Hp}
/-- all but what stands at p and at g stays -/
def But2 (p g : Addr) (H H' : Hp) : Prop := ∀ b o, b ≠ p → b ≠ g → H b = some o → H' b = some o
mutual
theorem Tg.two (k : But2 p g H H') : ∀ (d : PyData) (x : V), Tg p H x d → Tg g H x d → Tg g H' x d
  | .none, _, h, _ => by cases h; exact .non
  | .bool b, _, h, _ => by cases h; exact .bl b
  | .int n, _, h, _ => by cases h; exact .int n
  | .str z, _, h, _ => by cases h with | str _ sh => exact .str z sh
  | .list ds, _, h, h' => by
    cases h with
    | lst e ne r sh => cases h' with | lst e' ne' r' _ => rw [e] at e'; cases e'; exact .lst (k _ _ ne ne' e) ne' (TgAll.two k ds _ r r') sh
  | .tuple ds, _, h, h' => by
    cases h with
    | tup e ne r sh => cases h' with | tup e' ne' r' _ => rw [e] at e'; cases e'; exact .tup (k _ _ ne ne' e) ne' (TgAll.two k ds _ r r') sh
  | .dict _, _, h, _ => by cases h
theorem TgAll.two (k : But2 p g H H') : ∀ (ds : List PyData) (xs : List V), TgAll p H xs ds → TgAll g H xs ds → TgAll g H' xs ds
  | [], _, h, _ => by cases h; exact .nil
  | d :: ds, _, h, h' => by
    cases h with
    | cons a r => cases h' with | cons a' r' => exact .cons (Tg.two k d _ a a') (TgAll.two k ds _ r r')
end
mutual
theorem Tg.new (n : H g = none) : ∀ (d : PyData) (x : V), Tg p H x d → Tg g H x d
  | .none, _, h => by cases h; exact .non
  | .bool b, _, h => by cases h; exact .bl b
  | .int n, _, h => by cases h; exact .int n
  | .str z, _, h => by cases h with | str _ sh => exact .str z sh
  | .list ds, _, h => by cases h with | lst e ne r sh => exact .lst e (ne_of_none e n) (TgAll.new n ds _ r) sh
  | .tuple ds, _, h => by cases h with | tup e ne r sh => exact .tup e (ne_of_none e n) (TgAll.new n ds _ r) sh
  | .dict _, _, h => by cases h
theorem TgAll.new (n : H g = none) : ∀ (ds : List PyData) (xs : List V), TgAll p H xs ds → TgAll g H xs ds
  | [], _, h => by cases h; exact .nil
  | d :: ds, _, h => by cases h with | cons a r => exact .cons (Tg.new n d _ a) (TgAll.new n ds _ r)
end
end
section
variable {P : Program} {w : World} {K : PySem.W.Frag} {mg : Str → Option Value} {base : Heap}
/-! ### _law_as -/
def shp2 (ds : List PyData) : Prop := SeqAt.shaped (.list ds) = true ∧ SeqAt.shaped (.tuple ds) = true
theorem shp2_of {ds : List PyData} (h : ∀ d ∈ ds, Small 60 d) : shp2 ds := ⟨(small_lst h).shaped (by decide), (small_tup h).shaped (by decide)⟩
def SqData (d : PyData) (ds : List PyData) : Prop := d = .list ds ∨ d = .tuple ds
/-! ### _law_number_odd -/
theorem HandC.off {H : Hp} {p c a : Addr} (h : HandC H p c) (n : H a = none) : a ≠ p := fun z => by
  obtain ⟨_, _, _, _, e, _⟩ := h
  rw [z, e] at n
  cases n
end
section
variable {P : Program} {w : World} {K : PySem.W.Frag} {mg : Str → Option Value} {base : Heap}
/-! ### _law_letter, _law_test -/
def spLet : Sp := fun vs H Q _ => ∃ a b : Int, vs = [.int a, .int b, .int 1] ∧ (0 ≤ a ∧ a < 8) ∧ (0 ≤ b ∧ b < 1000) ∧ ∀ t (L : Lt) H', L.Ok → Same H H' → H' t = some (.tup L.vs) → H t = none → Q (.ref t) H'
abbrev s_let : Stmt := top 58
abbrev N_let : List Str := ["_law_a", "_law_b", "_law_wide", "_law_many", "_law_pick"]
theorem sc_let : FnScope N_let ["_law_a", "_law_b", "_law_wide"] (defScope s_let) := ⟨rfl, rfl, rfl, by decide +kernel, rfl, by decide +kernel, by decide +kernel⟩
theorem kp_let (F : At K mg "_law_letter" s_let) (N : Nb mg) : Keeps CX0 P w K mg base "_law_letter" 1 ["_law_a", "_law_b", "_law_wide"] spLet := by
  refine keeps_of F sc_let (fun _ _ _ _ _ _ us hl => match us, hl with | [_, _, _], _ => rfl) (fun vs H Q E h => ?_) (fun f cdv A outer s H vs Q E hr h => ?_)
  · obtain ⟨a, b, rfl, _⟩ := h
    rfl
  · obtain ⟨a, b, rfl, ⟨a0, a8⟩, ⟨b0, b9⟩, k⟩ := h
    refine ⟨_, (pss_cons (ps_set (i := 3) sc_let.nd rfl (by walk_at "lv") (pe_ifExp (pt_truth (pv 2) (fun _ => rfl)) pe_int pe_int))
        (pss_cons (ps_set (i := 4) sc_let.nd rfl (by walk_at "lv") (pe_op op_mod (pe_callTy call_int1 (by rfl) N.int boot_int (pa_cons (pv 0) pa_nil)) pe_int))
        (pss_cons (ps_if (pt_cmpR op_lt (pv 4) pe_int (nomark _)) (pss_one (ps_ret (pe_tup (pa_cons pe_str (pa_cons (pe_ifExp (pt_cmpR op_lt (pv 4) pe_int (nomark _)) (pe_op op_sub (pe_op op_mod (pe_callTy call_int1 (by rfl) N.int boot_int (pa_cons (pv 1) pa_nil)) (pe_op op_add (pe_op op_mul pe_int (pv 3)) pe_int)) (pv 3)) (pe_ix ix_tup (pe_tup (pa_cons pe_int (pa_cons (pe_un un_neg pe_int) (pa_cons pe_int (pa_cons (pe_un un_neg pe_int) (pa_cons pe_int pa_nil)))))) (pe_op op_mod (pe_callTy call_int1 (by rfl) N.int boot_int (pa_cons (pv 1) pa_nil)) pe_int) (fun _ _ => rfl))) pa_nil))))) pss_nil)
        (pss_cons (ps_if (pt_cmpR op_eq (pv 4) pe_int (nomark _)) (pss_one (ps_ret (pe_tup (pa_cons pe_str pa_nil)))) pss_nil)
        (pss_cons (ps_if (pt_cmpR op_eq (pv 4) pe_int (nomark _)) (pss_one (ps_ret (pe_tup (pa_cons pe_str (pa_cons (pe_op op_sub (pe_op op_mod (pe_callTy call_int1 (by rfl) N.int boot_int (pa_cons (pv 1) pa_nil)) (pe_op op_add (pe_op op_mul pe_int (pv 3)) pe_int)) (pv 3)) pa_nil))))) pss_nil)
        (pss_one (ps_ret (pe_tup (pa_cons pe_str (pa_cons (pe_op op_add pe_int (pe_op op_mod (pe_callTy call_int1 (by rfl) N.int boot_int (pa_cons (pv 1) pa_nil)) (pe_ifExp (pt_truth (pv 2) (fun _ => rfl)) pe_int pe_int))) pa_nil)))))))))), ?_⟩
    have new : ∀ (L : Lt) (t : Addr), L.Ok → H t = none → Q (.ref t) (upd H t (.tup L.vs)) := fun L t ok n => k t L _ ok (same_new (Same.refl H) n) upd_same n
    refine ⟨_, rfl, _, rfl, iteT ?_⟩
    refine ⟨_, rfl, .inl ⟨_, rfl, _, _, rfl, rfl, (Int.lt_of_lt_of_le (by decide) (Int.le_refl _)), ?_⟩⟩
    refine ⟨_, rfl, _, _, rfl, rfl, _, rfl, ite2 (fun _ => ?_) (fun _ => ?_)⟩
    · refine ⟨_, rfl, _, _, rfl, rfl, _, rfl, ite2 (fun _ => ?_) (fun _ => ?_)⟩
      · refine ⟨_, rfl, .inl ⟨_, rfl, _, rfl, _, _, rfl, rfl, .inl ⟨by decide, by decide⟩, _, _, rfl, rfl, _, _, rfl, rfl, (Int.lt_of_lt_of_le (by decide) (Int.le_refl _)), _, rfl, _, _, rfl, rfl, (by show 2 ≤ sizeLine; decide), fun t n => ?_⟩⟩
        exact new (.add (b % (2 * 20 + 1) - 20)) t ⟨by omega, by omega⟩ n
      · refine ⟨_, rfl, _, rfl, (by show 5 ≤ sizeLine; decide), fun o no => ?_⟩
        have so := same_new (o := .tup [.int 1, .int (-1), .int 2, .int (-2), .int 3]) (Same.refl H) no
        refine ⟨_, rfl, .inl ⟨_, rfl, _, _, rfl, rfl, (Int.lt_of_lt_of_le (by decide) (Int.le_refl _)), ?_⟩⟩
        obtain ⟨v, e1, e2⟩ := atI_of (xs := [V.int 1, .int (-1), .int 2, .int (-2), .int 3]) (i := b % 5) (by omega) (by show b % 5 < 5; omega)
        refine ⟨o, _, _, _, rfl, rfl, SqT.of upd_same, e2, ?_⟩
        obtain ⟨y, rfl, y0, y1⟩ : ∃ y : Int, v = .int y ∧ -20 ≤ y ∧ y ≤ 20 := by
          revert e1
          have i5 : (b % 5).toNat < 5 := by omega
          generalize (b % 5).toNat = i at i5
          match i, i5 with
          | 0, _ => intro e; cases e; exact ⟨1, rfl, by decide, by decide⟩
          | 1, _ => intro e; cases e; exact ⟨-1, rfl, by decide, by decide⟩
          | 2, _ => intro e; cases e; exact ⟨2, rfl, by decide, by decide⟩
          | 3, _ => intro e; cases e; exact ⟨-2, rfl, by decide, by decide⟩
          | 4, _ => intro e; cases e; exact ⟨3, rfl, by decide, by decide⟩
        exact ⟨(by show 2 ≤ sizeLine; decide), fun t n => k t (.add y) _ ⟨y0, y1⟩ (same_new so n) upd_same (so.free n)⟩
    refine ⟨_, rfl, rfl, _, rfl, ite2 (fun _ => ?_) (fun _ => ?_)⟩
    · exact ⟨(by show 1 ≤ sizeLine; decide), fun t n => new .turn t trivial n⟩
    refine ⟨_, rfl, rfl, _, rfl, ite2 (fun _ => ?_) (fun _ => ?_)⟩
    · refine ⟨_, rfl, .inl ⟨_, rfl, _, rfl, _, _, rfl, rfl, .inl ⟨by decide, by decide⟩, _, _, rfl, rfl, _, _, rfl, rfl, (Int.lt_of_lt_of_le (by decide) (Int.le_refl _)), _, rfl, _, _, rfl, rfl, (by show 2 ≤ sizeLine; decide), fun t n => ?_⟩⟩
      exact new (.set (b % (2 * 20 + 1) - 20)) t ⟨by omega, by omega⟩ n
    refine ⟨_, rfl, .inl ⟨_, rfl, _, rfl, _, rfl, iteT ⟨_, _, rfl, rfl, (Int.lt_of_lt_of_le (by decide) (Int.le_refl _)), _, _, rfl, rfl, (by show 2 ≤ sizeLine; decide), fun t n => ?_⟩⟩⟩
    have e : ((1 : Int) + b % 6) = ((1 + b % 6).toNat : Int) := by omega
    dsimp only
    rw [e]
    exact new (.mod (1 + b % 6).toNat) t ⟨by omega, by omega⟩ n
def spTst : Sp := fun vs H Q _ => ∃ a b : Int, vs = [.int a, .int b, .int 1] ∧ (0 ≤ a ∧ a < 8) ∧ (0 ≤ b ∧ b < 1000) ∧ ∀ t (L : Ts) H', L.Ok → Same H H' → H' t = some (.tup L.vs) → H t = none → Q (.ref t) H'
abbrev s_tst : Stmt := top 59
abbrev N_tst : List Str := ["_law_a", "_law_b", "_law_wide", "_law_many", "_law_size_here"]
theorem sc_tst : FnScope N_tst ["_law_a", "_law_b", "_law_wide"] (defScope s_tst) := ⟨rfl, rfl, rfl, by decide +kernel, rfl, by decide +kernel, by decide +kernel⟩
theorem kp_tst (F : At K mg "_law_test" s_tst) (N : Nb mg) : Keeps CX0 P w K mg base "_law_test" 1 ["_law_a", "_law_b", "_law_wide"] spTst := by
  refine keeps_of F sc_tst (fun _ _ _ _ _ _ us hl => match us, hl with | [_, _, _], _ => rfl) (fun vs H Q E h => ?_) (fun f cdv A outer s H vs Q E hr h => ?_)
  · obtain ⟨a, b, rfl, _⟩ := h
    rfl
  · obtain ⟨a, b, rfl, ⟨a0, a8⟩, ⟨b0, b9⟩, k⟩ := h
    refine ⟨_, (pss_cons (ps_set (i := 3) sc_tst.nd rfl (by walk_at "lv") (pe_ifExp (pt_truth (pv 2) (fun _ => rfl)) pe_int pe_int))
        (pss_cons (ps_if (pt_cmpR op_eq (pe_op op_mod (pe_callTy call_int1 (by rfl) N.int boot_int (pa_cons (pv 0) pa_nil)) pe_int) pe_int (nomark _)) (pss_one (ps_ret (pe_tup (pa_cons pe_str (pa_cons (pe_op op_sub (pe_op op_mod (pe_callTy call_int1 (by rfl) N.int boot_int (pa_cons (pv 1) pa_nil)) (pe_op op_add (pe_op op_mul pe_int (pv 3)) pe_int)) (pv 3)) pa_nil))))) pss_nil)
        (pss_cons (ps_if (pt_cmpR op_eq (pe_op op_mod (pe_callTy call_int1 (by rfl) N.int boot_int (pa_cons (pv 0) pa_nil)) pe_int) pe_int (nomark _)) (pss_one (ps_ret (pe_tup (pa_cons pe_str (pa_cons (pe_op op_sub (pe_op op_mod (pe_callTy call_int1 (by rfl) N.int boot_int (pa_cons (pv 1) pa_nil)) (pe_op op_add (pe_op op_mul pe_int (pv 3)) pe_int)) (pv 3)) pa_nil))))) pss_nil)
        (pss_cons (ps_set (i := 4) sc_tst.nd rfl (by walk_at "lv") (pe_op op_add pe_int (pe_op op_mod (pe_callTy call_int1 (by rfl) N.int boot_int (pa_cons (pv 1) pa_nil)) (pe_ifExp (pt_truth (pv 2) (fun _ => rfl)) pe_int pe_int))))
        (pss_one (ps_ret (pe_tup (pa_cons pe_str (pa_cons (pv 4) (pa_cons (pe_op op_mod (pe_op op_fdiv (pe_callTy call_int1 (by rfl) N.int boot_int (pa_cons (pv 1) pa_nil)) pe_int) (pv 4)) pa_nil)))))))))), ?_⟩
    have new : ∀ (L : Ts) (t : Addr), L.Ok → H t = none → Q (.ref t) (upd H t (.tup L.vs)) := fun L t ok n => k t L _ ok (same_new (Same.refl H) n) upd_same n
    refine ⟨_, rfl, _, rfl, iteT ?_⟩
    refine ⟨_, rfl, .inl ⟨_, rfl, _, _, rfl, rfl, (Int.lt_of_lt_of_le (by decide) (Int.le_refl _)), rfl, _, rfl, ite2 (fun _ => ?_) (fun _ => ?_)⟩⟩
    · refine ⟨_, rfl, .inl ⟨_, rfl, _, rfl, _, _, rfl, rfl, .inl ⟨by decide, by decide⟩, _, _, rfl, rfl, _, _, rfl, rfl, (Int.lt_of_lt_of_le (by decide) (Int.le_refl _)), _, rfl, _, _, rfl, rfl, (by show 2 ≤ sizeLine; decide), fun t n => ?_⟩⟩
      exact new (.below (b % (2 * 20 + 1) - 20)) t ⟨by omega, by omega⟩ n
    refine ⟨_, rfl, .inl ⟨_, rfl, _, _, rfl, rfl, (Int.lt_of_lt_of_le (by decide) (Int.le_refl _)), rfl, _, rfl, ite2 (fun _ => ?_) (fun _ => ?_)⟩⟩
    · refine ⟨_, rfl, .inl ⟨_, rfl, _, rfl, _, _, rfl, rfl, .inl ⟨by decide, by decide⟩, _, _, rfl, rfl, _, _, rfl, rfl, (Int.lt_of_lt_of_le (by decide) (Int.le_refl _)), _, rfl, _, _, rfl, rfl, (by show 2 ≤ sizeLine; decide), fun t n => ?_⟩⟩
      exact new (.is (b % (2 * 20 + 1) - 20)) t ⟨by omega, by omega⟩ n
    refine ⟨_, rfl, .inl ⟨_, rfl, _, rfl, _, rfl, iteT ⟨_, _, rfl, rfl, (Int.lt_of_lt_of_le (by decide) (Int.le_refl _)), _, _, rfl, rfl, ?_⟩⟩⟩
    refine ⟨_, rfl, _, rfl, .inl ⟨_, rfl, _, _, rfl, rfl, (by exact ⟨by decide, by decide⟩), _, rfl, _, _, rfl, rfl, (by show (0 : Int) < 1 + b % 6; omega), (by show 3 ≤ sizeLine; decide), fun t n => ?_⟩⟩
    have e : ((1 : Int) + b % 6) = ((1 + b % 6).toNat : Int) := by omega
    dsimp only
    rw [e]
    have m0 : (0 : Int) < (((1 : Int) + b % 6).toNat : Int) := by omega
    refine new (.rest (1 + b % 6).toNat (b / 7 % ((1 + b % 6).toNat : Int))) t ⟨⟨by omega, by omega⟩, Int.emod_nonneg _ (by omega), Int.emod_lt_of_pos _ m0⟩ n
end
/-! ### older promises by data -/
section
variable {P : Program} {w : World} {K : PySem.W.Frag} {mg : Str → Option Value} {base : Heap} {S : Ad} {H : Hp}
/-- data keep off all places far enough -/
theorem da_far : (∀ {x : V} {d : PyData}, Da K S H x d → SeqAt.shaped d = true → ∃ n : Nat, ∀ p : Nat, n ≤ p → Tg p H x d) := by
  have A : ∀ (xs : List V) (ds : List PyData) (h : DaL K S H xs ds), (∀ d ∈ ds, SeqAt.shaped d = true) → ∃ n : Nat, ∀ p : Nat, n ≤ p → TgAll p H xs ds := fun xs ds h =>
    DaL.rec (motive_1 := fun x d _ => SeqAt.shaped d = true → ∃ n : Nat, ∀ p : Nat, n ≤ p → Tg p H x d) (motive_2 := fun a d _ => SeqAt.shaped d = true → ∃ n : Nat, ∀ p : Nat, n ≤ p → Tg p H (.ref a) d) (motive_3 := fun xs ds _ => (∀ d ∈ ds, SeqAt.shaped d = true) → ∃ n : Nat, ∀ p : Nat, n ≤ p → TgAll p H xs ds) (motive_4 := fun _ _ _ => True)
      (fun _ => ⟨0, fun _ _ => .non⟩) (fun b _ => ⟨0, fun _ _ => .bl b⟩) (fun n _ => ⟨0, fun _ _ => .int n⟩) (fun z c => ⟨0, fun _ _ => .str z c⟩) (fun _ _ r c => r c)
      (fun {a _ _} e _ r c => by
        obtain ⟨n, hn⟩ := r (shp_list (by unfold SeqAt.shaped at c ⊢; exact c))
        exact ⟨n + a + 1, fun p hp => .lst e (Nat.ne_of_lt (by omega)) (hn p (by omega)) c⟩)
      (fun {a _ _} e _ r c => by
        obtain ⟨n, hn⟩ := r (shp_list c)
        exact ⟨n + a + 1, fun p hp => .tup e (Nat.ne_of_lt (by omega)) (hn p (by omega)) c⟩)
      (fun _ _ _ c => (by simp [SeqAt.shaped, PyData.canLay0] at c)) (fun _ _ _ c => (by simp [SeqAt.shaped, PyData.canLay0] at c)) (fun _ _ _ c => (by simp [SeqAt.shaped, PyData.canLay0] at c))
      (fun _ => ⟨0, fun _ _ => .nil⟩) (fun _ _ h r c => by
        obtain ⟨n, hn⟩ := h (c _ List.mem_cons_self)
        obtain ⟨m, hm⟩ := r fun d hd => c d (List.mem_cons_of_mem _ hd)
        exact ⟨n + m, fun p hp => .cons (hn p (by omega)) (hm p (by omega))⟩) trivial (fun _ _ _ _ => trivial) h
  intro x d h c
  obtain ⟨n, hn⟩ := A [x] [d] (.cons h .nil) fun d' hd => by rw [List.mem_singleton.mp hd]; exact c
  exact ⟨n, fun p hp => by cases hn p hp with | cons h _ => exact h⟩
/-- f of one thing -/
def RF1 (ok : PyData → Prop) (f : PyData → PyData) : List En → Unit → KD Unit → KX Unit → Prop := fun es _ k _ => ∃ d, es = [En.da d] ∧ ok d ∧ k (f d) ()
theorem RF1.len {ok : PyData → Prop} {f : PyData → PyData} : ∀ es g k x, RF1 ok f es g k x → es.length = 1 := fun es g k x ⟨d, e, _⟩ => by rw [e]; rfl
abbrev Shp (d : PyData) : Prop := SeqAt.shaped d = true
abbrev spWhole_ (K : PySem.W.Frag) : Sp := spX K Co.pure (RF1 (fun d => d.canLay0 = true) fun d => .bool (isIntD d))
theorem kx_whole (G : Keeps CX0 P w K mg base "is_whole" 1 ["thing"] (spWhT K)) : Keeps CX0 P w K mg base "is_whole" 1 ["thing"] (spWhole_ K) := G.imp fun vs H Q E h => by
  obtain ⟨S, g, es, k, x, _, old, _, al, ⟨d, rfl, ok, hk⟩, q, _⟩ := h
  cases al with
  | da dx r =>
    cases r
    exact ⟨_, d, rfl, da_dp.1 dx ok, q _ H _ () (Frm.refl _ _) trivial (.bl _) hk⟩
def RWf : List En → Unit → KD Unit → KX Unit → Prop := fun es _ k _ => ∃ d lo hi, es = [En.da d, En.da (.int lo), En.da (.int hi)] ∧ d.canLay0 = true ∧ k (.bool (wDd lo hi d)) ()
abbrev spWholeF_ (K : PySem.W.Frag) : Sp := spX K Co.pure RWf
theorem kx_wholeF (G : Keeps CX0 P w K mg base "is_whole_from" 2 ["thing", "low", "high"] (spWfT K)) : Keeps CX0 P w K mg base "is_whole_from" 2 ["thing", "low", "high"] (spWholeF_ K) := G.imp fun vs H Q E h => by
  obtain ⟨S, g, es, k, x, _, old, _, al, ⟨d, lo, hi, rfl, ok, hk⟩, q, _⟩ := h
  cases al with
  | da dx r => cases r with
    | da d1 r => cases r with
      | da d2 r =>
        cases r
        cases d1.int_inv
        cases d2.int_inv
        exact ⟨_, d, lo, hi, rfl, da_dp.1 dx ok, q _ H _ () (Frm.refl _ _) trivial (.bl _) hk⟩
abbrev spSeq_ (K : PySem.W.Frag) : Sp := spX K Co.pure (RF1 Shp fun d => .bool (isSq d))
theorem kx_seq (G : Keeps CX0 P w K mg base "is_sequence" 1 ["thing"] (spSeqT K)) : Keeps CX0 P w K mg base "is_sequence" 1 ["thing"] (spSeq_ K) := G.imp fun vs H Q E h => by
  obtain ⟨S, g, es, k, x, _, old, _, al, ⟨d, rfl, ok, hk⟩, q, _⟩ := h
  cases al with
  | da dx r =>
    cases r
    obtain ⟨n, hn⟩ := da_far dx ok
    exact ⟨n, _, d, rfl, (hn n (Nat.le_refl _)).th, fun H' s => q _ H' _ () (Frm.of s) trivial (.bl _) hk⟩
abbrev spFit_ (K : PySem.W.Frag) (f : PyData → Bool) : Sp := spX K Co.pure (RF1 Shp fun d => .bool (f d))
theorem kx_fit {nm : Str} {lv : Nat} {ps : List Str} {f : PyData → Bool} (G : Keeps CX0 P w K mg base nm lv ps (spFitT K f)) : Keeps CX0 P w K mg base nm lv ps (spFit_ K f) := G.imp fun vs H Q E h => by
  obtain ⟨S, g, es, k, x, _, old, _, al, ⟨d, rfl, ok, hk⟩, q, _⟩ := h
  cases al with
  | da dx r =>
    cases r
    obtain ⟨n, hn⟩ := da_far dx ok
    exact ⟨n, _, d, rfl, hn n (Nat.le_refl _), fun H' s => q _ H' _ () (Frm.of s) trivial (.bl _) hk⟩
/-! hands -/
def HandD (d : PyData) : Prop := ∃ (cs : List Int) (at_ rest total : Int), d = .list [.list (cs.map PyData.int), .int at_, .int rest, .int total] ∧ 0 ≤ at_
theorem hand_at {p : Addr} {d : PyData} (h : HandD d) (o : Ho K S H p d) : ∃ c, HandC H p c ∧ ¬ S c := by
  obtain ⟨cs, at_, rest, total, rfl, h0⟩ := h
  obtain ⟨xs, e, dl⟩ := o.lst_inv
  cases dl with
  | cons dc r =>
    obtain ⟨c, ys, rfl, ec, nc, dl2⟩ := dc.lst_inv
    rw [dl2.int_inv] at ec
    cases r with
    | cons d1 r => cases d1.int_inv; cases r with
      | cons d2 r => cases d2.int_inv; cases r with
        | cons d3 r =>
          cases d3.int_inv
          cases r
          exact ⟨c, ⟨cs, at_, rest, total, e, ec, h0⟩, nc⟩
theorem at_hand {p c : Addr} (h : HandC H p c) (nc : ¬ S c) : ∃ d, HandD d ∧ Ho K S H p d := by
  obtain ⟨cs, at_, rest, total, e, ec, h0⟩ := h
  exact ⟨_, ⟨cs, at_, rest, total, rfl, h0⟩, .lst e (.cons (.ref (.lst ec (DaL.ints cs)) nc) (.cons (.int _) (.cons (.int _) (.cons (.int _) .nil))))⟩
abbrev CB (K : PySem.W.Frag) (p : Addr) : Co (Unit × PyData) := Co.pure.box K p
def RDraw (p : Addr) : List En → Unit × PyData → KD (Unit × PyData) → KX (Unit × PyData) → Prop := fun es g k _ => HandD g.2 ∧ ∃ m : Int, es = [En.raw (.ref p), En.da (.int m)] ∧ (0 < m ∧ m.natAbs.log2 < 9000) ∧ ∀ (r : Int) d, 0 ≤ r → r < m → HandD d → k (.int r) ((), d)
abbrev spDraw_ (K : PySem.W.Frag) : Sp := spY K (CB K) RDraw
theorem kx_draw (G : Keeps CX0 P w K mg base "_law_draw" 2 ["_law_hand_here", "_law_many"] spDraw) : Keeps CX0 P w K mg base "_law_draw" 2 ["_law_hand_here", "_law_many"] (spDraw_ K) := G.imp fun vs H Q E h => by
  obtain ⟨p, S, g, es, k, x, sub, old, I, al, ⟨hd, m, rfl, hm, hk⟩, q, _⟩ := h
  cases al with
  | raw r => cases r with
    | da d1 r =>
      cases r
      cases d1.int_inv
      obtain ⟨c, hc, nc⟩ := hand_at hd I.2.2.1
      refine ⟨p, c, m, rfl, hc, hm, fun r H' r0 r1 hc' b => ?_⟩
      obtain ⟨d, hd', ho⟩ := at_hand (K := K) (S := S) hc' nc
      exact q _ H' _ ((), d) (fun b' o n e => b b' o (fun z => n (.inr z)) e) ⟨trivial, fun z => z.elim, ho, (by obtain ⟨_, _, _, _, rfl, _⟩ := hd'; exact nt_l)⟩ (.int r) (hk r d r0 r1 hd')
def RLet : List En → Unit → KD Unit → KX Unit → Prop := fun es _ k _ => ∃ a b : Int, es = [En.da (.int a), En.da (.int b), En.da (.int 1)] ∧ (0 ≤ a ∧ a < 8) ∧ (0 ≤ b ∧ b < 1000) ∧ ∀ L : Lt, L.Ok → k L.d ()
def RTst : List En → Unit → KD Unit → KX Unit → Prop := fun es _ k _ => ∃ a b : Int, es = [En.da (.int a), En.da (.int b), En.da (.int 1)] ∧ (0 ≤ a ∧ a < 8) ∧ (0 ≤ b ∧ b < 1000) ∧ ∀ L : Ts, L.Ok → k L.d ()
theorem lt_dal {S : Ad} {H : Hp} (L : Lt) : DaL K S H L.vs L.ds := by
  cases L with
  | add n => exact .cons (.str _) (.cons (.int _) .nil)
  | set n => exact .cons (.str _) (.cons (.int _) .nil)
  | mod n => exact .cons (.str _) (.cons (.int _) .nil)
  | turn => exact .cons (.str _) .nil
theorem ts_dal {S : Ad} {H : Hp} (L : Ts) : DaL K S H L.vs L.ds := by
  cases L with
  | below n => exact .cons (.str _) (.cons (.int _) .nil)
  | is n => exact .cons (.str _) (.cons (.int _) .nil)
  | rest m n => exact .cons (.str _) (.cons (.int _) (.cons (.int _) .nil))
theorem kx_let {nm : Str} {lv : Nat} {ps : List Str} (G : Keeps CX0 P w K mg base nm lv ps spLet) : Keeps CX0 P w K mg base nm lv ps (spX K Co.pure RLet) := G.imp fun vs H Q E h => by
  obtain ⟨S, g, es, k, x, _, old, _, al, ⟨a, b, rfl, ha, hb, hk⟩, q, _⟩ := h
  cases al with
  | da d0 r => cases r with
    | da d1 r => cases r with
      | da d2 r =>
        cases r
        cases d0.int_inv
        cases d1.int_inv
        cases d2.int_inv
        exact ⟨a, b, rfl, ha, hb, fun t L H' ok s e n => q _ H' _ () (Frm.of s) trivial (.ref (.tup e (lt_dal L)) (old.not n)) (hk L ok)⟩
theorem kx_tst {nm : Str} {lv : Nat} {ps : List Str} (G : Keeps CX0 P w K mg base nm lv ps spTst) : Keeps CX0 P w K mg base nm lv ps (spX K Co.pure RTst) := G.imp fun vs H Q E h => by
  obtain ⟨S, g, es, k, x, _, old, _, al, ⟨a, b, rfl, ha, hb, hk⟩, q, _⟩ := h
  cases al with
  | da d0 r => cases r with
    | da d1 r => cases r with
      | da d2 r =>
        cases r
        cases d0.int_inv
        cases d1.int_inv
        cases d2.int_inv
        exact ⟨a, b, rfl, ha, hb, fun t L H' ok s e n => q _ H' _ () (Frm.of s) trivial (.ref (.tup e (ts_dal L)) (old.not n)) (hk L ok)⟩
end
/-! ### rows of programs -/
inductive Rw where
  | deed (v : Int) (l : Lt)
  | copy (v s : Int)
  | need (v : Int) (t : Ts)
  | ite (v : Int) (t : Ts) (b c : List Rw)
  | eith (b c : List Rw)
  | whil (v : Int) (t : Ts) (b : List Rw)
  | call (f : Str) (as : List Int) (v : Int)
  | stop
/-- a list or a tuple -/
def sq (s : Bool) (ds : List PyData) : PyData := if s then .list ds else .tuple ds
theorem rowsOf_sq {s : Bool} {ds : List PyData} : rowsOf (sq s ds) = some ds := by cases s <;> rfl
theorem isSq_sq {s : Bool} {ds : List PyData} : isSq (sq s ds) = true := by cases s <;> rfl
theorem lenD_sq {s : Bool} {ds : List PyData} : lenD (sq s ds) = some ds.length := by cases s <;> rfl
theorem truD_sq {s : Bool} {ds : List PyData} : truD (sq s ds) = some (!ds.isEmpty) := by cases s <;> rfl
mutual
/-- a row's data, its inner sequences lists or tuples -/
def Rw.d (s : Bool) : Rw → PyData
  | .deed v l => .tuple [.str "deed", .int v, l.d]
  | .copy v u => .tuple [.str "copy", .int v, .int u]
  | .need v t => .tuple [.str "need", .int v, t.d]
  | .ite v t b c => .tuple [.str "if", .int v, t.d, sq s (Rw.dl s b), sq s (Rw.dl s c)]
  | .eith b c => .tuple [.str "either", sq s (Rw.dl s b), sq s (Rw.dl s c)]
  | .whil v t b => .tuple [.str "while", .int v, t.d, sq s (Rw.dl s b)]
  | .call f as v => .tuple [.str "call", .str f, sq s (as.map .int), .int v]
  | .stop => .tuple [.str "stop"]
def Rw.dl (s : Bool) : List Rw → List PyData
  | [] => []
  | r :: rs => r.d s :: Rw.dl s rs
end
def Rw.bl : Rw → List (List Rw)
  | .ite _ _ b c => [b, c]
  | .eith b c => [b, c]
  | .whil _ _ b => [b]
  | _ => []
mutual
def Rw.sz : Rw → Nat
  | .ite _ _ b c => 1 + Rw.szl b + Rw.szl c
  | .eith b c => 1 + Rw.szl b + Rw.szl c
  | .whil _ _ b => 1 + Rw.szl b
  | _ => 1
def Rw.szl : List Rw → Nat
  | [] => 0
  | r :: rs => r.sz + Rw.szl rs
end
mutual
def Rw.fl : Rw → List Rw
  | .ite v t b c => .ite v t b c :: (Rw.fll b ++ Rw.fll c)
  | .eith b c => .eith b c :: (Rw.fll b ++ Rw.fll c)
  | .whil v t b => .whil v t b :: Rw.fll b
  | r => [r]
def Rw.fll : List Rw → List Rw
  | [] => []
  | r :: rs => r.fl ++ Rw.fll rs
end
mutual
/-- how deep blocks stand within one another -/
def Rw.dep : Rw → Nat
  | .ite _ _ b c => 1 + max (Rw.depl b) (Rw.depl c)
  | .eith b c => 1 + max (Rw.depl b) (Rw.depl c)
  | .whil _ _ b => 1 + Rw.depl b
  | _ => 0
def Rw.depl : List Rw → Nat
  | [] => 0
  | r :: rs => max r.dep (Rw.depl rs)
end
theorem dl_len {s : Bool} : ∀ rs : List Rw, (Rw.dl s rs).length = rs.length
  | [] => rfl
  | r :: rs => congrArg Nat.succ (dl_len rs)
theorem dl_map {s : Bool} : ∀ rs : List Rw, Rw.dl s rs = rs.map (Rw.d s)
  | [] => rfl
  | r :: rs => congrArg _ (dl_map rs)
theorem dl_get {s : Bool} {rs : List Rw} {i : Nat} {d : PyData} (h : (Rw.dl s rs)[i]? = some d) : ∃ r, rs[i]? = some r ∧ d = r.d s := by
  rw [dl_map, List.getElem?_map] at h
  cases e : rs[i]? with
  | none => (rw [e] at h; cases h)
  | some r => rw [e] at h; exact ⟨r, rfl, (Option.some.inj h).symm⟩
theorem dep_mem {r : Rw} : ∀ {rs : List Rw}, r ∈ rs → r.dep ≤ Rw.depl rs
  | r' :: rs, h => by
    rw [Rw.depl]; rcases List.mem_cons.mp h with rfl | h
    · exact Nat.le_max_left _ _
    · exact Nat.le_trans (dep_mem h) (Nat.le_max_right _ _)
theorem dep_bl {r : Rw} {b : List Rw} (h : b ∈ r.bl) : Rw.depl b < r.dep := by
  cases r with
  | ite v t x y =>
    rw [Rw.dep]; rcases List.mem_cons.mp h with rfl | h
    · omega
    · rcases (List.mem_cons.mp h) with rfl | h
      · omega
      · cases h
  | eith x y =>
    rw [Rw.dep]; rcases List.mem_cons.mp h with rfl | h
    · omega
    · rcases (List.mem_cons.mp h) with rfl | h
      · omega
      · cases h
  | whil v t x =>
    rw [Rw.dep]; rcases List.mem_cons.mp h with rfl | h
    · omega
    · cases h
  | _ => cases h
/-- what stands of a row's blocks, as data -/
def blD (s : Bool) (r : Rw) : List PyData := r.bl.map fun b => sq s (Rw.dl s b)
theorem sz_bl (r : Rw) : r.sz = 1 + (r.bl.map Rw.szl).sum := by
  cases r <;> simp only [Rw.sz, Rw.bl, List.map, List.sum_cons, List.sum_nil, List.map_nil] <;> omega
theorem szl_snoc (rs : List Rw) (r : Rw) : Rw.szl (rs ++ [r]) = Rw.szl rs + r.sz := by
  induction rs with
  | nil => simp only [Rw.szl, List.nil_append]; omega
  | cons a rs ih => rw [List.cons_append, Rw.szl, Rw.szl, ih]; omega
theorem szl_app (rs qs : List Rw) : Rw.szl (rs ++ qs) = Rw.szl rs + Rw.szl qs := by
  induction rs with
  | nil => simp only [Rw.szl, List.nil_append]; omega
  | cons a rs ih => rw [List.cons_append, Rw.szl, Rw.szl, ih]; omega
theorem fll_app (rs qs : List Rw) : Rw.fll (rs ++ qs) = Rw.fll rs ++ Rw.fll qs := by
  induction rs with
  | nil => rfl
  | cons a rs ih => rw [List.cons_append, Rw.fll, Rw.fll, ih, List.append_assoc]
theorem fl_bl (r : Rw) : r.fl = r :: (r.bl.map Rw.fll).flatten := by
  cases r <;> simp [Rw.fl, Rw.bl]
mutual
theorem fl_len : ∀ r : Rw, r.fl.length = r.sz
  | .deed _ _ => rfl
  | .copy _ _ => rfl
  | .need _ _ => rfl
  | .ite _ _ b c => by simp only [Rw.fl, Rw.sz, List.length_cons, List.length_append, fll_len b, fll_len c]; omega
  | .eith b c => by simp only [Rw.fl, Rw.sz, List.length_cons, List.length_append, fll_len b, fll_len c]; omega
  | .whil _ _ b => by simp only [Rw.fl, Rw.sz, List.length_cons, fll_len b]; omega
  | .call _ _ _ => rfl
  | .stop => rfl
theorem fll_len : ∀ rs : List Rw, (Rw.fll rs).length = Rw.szl rs
  | [] => rfl
  | r :: rs => by rw [Rw.fll, List.length_append, Rw.szl, fl_len r, fll_len rs]
end
theorem bl_len (r : Rw) : r.bl.length ≤ 2 := by cases r <;> simp [Rw.bl]
theorem blD_len (s : Bool) (r : Rw) : (blD s r).length ≤ 60000 := by
  rw [blD, List.length_map]
  exact Nat.le_trans (bl_len r) (by decide)
theorem blD_get {s : Bool} {r : Rw} {i : Nat} {d : PyData} (h : (blD s r)[i]? = some d) : ∃ b, r.bl[i]? = some b ∧ d = sq s (Rw.dl s b) := by
  rw [blD, List.getElem?_map] at h
  cases e : r.bl[i]? with
  | none => (rw [e] at h; cases h)
  | some b => rw [e] at h; exact ⟨b, rfl, (Option.some.inj h).symm⟩
/-! ### straight lines of data, walked -/
theorem Room.u65 {k : Nat} {A : Around} (r : Room k A) : A.units + 65 < cLine := by have := r.un; omega
theorem shp_int {n : Int} : SeqAt.shaped (.int n) = true := by kernel_rfl
theorem shp_bl {n : Bool} : SeqAt.shaped (.bool n) = true := by kernel_rfl
theorem shp_non : SeqAt.shaped .none = true := by kernel_rfl
theorem isS {i : Nat} {ρ : List En} (h : (ρ[i]?).isSome = true) : i < ρ.length := by
  cases e : ρ[i]? with
  | none => (rw [e] at h; cases h)
  | some x => exact (List.getElem?_eq_some_iff.mp e).1
section
variable {γ : Type} {B : Bd γ} {te ta tb : TE} {g : γ} {ρ : List En} {k : KD γ} {kt : Kz γ} {i : Nat} {d : PyData} {n : γ → List En → Prop}
theorem Wx_var (h : ∃ d, ρ[i]? = some (En.da d) ∧ k d g) : We B (tVar i) g ρ k := let ⟨_, e, h⟩ := h; We_var e h
theorem Wx_set (h : We B te g ρ fun d g1 => (ρ[i]?).isSome = true ∧ kt.nx g1 (ρ.set i (En.da d))) : Ws B (tAsg te (gName i)) g ρ kt := Ws_set (h.mono fun _ _ z => ⟨isS z.1, z.2⟩)
theorem Wx_name (h : (ρ[i]?).isSome = true ∧ n g (ρ.set i (En.da d))) : Wg B (gName i) d g ρ n := Wg_name (isS h.1) h.2
theorem Wn.mono {k' : KD γ} (h : Wn B te g ρ k) (m : ∀ d g', k d g' → k' d g') : Wn B te g ρ k' := fun S H0 σ H Q s x q => h S H0 σ H Q s x fun a H' d g' n f I o nt hk => q a H' d g' n f I o nt (m _ _ hk)
theorem Wx_new (h : Wn B te g ρ fun d g1 => (ρ[i]?).isSome = true ∧ kt.nx g1 (ρ.set i (En.own d))) : Ws B (tAsg te (gName i)) g ρ kt := Ws_new (h.mono fun _ _ z => ⟨isS z.1, z.2⟩)
theorem eqv_int {a b : Int} : PyData.eqv (.int a) (.int b) = decide (a = b) := by
  rw [Bool.eq_iff_iff]; simp [PyData.eqv]
theorem eqv_str {a b : Str} : PyData.eqv (.str a) (.str b) = decide (a = b) := by
  rw [Bool.eq_iff_iff]; simp [PyData.eqv]
end
/-- a test told by b -/
theorem dec_b {b : Bool} {p q : Prop} (h1 : b = true → p) (h2 : b = false → q) : (b = true → p) ∧ (b = false → q) := ⟨h1, h2⟩
theorem take_get {α : Type} {l : List α} {i : Nat} {x : α} (h : l[i]? = some x) : l.take (i + 1) = l.take i ++ [x] := by
  rw [List.take_succ, h]; rfl
section
variable {γ : Type} {B : Bd γ} {te : TE} {g : γ} {ρ : List En} {k : KD γ} {gt : TG} {wi : TI} {vs : List Nat}
inductive MapI (B : Bd γ) (gt : TG) (te : TE) (vs : List Nat) (ρ : List En) (k : KD γ) (ds : List PyData) (g1 : γ) : Prop
  | mk (hl : ds.length ≤ 60000) (es : List PyData) (he : es.length = ds.length) (hm : ∀ (i : Nat) d e, ds[i]? = some d → es[i]? = some e → Wg B gt d g1 (wipeE (ρ.map nown) vs) fun g3 ρ3 => We B te g3 ρ3 fun e' g5 => e' = e ∧ g5 = g1) (hk : k (.list es) g1)
/-- a comprehension that makes es of ds, nothing changed -/
theorem Wn_map (gi : GIn gt vs) (h : Wi B wi g ρ fun ds g1 => MapI B gt te vs ρ k ds g1) : Wn B (tLc wi gt tYes te vs) g ρ k := by
  refine Wn_lc gi fun S H0 σ H R s x q => h S H0 σ H R s x fun J H' ds g1 f I w ⟨hl, es, he, hm, hk⟩ => q J H' ds g1 f I w ⟨hl, fun i acc g2 => acc = es.take i ∧ g2 = g1, ⟨rfl, rfl⟩, ?_, ?_⟩
  · rintro i d acc g2 hd ⟨rfl, rfl⟩
    have hi : i < es.length := by rw [he]; exact (List.getElem?_eq_some_iff.mp hd).1
    refine fun S H0 σ H y N s x dy L => hm i d _ hd (List.getElem?_eq_getElem hi) S H0 σ H y N s x dy fun σ' H' ρ' g' s' st w => L σ' H' ρ' g' s' st (Wt_yes ⟨fun _ => w.mono fun e' g5 ⟨h1, h2⟩ => ⟨?_, h2⟩, fun z => nomatch z⟩)
    rw [h1, take_get (List.getElem?_eq_getElem hi)]
  · rintro acc g2 ⟨rfl, rfl⟩
    rw [← he, List.take_length]
    exact hk
end
theorem sum_cast {α : Type} {f : α → Nat} : ∀ l : List α, (l.map fun b => ((f b : Nat) : Int)).sum = ((l.map f).sum : Nat)
  | [] => rfl
  | a :: l => by rw [List.map_cons, List.sum_cons, sum_cast l, List.map_cons, List.sum_cons]; omega
theorem sum_take (l : List Nat) (i : Nat) : (l.take i).sum ≤ l.sum := by
  have e : (l.take i ++ l.drop i).sum = l.sum := by rw [List.take_append_drop]
  rw [List.sum_append] at e
  omega
section
variable {P : Program} {w : World} {K : PySem.W.Frag} {mg : Str → Option Value} {base : Heap}
def RRow (f : Rw → PyData) : List En → Unit → KD Unit → KX Unit → Prop := fun es _ k _ => ∃ s r, es = [En.da (Rw.d s r)] ∧ k (f r) ()
def RBlk : List En → Unit → KD Unit → KX Unit → Prop := fun es _ k _ => ∃ s r, es = [En.da (Rw.d s r)] ∧ k (.list (blD s r)) ()
abbrev s__law_blocks : Stmt := top 52
abbrev N__law_blocks : List Str := ["_law_row"]
theorem sc__law_blocks : FnScope N__law_blocks ["_law_row"] (defScope s__law_blocks) := ⟨rfl, rfl, rfl, by decide +kernel, rfl, by decide +kernel, by decide +kernel⟩
theorem kp__law_blocks (F : At K mg "_law_blocks" s__law_blocks) : Keeps CX0 P w K mg base "_law_blocks" 1 ["_law_row"] (spX K Co.pure RBlk) := by
  refine keeps_x F sc__law_blocks (fun _ _ _ _ _ _ us hl => match us, hl with | [_], _ => rfl) (fun es g k x h => ?_) (fun f cdv A outer s H E es g k x hr h => ?_)
  · obtain ⟨s, r, rfl, _⟩ := h; rfl
  · obtain ⟨s, r, rfl, hk⟩ := h
    refine ⟨_, (pss_cons (ps_if (pt_cmpR (op_eqD hr.units) (pe_ix ix_any (pv 0) pe_int (fun _ _ => rfl)) pe_str (nomark _)) (pss_one (ps_ret (pe_lst (pa_cons (pe_ix ix_any (pv 0) pe_int (fun _ _ => rfl)) (pa_cons (pe_ix ix_any (pv 0) pe_int (fun _ _ => rfl)) pa_nil))))) pss_nil)
        (pss_cons (ps_if (pt_cmpR (op_eqD hr.units) (pe_ix ix_any (pv 0) pe_int (fun _ _ => rfl)) pe_str (nomark _)) (pss_one (ps_ret (pe_lst (pa_cons (pe_ix ix_any (pv 0) pe_int (fun _ _ => rfl)) (pa_cons (pe_ix ix_any (pv 0) pe_int (fun _ _ => rfl)) pa_nil))))) pss_nil)
        (pss_one (ps_ret (pe_ifExp (pt_cmpR (op_eqD hr.units) (pe_ix ix_any (pv 0) pe_int (fun _ _ => rfl)) pe_str (nomark _)) (pe_lst (pa_cons (pe_ix ix_any (pv 0) pe_int (fun _ _ => rfl)) pa_nil)) (pe_lst pa_nil)))))), ?_⟩
    cases r with
    | ite v t b c =>
      walk_at "we"
      all_goals exact hk
    | eith b c =>
      walk_at "we"
      all_goals exact hk
    | _ =>
      walk_at "we"
      all_goals exact hk
end
section
variable {P : Program} {w : World} {K : PySem.W.Frag} {mg : Str → Option Value} {base : Heap}
def RSz (n : Nat) : List En → Unit → KD Unit → KX Unit → Prop := fun es _ k _ => ∃ s s' rs, es = [En.da (sq s' (Rw.dl s rs))] ∧ Rw.depl rs < n ∧ k (.int (Rw.szl rs : Nat)) ()
abbrev s__law_size : Stmt := top 53
abbrev N__law_size : List Str := ["_law_rows", "_law_many", "_law_row", "_law_block_here"]
theorem sc__law_size : FnScope N__law_size ["_law_rows"] (defScope s__law_size) := ⟨rfl, rfl, rfl, by decide +kernel, rfl, by decide +kernel, by decide +kernel⟩
-- slots: 0 _law_rows, 1 _law_many, 2 _law_row, 3 _law_block_here
theorem kp__law_size (F : At K mg "_law_size" s__law_size) (N : Nb mg) (G__law_blocks : Keeps CX0 P w K mg base "_law_blocks" 1 ["_law_row"] (spX K Co.pure RBlk)) : ∀ n, Keeps CX0 P w K mg base "_law_size" (n + 1) ["_law_rows"] (spX K Co.pure (RSz n)) := by
  intro n
  induction n with
  | zero => exact keeps_x F sc__law_size (fun _ _ _ _ _ _ us hl => match us, hl with | [_], _ => rfl) (fun es g k x h => by obtain ⟨s, s', rs, rfl, z, _⟩ := h; rfl) (fun f cdv A outer s H E es g k x hr h => by obtain ⟨s, s', rs, _, z, _⟩ := h; exact absurd z (Nat.not_lt_zero _))
  | succ n ih =>
    refine keeps_x F sc__law_size (fun _ _ _ _ _ _ us hl => match us, hl with | [_], _ => rfl) (fun es g k x h => ?_) (fun f cdv A outer s H E es g k x hr h => ?_)
    · obtain ⟨s, s', rs, rfl, _⟩ := h; rfl
    · obtain ⟨s, s', rs, rfl, hn, hk⟩ := h
      refine ⟨_, (pss_cons (ps_set (i := 1) sc__law_size.nd rfl (by walk_at "lv") pe_int)
        (pss_cons (ps_for PassesOwn.never rfl (pi_seqE (pv 0)) (pg_name (i := 2) sc__law_size.nd rfl (by walk_at "lv")) (pss_one (ps_set (i := 1) sc__law_size.nd rfl (by walk_at "lv") (pe_op op_add (pe_op op_add (pv 1) pe_int) (pe_callB (cr_sum rfl) (by rfl) N.sum (by decide +kernel) (pa_cons (pe_lc (own := [("_law_block_here", 3)]) (g := gName 3) (tt := tYes) rfl sc__law_size.nd (pi_seqE (pe_k (G__law_blocks.up (by omega)) hr (by rfl) pass0 (pa_cons (pv 2) pa_nil))) (blkOk_by (N := N__law_size) (sc := defScope s__law_size) (by decide +kernel)) (fun _ _ _ _ _ => (pg_name (i := 3) sc__law_size.nd rfl (by walk_at "lv"))) (fun _ _ _ _ _ => pts_nil) (fun _ _ _ _ _ => (pe_k ih hr (by rfl) pass0 (pa_cons (pv 3) pa_nil)))) pa_nil))))))
        (pss_one (ps_ret (pv 1))))), ?_⟩
      walk_at "we"
      refine Ws_for (Wi_seq ?_)
      walk_at "we"
      refine ⟨_, rowsOf_sq, fun i _ ρ => ∃ x y m, ρ = [En.da (sq s' (Rw.dl s rs)), En.da (.int m), x, y] ∧ m = (Rw.szl (rs.take i) : Nat), ⟨_, _, _, rfl, rfl⟩, ?_, ?_⟩
      · rintro i d g2 ρ2 hd ⟨x1, y1, m, rfl, rfl⟩
        obtain ⟨r, hr2, rfl⟩ := dl_get hd
        walk_at "we"
        refine We_new (Wn_map (GIn.name (by decide)) (Wi_seq (We_call0 Ln.pure ?_)))
        walk_at "we"
        refine ⟨blD_len s r, (r.bl.map fun b => ((Rw.szl b : Nat) : Int)).map .int, by rw [blD, List.length_map, List.length_map, List.length_map], fun j d e hd he => ?_, ?_⟩
        · obtain ⟨b, hb, rfl⟩ := blD_get hd
          rw [List.getElem?_map, List.getElem?_map, hb] at he
          cases he
          have hb2 := List.mem_of_getElem? hb
          walk_at "we"
          refine We_call0 Ln.pure ?_
          walk_at "we"
          refine ⟨s, s, b, rfl, ?_, rfl, rfl⟩
          have := dep_bl hb2
          have := dep_mem (List.mem_of_getElem? hr2)
          omega
        · walk_at "we"
          refine ⟨_, _, _, rfl, ?_⟩
          rw [take_get hr2, szl_snoc, sz_bl, sum_cast]
          omega
      · rintro g2 ρ2 ⟨x1, y1, m, rfl, rfl⟩
        walk_at "we"
        rw [dl_len, List.take_length]
        exact hk
end
/-! ### enumerate(tuple): made, gone through, ended -/
def enumO (it : Addr) : Obj := { cls := .type "enumerate", data := .fields #[.none, .bool false, .ref it, rawInt 0, .none, .none] }
set_option maxHeartbeats 2000000 in
theorem enum_made {v : Value} {o : Obj} {Hq : Heap → Prop} (B : Begins v o Hq) : Meets (Builtin.«enumerate.__new__» ⟨[.type "enumerate", v], []⟩) (fun _ R s => Hq s.heap ∧ R (.ok (.ret (.ref (s.heap.push o).objs.size))) { s with heap := (s.heap.push o).push (enumO s.heap.objs.size) }) := by
  refine .of_wp fun prog w A R s w0 => ?_
  obtain ⟨hp, gg, dd, tt, oo⟩ := s
  have sub := sub_enumerate
  have first : ∀ {A1 : Around} {E Q : Value → Shared → Prop}, Q (.ref hp.objs.size) ⟨hp.push o, gg, dd, tt, oo⟩ → wpAny (model prog w) A1 (pyIter v) Q E ⟨hp, gg, dd, tt, oo⟩ := fun k => B.iter prog w _ _ _ _ w0.1 k
  wp_walk using first
  refine wpAny_stack_any fun _ => wpAny_pure ?_
  have last := w0.2
  split
  · rename_i cl _ _ _ _ _
    generalize (cl == Value.type "enumerate") = same
    cases same <;> (wp_walk using first; exact ⟨_, rfl, last⟩)
  · wp_walk using first; exact ⟨_, rfl, last⟩
theorem call_enumT {prog : Program} {w : World} {A : Around} {E Q : Value → Shared → Prop} {s : Shared} {a : Addr} {its : Array Value} (ht : s.heap.IsTuple a its)
    (k : ∀ h', h'.get? (s.heap.objs.size + 1) = some (enumO s.heap.objs.size) → h'.IsTupleIter s.heap.objs.size a 0 → (∀ b o, s.heap.get? b = some o → h'.get? b = some o) → Q (.ref (s.heap.objs.size + 1)) { s with heap := h' }) : wpAny (model prog w) A (call (.type "enumerate") [.ref a]) Q E s := by
  have B := begins_tuple a its
  have n1 := Heap.size_push (h := s.heap) (o := ({ cls := .type "tuple_iterator", data := .fields #[.ref a, .int 0 0] } : Obj))
  refine callType_new PySem.F.called_enumerate (by decide) (PySem.F.typeCall_enumerate_1 _) (PySem.F.newCall_enumerate_1 _) (fun q => PySem.F.args_object_init_2 q _) PySem.F.entry_enumerate_new (enum_made B) ⟨ht, ?_⟩
  have top : (((s.heap.push _).push (enumO s.heap.objs.size)).get? (s.heap.objs.size + 1)) = some (enumO s.heap.objs.size) := n1 ▸ Heap.get?_push_size (s.heap.push _) rfl
  show _ ∧ _
  rw [n1]
  refine ⟨⟨_, top, rfl⟩, k _ top ⟨_, Heap.get?_push_of_some _ (Heap.get?_push_size _ B.free), rfl, rfl⟩ fun b o e => ?_⟩; exact Heap.get?_push_of_some _ (Heap.get?_push_of_some _ e)
/-- the tuple of N items at a, by enumerate -/
def IteT (K : PySem.W.Frag) (a : Addr) (N : Nat) : It where
  go i H := ∃ (xs : List V) (x : V), SqT K H a xs ∧ xs.length = N ∧ xs[i]? = some x
  yld i H v H' := ∃ T x, v = .ref T ∧ H T = none ∧ H' = upd H T (.tup [.int (i : Nat), x]) ∧ ∀ xs, SqT K H a xs → xs[i]? = some x
  stop i H := (∃ xs : List V, SqT K H a xs ∧ xs.length = N) ∧ N ≤ i
theorem cls_apart {h : Heap} {a b : Addr} {o o' : Obj} {x y : String} (h1 : h.get? a = some o) (h2 : h.get? b = some o') (c1 : o.cls = .type x) (c2 : o'.cls = .type y) (ne : x ≠ y) : a ≠ b := fun z => by
  subst z
  cases h1.symm.trans h2
  exact ne (Value.type.inj (c1.symm.trans c2))
section
variable {P : Program} {w : World} {K : PySem.W.Frag} {elts : List Expr} {kk : Nat} {tpos : Pos}
/-- the walk that the library knows of it, from the state before a step -/
theorem enumT_walk {X : Cx} {pins : List (Addr × Obj)} {σ : L2.St} {H : Hp} {s : Shared} {a e it : Addr} {i : Nat} {old : Value} (I : Inv X pins σ H s) (hc : X.calm = true) (ne : e ≠ it) (ti : s.heap.IsTupleIter it a i) (en : IsEnum s.heap e it (i : Int) old) {its : Array Value} (ht : s.heap.IsTuple a its) :
    WalksT X.prog X.w X.A e [e, it, a] [e, it] its.size (fun i vals => ∃ t x, its[i]? = some x ∧ vals = #[.int i t, x]) (fun i h => (∃ old, IsEnum h e it i old) ∧ h.IsTupleIter it a i ∧ h.IsTuple a its) (fun i T h => (∃ x, IsEnumOut h e it ((i : Int) + 1) x T) ∧ (h.IsTupleIter it a (i + 1) ∧ h.IsTuple a its) ∧ T ≠ e ∧ T ≠ it) := by
  obtain ⟨o1, g1, c1, _⟩ := ht
  obtain ⟨o2, g2, c2, _⟩ := ti
  have ai : a ≠ it := cls_apart g1 g2 c1 c2 (by decide)
  have ae : a ≠ e := cls_apart g1 en c1 rfl (by decide)
  refine WalksT.enumerateD (Draws.tuple (A := X.A.in1) (show X.A.in1.handled = none from I.ok.hd hc) it a ai its) e ne ?_ List.mem_cons_self
  simp only [List.mem_cons, List.not_mem_nil, or_false, not_or]
  exact ⟨ne, ae.symm⟩
theorem turn_enumT (a e it : Addr) (N : Nat) : Turn P w K (.Tuple elts kk tpos) (IteT K a N) [e, it] e (fun i h => ((e ≠ it ∧ i ≤ N) ∧ h.IsTupleIter it a i) ∧ ∃ old, IsEnum h e it (i : Int) old) where
  mem := List.mem_cons_self
  obj i h := by
    rintro ⟨⟨_, o, g, _, d⟩, old, en⟩ b hb; rcases List.mem_cons.mp hb with z | hb
    · exact z ▸ ⟨_, en, fun _ => nofun⟩
    · exact List.mem_singleton.mp hb ▸ ⟨o, g, fun _ q => by cases d.symm.trans q⟩
  keep i h h' := by
    rintro ⟨⟨h1, o, g, r⟩, old, en⟩ k
    exact ⟨⟨h1, o, k it (List.mem_cons_of_mem _ List.mem_cons_self) o g, r⟩, old, k e List.mem_cons_self _ en⟩
  item := by
    rintro X rfl rfl rfl hc i pins s σ H E I hf ⟨⟨⟨ne, _⟩, ti⟩, old, en⟩ ⟨xs, x, sq, ln, ex⟩
    obtain ⟨its, rv, tp, _⟩ := I.tuple sq
    obtain ⟨u, eu, ru⟩ := rv.get ex
    have Wk := enumT_walk I hc ne ti en (its := its.toArray) tp
    obtain ⟨lu, _⟩ := List.getElem?_eq_some_iff.mp eu
    obtain ⟨lx, _⟩ := List.getElem?_eq_some_iff.mp ex
    refine Wk.item i s _ _ (by rw [List.size_toArray]; exact lu) ⟨⟨old, en⟩, ti, tp⟩ fun T vals h1 tk pv fresh hT mid k1 => ?_
    refine ⟨_, rfl, Wk.go elts kk tpos i T _ _ _ mid fun h2 st2 k2 => ?_⟩
    obtain ⟨t, y, ey, rfl⟩ := pv
    obtain rfl : y = u := Option.some.inj (ey.symm.trans (by rw [List.getElem?_toArray]; exact eu))
    obtain ⟨o, go_, co, m, d⟩ := hT
    have two : ObjOk X.prog X.w (upd H T (.tup [.int (i : Nat), x])) h2 T (.tup [.int (i : Nat), x]) := by
      refine ⟨(by decide : (2 : Nat) ≤ sizeLine), [.int i t, y], .cons ⟨t, rfl⟩ (.cons ru .nil), o, k2 T o ?_ go_, co, m, d⟩
      exact Wk.apart _ _ _ mid
    have J := I.turnedNew (t' := tk) (ch := [e, it]) (fun b o hb q => k2 b o hb (k1 b o hb q)) hf fresh two
    have none2 : ∀ b ∈ [e, it], upd H T (.tup [.int (i : Nat), x]) b = none := fun b hb => by
      have nT : b ≠ T := fun z => Wk.apart _ _ _ mid (z ▸ hb)
      rw [upd_ne nT]
      exact (hf b hb).1
    refine ⟨.ref T, _, J, rfl, ⟨T, x, rfl, I.hok.fresh fresh, rfl, fun ys q => ?_⟩, ⟨⟨⟨ne, by omega⟩, st2.2.1⟩, st2.1⟩, none2⟩
    exact I.tuple_inj q sq ▸ ex
  done := by
    rintro X rfl rfl rfl hc i pins s σ H E I hf ⟨⟨⟨ne, le⟩, ti⟩, old, en⟩ ⟨⟨xs, sq, ln⟩, ge⟩
    obtain ⟨its, rv, tp, _⟩ := I.tuple sq
    have Wk := enumT_walk I hc ne ti en (its := its.toArray) tp
    have li := rv.length
    have ei : its.toArray.size = i := by rw [List.size_toArray]; omega
    exact Wk.done s _ _ (ei ▸ ⟨⟨old, en⟩, ti, tp⟩) fun h' tk k => ⟨rfl, I.turnedL (ch := [e, it]) k hf⟩
  self _ i s Q E := by
    rintro ⟨_, old, en⟩ k
    exact wpAny_pyIter_enum en k
end
theorem walk_enumT {K : PySem.W.Frag} {a : Addr} {xs : List V} : Walk (IteT K a xs.length) xs.length (fun H => SqT K H a xs) (YPair (fun i => some (.int (i : Nat))) (fun i => xs[i]?)) where
  goes i H hi q := ⟨xs, xs[i], q, rfl, List.getElem?_eq_getElem hi⟩
  stops H q := ⟨⟨xs, q, rfl⟩, Nat.le_refl _⟩
  yields i H v H' _ q := by
    rintro ⟨T, x, h1, h2, h3, h4⟩
    exact ⟨T, _, x, h1, h2, h3, rfl, h4 xs q⟩
/-- enumerate of a list or a tuple -/
def iEnumA (_ : PySem.W.Frag) (ta : TA) : TI := fun σ H R => ta σ H fun vs H1 => ∃ a xs, vs = [.ref a] ∧ SqA H1 a xs ∧ ∀ J, Walk J xs.length (fun H' => H' a = H1 a) (YPair (fun i => some (.int (i : Nat))) (fun i => xs[i]?)) → R J H1
theorem pi_enumA {X : L2.Cx} {e : Expr} {ta : TA} {p pos tpos : Pos} {elts : List Expr} {kk : Nat} (hg : Gl X "enumerate") (hm : X.mg "enumerate" = none) (ha : PA X [e] ta) (hs : starEach [e] X.env = [(false, eval e X.env)] := by rfl) :
    PI X (.Tuple elts kk tpos) (.Call (.Name "enumerate" p) [e] [] pos) (iEnumA X.K ta) := by
  refine ⟨fun pins s σ H R I w0 => Call_ (ld_blt I hg hm boot_enumerate (PyProof.Rows.callWith_type1 (thn (ha.run pos pins s σ H _ I w0) fun us s1 got => ?_) hs rfl))⟩
  obtain ⟨vs, H1, I1, r1, a, xs, rfl, sq, q⟩ := got
  obtain ⟨u, rfl, ru⟩ := vals1 r1; obtain rfl : u = .ref a := ru
  have late : ∀ b ∈ [s1.heap.objs.size + 1, s1.heap.objs.size], FpOk X pins H1 b := fun b hb => by
    have ge : s1.heap.objs.size ≤ b := by
      simp only [List.mem_cons, List.not_mem_nil, or_false] at hb; rcases hb with rfl | rfl
      · exact Nat.le_succ _
      · exact Nat.le_refl _
    exact I1.fpOk ge (I1.hok.fresh ge)
  rcases sq with sq | sq
  · obtain ⟨its, rv, is, _⟩ := I1.list (SqL.of sq)
    refine call_enumerate_list is.isList fun h' en li _ k => wpAny_pyIter_enum en ?_
    have wk := (walk_enum (K := X.K) (a := a) (xs := xs)).mono (G' := fun H' => H' a = H1 a) (fun H' (z : H' a = H1 a) => SqL.of (z.trans sq)) fun _ _ _ _ _ _ y => y
    exact ⟨_, _, _, _, H1, rfl, I1.kept (t' := s1.toks) k, turn_enum a _ s1.heap.objs.size, ⟨⟨.none, en⟩, li, Nat.succ_ne_self _⟩, late, q _ wk⟩
  · obtain ⟨its, rv, is, _⟩ := I1.tuple (SqT.of sq)
    refine call_enumT (its := its.toArray) is fun h' en ti k => wpAny_pyIter_enum en ?_
    have wk := (walk_enumT (K := X.K) (a := a) (xs := xs)).mono (G' := fun H' => H' a = H1 a) (fun H' (z : H' a = H1 a) => SqT.of (z.trans sq)) fun _ _ _ _ _ _ y => y
    exact ⟨_, _, _, _, H1, rfl, I1.kept (t' := s1.toks) k, turn_enumT a _ s1.heap.objs.size xs.length, ⟨⟨⟨Nat.succ_ne_self _, Nat.zero_le _⟩, ti⟩, .none, en⟩, late, q _ wk⟩
/-! ### more readings told by data: dict constants, ranges, slices, walks -/
/-- a dict constant of words and numbers, as it reads for the words ws -/
structure DicI (K : PySem.W.Frag) (w : World) (mg : Str → Option Value) (nm : Str) (ws : List Str) (tbl : Str → Option Int) : Prop where
  ex : ∃ d, mg nm = some (.ref d) ∧ (∃ es n, KDict K w d es n) ∧ ∀ z ∈ ws, match tbl z with
    | some i => ∃ t, PySem.W.nsIn K d z = some (some (.int i t))
    | none => PySem.W.nsIn K d z = some none
section
variable {γ : Type} {B : Bd γ} {te ta tb : TE} {tl : TA} {g : γ} {ρ : List En} {k : KD γ} {kl : List PyData → γ → Prop} {dd : Addr}
theorem We_kdNotIn (h : We B ta g ρ fun d g1 => ∃ z r, d = .str z ∧ PySem.W.nsIn B.K dd z = some r ∧ k (.bool (!r.isSome)) g1) : We B (tOp (fun x y H Q => ∃ (z : Str) (r : Option Value), x = .str z ∧ y = .ref dd ∧ PySem.W.nsIn B.K dd z = some r ∧ Q (.bl (!r.isSome)) H) ta (tC (.ref dd))) g ρ k := fun S H0 σ H Q s x q =>
  h S H0 σ H _ s x fun y H1 d g1 f I dy ⟨z, r, e, e2, hk⟩ => by
    subst e
    exact ⟨z, r, dy.str_inv, rfl, e2, q _ H1 _ g1 f I (.bl _) hk⟩
theorem We_kdIn (h : We B ta g ρ fun d g1 => ∃ z r, d = .str z ∧ PySem.W.nsIn B.K dd z = some r ∧ k (.bool r.isSome) g1) : We B (tOp (fun x y H Q => ∃ (z : Str) (r : Option Value), x = .str z ∧ y = .ref dd ∧ PySem.W.nsIn B.K dd z = some r ∧ Q (.bl r.isSome) H) ta (tC (.ref dd))) g ρ k := fun S H0 σ H Q s x q =>
  h S H0 σ H _ s x fun y H1 d g1 f I dy ⟨z, r, e, e2, hk⟩ => by
    subst e
    exact ⟨z, r, dy.str_inv, rfl, e2, q _ H1 _ g1 f I (.bl _) hk⟩
theorem We_kdIx {w : World} {es : Array DictEntry} {n : Nat} (D : KDict B.K w dd es n) (h : We B tb g ρ fun d g1 => ∃ z i t, d = .str z ∧ PySem.W.nsIn B.K dd z = some (some (.int i t)) ∧ k (.int i) g1) : We B (tOp (rIxD B.K w) (tC (.ref dd)) tb) g ρ k := fun S H0 σ H Q s x q =>
  h S H0 σ H _ s x fun y H1 d g1 f I dy ⟨z, i, t, e, e2, hk⟩ => by
    subst e
    exact ⟨dd, z, .int i, rfl, dy.str_inv, ⟨es, n, _, D.at_, D.lit, e2, ⟨t, rfl⟩⟩, q _ H1 _ g1 f I (.int _) hk⟩
/-- list(range(a, b)) -/
theorem Wn_rg2 (h : We B ta g ρ fun d g1 => We B tb g1 ρ fun e g2 => ∃ i j : Int, d = .int i ∧ e = .int j ∧ RgOk i j ∧ k (.list ((List.range (j - i).toNat).map fun m => .int (i + (m : Nat)))) g2) : Wn B (tLstRg (tRg2 ta tb)) g ρ k := fun S H0 σ H Q s x q =>
  h S H0 σ H _ s x fun y1 H1 d g1 f1 I1 d1 h1 => h1 S H0 σ H1 _ (s.step f1 I1) x fun y2 H2 e g2 f2 I2 d2 ⟨i, j, e1, e2, ok, hk⟩ => by
    subst e1 e2
    refine ⟨i, j, (d1.keep (f2.wide s.subs)).int_inv, d2.int_inv, ok, fun a ha => ?_⟩
    have sm := same_new (o := .lst (rgV i j)) (Same.refl H2) ha
    refine q a _ _ g2 ((f1.trans f2).gone (B.C.old _ _ _ I2) ha) ((f1.trans f2).trans (Frm.of sm)) (B.C.same (fun b m => .inl (s.subs b m)) (add_old ha I2) sm) (.lst upd_same ?_) nt_l hk
    unfold rgV
    have z := DaL.ints (K := B.K) (S := (SS S σ ρ).add a) (H := upd H2 a (.lst ((List.range (j - i).toNat).map fun m => V.int (i + (m : Nat))))) ((List.range (j - i).toNat).map fun m => i + ((m : Nat) : Int))
    rw [List.map_map, List.map_map] at z
    exact z
/-- slices -/
def cutD (ds : List PyData) (lo hi : Option Int) : List PyData := (ds.drop (HT.sIx ds.length 0 lo)).take (HT.sIx ds.length ds.length hi - HT.sIx ds.length 0 lo)
theorem cutD_to {ds : List PyData} {i : Nat} : cutD ds none (some (i : Int)) = ds.take i := by
  unfold cutD
  rw [HT.sIx_nat, HT.sIx_none, List.drop_zero, Nat.sub_zero]
  rcases Nat.le_total i ds.length with h | h
  · rw [Nat.min_eq_left h]
  · rw [Nat.min_eq_right h, List.take_length, List.take_of_length_le h]
theorem cutD_from {ds : List PyData} {i : Nat} : cutD ds (some (i : Int)) none = ds.drop i := by
  unfold cutD
  rw [HT.sIx_nat, HT.sIx_none]
  rcases Nat.le_total i ds.length with h | h
  · rw [Nat.min_eq_left h, List.take_of_length_le (by rw [List.length_drop]; omega)]
  · rw [Nat.min_eq_right h, List.drop_of_length_le (Nat.le_refl _), List.drop_of_length_le h, List.take_nil]
theorem dal_cut {K : PySem.W.Frag} {S : Ad} {H : Hp} {xs : List V} {ds : List PyData} {lo hi : Option Int} (h : DaL K S H xs ds) : DaL K S H (cutV xs lo hi) (cutD ds lo hi) := by
  unfold cutV cutD
  rw [h.len]
  exact (h.drop _).take _
theorem We_slT {r : V → Option Int → Option Int → Hp → VK → Prop} (hr : r = rSlA B.K) (h : We B te g ρ fun d g1 => We B tb g1 ρ fun e g2 => ∃ ds, ∃ i : Int, d = .tuple ds ∧ e = .int i ∧ k (.tuple (cutD ds none (some i))) g2) : We B (tSl r te tNoPart (tPart tb)) g ρ k := fun S H0 σ H Q s x q => by
  subst hr
  refine h S H0 σ H _ s x fun y1 H1 d g1 f1 I1 d1 h1 => h1 S H0 σ H1 _ (s.step f1 I1) x fun y2 H2 e g2 f2 I2 d2 ⟨ds, i, e1, e2, hk⟩ => ?_
  subst e1 e2
  have d1' := d1.keep (f2.wide s.subs)
  obtain ⟨a, xs, rfl, ea, na, dl⟩ := d1'.tup_inv
  refine ⟨i, d2.int_inv, a, xs, rfl, SqT.of ea, fun c => ?_, fun _ p hp => ?_⟩
  · have e : cutD ds none (some i) = ds := by
      unfold cutD
      rw [← dl.len, c.1, c.2, List.drop_zero, Nat.sub_zero, dl.len, List.take_length]
    rw [e] at hk
    exact q _ H2 _ g2 (f1.trans f2) I2 d1' hk
  · have sm := same_new (o := .tup (cutV xs none (some i))) (Same.refl H2) hp
    exact q _ _ _ g2 ((f1.trans f2).trans (Frm.of sm)) (B.C.same s.subs I2 sm) (Da.new_tup ((s.step f1 I1).step f2 I2).olds hp (dal_cut dl)) hk
/-- a text, sign by sign -/
theorem Wi_str (h : We B te g ρ fun d g1 => ∃ z, d = .str z ∧ kl (z.cps.toList.map fun c => .str ⟨#[c]⟩) g1) : Wi B (iStr te) g ρ kl := fun S H0 σ H R s x q => h S H0 σ H _ s x fun y H1 d g1 f I dy ⟨z, e, hk⟩ => by
  subst e
  refine ⟨z, dy.str_inv, q _ H1 _ g1 f I ⟨(fun i H' v H'' => H'' = H' ∧ ∃ c, z.cps[i]? = some c ∧ v = .str ⟨#[c]⟩), ?_, fun i H' x H'' T' hi f o t y => ?_⟩ hk⟩
  · rw [List.length_map, Array.length_toList]
    exact walk_str.mono (fun _ _ => trivial) fun _ _ _ _ _ _ y => y
  · obtain ⟨rfl, c, e, rfl⟩ := y
    refine ⟨Same.refl _, _, ?_, .str _⟩
    rw [List.getElem?_map, Array.getElem?_toList, e]; rfl
/-- enumerate of a list or a tuple -/
theorem Wi_enum (h : Wa B tl g ρ fun es g1 => ∃ d ds, es = [En.da d] ∧ rowsOf d = some ds ∧ kl ((List.range ds.length).map fun i => .tuple [.int (i : Nat), ds.getD i .none]) g1) : Wi B (iEnumA B.K tl) g ρ kl := fun S H0 σ H R s x q => h S H0 σ H _ s x fun ys H1 es g1 f I al ⟨d, ds, e, er, hk⟩ => by
  subst e
  cases al with
  | da dy r =>
    cases r
    obtain ⟨a, xs, rfl, sq, ns, dl⟩ := dy.rows er
    refine ⟨a, xs, rfl, sq, fun J w => q J H1 _ g1 f I ⟨YPair (fun i => some (.int (i : Nat))) (fun i => xs[i]?), ?_, fun i H' x H'' T' hi f o t y => ?_⟩ hk⟩
    · rw [List.length_map, List.length_range, ← dl.len]
      exact w.mono (fun H' f => by
        rcases sq with e | e
        · rw [f _ _ ns e, e]
        · rw [f _ _ ns e, e]) fun _ _ _ _ _ _ y => y
    · obtain ⟨T, u, v, rfl, hT, rfl, e1, e2⟩ := y
      cases e1
      have sm := same_new (o := .tup [V.int (i : Nat), v]) (Same.refl H') hT
      obtain ⟨d, hd, dv⟩ := dl.of e2
      rw [List.length_map, List.length_range] at hi
      refine ⟨sm, .tuple [.int (i : Nat), d], ?_, Da.new_tup o hT (.cons (.int _) (.cons (dv.on f t) .nil))⟩
      rw [List.getElem?_map, List.getElem?_range hi]
      show some (PyData.tuple [.int (i : Nat), ds.getD i .none]) = _
      rw [List.getD_eq_getElem?_getD, hd]; rfl
theorem Wi_rng2 {ta : TA} (h : Wa B ta g ρ fun es g1 => ∃ i j : Int, es = [En.da (.int i), En.da (.int j)] ∧ (-(2 ^ 62) ≤ i ∧ i < 2 ^ 62 ∧ -(2 ^ 62) ≤ j ∧ j < 2 ^ 62) ∧ kl ((List.range (j - i).toNat).map fun m => .int (i + (m : Nat))) g1) : Wi B (iRng2 ta) g ρ kl := fun S H0 σ H R s x q => h S H0 σ H _ s x fun ys H1 es g1 f I al ⟨i, j, e, h1, hk⟩ => by
  subst e
  cases al with
  | da di r => cases r with
    | da dj r =>
      cases r
      refine ⟨i, j, by rw [di.int_inv, dj.int_inv], h1, q _ H1 _ g1 f I ⟨YFn fun m => .int (i + m), ?_, fun m H' x H'' T' hi f o t y => ?_⟩ hk⟩
      · rw [List.length_map, List.length_range]; exact walk_range.mono (fun _ _ => trivial) fun _ _ _ _ _ _ y => y
      · obtain ⟨rfl, rfl⟩ := y
        rw [List.length_map, List.length_range] at hi
        refine ⟨Same.refl _, .int (i + (m : Nat)), ?_, .int _⟩
        rw [List.getElem?_map, List.getElem?_range hi]; rfl
end
def Rw.plc : Rw → List Int
  | .ite _ _ _ _ => [3, 4]
  | .eith _ _ => [1, 2]
  | .whil _ _ _ => [3]
  | _ => []
section
variable {P : Program} {w : World} {K : PySem.W.Frag} {mg : Str → Option Value} {base : Heap}
def RPlc : List En → Unit → KD Unit → KX Unit → Prop := fun es _ k _ => ∃ s r, es = [En.da (Rw.d s r)] ∧ k (.list (r.plc.map .int)) ()
abbrev s_block_places : Stmt := top 34
abbrev N_block_places : List Str := ["row"]
abbrev P_block_places : List Str := ["row"]
theorem sc_block_places : FnScope N_block_places P_block_places (defScope s_block_places) := ⟨rfl, rfl, rfl, by decide +kernel, rfl, by decide +kernel, by decide +kernel⟩
-- slots: 0 row
theorem kp_block_places (F : At K mg "block_places" s_block_places) (N : Nb mg) (S : DicI K w mg "BLOCKS_FROM" words8 tblB) : Keeps CX0 P w K mg base "block_places" 1 ["row"] (spX K Co.pure RPlc) := by
  refine keeps_x F sc_block_places (fun _ _ _ _ _ _ us hl => match us, hl with | [_], _ => rfl) (fun es g k x h => ?_) (fun f cdv A outer s H E es g k x hr h => ?_)
  · obtain ⟨s, r, rfl, _⟩ := h; rfl
  · obtain ⟨s, r, rfl, hk⟩ := h
    obtain ⟨dBLOCKS_FROM, mBLOCKS_FROM, ⟨es, n, DBLOCKS_FROM⟩, dl⟩ := S.ex
    refine ⟨_, (pss_cons (ps_if (pt_cmpR (op_notIn_kd DBLOCKS_FROM) (pe_ix ix_any (pv 0) pe_int (fun _ _ => rfl)) (pe_glob (v := .ref dBLOCKS_FROM) (by rfl) mBLOCKS_FROM rfl) (by rfl)) (pss_one (ps_ret (pe_lst pa_nil))) pss_nil)
        (pss_one (ps_ret (pe_listRg rfl (by rfl) N.list (prg_2 (by rfl) N.range (pe_ix ix_kdict (pe_glob (v := .ref dBLOCKS_FROM) (by rfl) mBLOCKS_FROM rfl) (pe_ix ix_any (pv 0) pe_int (fun _ _ => rfl)) (fun _ _ => rfl)) (pe_callB call_len (by rfl) N.len (by decide +kernel) (pa_cons (pv 0) pa_nil))))))), ?_⟩
    try dsimp only [cxOf, L2.Cx.wish]
    cases r with
    | ite v t b c =>
      obtain ⟨tt, e⟩ := dl "if" (by decide)
      walk_at "we"
      refine We_new (Wn_rg2 ?_)
      walk_at "we"
      exact ⟨RgOk.of_le (by decide) (by simp) (by decide) (by simp), hk⟩
    | eith b c =>
      obtain ⟨tt, e⟩ := dl "either" (by decide)
      walk_at "we"
      refine We_new (Wn_rg2 ?_)
      walk_at "we"
      exact ⟨RgOk.of_le (by decide) (by simp) (by decide) (by simp), hk⟩
    | whil v t b =>
      obtain ⟨tt, e⟩ := dl "while" (by decide)
      walk_at "we"
      refine We_new (Wn_rg2 ?_)
      walk_at "we"
      exact ⟨RgOk.of_le (by decide) (by simp) (by decide) (by simp), hk⟩
    | deed v l => have e := dl "deed" (by decide); walk_at "we"; exact hk
    | copy v l => have e := dl "copy" (by decide); walk_at "we"; exact hk
    | need v l => have e := dl "need" (by decide); walk_at "we"; exact hk
    | call v l => have e := dl "call" (by decide); walk_at "we"; exact hk
    | stop => have e := dl "stop" (by decide); walk_at "we"; exact hk
abbrev s_blocks_of : Stmt := top 35
abbrev N_blocks_of : List Str := ["row", "at"]
abbrev P_blocks_of : List Str := ["row"]
theorem sc_blocks_of : FnScope N_blocks_of P_blocks_of (defScope s_blocks_of) := ⟨rfl, rfl, rfl, by decide +kernel, rfl, by decide +kernel, by decide +kernel⟩
-- slots: 0 row, 1 at
theorem kp_blocks_of (F : At K mg "blocks_of" s_blocks_of) (G_block_places : Keeps CX0 P w K mg base "block_places" 1 ["row"] (spX K Co.pure RPlc)) : Keeps CX0 P w K mg base "blocks_of" 2 ["row"] (spX K Co.pure RBlk) := by
  refine keeps_x F sc_blocks_of (fun _ _ _ _ _ _ us hl => match us, hl with | [_], _ => rfl) (fun es g k x h => ?_) (fun f cdv A outer s H E es g k x hr h => ?_)
  · obtain ⟨s, r, rfl, _⟩ := h; rfl
  · obtain ⟨s, r, rfl, hk⟩ := h
    refine ⟨_, (pss_one (ps_ret (pe_lc (own := [("at", 1)]) (g := gName 1) (tt := tYes) rfl sc_blocks_of.nd (pi_seqE (pe_k (G_block_places.up (by omega)) hr (by rfl) pass0 (pa_cons (pv 0) pa_nil))) (blkOk_by (N := N_blocks_of) (sc := defScope s_blocks_of) (by decide +kernel)) (fun _ _ _ _ _ => (pg_name (i := 1) sc_blocks_of.nd rfl (by walk_at "lv"))) (fun _ _ _ _ _ => pts_nil) (fun _ _ _ _ _ => (pe_ix (r := rIxA K) ix_any (pv 0) (pv 1) (fun _ _ => rfl)))))), ?_⟩
    try dsimp only [cxOf, L2.Cx.wish]
    walk_at "we"
    refine We_new (Wn_map (GIn.name (by decide)) (Wi_seq (We_call0 Ln.pure ?_)))
    walk_at "we"
    refine ⟨by cases r <;> exact Nat.le_of_ble_eq_true rfl, blD s r, by cases r <;> rfl, ?_, hk⟩
    intro i d e hd he
    have at_ : ∀ {j : Int} {u : PyData}, d = .int j → (∃ ds, rowsOf (Rw.d s r) = some ds ∧ atI ds j = some u) → e = u → Wg ⟨K, Co.pure, E, x⟩ (gName 1) d g (wipeE (List.map nown (slots N_blocks_of [En.da (Rw.d s r)])) [1]) fun g3 ρ3 => We ⟨K, Co.pure, E, x⟩ (tOp (rIxA K) (tVar 0) (tVar 1)) g3 ρ3 fun e' g5 => e' = e ∧ g5 = g := by
      rintro j u rfl ⟨ds, h1, h2⟩ rfl
      walk_at "we"
      exact ⟨ds, _, _, h1, rfl, h2, rfl, rfl⟩
    cases r with
    | ite v t b c =>
      match i, hd, he with
      | 0, hd, he => cases hd; cases he; exact at_ rfl ⟨_, rfl, rfl⟩ rfl
      | 1, hd, he => cases hd; cases he; exact at_ rfl ⟨_, rfl, rfl⟩ rfl
    | eith b c =>
      match i, hd, he with
      | 0, hd, he => cases hd; cases he; exact at_ rfl ⟨_, rfl, rfl⟩ rfl
      | 1, hd, he => cases hd; cases he; exact at_ rfl ⟨_, rfl, rfl⟩ rfl
    | whil v t b =>
      match i, hd, he with
      | 0, hd, he => cases hd; cases he; exact at_ rfl ⟨_, rfl, rfl⟩ rfl
    | _ => cases hd
end
theorem take_all {α : Type} (l : List α) : l.take l.length = l := List.take_length
theorem dl_app {s : Bool} (rs qs : List Rw) : Rw.dl s (rs ++ qs) = Rw.dl s rs ++ Rw.dl s qs := by rw [dl_map, dl_map, dl_map, List.map_append]
theorem szl_take_le (rs : List Rw) (i : Nat) : Rw.szl (rs.take i) ≤ Rw.szl rs := by
  have e := szl_app (rs.take i) (rs.drop i)
  rw [List.take_append_drop] at e
  omega
section
variable {P : Program} {w : World} {K : PySem.W.Frag} {mg : Str → Option Value} {base : Heap}
abbrev s_rows_count : Stmt := top 36
abbrev N_rows_count : List Str := ["rows", "many", "row", "block"]
abbrev P_rows_count : List Str := ["rows"]
theorem sc_rows_count : FnScope N_rows_count P_rows_count (defScope s_rows_count) := ⟨rfl, rfl, rfl, by decide +kernel, rfl, by decide +kernel, by decide +kernel⟩
-- slots: 0 rows, 1 many, 2 row, 3 block
theorem kp_rows_count (F : At K mg "rows_count" s_rows_count) (N : Nb mg) (G_blocks_of : Keeps CX0 P w K mg base "blocks_of" 2 ["row"] (spX K Co.pure RBlk)) : ∀ n, Keeps CX0 P w K mg base "rows_count" (n + 2) ["rows"] (spX K Co.pure (RSz n)) := by
  intro n
  induction n with
  | zero => exact keeps_x F sc_rows_count (fun _ _ _ _ _ _ us hl => match us, hl with | [_], _ => rfl) (fun es g k x h => by obtain ⟨s, s', rs, rfl, z, _⟩ := h; rfl) (fun f cdv A outer s H E es g k x hr h => by obtain ⟨s, s', rs, _, z, _⟩ := h; exact absurd z (Nat.not_lt_zero _))
  | succ n ih =>
    refine keeps_x F sc_rows_count (fun _ _ _ _ _ _ us hl => match us, hl with | [_], _ => rfl) (fun es g k x h => ?_) (fun f cdv A outer s H E es g k x hr h => ?_)
    · obtain ⟨s, s', rs, rfl, _⟩ := h; rfl
    · obtain ⟨s, s', rs, rfl, hn, hk⟩ := h
      refine ⟨_, (pss_cons (ps_set (i := 1) sc_rows_count.nd rfl (by walk_at "lv") (pe_callB call_len (by rfl) N.len (by decide +kernel) (pa_cons (pv 0) pa_nil)))
        (pss_cons (ps_for PassesOwn.never rfl (pi_seqE (pv 0)) (pg_name (i := 2) sc_rows_count.nd rfl (by walk_at "lv")) (pss_one (ps_for PassesOwn.never rfl (pi_seqE (pe_k (G_blocks_of.up (by omega)) hr (by rfl) pass0 (pa_cons (pv 2) pa_nil))) (pg_name (i := 3) sc_rows_count.nd rfl (by walk_at "lv")) (pss_one (ps_aug (i := 1) sc_rows_count.nd rfl (by walk_at "lv") (pe_k (ih.up (by omega)) hr (by rfl) pass0 (pa_cons (pv 3) pa_nil)) ip_add)))))
        (pss_one (ps_ret (pv 1))))), ?_⟩
      try dsimp only [cxOf, L2.Cx.wish]
      walk_at "we"
      refine ⟨_, _, rfl, lenD_sq, ?_⟩
      walk_at "we"
      refine Ws_for (Wi_seq ?_)
      walk_at "we"
      refine ⟨_, rowsOf_sq, fun i _ ρ => ∃ x y m, ρ = [En.da (sq s' (Rw.dl s rs)), En.da (.int m), x, y] ∧ m + i = (rs.length + Rw.szl (rs.take i) : Nat), ⟨_, _, _, rfl, ?_⟩, ?_, ?_⟩
      · rw [dl_len]; simp [Rw.szl]
      · rintro i d g2 ρ2 hd ⟨x1, y1, m, rfl, hm⟩
        obtain ⟨r, hr2, rfl⟩ := dl_get hd
        walk_at "we"
        refine Ws_for (Wi_seq (We_call0 Ln.pure ?_))
        walk_at "we"
        refine ⟨fun j _ ρ => ∃ y m', ρ = [En.da (sq s' (Rw.dl s rs)), En.da (.int m'), En.da (Rw.d s r), y] ∧ m' = m + (((r.bl.take j).map Rw.szl).sum : Nat), ⟨_, _, rfl, by simp⟩, ?_, ?_⟩
        · rintro j d g3 ρ3 hd ⟨y2, m', rfl, hm'⟩
          obtain ⟨b, hb, rfl⟩ := blD_get hd
          have hb2 := List.mem_of_getElem? hb
          walk_at "we"
          refine Ws_aug rfl (We_call0 Ln.pure ?_)
          walk_at "we"
          refine ⟨s, s, b, rfl, ?_, _, rfl, _, _, rfl, ?_⟩
          · have := dep_bl hb2
            have := dep_mem (List.mem_of_getElem? hr2)
            omega
          · rw [take_get hb, List.map_append, List.sum_append, hm']
            simp only [List.map_cons, List.map_nil, List.sum_cons, List.sum_nil]; omega
        · rintro g3 ρ3 ⟨y2, m', rfl, hm'⟩
          refine ⟨_, _, _, rfl, ?_⟩
          rw [take_get hr2, szl_snoc, sz_bl]
          rw [show (blD s r).length = r.bl.length by rw [blD, List.length_map], take_all] at hm'
          omega
      · rintro g2 ρ2 ⟨x1, y1, m, rfl, hm⟩
        walk_at "we"
        rw [dl_len, take_all] at hm
        have e : m = (Rw.szl rs : Nat) := by omega
        rw [e]
        exact hk
def RFl (n : Nat) : List En → Unit → KD Unit → KX Unit → Prop := fun es _ k _ => ∃ s s' rs, es = [En.da (sq s' (Rw.dl s rs))] ∧ Rw.depl rs < n ∧ Rw.szl rs ≤ 60000 ∧ k (.list (Rw.dl s (Rw.fll rs))) ()
abbrev s_flat_rows : Stmt := top 39
abbrev N_flat_rows : List Str := ["rows", "flat", "row", "block"]
abbrev P_flat_rows : List Str := ["rows"]
theorem sc_flat_rows : FnScope N_flat_rows P_flat_rows (defScope s_flat_rows) := ⟨rfl, rfl, rfl, by decide +kernel, rfl, by decide +kernel, by decide +kernel⟩
-- slots: 0 rows, 1 flat, 2 row, 3 block
theorem kp_flat_rows (F : At K mg "flat_rows" s_flat_rows) (G_blocks_of : Keeps CX0 P w K mg base "blocks_of" 2 ["row"] (spX K Co.pure RBlk)) : ∀ n, Keeps CX0 P w K mg base "flat_rows" (n + 2) ["rows"] (spX K Co.pure (RFl n)) := by
  intro n
  induction n with
  | zero => exact keeps_x F sc_flat_rows (fun _ _ _ _ _ _ us hl => match us, hl with | [_], _ => rfl) (fun es g k x h => by obtain ⟨s, s', rs, rfl, z, _⟩ := h; rfl) (fun f cdv A outer s H E es g k x hr h => by obtain ⟨s, s', rs, _, z, _⟩ := h; exact absurd z (Nat.not_lt_zero _))
  | succ n ih =>
    refine keeps_x F sc_flat_rows (fun _ _ _ _ _ _ us hl => match us, hl with | [_], _ => rfl) (fun es g k x h => ?_) (fun f cdv A outer s H E es g k x hr h => ?_)
    · obtain ⟨s, s', rs, rfl, _⟩ := h; rfl
    · obtain ⟨s, s', rs, rfl, hn, hz, hk⟩ := h
      refine ⟨_, (pss_cons (ps_set (i := 1) sc_flat_rows.nd rfl (by walk_at "lv") (pe_lst pa_nil))
        (pss_cons (ps_for PassesOwn.never rfl (pi_seqE (pv 0)) (pg_name (i := 2) sc_flat_rows.nd rfl (by walk_at "lv")) (pss_cons (ps_expr (pe_bm PySem.F.plainAttrs_list PySem.F.slot_list_append PySem.F.type_list_append mt_append (pv 1) (pa_cons (pv 2) pa_nil)))
        (pss_one (ps_for PassesOwn.never rfl (pi_seqE (pe_k (G_blocks_of.up (by omega)) hr (by rfl) pass0 (pa_cons (pv 2) pa_nil))) (pg_name (i := 3) sc_flat_rows.nd rfl (by walk_at "lv")) (pss_one (ps_expr (pe_bm PySem.F.plainAttrs_list PySem.F.slot_list_extend PySem.F.type_list_extend mt_extend (pv 1) (pa_cons (pe_k (ih.up (by omega)) hr (by rfl) pass0 (pa_cons (pv 3) pa_nil)) pa_nil))))))))
        (pss_one (ps_ret (pv 1))))), ?_⟩
      try dsimp only [cxOf, L2.Cx.wish]
      refine Ws_seq (Wx_new (Wn_lst ?_))
      walk_at "we"
      refine Ws_for (Wi_seq ?_)
      walk_at "we"
      refine ⟨_, rowsOf_sq, fun i _ ρ => ∃ x y, ρ = [En.da (sq s' (Rw.dl s rs)), En.own (.list (Rw.dl s (Rw.fll (rs.take i)))), x, y], ⟨_, _, rfl⟩, ?_, ?_⟩
      · rintro i d g2 ρ2 hd ⟨x1, y1, rfl⟩
        obtain ⟨r, hr2, rfl⟩ := dl_get hd
        have hzi := szl_take_le rs (i + 1)
        rw [take_get hr2, szl_snoc, sz_bl] at hzi
        walk_at "we"
        refine Ws_app rfl ?_
        walk_at "we"
        refine ⟨by rw [dl_len, fll_len]; omega, ?_⟩
        refine Ws_for (Wi_seq (We_call0 Ln.pure ?_))
        walk_at "we"
        refine ⟨fun j _ ρ => ∃ y, ρ = [En.da (sq s' (Rw.dl s rs)), En.own (.list (Rw.dl s (Rw.fll (rs.take i) ++ r :: ((r.bl.take j).map Rw.fll).flatten))), En.da (Rw.d s r), y], ⟨y1, ?_⟩, ?_, ?_⟩
        · rw [dl_app]; rfl
        · rintro j d g3 ρ3 hd ⟨y2, rfl⟩
          obtain ⟨b, hb, rfl⟩ := blD_get hd
          have hb2 := List.mem_of_getElem? hb
          walk_at "we"
          refine Ws_ext rfl (We_call0 Ln.pure ?_)
          walk_at "we"
          have hsum := sum_take (r.bl.map Rw.szl) (j + 1)
          rw [← List.map_take, take_get hb, List.map_append, List.sum_append] at hsum
          simp only [List.map_cons, List.map_nil, List.sum_cons, List.sum_nil] at hsum
          have hf : ((r.bl.take j).map Rw.fll).flatten.length = ((r.bl.take j).map Rw.szl).sum := by
            rw [List.length_flatten, List.map_map]
            congr 1
            exact List.map_congr_left fun b _ => fll_len b
          refine ⟨s, s, b, rfl, ?_, by omega, _, rfl, ?_, En.da (sq s (Rw.dl s b)), ?_⟩
          · have := dep_bl hb2
            have := dep_mem (List.mem_of_getElem? hr2)
            omega
          · rw [dl_len, dl_len, List.length_append, List.length_cons, hf, fll_len, fll_len]
            omega
          · rw [← dl_app, take_get hb, List.map_append, List.flatten_append]
            simp
        · rintro g3 ρ3 ⟨y2, rfl⟩
          refine ⟨En.da (Rw.d s r), y2, ?_⟩
          rw [show (blD s r).length = r.bl.length by rw [blD, List.length_map], take_all, take_get hr2, fll_app]
          simp [Rw.fll, fl_bl]
      · rintro g2 ρ2 ⟨x1, y1, rfl⟩
        refine Ws_freeze (i := 1) rfl ?_
        walk_at "we"
        rw [dl_len, take_all]
        exact hk
end
section
variable {P : Program} {w : World} {K : PySem.W.Frag} {mg : Str → Option Value} {base : Heap}
/-! ### the errors with attributes -/
/-- an error class with the attributes fs -/
structure ErrA (P : Program) (w : World) (K : PySem.W.Frag) (mg : Str → Option Value) (base : Heap) (x : Str) (fs : List Str) : Prop where
  xt : ExF K mg x "BookError" fs
  xi : KeepsI P w K mg base x fs
theorem pmk_e {X : L2.Cx} {k : Nat} {x : Str} {f0 : Str} {fs : List Str} {e : Expr} {es : List Expr} {ta : TA} {p pos : Pos} (S : ErrA X.prog X.w X.K X.mg X.base x (f0 :: fs)) (hr : Room (k + 2) X.A) (hg : Gl X x) (ha : PA X (e :: es) ta)
    (dbg : (x == ("__debug__" : Str)) = false := by decide) (hst : starEach (e :: es) X.env = (false, eval e X.env) :: starEach es X.env := by rfl) (hpl : (backTo pos (starEach es X.env)).any (·.1) = false := by rfl) :
    PMk X (.Call (.Name x p) (e :: es) [] pos) (fun σ H W => tMkO (He.ga X.K x) (spIni (He.ga X.K x) (f0 :: fs)) [] ta σ H W) := by
  obtain ⟨fd, F, b⟩ := S.xi
  obtain ⟨iC, tI⟩ := S.xt.ini (fun z => nomatch z)
  exact pmk_oex S.xt.ox iC tI F (hr.mono (by omega)) b .nil pass0 hg S.xt.g ha dbg hst hpl
end
/-- x(..) with these attributes goes out -/
def OutA (K : PySem.W.Frag) (E : XK) (H : Hp) (x : Str) (fs : List (Str × V)) : Prop := ∀ d H', Same H H' → H' d = some (.xd fs) → E (.ref (He.ga K x)) (some d) H'
def Out0 (K : PySem.W.Frag) (E : XK) (H : Hp) (x : Str) : Prop := ∀ H', Same H H' → E (.ref (He.ga K x)) none H'
theorem OutA.same {K : PySem.W.Frag} {E : XK} {H H' : Hp} {x : Str} {fs : List (Str × V)} (s : Same H H') (h : OutA K E H x fs) : OutA K E H' x fs := fun d H2 s2 e => h d H2 (s.trans s2) e
theorem Out0.same {K : PySem.W.Frag} {E : XK} {H H' : Hp} {x : Str} (s : Same H H') (h : Out0 K E H x) : Out0 K E H' x := fun H2 s2 => h H2 (s.trans s2)
theorem find_at {α : Type} {q : α → Bool} {l : List α} {i : Nat} {p : α} (h : l[i]? = some p) (n : (l.take i).find? q = none) (t : q p = true) : l.find? q = some p := by
  obtain ⟨hi, e⟩ := List.getElem?_eq_some_iff.mp h; have s : l = l.take i ++ p :: l.drop (i + 1) := by
    rw [← e, List.getElem_cons_drop, List.take_append_drop]
  rw [s, List.find?_append, n, List.find?_cons, t]
  rfl
theorem find_next {α : Type} {q : α → Bool} {l : List α} {i : Nat} {p : α} (h : l[i]? = some p) (n : (l.take i).find? q = none) (t : q p = false) : (l.take (i + 1)).find? q = none := by
  rw [take_get h, List.find?_append, n, List.find?_cons, t]
  rfl
structure Pr where
  f : Str
  n : Int
  rs : List Rw
def Pr.d (p : Pr) : PyData := .tuple [.str p.f, .int p.n, sq false (Rw.dl false p.rs)]
def pgD (ps : List Pr) : PyData := .dict ((.none, .str "Program") :: [(.str "procedures", .tuple (ps.map Pr.d))])
/-- the class of programs -/
structure PrgT (K : PySem.W.Frag) : Prop where
  c : Cls K (He.ga K "Program")
  a : NoAttr K (He.ga K "Program") "procedures"
theorem Ws_raise0 {γ : Type} {B : Bd γ} {nm : Str} {g : γ} {ρ : List En} {kt : Kz γ} (h : B.x nm [] g) : Ws B (fun _ σ H => B.E (.ref (He.ga B.K nm)) none H) g ρ kt := fun S H0 σ H D s x L => x nm none H g [] s.frm (B.C.mono _ _ _ _ (fun _ _ _ z => .inl z) s.I) (.inl ⟨rfl, rfl⟩) h
section
variable {P : Program} {w : World} {K : PySem.W.Frag} {mg : Str → Option Value} {base : Heap}
def isNm (nm : PyData) (p : Pr) : Bool := PyData.eqv (.str p.f) nm
abbrev nopX (nm : PyData) : List (PyData × PyData) := [(.str "name", nm)]
def RPof : List En → Unit → KD Unit → KX Unit → Prop := fun es _ k x => ∃ ps nm, es = [En.da (pgD ps), En.da nm] ∧ Shp nm ∧ (∀ p ∈ ps, Shp (.str p.f)) ∧ (∀ p, ps.find? (isNm nm) = some p → k p.d ()) ∧ (ps.find? (isNm nm) = none → x "NoProcedure" (nopX nm) ())
abbrev s_procedure_of : Stmt := top 37
abbrev N_procedure_of : List Str := ["program", "name", "procedure"]
abbrev P_procedure_of : List Str := ["program", "name"]
theorem sc_procedure_of : FnScope N_procedure_of P_procedure_of (defScope s_procedure_of) := ⟨rfl, rfl, rfl, by decide +kernel, rfl, by decide +kernel, by decide +kernel⟩
-- slots: 0 program, 1 name, 2 procedure
theorem kp_procedure_of (F : At K mg "procedure_of" s_procedure_of) (T : PrgT K) (S_NoProcedure : ErrA P w K mg base "NoProcedure" ["name"]) : Keeps (CX P w) P w K mg base "procedure_of" 3 ["program", "name"] (spX K Co.pure RPof) := by
  refine keeps_xX F sc_procedure_of (fun _ _ _ _ _ _ us hl => match us, hl with | [_, _], _ => rfl) (fun es g k x h => ?_) (fun f cdv A outer s H E es g k x hr h => ?_)
  · obtain ⟨ps, nm, rfl, _⟩ := h; rfl
  · obtain ⟨ps, nm, rfl, hs, hf, hk, hx⟩ := h
    refine ⟨_, (pss_cons (ps_for (passes_of rfl) rfl (pi_seqE (pe_fld (pv 0) rfl)) (pg_name (i := 2) sc_procedure_of.nd rfl (by walk_at "lv")) (pss_one (ps_if (pt_cmpR (op_eqD hr.units) (pe_ix ix_any (pv 2) pe_int (fun _ _ => rfl)) (pv 1) (nomark _)) (pss_one (ps_ret (pv 2))) pss_nil)))
        (pss_one (ps_raise rfl (takes_of rfl rfl rfl rfl) (by exact pmk_e S_NoProcedure hr (by rfl) (pa_cons (pv 1) pa_nil))))), ?_⟩
    try dsimp only [cxOf, L2.Cx.wish]
    refine Ws_seq (Ws_for (Wi_seq (We_fld T.c T.a ?_)))
    walk_at "we"
    refine ⟨fun i _ ρ => ∃ y, ρ = [En.da (pgD ps), En.da nm, y] ∧ (ps.take i).find? (isNm nm) = none, ⟨_, rfl, rfl⟩, ?_, ?_⟩
    · rintro i d g2 ρ2 hd ⟨y, rfl, hn⟩
      rw [List.getElem?_map] at hd
      obtain ⟨p, hp, rfl⟩ := Option.map_eq_some_iff.mp hd
      have hfp := hf p (List.mem_of_getElem? hp)
      walk_at "we"
      refine ⟨fun h => ?_, fun h => ?_⟩
      · walk_at "we"
        exact hk p (find_at hp hn h)
      · walk_at "we"
        exact find_next hp hn h
    · rintro g2 ρ2 ⟨y, rfl, hn⟩
      rw [List.length_map, take_all] at hn
      refine Ws_raise ?_
      walk_at "we"
      exact ⟨Nat.le_of_ble_eq_true rfl, hx hn⟩
end
def isCall : Rw → Bool
  | .call _ _ _ => true
  | _ => false
/-- the places of the calls among the first n -/
def callN (fs : List Rw) (n : Nat) : List Nat := (List.range n).filter fun i => (fs[i]?.map isCall).getD false
theorem callN_next {fs : List Rw} {i : Nat} {r : Rw} (h : fs[i]? = some r) : callN fs (i + 1) = callN fs i ++ (if isCall r then [i] else []) := by
  unfold callN
  rw [List.range_succ, List.filter_append]
  cases e : isCall r <;> simp [h, e]
theorem callN_len (fs : List Rw) (n : Nat) : (callN fs n).length ≤ n := by
  refine Nat.le_trans (List.length_filter_le _ _) ?_
  rw [List.length_range]; exact Nat.le_refl _
/-- the word of a row -/
def Rw.wd : Rw → Str
  | .deed _ _ => "deed"
  | .copy _ _ => "copy"
  | .need _ _ => "need"
  | .ite _ _ _ _ => "if"
  | .eith _ _ => "either"
  | .whil _ _ _ => "while"
  | .call _ _ _ => "call"
  | .stop => "stop"
theorem rw_ix0 (s : Bool) (r : Rw) : ∃ ds, rowsOf (Rw.d s r) = some ds ∧ atI ds 0 = some (.str r.wd) := by cases r <;> exact ⟨_, rfl, rfl⟩
theorem eqv_wd (r : Rw) (z : Str) : PyData.eqv (.str r.wd) (.str z) = decide (r.wd = z) := eqv_str
theorem shp_wd (r : Rw) : SeqAt.shaped (.str r.wd) = true := by cases r <;> simp only [Rw.wd] <;> decide +kernel
theorem isCall_wd (r : Rw) : isCall r = decide (r.wd = "call") := by
  cases r with
  | deed _ _ => exact (show false = decide (("deed" : Str) = "call") from by decide +kernel)
  | copy _ _ => exact (show false = decide (("copy" : Str) = "call") from by decide +kernel)
  | need _ _ => exact (show false = decide (("need" : Str) = "call") from by decide +kernel)
  | ite _ _ _ _ => exact (show false = decide (("if" : Str) = "call") from by decide +kernel)
  | eith _ _ => exact (show false = decide (("either" : Str) = "call") from by decide +kernel)
  | whil _ _ _ => exact (show false = decide (("while" : Str) = "call") from by decide +kernel)
  | call _ _ _ => exact (show true = decide (("call" : Str) = "call") from by decide +kernel)
  | stop => exact (show false = decide (("stop" : Str) = "call") from by decide +kernel)
section
variable {P : Program} {w : World} {K : PySem.W.Frag} {mg : Str → Option Value} {base : Heap}
/-- of the procedure of a name -/
def RPn (n : Nat) (R : Pr → KD Unit → KX Unit → Prop) : List En → KD Unit → KX Unit → PyData → PyData → Prop := fun es k x pg nm => ∃ ps, pg = pgD ps ∧ Shp nm ∧ (∀ p ∈ ps, Shp (.str p.f)) ∧ (∀ p ∈ ps, Rw.depl p.rs < n ∧ Rw.szl p.rs ≤ 60000) ∧ (∀ p, ps.find? (isNm nm) = some p → R p k x) ∧ (ps.find? (isNm nm) = none → x "NoProcedure" (nopX nm) ())
def RCnt (n : Nat) : List En → Unit → KD Unit → KX Unit → Prop := fun es _ k x => ∃ pg nm, es = [En.da pg, En.da nm] ∧ RPn n (fun p k _ => k (.int (Rw.szl p.rs : Nat)) ()) es k x pg nm
abbrev s_place_count : Stmt := top 40
abbrev N_place_count : List Str := ["program", "name"]
abbrev P_place_count : List Str := ["program", "name"]
theorem sc_place_count : FnScope N_place_count P_place_count (defScope s_place_count) := ⟨rfl, rfl, rfl, by decide +kernel, rfl, by decide +kernel, by decide +kernel⟩
-- slots: 0 program, 1 name
theorem kp_place_count (n : Nat) (F : At K mg "place_count" s_place_count) (G_procedure_of : Keeps (CX P w) P w K mg base "procedure_of" 3 ["program", "name"] (spX K Co.pure RPof)) (G_rows_count : Keeps CX0 P w K mg base "rows_count" (n + 2) ["rows"] (spX K Co.pure (RSz n))) : Keeps (CX P w) P w K mg base "place_count" (n + 4) ["program", "name"] (spX K Co.pure (RCnt n)) := by
  refine keeps_xX F sc_place_count (fun _ _ _ _ _ _ us hl => match us, hl with | [_, _], _ => rfl) (fun es g k x h => ?_) (fun f cdv A outer s H E es g k x hr h => ?_)
  · obtain ⟨pg, nm, rfl, _⟩ := h; rfl
  · obtain ⟨_, nm, rfl, ps, rfl, hs, hf, hn, hk, hx⟩ := h
    refine ⟨_, (pss_one (ps_ret (pe_k (G_rows_count.up (by omega)) hr (by rfl) pass0 (pa_cons (pe_ix ix_any (pe_k (G_procedure_of.up (by omega)) hr (by rfl) (passes_call (takes_of rfl rfl rfl rfl) (fun _ _ _ _ h => h)) (pa_cons (pv 0) (pa_cons (pv 1) pa_nil))) pe_int (fun _ _ => rfl)) pa_nil)))), ?_⟩
    try dsimp only [cxOf, L2.Cx.wish]
    walk_at "we"
    refine We_call0 Ln.pure ?_
    walk_at "we"
    refine We_call Ln.pure ?_
    walk_at "we"
    refine ⟨fun p hp => ?_, hx⟩
    walk_at "we"
    exact ⟨_, _, _, rfl, (hn p (List.mem_of_find?_eq_some hp)).1, hk p hp⟩
def RRap (n : Nat) : List En → Unit → KD Unit → KX Unit → Prop := fun es _ k x => ∃ pg nm pl, es = [En.da pg, En.da nm, En.da pl] ∧ pl.canLay0 = true ∧ RPn n (fun p k x => (wDd 0 (Rw.szl p.rs : Nat) pl = false → x "BadPlace" [] ()) ∧ ∀ i : Nat, pl = .int i → i ≤ Rw.szl p.rs → k (((Rw.fll p.rs)[i]?.map (Rw.d false)).getD .none) ()) es k x pg nm
abbrev s_row_at_place : Stmt := top 41
abbrev N_row_at_place : List Str := ["program", "name", "place", "flat"]
abbrev P_row_at_place : List Str := ["program", "name", "place"]
theorem sc_row_at_place : FnScope N_row_at_place P_row_at_place (defScope s_row_at_place) := ⟨rfl, rfl, rfl, by decide +kernel, rfl, by decide +kernel, by decide +kernel⟩
-- slots: 0 program, 1 name, 2 place, 3 flat
theorem kp_row_at_place (n : Nat) (F : At K mg "row_at_place" s_row_at_place) (N : Nb mg) (G_procedure_of : Keeps (CX P w) P w K mg base "procedure_of" 3 ["program", "name"] (spX K Co.pure RPof)) (G_flat_rows : Keeps CX0 P w K mg base "flat_rows" (n + 2) ["rows"] (spX K Co.pure (RFl n))) (G_is_whole_from : Keeps CX0 P w K mg base "is_whole_from" 2 ["thing", "low", "high"] (spWholeF_ K)) (S_BadPlace : ExF K mg "BadPlace" "BookError" []) : Keeps (CX P w) P w K mg base "row_at_place" (n + 4) ["program", "name", "place"] (spX K Co.pure (RRap n)) := by
  refine keeps_xX F sc_row_at_place (fun _ _ _ _ _ _ us hl => match us, hl with | [_, _, _], _ => rfl) (fun es g k x h => ?_) (fun f cdv A outer s H E es g k x hr h => ?_)
  · obtain ⟨pg, nm, pl, rfl, _⟩ := h; rfl
  · obtain ⟨_, nm, pl, rfl, hpl, ps, rfl, hs, hf, hn, hk, hx⟩ := h
    refine ⟨_, (pss_cons (ps_set (i := 3) sc_row_at_place.nd rfl (by walk_at "lv") (pe_k (G_flat_rows.up (by omega)) hr (by rfl) pass0 (pa_cons (pe_ix ix_any (pe_k (G_procedure_of.up (by omega)) hr (by rfl) (passes_call (takes_of rfl rfl rfl rfl) (fun _ _ _ _ h => h)) (pa_cons (pv 0) (pa_cons (pv 1) pa_nil))) pe_int (fun _ _ => rfl)) pa_nil)))
        (pss_cons (ps_if (pt_not (pt_truth (pe_k (G_is_whole_from.up (by omega)) hr (by rfl) pass0 (pa_cons (pv 2) (pa_cons pe_int (pa_cons (pe_callB call_len (by rfl) N.len (by decide +kernel) (pa_cons (pv 3) pa_nil)) pa_nil)))) (by intro _; rfl))) (pss_one (ps_raise rfl (takes_of rfl rfl rfl rfl) (by exact pmk0 S_BadPlace (by rfl)))) pss_nil)
        (pss_one (ps_ret (pe_ifExp (pt_cmpR op_lt (pv 2) (pe_callB call_len (by rfl) N.len (by decide +kernel) (pa_cons (pv 3) pa_nil)) (nomark _)) (pe_ix ix_any (pv 3) (pv 2) (fun _ _ => rfl)) pe_non))))), ?_⟩
    try dsimp only [cxOf, L2.Cx.wish]
    walk_at "we"
    refine We_call0 Ln.pure ?_
    walk_at "we"
    refine We_call Ln.pure ?_
    walk_at "we"
    refine ⟨fun p hp => ?_, hx⟩
    obtain ⟨h1, h2⟩ := hn p (List.mem_of_find?_eq_some hp)
    obtain ⟨k1, k2⟩ := hk p hp
    walk_at "we"
    refine We_call0 Ln.pure ?_
    walk_at "we"
    rw [dl_len, fll_len]
    cases hw : wDd 0 (Rw.szl p.rs : Nat) pl with
    | false =>
      walk_at "we"
      exact Ws_raise0 (k1 hw)
    | true =>
      obtain ⟨m, rfl, m0, m1⟩ := wDd_ok hw
      obtain ⟨i, rfl⟩ := Int.eq_ofNat_of_zero_le m0
      have hi : i ≤ Rw.szl p.rs := by omega
      have kk := k2 i rfl hi
      walk_at "we"
      rw [dl_len, fll_len]
      refine ⟨fun h => ?_, fun h => ?_⟩
      · have hi2 : i < (Rw.fll p.rs).length := by rw [fll_len]; have := of_decide_eq_true h; omega
        walk_at "we"
        rw [dl_map]
        rw [List.getElem?_eq_getElem hi2] at kk
        exact ⟨_, _, _, rfl, rfl, atI_nat (by rw [List.getElem?_map, List.getElem?_eq_getElem hi2]; rfl), kk⟩
      · walk_at "we"
        have hi2 : (Rw.fll p.rs).length ≤ i := by rw [fll_len]; have := of_decide_eq_false h; omega
        rw [List.getElem?_eq_none hi2] at kk
        exact kk
def RCpl (n : Nat) : List En → Unit → KD Unit → KX Unit → Prop := fun es _ k x => ∃ pg nm, es = [En.da pg, En.da nm] ∧ RPn n (fun p k _ => k (.tuple ((callN (Rw.fll p.rs) (Rw.fll p.rs).length).map fun i => .int (i : Nat))) ()) es k x pg nm
abbrev s_call_places : Stmt := top 42
abbrev N_call_places : List Str := ["program", "name", "flat", "place", "row"]
abbrev P_call_places : List Str := ["program", "name"]
theorem sc_call_places : FnScope N_call_places P_call_places (defScope s_call_places) := ⟨rfl, rfl, rfl, by decide +kernel, rfl, by decide +kernel, by decide +kernel⟩
-- slots: 0 program, 1 name, 2 flat, 3 place, 4 row
theorem kp_call_places (n : Nat) (F : At K mg "call_places" s_call_places) (N : Nb mg) (G_procedure_of : Keeps (CX P w) P w K mg base "procedure_of" 3 ["program", "name"] (spX K Co.pure RPof)) (G_flat_rows : Keeps CX0 P w K mg base "flat_rows" (n + 2) ["rows"] (spX K Co.pure (RFl n))) : Keeps (CX P w) P w K mg base "call_places" (n + 4) ["program", "name"] (spX K Co.pure (RCpl n)) := by
  refine keeps_xX F sc_call_places (fun _ _ _ _ _ _ us hl => match us, hl with | [_, _], _ => rfl) (fun es g k x h => ?_) (fun f cdv A outer s H E es g k x hr h => ?_)
  · obtain ⟨pg, nm, rfl, _⟩ := h; rfl
  · obtain ⟨_, nm, rfl, ps, rfl, hs, hf, hn, hk, hx⟩ := h
    refine ⟨_, (pss_cons (ps_set (i := 2) sc_call_places.nd rfl (by walk_at "lv") (pe_k (G_flat_rows.up (by omega)) hr (by rfl) pass0 (pa_cons (pe_ix ix_any (pe_k (G_procedure_of.up (by omega)) hr (by rfl) (passes_call (takes_of rfl rfl rfl rfl) (fun _ _ _ _ h => h)) (pa_cons (pv 0) (pa_cons (pv 1) pa_nil))) pe_int (fun _ _ => rfl)) pa_nil)))
        (pss_one (ps_ret (pe_callTy call_tuple_of (by rfl) N.tuple (by decide +kernel) (pa_cons (pe_lc (own := [("place", 3), ("row", 4)]) (g := gTupA 2 (gCons (gName 3) (gCons (gName 4) gNil))) rfl sc_call_places.nd (pi_enumA (by rfl) N.enumerate (pa_cons (pv 2) pa_nil)) (blkOk_by (N := N_call_places) (sc := defScope s_call_places) (by decide +kernel)) (fun _ _ _ _ _ => (pg_tupA (by rfl) (pgs_cons (pg_name (i := 3) sc_call_places.nd rfl (by walk_at "lv")) (pgs_cons (pg_name (i := 4) sc_call_places.nd rfl (by walk_at "lv")) pgs_nil)))) (fun _ _ _ _ _ => (pts_one (pt_cmpR (r := rEqD K) (op_eqD hr.units) (pe_ix (r := rIxA K) ix_any (pv 4) pe_int (fun _ _ => rfl)) pe_str (nomark _)))) (fun _ _ _ _ _ => (pv 3))) pa_nil))))), ?_⟩
    try dsimp only [cxOf, L2.Cx.wish]
    walk_at "we"
    refine We_call0 Ln.pure ?_
    walk_at "we"
    refine We_call Ln.pure ?_
    walk_at "we"
    refine ⟨fun p hp => ?_, hx⟩
    obtain ⟨h1, h2⟩ := hn p (List.mem_of_find?_eq_some hp)
    have kk := hk p hp
    walk_at "we"
    refine We_new (Wn_lc (GIn.tupA (GIns.name (by decide) (GIns.name (by decide) GIns.nil))) (Wi_enum ?_))
    walk_at "we"
    have hl : (Rw.dl false (Rw.fll p.rs)).length = Rw.szl p.rs := by rw [dl_len, fll_len]
    refine ⟨by rw [List.length_map, List.length_range, hl]; exact h2, fun i acc _ => acc = (callN (Rw.fll p.rs) i).map fun i => .int (i : Nat), rfl, ?_, ?_⟩
    · rintro i d acc g2 hd rfl
      rw [List.getElem?_map] at hd
      obtain ⟨j, hj, rfl⟩ := Option.map_eq_some_iff.mp hd
      have hij : j = i ∧ i < (Rw.dl false (Rw.fll p.rs)).length := by
        obtain ⟨a, b⟩ := List.getElem?_eq_some_iff.mp hj
        rw [List.length_range] at a
        rw [List.getElem_range] at b
        exact ⟨b.symm, a⟩
      obtain ⟨rfl, hlt⟩ := hij
      obtain ⟨r, hr2, er⟩ := dl_get (List.getElem?_eq_getElem hlt)
      rw [List.getD_eq_getElem?_getD, List.getElem?_eq_getElem hlt, er]
      obtain ⟨ds, e1, e2⟩ := rw_ix0 false r
      refine Wg_tupA ⟨_, rfl, rfl, Wgs_cons ?_⟩
      walk_at "we"
      refine Wgs_cons ?_
      walk_at "we"
      refine Wgs_nil ?_
      walk_at "we"
      refine ⟨ds, 0, _, e1, rfl, e2, ?_⟩
      walk_at "we"
      have sw := shp_wd r
      walk_at "we"
      rw [callN_next hr2, isCall_wd, eqv_wd]
      refine ⟨fun h => ?_, fun h => ?_⟩
      · walk_at "we"
        rw [if_pos h, List.map_append]
        rfl
      · rw [if_neg (by rw [h]; decide)]
        simp
    · rintro acc g2 rfl
      walk_at "we"
      rw [List.length_map, List.length_range, hl, ← fll_len]
      exact kk
end
/-! ### tuple(d), d a dict -/
section
variable {pg : Program} {wd : World} {Ar : Around} {Ex : Value → Shared → Prop} {s : Shared} {d : Addr} {n : Nat} {P : Nat → Value → Prop} {OK : Heap → Prop}
theorem collect_kdl {T : String} {Q : List Value → Shared → Prop} (Kd : PySem.W.KdlSrc pg wd T d d n P OK) (hh : Ar.handled = none) (hok : OK s.heap) (hn : n ≤ sizeLine)
    (hQ : ∀ (h2 : Heap) (tk : Nat) (got : Array Value), (∀ b o, s.heap.get? b = some o → h2.get? b = some o) → ItemsOf P got n → Q got.toList { s with heap := h2, toks := tk }) : wpAny (model pg wd) Ar (collect (.ref d)) Q Ex s := by
  unfold collect
  refine wpAny_bind (wpAny_runValue (codeAny_builtin F.entry_proto_collect ?_)); rw [Around.under_plainId F.plain_proto_collect _]
  show wpAny _ Ar.in1 (newList [] >>= fun l => again (.builtin "list.__iadd__" ⟨[l, .ref d], []⟩)) _ _ s
  refine wpAny_bind (wpAny_newObj_type (wpAny_pure ⟨plainId_quiet F.plain_list_iadd _, codeAny_builtin F.entry_list_iadd ?_⟩)); rw [Around.under_plainId F.plain_list_iadd _]
  show wpAny _ Ar.in1 (Builtin.List.listExtendWith (.ref s.heap.objs.size) (.ref d) (.ref s.heap.objs.size)) _ _ _; have hS : (s.heap.push { cls := .type "list", data := .seq ([] : List Value).toArray }).get? s.heap.objs.size = some { cls := .type "list", data := .seq #[] 0 } := Heap.get?_push_size _ rfl
  have lt := (Kd.there _ hok).1
  refine wpAny_mono (PySem.W.kdl_extend (A := Ar) (R := fun rr s2 => rr = .ok (.ret (.ref s.heap.objs.size)) ∧ ∃ (h2 : Heap) (tk : Nat) (got : Array Value) (c' : Nat), s2 = { s with heap := h2, toks := tk } ∧ (∀ b o, s.heap.get? b = some o → h2.get? b = some o) ∧ h2.get? s.heap.objs.size = some { cls := .type "list", dict := none, data := .seq got c', slots := #[] } ∧ ItemsOf P got n)
    (s := { s with heap := s.heap.push { cls := .type "list", data := .seq ([] : List Value).toArray } }) Kd hh (Kd.keep _ _ hok fun b _ o e => Heap.get?_push_of_some _ e) s.heap.objs.size (Nat.ne_of_gt lt) (Nat.ne_of_gt lt) _ 0 hS (fun h2 tk got c' hk e hi => ⟨rfl, h2, tk, got, c', rfl, fun b o q => hk b o (Nat.ne_of_lt (Heap.lt_size q)) (Heap.get?_push_of_some _ q), e, hi⟩) hn) (fun f s2 h => ?_) (fun e s2 h => absurd h.1 (by simp))
  cases f with
  | done f =>
    obtain ⟨e, h2, tk, got, c', rfl, hk, hS2, hi⟩ := h
    cases e
    exact wpAny_bind (wpAny_load hS2 (wpAny_pure (hQ h2 tk got hk hi)))
  | again c2 =>
    refine ⟨h.1, codeAny_mono h.2 fun rr s3 z => ?_⟩
    obtain ⟨rfl, h2, tk, got, c', rfl, hk, hS2, hi⟩ := z
    exact wpAny_bind (wpAny_load hS2 (wpAny_pure (hQ h2 tk got hk hi)))
theorem new_tuple_kdl {Q₁ : Value → Shared → Prop} (Kd : PySem.W.KdlSrc pg wd "dict" d d n P OK) (hh : Ar.handled = none) (hok : OK s.heap) (hn : n ≤ sizeLine)
    (h : ∀ (h2 : Heap) (tk : Nat) (got : Array Value), (∀ b o, s.heap.get? b = some o → h2.get? b = some o) → ItemsOf P got n → Q₁ (.ref h2.objs.size) { s with heap := h2.push { cls := .type "tuple", data := .seq got }, toks := tk }) : codeAny (model pg wd) Ar (.call (.builtin "tuple.__new__") ⟨[.type "tuple", .ref d], []⟩) (wants Q₁ Ex) s := by
  refine codeAny_of_tree ?_
  show wpAny _ Ar.in1 (do checkBuiltinCall "tuple.__new__" ⟨[.type "tuple", .ref d], []⟩; again (.builtin "tuple.__new__" ⟨[.type "tuple", .ref d], []⟩)) _ _ s
  refine wpAny_bind (wpAny_of_eq (F.newCall_tuple_1 _) (wpAny_pure ⟨plainId_quiet F.plain_tuple_new _, codeAny_builtin F.entry_tuple_new ?_⟩)); rw [Around.under_plainId F.plain_tuple_new _]
  have hsub := sub_tuple_self; have hinit := init_tuple_lookup; have hmh := madeHere_tuple
  have hTI : s.TypeIs (.ref d) "dict" := Kd.type s hok
  have hh1 : Ar.in1.handled = none := hh
  wp_walk using wpAny_typeOf hTI, collect_kdl (Ar := Ar.in1) Kd hh1 hok hn
  intro h2 tk got hk hg
  show wpAny _ _ (Builtin.Tuple.tupleExact got.toList.toArray >>= fun v => ret v) _ _ _
  have e : got.toList.toArray = got := by simp
  rw [e]
  unfold Builtin.Tuple.tupleExact; refine wpAny_bind (wpAny_newObj_type (wpAny_pure (h h2 tk got hk hg)) (by show got.size ≤ sizeLine; rw [hg.1]; exact hn))
theorem call_tuple_kdl {Q : Value → Shared → Prop} (Kd : PySem.W.KdlSrc pg wd "dict" d d n P OK) (hh : Ar.handled = none) (hok : OK s.heap) (hn : n ≤ sizeLine)
    (hQ : ∀ (h2 : Heap) (tk : Nat) (got : Array Value), (∀ b o, s.heap.get? b = some o → h2.get? b = some o) → ItemsOf P got n → Q (.ref h2.objs.size) { s with heap := h2.push { cls := .type "tuple", data := .seq got }, toks := tk }) : wpAny (model pg wd) Ar (call (.type "tuple") [.ref d]) Q Ex s := by
  refine callType_codes (Q₁ := fun obj s₁ => s₁.TypeIs obj "tuple" ∧ Q obj s₁) F.called_tuple (F.typeCall_tuple_1 _) F.entry_object_init (new_tuple_kdl (Ar := Ar.in1) Kd hh hok hn fun h2 tk got hk hg => ⟨⟨_, Heap.get?_push_size _ rfl, rfl⟩, hQ h2 tk got hk hg⟩) fun obj s₁ h₁ => ?_
  exact ⟨h₁.1, F.args_object_init_2 obj _, object_init_meets F.called_tuple.init.lookup F.called_tuple.made (by decide) pg wd Ar.in1 _ s₁ ⟨h₁.1, rfl, h₁.2⟩⟩
end
/-- tuple(d): its keys -/
def rTupDi : List V → Hp → VK → Prop := fun xs H Q => ∃ a, xs = [.ref a] ∧ ((∃ kvs, H a = some (.dK kvs) ∧ ∀ q, H q = none → Q (.ref q) (upd H q (.tup (kvs.map fun kv => kV kv.1)))) ∨
  ∃ kvs, H a = some (.dT kvs) ∧ ∀ q bs, H q = none → IsKeys H kvs bs → Q (.ref q) (upd H q (.tup (bs.map V.ref))))
theorem call_tuple_di {X : Cx} (hc : X.calm = true) : CallR X (.type "tuple") rTupDi := by
  intro pins s σ H xs us Q I r h; obtain ⟨a, rfl, h⟩ := h
  obtain ⟨u, eu, rx⟩ := vals1 r
  subst eu
  obtain rfl : u = Value.ref a := rx
  rcases h with ⟨kvs, hk, q⟩ | ⟨kvs, hk, q⟩
  · obtain ⟨z, lo, vs, rk, hd⟩ := (show ObjOk X.prog X.w H s.heap a (.dK kvs) from I.hok a _ hk)
    obtain ⟨ep, hat⟩ := hd.dictAt; have hl : kvs.length = vs.length := Paired.length rk
    refine call_tuple_kdl (PySem.W.kdl_dict (knd := mixKind X.prog X.w) (kvs := vs) (ep := ep) lo) (I.ok.hd hc) hat (by rw [← hl]; exact z) fun h2 tk got kp hg => ?_
    have I1 : Inv X pins σ H { s with heap := h2, toks := tk } := I.kept kp
    have gv : Vals (kvs.map fun kv => kV kv.1) got.toList := by
      have el : got.toList.length = got.size := by simp
      refine vals_of_at (by rw [List.length_map, el, hg.1, hl]) fun j x w h1 h2 => ?_
      obtain ⟨k, y, hky, hi⟩ := hg.2 j w (by rw [← Array.getElem?_toList]; exact h2)
      have e1 : (kvs.map (·.1))[j]? = some k := by rw [KV.keys rk, List.getElem?_map, hky] <;> rfl
      have e3 : ((kvs.map fun kv => kV kv.1) = (kvs.map (·.1)).map kV) := by rw [List.map_map] <;> rfl
      rw [e3, List.getElem?_map, e1] at h1
      cases h1
      exact keyIs_rel hi
    refine ⟨.ref h2.objs.size, upd H h2.objs.size (.tup (kvs.map fun kv => kV kv.1)), I1.laid (t' := tk) (fun b o e => Heap.get?_push_of_some _ e) (Nat.le_refl _) (show ObjOk X.prog X.w _ _ _ (.tup (kvs.map fun kv => kV kv.1)) from ⟨?_, got.toList, gv, ?_⟩), rfl, q _ (I1.hok.fresh (Nat.le_refl _))⟩
    · (rw [List.length_map]; exact z)
    · (rw [Array.toArray_toList]; exact IsTup.new _ _)
  · obtain ⟨z, lo, ks, pr, o, es, ep, ho, hx, hdt, he, hn⟩ := (show ObjOk X.prog X.w H s.heap a (.dT kvs) from I.hok a _ hk); have l1 : es.size = ks.length := size_of_entries he; have l2 : kvs.length = ks.length := Paired.length pr
    refine call_tuple_kdl (kdl_raw lo hx hdt) (I.ok.hd hc) ho (by omega) fun h2 tk got kp hg => ?_
    have I1 : Inv X pins σ H { s with heap := h2, toks := tk } := I.kept kp
    have ea : got.toList = (ks.map fun x => x.2.1).map Value.ref := by
      rw [List.map_map]
      refine List.ext_getElem? fun j => ?_; rw [List.getElem?_map]
      cases hj : got.toList[j]? with
      | none =>
        have h1 := (List.getElem?_eq_none_iff.mp hj)
        rw [Array.length_toList, hg.1] at h1
        rw [List.getElem?_eq_none (by omega)]; rfl
      | some v =>
        obtain ⟨en, hen, hv⟩ := hg.2 j v (by rw [← Array.getElem?_toList]; exact hj)
        have qe := entry_at he j
        rw [hen] at qe
        cases hb : ks[j]? with
        | none => rw [hb] at qe; cases qe
        | some b =>
          rw [hb] at qe
          rw [hv, Option.some.inj qe]; rfl
    refine ⟨.ref h2.objs.size, upd H h2.objs.size (.tup ((ks.map fun x => x.2.1).map V.ref)), I1.laid (t' := tk) (fun b o e => Heap.get?_push_of_some _ e) (Nat.le_refl _) (show ObjOk X.prog X.w _ _ _ (.tup ((ks.map fun x => x.2.1).map V.ref)) from ⟨?_, got.toList, (by rw [ea]; exact vals_refs _), ?_⟩), rfl, q _ _ (I1.hok.fresh (Nat.le_refl _)) (isKeys_of pr)⟩
    · rw [List.length_map, List.length_map, ← l2]; exact z
    · (rw [Array.toArray_toList]; exact IsTup.new _ _)
/-! ### dicts by data -/
theorem keyD_inj {a b : Key} (e : keyD a = keyD b) : a = b := by
  cases a <;> cases b <;> unfold keyD at e <;> cases e <;> rfl
theorem keysD_inj : ∀ {a b : List Key}, a.map keyD = b.map keyD → a = b
  | [], [], _ => rfl
  | [], _ :: _, e => by cases e
  | _ :: _, [], e => by cases e
  | x :: a, y :: b, e => by
    rw [List.map_cons, List.map_cons] at e; injection e with e1 e2
    rw [keyD_inj e1, keysD_inj e2]
def dkD (m : List (Key × PyData)) : PyData := .dict (m.map fun p => (keyD p.1, p.2))
def dtD (m : List (List Key × PyData)) : PyData := .dict ((.bool true, .none) :: m.map fun p => (.tuple (p.1.map keyD), p.2))
section
variable {κ : Type} [_ek : DecidableEq κ]
def lkM (m : List (κ × PyData)) (k : κ) : Option PyData := (m.find? fun p => decide (p.1 = k)).map (·.2)
def putM (m : List (κ × PyData)) (k : κ) (d : PyData) : List (κ × PyData) := if (m.any fun p => decide (p.1 = k)) = true then m.map (fun p => if p.1 = k then (p.1, d) else p) else m ++ [(k, d)]
/-- two tables of the same keys -/
inductive DaM (K : PySem.W.Frag) (S : Ad) (H : Hp) : List (κ × V) → List (κ × PyData) → Prop
  | nil : DaM K S H [] []
  | cons {k : κ} {x : V} {d : PyData} {kvs : List (κ × V)} {m : List (κ × PyData)} : Da K S H x d → DaM K S H kvs m → DaM K S H ((k, x) :: kvs) ((k, d) :: m)
variable {K : PySem.W.Frag} {S T : Ad} {H H' : Hp} {kvs : List (κ × V)} {m : List (κ × PyData)}
theorem DaM.of {f : κ → PyData} (inj : ∀ {a b}, f a = f b → a = b) : ∀ {kvs : List (κ × V)} {m : List (κ × PyData)}, DaF K S H (kvs.map fun p => (f p.1, p.2)) (m.map fun p => (f p.1, p.2)) → DaM K S H kvs m
  | [], [], _ => .nil
  | [], _ :: _, h => by cases h
  | _ :: _, [], h => by cases h
  | (k, x) :: kvs, (k', d) :: m, h => by
    rw [List.map_cons, List.map_cons] at h; generalize e : f k' = fk at h
    cases h with
    | cons h r =>
      cases inj e
      exact .cons h (DaM.of inj r)
theorem DaM.to {f : κ → PyData} (h : DaM K S H kvs m) : DaF K S H (kvs.map fun p => (f p.1, p.2)) (m.map fun p => (f p.1, p.2)) := by
  induction h with
  | nil => exact .nil
  | cons h _ ih => exact .cons h ih
theorem DaM.len (h : DaM K S H kvs m) : kvs.length = m.length := by
  induction h with
  | nil => rfl
  | cons _ _ ih => exact congrArg Nat.succ ih
theorem DaM.keep (f : Frm S H H') (h : DaM K S H kvs m) : DaM K S H' kvs m := by
  induction h with
  | nil => exact .nil
  | cons h _ ih => exact .cons (h.keep f) ih
theorem DaM.keys (h : DaM K S H kvs m) : kvs.map (·.1) = m.map (·.1) := by
  induction h with
  | nil => rfl
  | cons _ _ ih => rw [List.map_cons, List.map_cons, ih]
theorem DaM.val (k : κ) (h : DaM K S H kvs m) : (lkM m k = none ∧ valV kvs k = none) ∨ ∃ d x, lkM m k = some d ∧ valV kvs k = some x ∧ Da K S H x d := by
  induction h with
  | nil => (exact .inl ⟨rfl, rfl⟩)
  | @cons k' x d kvs m h _ ih =>
    by_cases e : k' = k
    · exact .inr ⟨d, x, by simp [lkM, List.find?_cons, e], valV_pos e, h⟩
    · rw [show lkM ((k', d) :: m) k = lkM m k by simp [lkM, List.find?_cons, e], valV_neg e]
      exact ih
theorem DaM.some (k : κ) (h : DaM K S H kvs m) : (valV kvs k).isSome = (lkM m k).isSome := by
  rcases h.val k with ⟨h1, h2⟩ | ⟨d, x, h1, h2, _⟩ <;> rw [h1, h2] <;> rfl
theorem DaM.put {y : V} {d : PyData} (k : κ) (h : DaM K S H kvs m) (dy : Da K S H y d) : DaM K S H (putK kvs k y) (putM m k d) := by
  have ea : (kvs.any fun p => decide (p.1 = k)) = (m.any fun p => decide (p.1 = k)) := by
    induction h with
    | nil => rfl
    | cons _ _ ih => rw [List.any_cons, List.any_cons, ih]
  unfold putK putM
  rw [ea]
  split
  · rename_i hq
    clear ea hq
    induction h with
    | nil => exact .nil
    | @cons k' x d kvs m h _ ih =>
      rw [List.map_cons, List.map_cons]; by_cases e : k' = k
      · rw [if_pos e, if_pos e]; exact .cons dy ih
      · rw [if_neg e, if_neg e]; exact .cons h ih
  · rename_i hq
    clear ea hq
    induction h with
    | nil => exact .cons dy .nil
    | cons h _ ih => exact .cons h ih
theorem putM_new {k : κ} {d : PyData} (h : lkM m k = none) : putM m k d = m ++ [(k, d)] := by
  unfold putM
  rw [if_neg]
  rw [Bool.not_eq_true, List.any_eq_false]
  intro p hp z
  unfold lkM at h
  rw [Option.map_eq_none_iff, List.find?_eq_none] at h
  exact h p hp z
theorem lk_all {k : κ} {d : PyData} : ∀ {m : List (κ × PyData)}, (∀ e, lkM m k = some e → e = d) → (m.map (·.1)).Nodup → ∀ p ∈ m, p.1 = k → p.2 = d
  | [], _, _, p, hp, _ => by cases hp
  | q :: r, h, nd, p, hp, e => by
    rw [List.map_cons, List.nodup_cons] at nd
    by_cases eq : q.1 = k
    · have hq : q.2 = d := h q.2 (by simp [lkM, List.find?_cons, eq]); rcases List.mem_cons.mp hp with rfl | hp
      · exact hq
      · exact absurd (List.mem_map.mpr ⟨p, hp, e.trans eq.symm⟩) nd.1
    · rcases (List.mem_cons.mp hp) with rfl | hp
      · exact absurd e eq
      · exact lk_all (m := r) (fun e he => h e (by simpa [lkM, List.find?_cons, eq] using he)) nd.2 p hp e
theorem putM_old {k : κ} {d : PyData} (h : ∀ e, lkM m k = some e → e = d) (hn : (lkM m k).isSome = true) (nd : (m.map (·.1)).Nodup) : putM m k d = m := by
  have ha : (m.any fun p => decide (p.1 = k)) = true := by
    unfold lkM at hn
    rw [Option.isSome_map] at hn
    obtain ⟨p, hp⟩ := Option.isSome_iff_exists.mp hn
    exact List.any_eq_true.mpr ⟨p, List.mem_of_find?_eq_some hp, by simpa using List.find?_some hp⟩
  unfold putM
  rw [if_pos ha]
  have : m.map (fun p => if p.1 = k then (p.1, d) else p) = m.map id := List.map_congr_left fun p hp => by
    by_cases e : p.1 = k
    · rw [if_pos e, ← lk_all h nd p hp e]; rfl
    · rw [if_neg e]; rfl
  rw [this, List.map_id]
end
section
variable {K : PySem.W.Frag} {S T : Ad} {H H' : Hp} {a : Addr}
theorem Ho.dk_inv {m : List (Key × PyData)} (h : Ho K S H a (dkD m)) : ∃ kvs, H a = some (.dK kvs) ∧ DaM K S H kvs m := by
  unfold dkD at h
  generalize e : m.map (fun p : Key × PyData => (keyD p.1, p.2)) = gs at h
  cases h with
  | ins q r =>
    cases m with
    | nil => cases e
    | cons p m =>
      rw [List.map_cons] at e
      injection e with e1 _
      injection e1 with e1 _
      cases p with | mk p1 p2 => cases p1 <;> cases e1
  | dic q r =>
    subst e
    exact ⟨_, q, DaM.of (fun e => keyD_inj e) r⟩
  | dit q r =>
    cases m with
    | nil => cases e
    | cons p m =>
      rw [List.map_cons] at e
      injection e with e1 _
      injection e1 with e1 _
      cases p with | mk p1 p2 => cases p1 <;> cases e1
theorem Ho.dt_inv {m : List (List Key × PyData)} (h : Ho K S H a (dtD m)) : ∃ kvs, H a = some (.dT kvs) ∧ DaM K S H kvs m := by
  unfold dtD at h
  generalize e : (PyData.bool true, PyData.none) :: m.map (fun p : List Key × PyData => (PyData.tuple (p.1.map keyD), p.2)) = gs at h
  cases h with
  | ins q r =>
    injection e with e1 _
    cases e1
  | dic q r =>
    subst e
    rename_i kvs
    cases kvs with
    | nil => cases r
    | cons p m =>
      exfalso
      rw [List.map_cons] at r
      generalize e2 : keyD p.1 = z at r
      cases r
      cases p with | mk p1 p2 => cases p1 <;> cases e2
  | dit q r =>
    injection e with _ e2
    subst e2
    exact ⟨_, q, DaM.of (f := fun k => PyData.tuple (k.map keyD)) (fun e => keysD_inj (by injection e)) r⟩
theorem Ho.dk {kvs : List (Key × V)} {m : List (Key × PyData)} (e : H a = some (.dK kvs)) (h : DaM K S H kvs m) : Ho K S H a (dkD m) := .dic e h.to
theorem Ho.dt {kvs : List (List Key × V)} {m : List (List Key × PyData)} (e : H a = some (.dT kvs)) (h : DaM K S H kvs m) : Ho K S H a (dtD m) := .dit e (h.to (f := fun k => PyData.tuple (k.map keyD)))
theorem Da.dk_inv {x : V} {m : List (Key × PyData)} (h : Da K S H x (dkD m)) : ∃ a kvs, x = .ref a ∧ ¬ S a ∧ H a = some (.dK kvs) ∧ DaM K S H kvs m := by
  unfold dkD at h
  cases h with
  | ref h n =>
    obtain ⟨kvs, e, z⟩ := Ho.dk_inv h
    exact ⟨_, kvs, rfl, n, e, z⟩
theorem Da.dt_inv {x : V} {m : List (List Key × PyData)} (h : Da K S H x (dtD m)) : ∃ a kvs, x = .ref a ∧ ¬ S a ∧ H a = some (.dT kvs) ∧ DaM K S H kvs m := by
  unfold dtD at h
  cases h with
  | ref h n =>
    obtain ⟨kvs, e, z⟩ := Ho.dt_inv h
    exact ⟨_, kvs, rfl, n, e, z⟩
theorem Da.key_inv {x : V} {k : Key} (h : Da K S H x (keyD k)) : x = kV k := by
  cases k with
  | inl i => exact h.int_inv
  | inr z => exact h.str_inv
theorem DaL.keys_inv : ∀ {ks : List Key} {xs : List V}, DaL K S H xs (ks.map keyD) → xs = ks.map kV
  | [], _, h => by cases h; rfl
  | k :: ks, _, h => by
    rw [List.map_cons] at h
    cases h with | cons h r => rw [h.key_inv, DaL.keys_inv r]; rfl
theorem Da.keyT_inv {x : V} {k : List Key} (h : Da K S H x (.tuple (k.map keyD))) : ∃ b, x = .ref b ∧ H b = some (.tup (k.map kV)) := by
  obtain ⟨b, xs, rfl, e, _, dl⟩ := h.tup_inv
  rw [dl.keys_inv] at e
  exact ⟨b, rfl, e⟩
theorem Da.keyT {b : Addr} {k : List Key} (old : Old S H) (e : H b = some (.tup (k.map kV))) : Da K S H (.ref b) (.tuple (k.map keyD)) := by
  refine .ref (.tup e ?_) (old.tup e)
  clear e
  induction k with
  | nil => exact .nil
  | cons k r ih =>
    refine .cons ?_ ih
    cases k with
    | inl i => exact .int i
    | inr z => exact .str z
theorem dk_empty_ne {m : List (Key × PyData)} : NT (dkD m) := nt_d
end
section
variable {γ : Type} {B : Bd γ} {te ti ta tb ty td : TE} {tl : TA} {g : γ} {ρ : List En} {k : KD γ} {kt : Kz γ} {i : Nat} {d : PyData} {n : γ → List En → Prop} {K : PySem.W.Frag}
theorem Wn_dk (h : k (dkD []) g) : Wn B tDNewK g ρ k := fun S H0 σ H Q s x q p hp => by
  have sm := same_new (o := .dK []) (Same.refl H) hp
  exact q p _ _ g hp (Frm.of sm) (B.C.same (fun b m => .inl (s.subs b m)) (add_old hp s.I) sm) (.dk upd_same .nil) nt_d h
theorem Wn_dt (h : k (dtD []) g) : Wn B tDNewT g ρ k := fun S H0 σ H Q s x q p hp => by
  have sm := same_new (o := .dT []) (Same.refl H) hp
  exact q p _ _ g hp (Frm.of sm) (B.C.same (fun b m => .inl (s.subs b m)) (add_old hp s.I) sm) (.dt upd_same .nil) nt_d h
/-- x[e] = .., x a dict of ours -/
theorem Wg_dk {m : List (Key × PyData)} (e : ρ[i]? = some (En.own (dkD m))) (h : We B ti g ρ fun u g1 => ∃ kk, u = keyD kk ∧ m.length ≤ 60000 ∧ n g1 (ρ.set i (En.own (dkD (putM m kk d))))) : Wg B (gSub (tVar i) ti rSetD) d g ρ n := fun S H0 σ H y N s x dy L => by
  obtain ⟨o, e1, ho⟩ := s.own i _ e
  refine ⟨_, e1, h S H0 σ H _ s x fun z H1 u g1 f I dz ⟨kk, eu, hl, h1⟩ => ?_⟩
  subst eu
  have s1 := s.step f I
  obtain ⟨o', e1', ho'⟩ := s1.own i _ e
  rw [e1] at e1'
  cases e1'
  obtain ⟨kvs, e3, dm⟩ := ho'.dk_inv
  have to : SS S σ ρ o := .inr ⟨i, _, e, e1⟩
  have fu : Frm (SS S σ ρ) H1 (upd H1 o (.dK (putK kvs kk y))) := (Frm.refl _ H1).put to
  rw [dz.key_inv]
  unfold rSetD
  refine ⟨o, _, rfl, DPut.k e3 (smallB (by rw [dm.len]; exact hl)), ?_⟩
  exact L σ _ _ g1 (s1.put_own e e1 (.dk upd_same ((dm.keep fu).put kk ((dy.keep (f.wide s.subs)).keep fu))) nt_d) ((s.stp f I).trans (Stp.own_put e e1)) h1
theorem Wg_dt {m : List (List Key × PyData)} (e : ρ[i]? = some (En.own (dtD m))) (h : We B ti g ρ fun u g1 => ∃ kk : List Key, u = .tuple (kk.map keyD) ∧ m.length ≤ 60000 ∧ n g1 (ρ.set i (En.own (dtD (putM m kk d))))) : Wg B (gSub (tVar i) ti rSetD) d g ρ n := fun S H0 σ H y N s x dy L => by
  obtain ⟨o, e1, ho⟩ := s.own i _ e
  refine ⟨_, e1, h S H0 σ H _ s x fun z H1 u g1 f I dz ⟨kk, eu, hl, h1⟩ => ?_⟩
  subst eu
  have s1 := s.step f I
  obtain ⟨o', e1', ho'⟩ := s1.own i _ e
  rw [e1] at e1'
  cases e1'
  obtain ⟨kvs, e3, dm⟩ := ho'.dt_inv
  have to : SS S σ ρ o := .inr ⟨i, _, e, e1⟩
  have fu : Frm (SS S σ ρ) H1 (upd H1 o (.dT (putK kvs kk y))) := (Frm.refl _ H1).put to
  obtain ⟨b, rfl, eb⟩ := dz.keyT_inv
  unfold rSetD
  refine ⟨o, _, rfl, DPut.t e3 eb (smallB (by rw [dm.len]; exact hl)), ?_⟩
  exact L σ _ _ g1 (s1.put_own e e1 (.dt upd_same ((dm.keep fu).put kk ((dy.keep (f.wide s.subs)).keep fu))) nt_d) ((s.stp f I).trans (Stp.own_put e e1)) h1
/-- e in d, d[e] -/
theorem We_din (h : We B ty g ρ fun u g1 => We B td g1 ρ fun d g2 => ∃ (m : List (Key × PyData)) (kk : Key), d = dkD m ∧ u = keyD kk ∧ k (.bool (lkM m kk).isSome) g2) : We B (tDIn ty td) g ρ k := fun S H0 σ H Q s x q =>
  h S H0 σ H _ s x fun y1 H1 u g1 f1 I1 d1 h1 => h1 S H0 σ H1 _ (s.step f1 I1) x fun y2 H2 d g2 f2 I2 d2 ⟨m, kk, ed, eu, hk⟩ => by
    subst ed eu
    obtain ⟨a, kvs, rfl, _, e, dm⟩ := d2.dk_inv
    rw [d1.key_inv]
    exact ⟨a, _, rfl, DGet.k e, by rw [dm.some]; exact q _ H2 _ g2 (f1.trans f2) I2 (.bl _) hk⟩
theorem We_dinT (h : We B ty g ρ fun u g1 => We B td g1 ρ fun d g2 => ∃ (m : List (List Key × PyData)) (kk : List Key), d = dtD m ∧ u = .tuple (kk.map keyD) ∧ k (.bool (lkM m kk).isSome) g2) : We B (tDIn ty td) g ρ k := fun S H0 σ H Q s x q =>
  h S H0 σ H _ s x fun y1 H1 u g1 f1 I1 d1 h1 => h1 S H0 σ H1 _ (s.step f1 I1) x fun y2 H2 d g2 f2 I2 d2 ⟨m, kk, ed, eu, hk⟩ => by
    subst ed eu
    obtain ⟨a, kvs, rfl, _, e, dm⟩ := d2.dt_inv
    obtain ⟨b, rfl, eb⟩ := (d1.keep (f2.wide s.subs)).keyT_inv
    exact ⟨a, _, rfl, DGet.t e eb, by rw [dm.some]; exact q _ H2 _ g2 (f1.trans f2) I2 (.bl _) hk⟩
theorem We_dnot (h : We B ty g ρ fun u g1 => We B td g1 ρ fun d g2 => ∃ (m : List (Key × PyData)) (kk : Key), d = dkD m ∧ u = keyD kk ∧ k (.bool (!(lkM m kk).isSome)) g2) : We B (tDNotIn ty td) g ρ k := fun S H0 σ H Q s x q =>
  h S H0 σ H _ s x fun y1 H1 u g1 f1 I1 d1 h1 => h1 S H0 σ H1 _ (s.step f1 I1) x fun y2 H2 d g2 f2 I2 d2 ⟨m, kk, ed, eu, hk⟩ => by
    subst ed eu
    obtain ⟨a, kvs, rfl, _, e, dm⟩ := d2.dk_inv
    rw [d1.key_inv]
    exact ⟨a, _, rfl, DGet.k e, by rw [dm.some]; exact q _ H2 _ g2 (f1.trans f2) I2 (.bl _) hk⟩
theorem We_dget (h : We B td g ρ fun d g1 => We B ty g1 ρ fun u g2 => ∃ (m : List (Key × PyData)) (kk : Key) (v : PyData), d = dkD m ∧ u = keyD kk ∧ lkM m kk = some v ∧ k v g2) : We B (tDGet td ty) g ρ k := fun S H0 σ H Q s x q =>
  h S H0 σ H _ s x fun y1 H1 d g1 f1 I1 d1 h1 => h1 S H0 σ H1 _ (s.step f1 I1) x fun y2 H2 u g2 f2 I2 d2 ⟨m, kk, v, ed, eu, hv, hk⟩ => by
    subst ed eu
    obtain ⟨a, kvs, rfl, _, e, dm⟩ := (d1.keep (f2.wide s.subs)).dk_inv
    rw [d2.key_inv]
    rcases dm.val kk with ⟨z, _⟩ | ⟨v', x', e1, e2, dx⟩
    · rw [hv] at z; cases z
    · rw [hv] at e1
      cases e1
      exact ⟨a, x', rfl, by rw [← e2]; exact DGet.k e, q _ H2 _ g2 (f1.trans f2) I2 dx hk⟩
theorem rf_tupDi : RdF K rTupDi fun ds k => (∃ m : List (Key × PyData), ds = [dkD m] ∧ k (.tuple (m.map fun p => keyD p.1))) ∨ ∃ m : List (List Key × PyData), ds = [dtD m] ∧ k (.tuple (m.map fun p => .tuple (p.1.map keyD))) := fun T H xs ds k Q old dl h q => by
  rcases h with ⟨m, rfl, hk⟩ | ⟨m, rfl, hk⟩
  · cases dl with
    | cons dx r =>
      cases r
      obtain ⟨a, kvs, rfl, _, e, dm⟩ := dx.dk_inv
      refine ⟨a, rfl, .inl ⟨kvs, e, fun p hp => q _ _ _ (same_new (Same.refl H) hp) (Da.new_tup old hp ?_) hk⟩⟩
      clear q hk e dx
      induction dm with
      | nil => exact .nil
      | @cons kk x d kvs m _ _ ih =>
        refine .cons ?_ ih
        cases kk with
        | inl i => exact .int i
        | inr z => exact .str z
  · cases dl with
    | cons dx r =>
      cases r
      obtain ⟨a, kvs, rfl, _, e, dm⟩ := dx.dt_inv
      refine ⟨a, rfl, .inr ⟨kvs, e, fun p bs hp hb => q _ _ _ (same_new (Same.refl H) hp) (Da.new_tup old hp ?_) hk⟩⟩
      clear q hk e dx
      unfold IsKeys at hb
      induction dm generalizing bs with
      | nil => cases hb; exact .nil
      | @cons kk x d kvs m _ _ ih =>
        cases hb with
        | cons h r => exact .cons (Da.keyT old h) (ih _ r)
end
def soD (v : Int) (t : Ts) : PyData := .tuple [.str "so", .int v, t.d]
def noD (v : Int) (t : Ts) : PyData := .tuple [.str "not", .int v, t.d]
def stD : PyData := .tuple [.str "stay"]
def wyD (a : PyData) (p : Nat) : PyData := .tuple [a, .int (p : Nat)]
def hdA (b : List Rw) (q l : Nat) : Nat := if b.isEmpty then l else q
mutual
/-- the ways at each place of a row at p, what stands behind it at f -/
def Rw.ar : Rw → Nat → Nat → List (List PyData)
  | .ite v t b c, p, f => [wyD (soD v t) (hdA b (p + 1) f), wyD (noD v t) (hdA c (p + 1 + Rw.szl b) f)] :: (Rw.arl b (p + 1) f ++ Rw.arl c (p + 1 + Rw.szl b) f)
  | .eith b c, p, f => [wyD stD (hdA b (p + 1) f), wyD stD (hdA c (p + 1 + Rw.szl b) f)] :: (Rw.arl b (p + 1) f ++ Rw.arl c (p + 1 + Rw.szl b) f)
  | .whil v t b, p, f => [wyD (soD v t) (hdA b (p + 1) p), wyD (noD v t) f] :: Rw.arl b (p + 1) p
  | .need v t, _, f => [[wyD (soD v t) f]]
  | .stop, _, _ => [[]]
  | .deed v l, _, f => [[wyD (Rw.d false (.deed v l)) f]]
  | .copy v u, _, f => [[wyD (Rw.d false (.copy v u)) f]]
  | .call g as v, _, f => [[wyD (Rw.d false (.call g as v)) f]]
def Rw.arl : List Rw → Nat → Nat → List (List PyData)
  | [], _, _ => []
  | r :: rs, p, f => r.ar p (if rs.isEmpty then f else p + r.sz) ++ Rw.arl rs (p + r.sz) f
end
def arAt (r : Rw) (hs : List Nat) (f : Nat) : List PyData := match r with
  | .stop => []
  | .need v t => [wyD (soD v t) f]
  | .ite v t _ _ => [wyD (soD v t) (hs.getD 0 0), wyD (noD v t) (hs.getD 1 0)]
  | .eith _ _ => [wyD stD (hs.getD 0 0), wyD stD (hs.getD 1 0)]
  | .whil v t _ => [wyD (soD v t) (hs.getD 0 0), wyD (noD v t) f]
  | .deed v l => [wyD (Rw.d false (.deed v l)) f]
  | .copy v u => [wyD (Rw.d false (.copy v u)) f]
  | .call g as v => [wyD (Rw.d false (.call g as v)) f]
def hdsA : List (List Rw) → Nat → Nat → List Nat
  | [], _, _ => []
  | b :: bs, q, l => hdA b q l :: hdsA bs (q + Rw.szl b) l
def arbA : List (List Rw) → Nat → Nat → List (List PyData)
  | [], _, _ => []
  | b :: bs, q, l => Rw.arl b q l ++ arbA bs (q + Rw.szl b) l
def leadA (r : Rw) (p f : Nat) : Nat := if r.wd = "while" then p else f
theorem ar_eq (r : Rw) (p f : Nat) : r.ar p f = arAt r (hdsA r.bl (p + 1) (leadA r p f)) f :: arbA r.bl (p + 1) (leadA r p f) := by
  cases r with
  | ite v t b c => rw [show leadA (.ite v t b c) p f = f from if_neg (show ¬ (("if" : Str) = "while") by decide +kernel)]; simp [Rw.ar, arAt, Rw.bl, hdsA, arbA]
  | eith b c => rw [show leadA (.eith b c) p f = f from if_neg (show ¬ (("either" : Str) = "while") by decide +kernel)]; simp [Rw.ar, arAt, Rw.bl, hdsA, arbA]
  | whil v t b => rw [show leadA (.whil v t b) p f = p from if_pos rfl]; simp [Rw.ar, arAt, Rw.bl, hdsA, arbA]
  | _ => simp [Rw.ar, arAt, Rw.bl, hdsA, arbA]
theorem hdsA_len : ∀ (bs : List (List Rw)) (q l : Nat), (hdsA bs q l).length = bs.length
  | [], _, _ => rfl
  | _ :: bs, q, l => congrArg Nat.succ (hdsA_len bs _ l)
mutual
theorem arw_len : ∀ (r : Rw) (p f : Nat), (r.ar p f).length = r.sz
  | .ite v t b c, p, f => by simp only [Rw.ar, Rw.sz, List.length_cons, List.length_append, arwl_len b, arwl_len c]; omega
  | .eith b c, p, f => by simp only [Rw.ar, Rw.sz, List.length_cons, List.length_append, arwl_len b, arwl_len c]; omega
  | .whil v t b, p, f => by simp only [Rw.ar, Rw.sz, List.length_cons, arwl_len b]; omega
  | .need v t, _, f => rfl
  | .stop, _, _ => rfl
  | .deed v l, _, f => rfl
  | .copy v u, _, f => rfl
  | .call g as v, _, f => rfl
theorem arwl_len : ∀ (rs : List Rw) (p f : Nat), (Rw.arl rs p f).length = Rw.szl rs
  | [], _, _ => rfl
  | r :: rs, p, f => by rw [Rw.arl, List.length_append, arw_len r, arwl_len rs, Rw.szl]
end
theorem drop_get {α : Type} {l : List α} {i : Nat} {x : α} (h : l[i]? = some x) : l.drop i = x :: l.drop (i + 1) := by
  obtain ⟨hi, e⟩ := List.getElem?_eq_some_iff.mp h; rw [← e, List.getElem_cons_drop]
theorem drop_all {α : Type} (l : List α) : l.drop l.length = [] := List.drop_length
theorem sz_pos (r : Rw) : 0 < r.sz := by rw [sz_bl]; omega
section
variable {P : Program} {w : World} {K : PySem.W.Frag} {mg : Str → Option Value} {base : Heap}
def RAt : List En → Unit → KD Unit → KX Unit → Prop := fun es _ k _ => ∃ (r : Rw) (hs : List Nat) (f : Nat), es = [En.da (Rw.d false r), En.da (.list (hs.map fun i => .int (i : Nat))), En.da (.int (f : Nat))] ∧ hs.length = r.bl.length ∧ k (.tuple (arAt r hs f)) ()
abbrev s__arrows_at : Stmt := top 46
abbrev N__arrows_at : List Str := ["row", "heads", "following", "word"]
abbrev P__arrows_at : List Str := ["row", "heads", "following"]
theorem sc__arrows_at : FnScope N__arrows_at P__arrows_at (defScope s__arrows_at) := ⟨rfl, rfl, rfl, by decide +kernel, rfl, by decide +kernel, by decide +kernel⟩
-- slots: 0 row, 1 heads, 2 following, 3 word
theorem kp__arrows_at (F : At K mg "_arrows_at" s__arrows_at) : Keeps CX0 P w K mg base "_arrows_at" 1 ["row", "heads", "following"] (spX K Co.pure RAt) := by
  refine keeps_x F sc__arrows_at (fun _ _ _ _ _ _ us hl => match us, hl with | [_, _, _], _ => rfl) (fun es g k x h => ?_) (fun f cdv A outer s H E es g k x hr h => ?_)
  · obtain ⟨r, hs, f, rfl, _⟩ := h; rfl
  · obtain ⟨r, hs, f, rfl, hl, hk⟩ := h
    refine ⟨_, (pss_cons (ps_set (i := 3) sc__arrows_at.nd rfl (by walk_at "lv") (pe_ix ix_any (pv 0) pe_int (fun _ _ => rfl)))
        (pss_cons (ps_if (pt_cmpR (op_eqD hr.units) (pv 3) pe_str (nomark _)) (pss_one (ps_ret (pe_tup pa_nil))) pss_nil)
        (pss_cons (ps_if (pt_cmpR (op_eqD hr.units) (pv 3) pe_str (nomark _)) (pss_one (ps_ret (pe_tup (pa_cons (pe_tup (pa_cons (pe_tup (pa_cons pe_str (pa_cons (pe_ix ix_any (pv 0) pe_int (fun _ _ => rfl)) (pa_cons (pe_ix ix_any (pv 0) pe_int (fun _ _ => rfl)) pa_nil)))) (pa_cons (pv 2) pa_nil))) pa_nil)))) pss_nil)
        (pss_cons (ps_if (pt_cmpR (op_eqD hr.units) (pv 3) pe_str (nomark _)) (pss_one (ps_ret (pe_tup (pa_cons (pe_tup (pa_cons (pe_tup (pa_cons pe_str (pa_cons (pe_ix ix_any (pv 0) pe_int (fun _ _ => rfl)) (pa_cons (pe_ix ix_any (pv 0) pe_int (fun _ _ => rfl)) pa_nil)))) (pa_cons (pe_ix ix_any (pv 1) pe_int (fun _ _ => rfl)) pa_nil))) (pa_cons (pe_tup (pa_cons (pe_tup (pa_cons pe_str (pa_cons (pe_ix ix_any (pv 0) pe_int (fun _ _ => rfl)) (pa_cons (pe_ix ix_any (pv 0) pe_int (fun _ _ => rfl)) pa_nil)))) (pa_cons (pe_ix ix_any (pv 1) pe_int (fun _ _ => rfl)) pa_nil))) pa_nil))))) pss_nil)
        (pss_cons (ps_if (pt_cmpR (op_eqD hr.units) (pv 3) pe_str (nomark _)) (pss_one (ps_ret (pe_tup (pa_cons (pe_tup (pa_cons (pe_tup (pa_cons pe_str pa_nil)) (pa_cons (pe_ix ix_any (pv 1) pe_int (fun _ _ => rfl)) pa_nil))) (pa_cons (pe_tup (pa_cons (pe_tup (pa_cons pe_str pa_nil)) (pa_cons (pe_ix ix_any (pv 1) pe_int (fun _ _ => rfl)) pa_nil))) pa_nil))))) pss_nil)
        (pss_cons (ps_if (pt_cmpR (op_eqD hr.units) (pv 3) pe_str (nomark _)) (pss_one (ps_ret (pe_tup (pa_cons (pe_tup (pa_cons (pe_tup (pa_cons pe_str (pa_cons (pe_ix ix_any (pv 0) pe_int (fun _ _ => rfl)) (pa_cons (pe_ix ix_any (pv 0) pe_int (fun _ _ => rfl)) pa_nil)))) (pa_cons (pe_ix ix_any (pv 1) pe_int (fun _ _ => rfl)) pa_nil))) (pa_cons (pe_tup (pa_cons (pe_tup (pa_cons pe_str (pa_cons (pe_ix ix_any (pv 0) pe_int (fun _ _ => rfl)) (pa_cons (pe_ix ix_any (pv 0) pe_int (fun _ _ => rfl)) pa_nil)))) (pa_cons (pv 2) pa_nil))) pa_nil))))) pss_nil)
        (pss_one (ps_ret (pe_tup (pa_cons (pe_tup (pa_cons (pv 0) (pa_cons (pv 2) pa_nil))) pa_nil)))))))))), ?_⟩
    try dsimp only [cxOf, L2.Cx.wish]
    cases r with
    | ite v t b c =>
      match hs, hl with
      | [h0, h1], _ =>
        walk_at "we"
        exact hk
    | eith b c =>
      match hs, hl with
      | [h0, h1], _ =>
        walk_at "we"
        exact hk
    | whil v t b =>
      match hs, hl with
      | [h0], _ =>
        walk_at "we"
        exact hk
    | deed v l => walk_at "we"; exact hk
    | copy v l => walk_at "we"; exact hk
    | need v l => walk_at "we"; exact hk
    | call v l a => walk_at "we"; exact hk
    | stop => walk_at "we"; exact hk
end
section
variable {P : Program} {w : World} {K : PySem.W.Frag} {mg : Str → Option Value} {base : Heap}
abbrev PB := Unit × PyData
def RApR (n : Nat) (p : Addr) : List En → PB → KD PB → KX PB → Prop := fun es g k _ => ∃ (r : Rw) (f : Nat) (A : List PyData), es = [En.da (Rw.d false r), En.da (.int (f : Nat)), En.raw (.ref p)] ∧ g = ((), .list A) ∧ r.dep < n ∧ A.length + r.sz ≤ 60000 ∧ k .none ((), .list (A ++ (r.ar A.length f).map .tuple))
def RApA (n : Nat) (p : Addr) : List En → PB → KD PB → KX PB → Prop := fun es g k _ => ∃ (rs : List Rw) (f : Nat) (A : List PyData), es = [En.da (.tuple (Rw.dl false rs)), En.da (.int (f : Nat)), En.raw (.ref p)] ∧ g = ((), .list A) ∧ Rw.depl rs < n ∧ A.length + Rw.szl rs ≤ 60000 ∧ k .none ((), .list (A ++ (Rw.arl rs A.length f).map .tuple))
theorem isEmpty_dl {s : Bool} (b : List Rw) : (Rw.dl s b).isEmpty = b.isEmpty := by cases b <;> rfl
theorem dep_one (r : Rw) : Rw.depl [r] = r.dep := by simp [Rw.depl]
theorem sz_one (r : Rw) : Rw.szl [r] = r.sz := by simp [Rw.szl]
abbrev s__append_row : Stmt := top 45
abbrev N__append_row : List Str := ["row", "following", "arrows", "place", "blocks", "leads_on", "heads", "first", "block"]
abbrev P__append_row : List Str := ["row", "following", "arrows"]
theorem sc__append_row : FnScope N__append_row P__append_row (defScope s__append_row) := ⟨rfl, rfl, rfl, by decide +kernel, rfl, by decide +kernel, by decide +kernel⟩
-- slots: 0 row, 1 following, 2 arrows, 3 place, 4 blocks, 5 leads_on, 6 heads, 7 first, 8 block
theorem kp__append_row (n : Nat) (F : At K mg "_append_row" s__append_row) (N : Nb mg) (G_blocks_of : Keeps CX0 P w K mg base "blocks_of" 2 ["row"] (spX K Co.pure RBlk)) (G__arrows_at : Keeps CX0 P w K mg base "_arrows_at" 1 ["row", "heads", "following"] (spX K Co.pure RAt))
    (G_rows_count : ∀ n, Keeps CX0 P w K mg base "rows_count" (n + 2) ["rows"] (spX K Co.pure (RSz n))) (G__append_arrows : Keeps CX0 P w K mg base "_append_arrows" (2 * n + 3) ["rows", "behind", "arrows"] (spY K (CB K) (RApA n))) : Keeps CX0 P w K mg base "_append_row" (2 * n + 4) ["row", "following", "arrows"] (spY K (CB K) (RApR (n + 1))) := by
  refine keeps_y F sc__append_row (fun _ _ _ _ _ _ us hl => match us, hl with | [_, _, _], _ => rfl) (fun i es g k x h => ?_) (fun fa cdv A outer s H E i es g k x hr h => ?_)
  · obtain ⟨r, f, A, rfl, _⟩ := h; rfl
  · obtain ⟨r, f, A, rfl, rfl, hn, hl, hk⟩ := h
    have G_rows_count := G_rows_count (n + 1)
    refine ⟨_, (pss_cons (ps_set (i := 3) sc__append_row.nd rfl (by walk_at "lv") (pe_callB call_len (by rfl) N.len (by decide +kernel) (pa_cons (pv 2) pa_nil)))
        (pss_cons (ps_set (i := 4) sc__append_row.nd rfl (by walk_at "lv") (pe_k (G_blocks_of.up (by omega)) hr (by rfl) pass0 (pa_cons (pv 0) pa_nil)))
        (pss_cons (ps_set (i := 5) sc__append_row.nd rfl (by walk_at "lv") (pe_ifExp (pt_cmpR (op_eqD hr.units) (pe_ix ix_any (pv 0) pe_int (fun _ _ => rfl)) pe_str (nomark _)) (pv 3) (pv 1)))
        (pss_cons (ps_set (i := 6) sc__append_row.nd rfl (by walk_at "lv") (pe_lst pa_nil))
        (pss_cons (ps_set (i := 7) sc__append_row.nd rfl (by walk_at "lv") (pe_op op_add (pv 3) pe_int))
        (pss_cons (ps_for PassesOwn.never rfl (pi_seqE (pv 4)) (pg_name (i := 8) sc__append_row.nd rfl (by walk_at "lv")) (pss_cons (ps_expr (pe_bm PySem.F.plainAttrs_list PySem.F.slot_list_append PySem.F.type_list_append mt_append (pv 6) (pa_cons (pe_ifExp (pt_truth (pv 8) (by intro _; rfl)) (pv 7) (pv 5)) pa_nil)))
        (pss_one (ps_aug (i := 7) sc__append_row.nd rfl (by walk_at "lv") (pe_k (G_rows_count.up (by omega)) hr (by rfl) pass0 (pa_cons (pv 8) pa_nil)) ip_add))))
        (pss_cons (ps_expr (pe_bm PySem.F.plainAttrs_list PySem.F.slot_list_append PySem.F.type_list_append mt_append (pv 2) (pa_cons (pe_k (G__arrows_at.up (by omega)) hr (by rfl) pass0 (pa_cons (pv 0) (pa_cons (pv 6) (pa_cons (pv 1) pa_nil)))) pa_nil)))
        (pss_one (ps_for PassesOwn.never rfl (pi_seqE (pv 4)) (pg_name (i := 8) sc__append_row.nd rfl (by walk_at "lv")) (pss_one (ps_expr (pe_k (G__append_arrows.up (by omega)) hr (by rfl) pass0 (pa_cons (pv 8) (pa_cons (pv 5) (pa_cons (pv 2) pa_nil))))))))))))))), ?_⟩
    try dsimp only [cxOf, L2.Cx.wish]
    have hbl : (r.bl.map Rw.szl).sum + 1 = r.sz := by rw [sz_bl]; omega
    refine Ws_seq (Wx_set (We_lenB Bx.box rfl ⟨_, rfl, rfl, ?_⟩))
    refine Ws_seq (Wx_set (We_call0 Ln.pure (Wa_cons (We_var rfl (Wa_nil ⟨false, r, rfl, rfl, ?_⟩)))))
    refine Ws_seq (Wx_set (We.mono (k := fun d g' => d = .int (leadA r A.length f : Nat) ∧ g' = ((), .list A)) ?_ ?_))
    · obtain ⟨ds, e1, e2⟩ := rw_ix0 false r
      walk_at "we"
      refine ⟨ds, _, _, e1, rfl, e2, ?_⟩
      walk_at "we"
      have sw := shp_wd r
      walk_at "we"
      rw [eqv_wd]
      unfold leadA
      refine ⟨fun h => ?_, fun h => ?_⟩
      · rw [if_pos (of_decide_eq_true h)]
        walk_at "we"
        rfl
      · rw [if_neg (of_decide_eq_false h)]
        walk_at "we"
        rfl
    · rintro _ _ ⟨rfl, rfl⟩
      refine ⟨rfl, ?_⟩
      refine Ws_seq (Wx_new (Wn_lst ?_))
      walk_at "we"
      refine Ws_for (Wi_seq ?_)
      walk_at "we"
      refine ⟨fun j g ρ => ∃ (y : En) (hs : List Nat) (q : Nat), g = ((), .list A) ∧ ρ = [En.da (Rw.d false r), En.da (.int (f : Nat)), En.raw (.ref i), En.da (.int (A.length : Nat)), En.da (.list (blD false r)), En.da (.int (leadA r A.length f : Nat)), En.own (.list (hs.map fun i => .int (i : Nat))), En.da (.int (q : Nat)), y] ∧ hs.length = j ∧ hs ++ hdsA (r.bl.drop j) q (leadA r A.length f) = hdsA r.bl (A.length + 1) (leadA r A.length f), ⟨_, [], A.length + 1, rfl, rfl, rfl, rfl⟩, ?_, ?_⟩
      · rintro j d g2 ρ2 hd ⟨y, hs, q, rfl, rfl, hj, he⟩
        obtain ⟨b, hb, rfl⟩ := blD_get hd
        have hb2 := List.mem_of_getElem? hb
        have hj2 : j < 2 := Nat.lt_of_lt_of_le (List.getElem?_eq_some_iff.mp hb).1 (bl_len r)
        walk_at "we"
        refine Ws_app rfl (We.mono (k := fun d g' => d = .int (hdA b q (leadA r A.length f) : Nat) ∧ g' = ((), .list A)) ?_ ?_)
        · walk_at "we"
          rw [isEmpty_dl]
          unfold hdA
          refine ⟨fun h => ?_, fun h => ?_⟩
          · rw [if_neg (by intro z; rw [z] at h; cases h)]
            walk_at "we"
            rfl
          · rw [if_pos (by simpa using h)]
            walk_at "we"
            rfl
        · rintro _ _ ⟨rfl, rfl⟩
          refine ⟨by rw [List.length_map]; omega, ?_⟩
          refine Ws_aug rfl (We_call0 Ln.pure ?_)
          walk_at "we"
          refine ⟨false, false, b, rfl, ?_, _, rfl, En.da (sq false (Rw.dl false b)), hs ++ [hdA b q (leadA r A.length f)], q + Rw.szl b, rfl, ?_, ?_, ?_⟩
          · have := dep_bl hb2
            omega
          · rw [List.map_append]; rfl
          · rw [List.length_append, hj]; rfl
          · rw [← he, drop_get hb, List.append_assoc]; rfl
      · rintro g2 ρ2 ⟨y, hs, q, rfl, rfl, hj, he⟩
        rw [show (blD false r).length = r.bl.length by rw [blD, List.length_map]] at hj he
        rw [drop_all, show hdsA [] q (leadA r A.length f) = [] from rfl, List.append_nil] at he
        subst he
        refine Ws_freeze (i := 6) rfl ?_
        refine Ws_seq (Ws_appB Bx.box rfl ⟨_, rfl⟩ (We_call0 Ln.pure ?_))
        walk_at "we"
        refine And.intro (by omega) ?_
        refine Ws_for (Wi_seq ?_)
        walk_at "we"
        refine ⟨fun j g ρ => ∃ (y : En) (D : List PyData), g = ((), .list D) ∧ ρ = [En.da (Rw.d false r), En.da (.int (f : Nat)), En.raw (.ref i), En.da (.int (A.length : Nat)), En.da (.list (blD false r)), En.da (.int (leadA r A.length f : Nat)), En.da (.list ((hdsA r.bl (A.length + 1) (leadA r A.length f)).map fun i => .int (i : Nat))), En.da (.int (q : Nat)), y] ∧ D.length + ((r.bl.drop j).map Rw.szl).sum = A.length + r.sz ∧ D ++ (arbA (r.bl.drop j) D.length (leadA r A.length f)).map .tuple = A ++ (r.ar A.length f).map .tuple, ⟨_, _, rfl, rfl, ?_, ?_⟩, ?_, ?_⟩
        · rw [List.drop_zero, List.length_append, List.length_singleton]; omega
        · rw [List.drop_zero, ar_eq, List.map_cons, List.append_assoc, List.length_append, List.length_singleton]; rfl
        · rintro j d g2 ρ2 hd ⟨y, D, rfl, rfl, hs, he⟩
          obtain ⟨b, hb, rfl⟩ := blD_get hd
          have hb2 := List.mem_of_getElem? hb
          rw [drop_get hb, List.map_cons, List.sum_cons] at hs
          walk_at "we"
          refine Ws_drop (We_callY0 i Ln.id ?_)
          refine Wa_cons (We_var rfl (Wa_cons (We_var rfl (Wa_raw rfl (Wa_nil ?_)))))
          refine ⟨b, _, D, rfl, rfl, ?_, ?_, En.da (sq false (Rw.dl false b)), _, rfl, ?_, ?_, ?_⟩
          · have := dep_bl hb2
            omega
          · omega
          · rfl
          · rw [List.length_append, List.length_map, arwl_len]; omega
          · rw [← he, drop_get hb, arbA, List.map_append, List.append_assoc, List.length_append, List.length_map, arwl_len]
        · rintro g2 ρ2 ⟨y, D, rfl, rfl, hs, he⟩
          rw [show (blD false r).length = r.bl.length by rw [blD, List.length_map], drop_all] at he
          rw [show (arbA [] D.length (leadA r A.length f)).map PyData.tuple = [] from rfl, List.append_nil] at he
          rw [he]
          exact hk
end
section
variable {P : Program} {w : World} {K : PySem.W.Frag} {mg : Str → Option Value} {base : Heap}
abbrev s__append_arrows : Stmt := top 44
abbrev N__append_arrows : List Str := ["rows", "behind", "arrows", "at", "row", "is_last", "following"]
abbrev P__append_arrows : List Str := ["rows", "behind", "arrows"]
theorem sc__append_arrows : FnScope N__append_arrows P__append_arrows (defScope s__append_arrows) := ⟨rfl, rfl, rfl, by decide +kernel, rfl, by decide +kernel, by decide +kernel⟩
-- slots: 0 rows, 1 behind, 2 arrows, 3 at, 4 row, 5 is_last, 6 following
theorem kp__append_arrows (n : Nat) (F : At K mg "_append_arrows" s__append_arrows) (N : Nb mg) (G_rows_count : ∀ n, Keeps CX0 P w K mg base "rows_count" (n + 2) ["rows"] (spX K Co.pure (RSz n)))
    (G__append_row : Keeps CX0 P w K mg base "_append_row" (2 * n + 4) ["row", "following", "arrows"] (spY K (CB K) (RApR (n + 1)))) : Keeps CX0 P w K mg base "_append_arrows" (2 * n + 5) ["rows", "behind", "arrows"] (spY K (CB K) (RApA (n + 1))) := by
  refine keeps_y F sc__append_arrows (fun _ _ _ _ _ _ us hl => match us, hl with | [_, _, _], _ => rfl) (fun i es g k x h => ?_) (fun fa cdv A outer s H E i es g k x hr h => ?_)
  · obtain ⟨r, f, A, rfl, _⟩ := h; rfl
  · obtain ⟨rs, f, A, rfl, rfl, hn, hl, hk⟩ := h
    have G_rows_count := G_rows_count (n + 1)
    refine ⟨_, (pss_one (ps_for PassesOwn.never rfl (pi_enumA (by rfl) N.enumerate (pa_cons (pv 0) pa_nil)) (pg_tupA (by rfl) (pgs_cons (pg_name (i := 3) sc__append_arrows.nd rfl (by walk_at "lv")) (pgs_cons (pg_name (i := 4) sc__append_arrows.nd rfl (by walk_at "lv")) pgs_nil))) (pss_cons (ps_set (i := 5) sc__append_arrows.nd rfl (by walk_at "lv") (pe_cmpR (op_eqD hr.units) (pv 3) (pe_op op_sub (pe_callB call_len (by rfl) N.len (by decide +kernel) (pa_cons (pv 0) pa_nil)) pe_int) (nomark _)))
        (pss_cons (ps_set (i := 6) sc__append_arrows.nd rfl (by walk_at "lv") (pe_ifExp (pt_truth (pv 5) (by intro _; rfl)) (pv 1) (pe_op op_add (pe_callB call_len (by rfl) N.len (by decide +kernel) (pa_cons (pv 2) pa_nil)) (pe_k (G_rows_count.up (by omega)) hr (by rfl) pass0 (pa_cons (pe_tup (pa_cons (pv 4) pa_nil)) pa_nil)))))
        (pss_one (ps_expr (pe_k (G__append_row.up (by omega)) hr (by rfl) pass0 (pa_cons (pv 4) (pa_cons (pv 6) (pa_cons (pv 2) pa_nil)))))))))), ?_⟩
    try dsimp only [cxOf, L2.Cx.wish]
    refine Ws_for (Wi_enum ?_)
    walk_at "we"
    refine ⟨fun i' g ρ => ∃ (y1 y2 y3 y4 : En) (D : List PyData), g = ((), .list D) ∧ ρ = [En.da (.tuple (Rw.dl false rs)), En.da (.int (f : Nat)), En.raw (.ref i), y1, y2, y3, y4] ∧ D.length + Rw.szl (rs.drop i') = A.length + Rw.szl rs ∧ D ++ (Rw.arl (rs.drop i') D.length f).map .tuple = A ++ (Rw.arl rs A.length f).map .tuple, ⟨_, _, _, _, A, rfl, rfl, rfl, rfl⟩, ?_, ?_⟩
    · rintro j d g2 ρ2 hd ⟨y1, y2, y3, y4, D, rfl, rfl, hs, he⟩
      rw [List.getElem?_map] at hd
      obtain ⟨j', hj, rfl⟩ := Option.map_eq_some_iff.mp hd
      have hij : j' = j ∧ j < (Rw.dl false rs).length := by
        obtain ⟨a, b⟩ := List.getElem?_eq_some_iff.mp hj
        rw [List.length_range] at a
        rw [List.getElem_range] at b
        exact ⟨b.symm, a⟩
      obtain ⟨rfl, hlt⟩ := hij
      obtain ⟨r, hr2, er⟩ := dl_get (List.getElem?_eq_getElem hlt)
      rw [List.getD_eq_getElem?_getD, List.getElem?_eq_getElem hlt, er]
      rw [dl_len] at hlt
      rw [drop_get hr2, Rw.szl] at hs
      have hdr := dep_mem (List.mem_of_getElem? hr2)
      refine Wg_tupA ⟨_, rfl, rfl, Wgs_cons (Wx_name ⟨rfl, Wgs_cons (Wx_name ⟨rfl, Wgs_nil ?_⟩)⟩)⟩
      refine Ws_seq (Wx_set (We.mono (k := fun d g' => d = .bool (decide ((j' : Int) = (rs.length : Int) - 1)) ∧ g' = ((), .list D)) ?_ ?_))
      · walk_at "we"
        rw [dl_len, eqv_int]
        exact ⟨rfl, rfl⟩
      rintro _ _ ⟨rfl, rfl⟩
      refine ⟨rfl, ?_⟩
      refine Ws_seq (Wx_set (We.mono (k := fun d g' => d = .int ((if (rs.drop (j' + 1)).isEmpty then f else D.length + r.sz : Nat) : Int) ∧ g' = ((), .list D)) ?_ ?_))
      · have hie : (rs.drop (j' + 1)).isEmpty = decide ((j' : Int) = (rs.length : Int) - 1) := by
          rw [Bool.eq_iff_iff, List.isEmpty_iff, decide_eq_true_iff, ← List.length_eq_zero_iff, List.length_drop]
          omega
        rw [hie]
        walk_at "we"
        refine ⟨fun h => ?_, fun h => ?_⟩
        · rw [if_pos h]
          walk_at "we"
          rfl
        · rw [if_neg (by rw [h]; decide)]
          walk_at "we"
          refine We_call0 Ln.pure ?_
          walk_at "we"
          refine ⟨false, false, [r], rfl, ?_, _, _, rfl, rfl, ?_⟩
          · rw [dep_one]; omega
          · rw [sz_one]; exact ⟨rfl, rfl⟩
      rintro _ _ ⟨rfl, rfl⟩
      refine ⟨rfl, ?_⟩
      refine Ws_drop (We_callY0 i Ln.id (Wa_cons (We_var rfl (Wa_cons (We_var rfl (Wa_raw rfl (Wa_nil ?_)))))))
      refine ⟨r, _, D, rfl, rfl, ?_, ?_, _, _, _, _, _, rfl, rfl, ?_, ?_⟩
      · omega
      · omega
      · rw [List.length_append, List.length_map, arw_len]; omega
      · rw [← he, drop_get hr2, Rw.arl, List.map_append, List.append_assoc, List.length_append, List.length_map, arw_len]
    · rintro g2 ρ2 ⟨y1, y2, y3, y4, D, rfl, rfl, hs, he⟩
      rw [List.length_map, List.length_range, dl_len, drop_all] at he
      rw [show (Rw.arl [] D.length f).map PyData.tuple = [] from rfl, List.append_nil] at he
      rw [he]
      exact hk
theorem kp_app_all (F : At K mg "_append_arrows" s__append_arrows) (F2 : At K mg "_append_row" s__append_row) (N : Nb mg) (G_rows_count : ∀ n, Keeps CX0 P w K mg base "rows_count" (n + 2) ["rows"] (spX K Co.pure (RSz n))) (G_blocks_of : Keeps CX0 P w K mg base "blocks_of" 2 ["row"] (spX K Co.pure RBlk)) (G__arrows_at : Keeps CX0 P w K mg base "_arrows_at" 1 ["row", "heads", "following"] (spX K Co.pure RAt)) : ∀ n, Keeps CX0 P w K mg base "_append_arrows" (2 * n + 3) ["rows", "behind", "arrows"] (spY K (CB K) (RApA n)) := by
  intro n
  induction n with
  | zero => exact keeps_y F sc__append_arrows (fun _ _ _ _ _ _ us hl => match us, hl with | [_, _, _], _ => rfl) (fun i es g k x h => by obtain ⟨r, f, A, rfl, _⟩ := h; rfl) (fun fa cdv A outer s H E i es g k x hr h => by obtain ⟨_, _, _, _, _, z, _⟩ := h; exact absurd z (Nat.not_lt_zero _))
  | succ n ih => exact kp__append_arrows n F N G_rows_count (kp__append_row n F2 N G_blocks_of G__arrows_at G_rows_count ih)
/-- a program's ways -/
def arwD (rs : List Rw) : PyData := .tuple ((Rw.arl rs 0 (Rw.szl rs)).map .tuple ++ [.tuple []])
def RArr (n : Nat) : List En → Unit → KD Unit → KX Unit → Prop := fun es _ k x => ∃ pg nm, es = [En.da pg, En.da nm] ∧ RPn n (fun p k _ => k (arwD p.rs) ()) es k x pg nm
abbrev s_arrows_of : Stmt := top 43
abbrev N_arrows_of : List Str := ["program", "name", "rows", "arrows"]
abbrev P_arrows_of : List Str := ["program", "name"]
theorem sc_arrows_of : FnScope N_arrows_of P_arrows_of (defScope s_arrows_of) := ⟨rfl, rfl, rfl, by decide +kernel, rfl, by decide +kernel, by decide +kernel⟩
-- slots: 0 program, 1 name, 2 rows, 3 arrows
theorem kp_arrows_of (n : Nat) (F : At K mg "arrows_of" s_arrows_of) (N : Nb mg) (G_procedure_of : Keeps (CX P w) P w K mg base "procedure_of" 3 ["program", "name"] (spX K Co.pure RPof)) (G_rows_count : Keeps CX0 P w K mg base "rows_count" (n + 2) ["rows"] (spX K Co.pure (RSz n))) (G__append_arrows : Keeps CX0 P w K mg base "_append_arrows" (2 * n + 3) ["rows", "behind", "arrows"] (spY K (CB K) (RApA n))) : Keeps (CX P w) P w K mg base "arrows_of" (2 * n + 4) ["program", "name"] (spX K Co.pure (RArr n)) := by
  refine keeps_xX F sc_arrows_of (fun _ _ _ _ _ _ us hl => match us, hl with | [_, _], _ => rfl) (fun es g k x h => ?_) (fun f cdv A outer s H E es g k x hr h => ?_)
  · obtain ⟨pg, nm, rfl, _⟩ := h; rfl
  · obtain ⟨_, nm, rfl, ps, rfl, hs, hf, hn, hk, hx⟩ := h
    refine ⟨_, (pss_cons (ps_set (i := 2) sc_arrows_of.nd rfl (by walk_at "lv") (pe_ix ix_any (pe_k (G_procedure_of.up (by omega)) hr (by rfl) (passes_call (takes_of rfl rfl rfl rfl) (fun _ _ _ _ h => h)) (pa_cons (pv 0) (pa_cons (pv 1) pa_nil))) pe_int (fun _ _ => rfl)))
        (pss_cons (ps_set (i := 3) sc_arrows_of.nd rfl (by walk_at "lv") (pe_lst pa_nil))
        (pss_cons (ps_expr (pe_k (G__append_arrows.up (by omega)) hr (by rfl) pass0 (pa_cons (pv 2) (pa_cons (pe_k (G_rows_count.up (by omega)) hr (by rfl) pass0 (pa_cons (pv 2) pa_nil)) (pa_cons (pv 3) pa_nil)))))
        (pss_cons (ps_expr (pe_bm PySem.F.plainAttrs_list PySem.F.slot_list_append PySem.F.type_list_append mt_append (pv 3) (pa_cons (pe_tup pa_nil) pa_nil)))
        (pss_one (ps_ret (pe_callTy call_tuple_of (by rfl) N.tuple (by decide +kernel) (pa_cons (pv 3) pa_nil)))))))), ?_⟩
    try dsimp only [cxOf, L2.Cx.wish]
    refine Ws_seq (Wx_set ?_)
    walk_at "wv"
    refine We_call Ln.pure ?_
    walk_at "wv"
    refine ⟨fun p hp => ?_, hx⟩
    obtain ⟨h1, h2⟩ := hn p (List.mem_of_find?_eq_some hp)
    have kk := hk p hp
    walk_at "wv"
    refine Ws_seq (Wx_new (Wn_lst ?_))
    walk_at "wv"
    refine Ws_seq (Ws_lend (i := 3) rfl fun o => ?_)
    refine Ws_drop (We_callY0 o (Ln.box Ln.pure) (Wa_cons (We_var rfl (Wa_cons (We_call0 Ln.pure (Wa_cons (We_var rfl (Wa_nil ⟨false, false, p.rs, rfl, h1, Wa_raw rfl (Wa_nil ?_)⟩))))))))
    refine ⟨p.rs, _, [], rfl, rfl, h1, by rw [List.length_nil]; omega, rfl, ?_⟩
    refine Ws_seq (Ws_app rfl ?_)
    walk_at "wv"
    have hl : (([] : List PyData) ++ (Rw.arl p.rs ([] : List PyData).length (Rw.szl p.rs)).map PyData.tuple).length = Rw.szl p.rs := by rw [List.nil_append, List.length_map, arwl_len]
    refine ⟨by rw [hl]; exact h2, ?_⟩
    refine Ws_freeze (i := 3) rfl ?_
    walk_at "we"
    exact kk
end
def ltK : Lt → List Key
  | .add n => [.inr "add", .inl n]
  | .set n => [.inr "set", .inl n]
  | .mod n => [.inr "mod", .inl n]
  | .turn => [.inr "turn"]
def tsK : Ts → List Key
  | .below n => [.inr "below", .inl n]
  | .is n => [.inr "is", .inl n]
  | .rest m n => [.inr "rest", .inl m, .inl n]
def kyD (k : List Key) : PyData := .tuple (k.map keyD)
theorem lt_key (L : Lt) : L.d = kyD (ltK L) := by cases L <;> rfl
theorem ts_key (L : Ts) : L.d = kyD (tsK L) := by cases L <;> rfl
def addK (us : List (List Key)) (k : List Key) : List (List Key) := if (us.any fun x => decide (x = k)) = true then us else us ++ [k]
def stepL (us : List (List Key)) : Rw → List (List Key)
  | .deed _ l => addK us (ltK l)
  | _ => us
def stepT (us : List (List Key)) : Rw → List (List Key)
  | .need _ t => addK us (tsK t)
  | .ite _ t _ _ => addK us (tsK t)
  | .whil _ t _ => addK us (tsK t)
  | _ => us
def usesOf (rs : List Rw) : List (List Key) := rs.foldl stepL []
def asksOf (rs : List Rw) : List (List Key) := rs.foldl stepT []
theorem uses_snoc (rs : List Rw) (r : Rw) : usesOf (rs ++ [r]) = stepL (usesOf rs) r := by simp [usesOf]
theorem asks_snoc (rs : List Rw) (r : Rw) : asksOf (rs ++ [r]) = stepT (asksOf rs) r := by simp [asksOf]
theorem addK_len (us : List (List Key)) (k : List Key) : (addK us k).length ≤ us.length + 1 := by
  unfold addK; split
  · omega
  · (rw [List.length_append, List.length_singleton]; omega)
theorem fold_len {f : List (List Key) → Rw → List (List Key)} (h : ∀ us r, (f us r).length ≤ us.length + 1) : ∀ (rs : List Rw) (us : List (List Key)), (rs.foldl f us).length ≤ us.length + rs.length
  | [], us => Nat.le_refl _
  | r :: rs, us => by
    have := fold_len h rs (f us r)
    have := h us r
    rw [List.foldl_cons, List.length_cons]; omega
theorem uses_len (rs : List Rw) : (usesOf rs).length ≤ rs.length := by
  have := fold_len (f := stepL) (fun us r => by cases r <;> first | exact addK_len _ _ | exact Nat.le_succ _) rs []
  rw [List.length_nil] at this; unfold usesOf; omega
theorem asks_len (rs : List Rw) : (asksOf rs).length ≤ rs.length := by
  have := fold_len (f := stepT) (fun us r => by cases r <;> first | exact addK_len _ _ | exact Nat.le_succ _) rs []
  rw [List.length_nil] at this; unfold asksOf; omega
def yesM (us : List (List Key)) : List (List Key × PyData) := us.map fun k => (k, .bool true)
theorem put_yes (us : List (List Key)) (k : List Key) : putM (yesM us) k (.bool true) = yesM (addK us k) := by
  have e : ((yesM us).any fun p => decide (p.1 = k)) = us.any fun x => decide (x = k) := by rw [yesM, List.any_map]; rfl
  unfold putM addK
  rw [e]
  split
  · unfold yesM
    rw [List.map_map]
    refine List.map_congr_left fun a _ => ?_
    show (if a = k then (a, PyData.bool true) else (a, PyData.bool true)) = _
    rw [ite_self]
  · unfold yesM
    rw [List.map_append]; rfl
theorem yes_keys (us : List (List Key)) : (yesM us).map (fun p => PyData.tuple (p.1.map keyD)) = us.map kyD := by
  unfold yesM; rw [List.map_map]; rfl
theorem yes_len (us : List (List Key)) : (yesM us).length = us.length := List.length_map _
/-- all rows of a program's procedures -/
def allR (ps : List Pr) : List Rw := (ps.map fun p => Rw.fll p.rs).flatten
theorem allR_snoc (ps : List Pr) (p : Pr) : allR (ps ++ [p]) = allR ps ++ Rw.fll p.rs := by simp [allR]
theorem allR_len (ps : List Pr) (i j : Nat) (p : Pr) (h : ps[i]? = some p) : (allR (ps.take i) ++ (Rw.fll p.rs).take j).length ≤ (allR ps).length := by
  have e : ps = ps.take i ++ p :: ps.drop (i + 1) := by rw [← drop_get h, List.take_append_drop]
  have e2 : (allR ps).length = (allR (ps.take i)).length + ((Rw.fll p.rs).length + (allR (ps.drop (i + 1))).length) := by
    rw [show (allR ps).length = (allR (ps.take i ++ p :: ps.drop (i + 1))).length by rw [← e]]
    simp [allR, List.length_append]
  rw [List.length_append, List.length_take]
  omega
section
variable {P : Program} {w : World} {K : PySem.W.Frag} {mg : Str → Option Value} {base : Heap}
def RAlp (n : Nat) : List En → Unit → KD Unit → KX Unit → Prop := fun es _ k _ => ∃ ps, es = [En.da (pgD ps)] ∧ (∀ p ∈ ps, Rw.depl p.rs < n ∧ Rw.szl p.rs ≤ 60000) ∧ (allR ps).length ≤ 60000 ∧ k (.tuple [.tuple ((usesOf (allR ps)).map kyD), .tuple ((asksOf (allR ps)).map kyD)]) ()
abbrev s_alphabet_of : Stmt := top 47
abbrev N_alphabet_of : List Str := ["program", "letters", "tests", "procedure", "row"]
abbrev P_alphabet_of : List Str := ["program"]
theorem sc_alphabet_of : FnScope N_alphabet_of P_alphabet_of (defScope s_alphabet_of) := ⟨rfl, rfl, rfl, by decide +kernel, rfl, by decide +kernel, by decide +kernel⟩
-- slots: 0 program, 1 letters, 2 tests, 3 procedure, 4 row
theorem kp_alphabet_of (n : Nat) (F : At K mg "alphabet_of" s_alphabet_of) (N : Nb mg) (T : PrgT K) (G_flat_rows : Keeps CX0 P w K mg base "flat_rows" (n + 2) ["rows"] (spX K Co.pure (RFl n))) : Keeps CX0 P w K mg base "alphabet_of" (n + 3) ["program"] (spX K Co.pure (RAlp n)) := by
  refine keeps_x F sc_alphabet_of (fun _ _ _ _ _ _ us hl => match us, hl with | [_], _ => rfl) (fun es g k x h => ?_) (fun f cdv A outer s H E es g k x hr h => ?_)
  · obtain ⟨ps, rfl, _⟩ := h; rfl
  · obtain ⟨ps, rfl, hn, hz, hk⟩ := h
    refine ⟨_, (pss_cons (ps_set (i := 1) sc_alphabet_of.nd rfl (by walk_at "lv") pe_dnewT)
        (pss_cons (ps_set (i := 2) sc_alphabet_of.nd rfl (by walk_at "lv") pe_dnewT)
        (pss_cons (ps_for PassesOwn.never rfl (pi_seqE (pe_fld (pv 0) rfl)) (pg_name (i := 3) sc_alphabet_of.nd rfl (by walk_at "lv")) (pss_one (ps_for PassesOwn.never rfl (pi_seqE (pe_k (G_flat_rows.up (by omega)) hr (by rfl) pass0 (pa_cons (pe_ix ix_any (pv 3) pe_int (fun _ _ => rfl)) pa_nil))) (pg_name (i := 4) sc_alphabet_of.nd rfl (by walk_at "lv")) (pss_one (ps_if (pt_cmpR (op_eqD hr.units) (pe_ix ix_any (pv 4) pe_int (fun _ _ => rfl)) pe_str (nomark _)) (pss_one (ps_asg pe_bl (pg_sub (pv 1) (pe_ix ix_any (pv 4) pe_int (fun _ _ => rfl)) (set_dict (hu_of hr))))) (pss_one (ps_if (pt_cmpR (op_inT (Room.u65 hr)) (pe_ix ix_any (pv 4) pe_int (fun _ _ => rfl)) (pe_tup (pa_cons pe_str (pa_cons pe_str (pa_cons pe_str pa_nil)))) (by rfl)) (pss_one (ps_asg pe_bl (pg_sub (pv 2) (pe_ix ix_any (pv 4) pe_int (fun _ _ => rfl)) (set_dict (hu_of hr))))) pss_nil)))))))
        (pss_one (ps_ret (pe_tup (pa_cons (pe_callTy (call_tuple_di rfl) (by rfl) N.tuple (by decide +kernel) (pa_cons (pv 1) pa_nil)) (pa_cons (pe_callTy (call_tuple_di rfl) (by rfl) N.tuple (by decide +kernel) (pa_cons (pv 2) pa_nil)) pa_nil)))))))), ?_⟩
    try dsimp only [cxOf, L2.Cx.wish]
    refine Ws_seq (Wx_new (Wn_dt ⟨rfl, ?_⟩))
    refine Ws_seq (Wx_new (Wn_dt ⟨rfl, ?_⟩))
    refine Ws_seq (Ws_for (Wi_seq (We_fld T.c T.a ?_)))
    walk_at "wv"
    refine ⟨fun i _ ρ => ∃ y z, ρ = [En.da (pgD ps), En.own (dtD (yesM (usesOf (allR (ps.take i))))), En.own (dtD (yesM (asksOf (allR (ps.take i))))), y, z], ⟨_, _, rfl⟩, ?_, ?_⟩
    · rintro i d g2 ρ2 hd ⟨y, z, rfl⟩
      rw [List.getElem?_map] at hd
      obtain ⟨p, hp, rfl⟩ := Option.map_eq_some_iff.mp hd
      obtain ⟨h1, h2⟩ := hn p (List.mem_of_getElem? hp)
      walk_at "wv"
      refine Ws_for (Wi_seq (We_call0 Ln.pure ?_))
      walk_at "wv"
      refine ⟨fun j _ ρ => ∃ z, ρ = [En.da (pgD ps), En.own (dtD (yesM (usesOf (allR (ps.take i) ++ (Rw.fll p.rs).take j)))), En.own (dtD (yesM (asksOf (allR (ps.take i) ++ (Rw.fll p.rs).take j)))), En.da p.d, z], ⟨z, by rw [List.take_zero, List.append_nil]; rfl⟩, ?_, ?_⟩
      · rintro j d g2 ρ2 hd ⟨z, rfl⟩
        obtain ⟨r, hr2, rfl⟩ := dl_get hd
        have hl := allR_len ps i j p hp
        have hu := uses_len (allR (ps.take i) ++ (Rw.fll p.rs).take j)
        have ha := asks_len (allR (ps.take i) ++ (Rw.fll p.rs).take j)
        rw [take_get hr2, ← List.append_assoc, uses_snoc, asks_snoc]
        cases r with
        | deed v l =>
          walk_at "we"
          refine Ws_asg (We_bl (Wg_dt rfl ?_))
          walk_at "wv"
          refine ⟨ltK l, lt_key l, by rw [yes_len]; omega, En.da (Rw.d false (.deed v l)), ?_⟩
          rw [put_yes]; rfl
        | need v t =>
          walk_at "we"
          refine Ws_asg (We_bl (Wg_dt rfl ?_))
          walk_at "wv"
          refine ⟨tsK t, ts_key t, by rw [yes_len]; omega, En.da (Rw.d false (.need v t)), ?_⟩
          rw [put_yes]; rfl
        | ite v t b c =>
          walk_at "we"
          refine Ws_asg (We_bl (Wg_dt rfl ?_))
          walk_at "wv"
          refine ⟨tsK t, ts_key t, by rw [yes_len]; omega, En.da (Rw.d false (.ite v t b c)), ?_⟩
          rw [put_yes]; rfl
        | whil v t b =>
          walk_at "we"
          refine Ws_asg (We_bl (Wg_dt rfl ?_))
          walk_at "wv"
          refine ⟨tsK t, ts_key t, by rw [yes_len]; omega, En.da (Rw.d false (.whil v t b)), ?_⟩
          rw [put_yes]; rfl
        | eith b c => walk_at "we"; exact ⟨En.da (Rw.d false (.eith b c)), rfl⟩
        | copy v u => walk_at "we"; exact ⟨En.da (Rw.d false (.copy v u)), rfl⟩
        | call v a u => walk_at "we"; exact ⟨En.da (Rw.d false (.call v a u)), rfl⟩
        | stop => walk_at "we"; exact ⟨En.da (Rw.d false .stop), rfl⟩
      · rintro g3 ρ3 ⟨z, rfl⟩
        refine ⟨En.da p.d, z, ?_⟩
        rw [dl_len, take_all, take_get hp, allR_snoc]
    · rintro g2 ρ2 ⟨y, z, rfl⟩
      rw [List.length_map, take_all]
      refine Ws_freeze (i := 1) rfl (Ws_freeze (i := 2) rfl ?_)
      refine Ws_ret (We_tup (Wa_cons (We_cb rf_tupDi ?_)))
      walk_at "wv"
      refine .inr ⟨_, rfl, ?_⟩
      refine Wa_cons (We_cb rf_tupDi ?_)
      walk_at "wv"
      refine .inr ⟨_, rfl, ?_⟩
      walk_at "wv"
      rw [yes_keys, yes_keys]
      exact hk
end
theorem Wx_ty {γ : Type} {B : Bd γ} {g : γ} {ρ : List En} {tl : TA} {ka : List En → γ → Prop} {t : String} (h : Wa B tl g ρ fun es g2 => ka (En.raw (.ty t) :: es) g2) : Wa B (tCons (tC (.ty t)) tl) g ρ ka := Wa_ty h
theorem isi_str (z : Str) : isiD "str" (.str z) = some true := by
  show (if ("str" : String) = "?" then none else kitB "str" "str") = some true
  decide +kernel
abbrev smallZ : Str := "abcdefghijklmnopqrstuvwxyz"
abbrev figZ : Str := "0123456789"
def inZ (z : Str) (c : Nat) : Bool := decide (c ∈ z.cps.toList)
/-- a name -/
def nmB (z : Str) : Bool := match z.cps.toList with
  | [] => false
  | c :: cs => decide ((c :: cs).length ≤ 8) && (inZ smallZ c && (c :: cs).all fun c => inZ smallZ c || inZ figZ c)
theorem str_len (z : Str) : z.length = z.cps.toList.length := by rw [Array.length_toList]; rfl
theorem nm_len {z : Str} (h : nmB z = true) : 1 ≤ z.length ∧ z.length ≤ 8 := by
  rw [str_len]
  unfold nmB at h
  split at h
  · cases h
  · rename_i c cs e
    rw [Bool.and_eq_true] at h
    rw [e]
    exact ⟨by rw [List.length_cons]; omega, of_decide_eq_true h.1⟩
theorem inZ_small {z : Str} {c : Nat} (h : (z = smallZ ∨ z = figZ)) (hc : inZ z c = true) : c < 128 := by
  have hc := of_decide_eq_true hc
  rcases h with rfl | rfl
  · exact (by decide +kernel : ∀ c ∈ smallZ.cps.toList, c < 128) c hc
  · exact (by decide +kernel : ∀ c ∈ figZ.cps.toList, c < 128) c hc
theorem nm_shp {z : Str} (h : nmB z = true) : Small 0 (.str z) := by
  refine ⟨?_, Nat.le_of_eq (by simp [PyData.depth])⟩
  have hall : ∀ c ∈ z.cps.toList, c < 128 := by
    intro c hc
    unfold nmB at h
    split at h
    · cases h
    · rename_i c' cs e
      rw [e] at hc
      rw [Bool.and_eq_true, Bool.and_eq_true] at h
      have := List.all_eq_true.mp h.2.2 c hc
      rcases Bool.or_eq_true _ _ ▸ this with q | q
      · exact inZ_small (.inl rfl) q
      · exact inZ_small (.inr rfl) q
  simp only [PyData.canLay0]
  unfold PyData.strOk
  rw [← Array.all_toList, List.all_eq_true]; intro c hc
  exact decide_eq_true (Nat.lt_trans (hall c hc) (by decide))
mutual
/-- a row that is let: variables below m, calls by the table -/
def Rw.ok (m : Int) (tb : List (Key × PyData)) : Rw → Prop
  | .deed v l => (0 ≤ v ∧ v < m) ∧ l.Ok
  | .copy v u => (0 ≤ v ∧ v < m) ∧ 0 ≤ u ∧ u < m
  | .need v t => (0 ≤ v ∧ v < m) ∧ t.Ok
  | .ite v t b c => (0 ≤ v ∧ v < m) ∧ t.Ok ∧ Rw.okl m tb b ∧ Rw.okl m tb c
  | .eith b c => Rw.okl m tb b ∧ Rw.okl m tb c
  | .whil v t b => (0 ≤ v ∧ v < m) ∧ t.Ok ∧ Rw.okl m tb b
  | .call f as v => (0 ≤ v ∧ v < m) ∧ nmB f = true ∧ (∃ c : Int, lkM tb (.inr f) = some (.int c) ∧ (as.length : Int) ≤ c) ∧ (as.length ≤ 1000) ∧ ∀ a ∈ as, 0 ≤ a ∧ a < m
  | .stop => True
def Rw.okl (m : Int) (tb : List (Key × PyData)) : List Rw → Prop
  | [] => True
  | r :: rs => Rw.ok m tb r ∧ Rw.okl m tb rs
end
theorem okl_mem {m : Int} {tb : List (Key × PyData)} {r : Rw} : ∀ {rs : List Rw}, Rw.okl m tb rs → r ∈ rs → r.ok m tb
  | _ :: _, h, q => by
    rw [Rw.okl] at h
    rcases List.mem_cons.mp q with rfl | q
    · exact h.1
    · exact okl_mem h.2 q
theorem okl_of {m : Int} {tb : List (Key × PyData)} : ∀ {rs : List Rw}, (∀ r ∈ rs, r.ok m tb) → Rw.okl m tb rs
  | [], _ => trivial
  | _ :: _, h => by
    rw [Rw.okl]
    exact ⟨h _ List.mem_cons_self, okl_of fun r hr => h r (List.mem_cons_of_mem _ hr)⟩
theorem ok_bl {m : Int} {tb : List (Key × PyData)} {r : Rw} {b : List Rw} (h : r.ok m tb) (hb : b ∈ r.bl) : Rw.okl m tb b := by
  cases r with
  | ite v t x y =>
    rw [Rw.ok] at h
    simp only [Rw.bl, List.mem_cons, List.not_mem_nil, or_false] at hb
    rcases hb with rfl | rfl
    · exact h.2.2.1
    · exact h.2.2.2
  | eith x y =>
    rw [Rw.ok] at h
    simp only [Rw.bl, List.mem_cons, List.not_mem_nil, or_false] at hb
    rcases hb with rfl | rfl
    · exact h.1
    · exact h.2
  | whil v t x =>
    rw [Rw.ok] at h
    simp only [Rw.bl, List.mem_cons, List.not_mem_nil, or_false] at hb
    subst hb
    exact h.2.2
  | _ => cases hb
theorem small_int {n : Int} : Small 0 (.int n) := ⟨by simp [PyData.canLay0], Nat.le_of_eq (by simp [PyData.depth])⟩
theorem small_lt (L : Lt) : Small 1 L.d := by cases L <;> exact ⟨by kernel_rfl, Nat.le_of_ble_eq_true (by kernel_rfl)⟩
theorem small_ts (L : Ts) : Small 1 L.d := by cases L <;> exact ⟨by kernel_rfl, Nat.le_of_ble_eq_true (by kernel_rfl)⟩
theorem small_sq {n : Nat} {s : Bool} {ds : List PyData} (h : ∀ d ∈ ds, Small n d) : Small (n + 1) (sq s ds) := by
  cases s
  · exact small_tup h
  · exact small_lst h
theorem small_wd (r : Rw) : Small 0 (.str r.wd) := by cases r <;> exact ⟨by kernel_rfl, Nat.le_of_ble_eq_true (by kernel_rfl)⟩
theorem small_all {n : Nat} : ∀ {ds : List PyData} {d : PyData}, List.Mem d ds → (∀ d, List.Mem d ds → Small n d) → Small n d := fun h k => k _ h
mutual
theorem small_rw {m : Int} {tb : List (Key × PyData)} {s : Bool} : ∀ (r : Rw), r.ok m tb → Small (2 * r.dep + 3) (Rw.d s r)
  | .deed v l, _ => (small_tup (n := 1) fun d hd => by
      simp only [List.mem_cons, List.not_mem_nil, or_false] at hd
      rcases hd with rfl | rfl | rfl
      · exact (small_wd (.deed v l)).mono (by omega)
      · exact small_int.mono (by omega)
      · exact small_lt l).mono (by omega)
  | .copy v u, _ => (small_tup (n := 0) fun d hd => by
      simp only [List.mem_cons, List.not_mem_nil, or_false] at hd
      rcases hd with rfl | rfl | rfl
      · exact small_wd (.copy v u)
      · exact small_int
      · exact small_int).mono (by omega)
  | .need v t, _ => (small_tup (n := 1) fun d hd => by
      simp only [List.mem_cons, List.not_mem_nil, or_false] at hd
      rcases hd with rfl | rfl | rfl
      · exact (small_wd (.need v t)).mono (by omega)
      · exact small_int.mono (by omega)
      · exact small_ts t).mono (by omega)
  | .stop, _ => (small_tup (n := 0) fun d hd => by
      simp only [List.mem_cons, List.not_mem_nil, or_false] at hd
      subst hd
      exact small_wd .stop).mono (by omega)
  | .call f as v, h => (small_tup (n := 1) fun d hd => by
      rw [Rw.ok] at h
      simp only [List.mem_cons, List.not_mem_nil, or_false] at hd
      rcases hd with rfl | rfl | rfl | rfl
      · exact (small_wd (.call f as v)).mono (by omega)
      · exact (nm_shp h.2.1).mono (by omega)
      · refine small_sq fun d hd => ?_
        obtain ⟨a, _, rfl⟩ := List.mem_map.mp hd
        exact small_int
      · exact small_int.mono (by omega)).mono (by omega)
  | .ite v t b c, h => (small_tup (n := 2 * (Rw.ite v t b c).dep + 2) fun d hd => by
      rw [Rw.ok] at h
      have hb := small_rws (s := s) b h.2.2.1
      have hc := small_rws (s := s) c h.2.2.2
      simp only [List.mem_cons, List.not_mem_nil, or_false] at hd
      rw [Rw.dep]
      rcases hd with rfl | rfl | rfl | rfl | rfl
      · exact (small_wd (.ite v t b c)).mono (by omega)
      · exact small_int.mono (by omega)
      · exact (small_ts t).mono (by omega)
      · exact (small_sq hb).mono (by omega)
      · exact (small_sq hc).mono (by omega)).mono (by omega)
  | .eith b c, h => (small_tup (n := 2 * (Rw.eith b c).dep + 2) fun d hd => by
      rw [Rw.ok] at h
      have hb := small_rws (s := s) b h.1
      have hc := small_rws (s := s) c h.2
      simp only [List.mem_cons, List.not_mem_nil, or_false] at hd
      rw [Rw.dep]
      rcases hd with rfl | rfl | rfl
      · exact (small_wd (.eith b c)).mono (by omega)
      · exact (small_sq hb).mono (by omega)
      · exact (small_sq hc).mono (by omega)).mono (by omega)
  | .whil v t b, h => (small_tup (n := 2 * (Rw.whil v t b).dep + 2) fun d hd => by
      rw [Rw.ok] at h
      have hb := small_rws (s := s) b h.2.2
      simp only [List.mem_cons, List.not_mem_nil, or_false] at hd
      rw [Rw.dep]
      rcases hd with rfl | rfl | rfl | rfl
      · exact (small_wd (.whil v t b)).mono (by omega)
      · exact small_int.mono (by omega)
      · exact (small_ts t).mono (by omega)
      · exact (small_sq hb).mono (by omega)).mono (by omega)
theorem small_rws {m : Int} {tb : List (Key × PyData)} {s : Bool} : ∀ (rs : List Rw), Rw.okl m tb rs → ∀ d ∈ Rw.dl s rs, Small (2 * Rw.depl rs + 3) d
  | [], _, d, hd => by cases hd
  | r :: rs, h, d, hd => by
    rw [Rw.okl] at h
    rw [Rw.depl]; rcases List.mem_cons.mp hd with rfl | hd
    · exact (small_rw r h.1).mono (by omega)
    · exact (small_rws rs h.2 d hd).mono (by omega)
end
section
variable {P : Program} {w : World} {K : PySem.W.Frag} {mg : Str → Option Value} {base : Heap}
def RNm : List En → Unit → KD Unit → KX Unit → Prop := fun es _ k _ => ∃ z, es = [En.da (.str z)] ∧ z.length ≤ 60000 ∧ k (.bool (nmB z)) ()
theorem atI0 {α : Type} {c : α} {cs : List α} : atI (c :: cs) 0 = some c := atI_nat (xs := c :: cs) (j := 0) rfl
abbrev s_is_name : Stmt := top 27
abbrev N_is_name : List Str := ["thing", "character"]
abbrev P_is_name : List Str := ["thing"]
theorem sc_is_name : FnScope N_is_name P_is_name (defScope s_is_name) := ⟨rfl, rfl, rfl, by decide +kernel, rfl, by decide +kernel, by decide +kernel⟩
-- slots: 0 thing, 1 character
theorem kp_is_name (F : At K mg "is_name" s_is_name) (N : Nb mg) (M1 : ∃ t, mg "MOST_CHARACTERS" = some (.int 8 t)) (M2 : ∃ t, mg "SMALL_LETTERS" = some (.str "abcdefghijklmnopqrstuvwxyz" t)) (M3 : ∃ t, mg "FIGURES" = some (.str "0123456789" t)) : Keeps CX0 P w K mg base "is_name" 1 ["thing"] (spX K Co.pure RNm) := by
  obtain ⟨_, mMOST_CHARACTERS⟩ := M1
  obtain ⟨_, mSMALL_LETTERS⟩ := M2
  obtain ⟨_, mFIGURES⟩ := M3
  refine keeps_x F sc_is_name (fun _ _ _ _ _ _ us hl => match us, hl with | [_], _ => rfl) (fun es g k x h => ?_) (fun f cdv A outer s H E es g k x hr h => ?_)
  · obtain ⟨z, rfl, _⟩ := h; rfl
  · obtain ⟨z, rfl, hl, hk⟩ := h
    refine ⟨_, (pss_cons (ps_if (PW.pt (pw_or (pt_not (pt_truth (pe_callB call_isi (by rfl) N.isinstance boot_isinstance (pa_cons (pv 0) (pa_cons (pe_bltn (v := .ty "str") (by rfl) N.str (by decide +kernel) rfl) pa_nil))) (by intro _; rfl))) (pw_or1 (pt_not (pt_chain op_le op_le pe_int (pe_callB call_len (by rfl) N.len (by decide +kernel) (pa_cons (pv 0) pa_nil)) (pe_glob (v := .int 8) (by rfl) mMOST_CHARACTERS ⟨_, rfl⟩)))))) (pss_one (ps_ret pe_bl)) pss_nil)
        (pss_cons (ps_if (pt_cmpR op_notIn_sign (pe_ix ix_str (pv 0) pe_int (fun _ _ => rfl)) (pe_glob (v := .str "abcdefghijklmnopqrstuvwxyz") (by rfl) mSMALL_LETTERS ⟨_, rfl⟩) (by rfl)) (pss_one (ps_ret pe_bl)) pss_nil)
        (pss_one (ps_ret (pe_callB (cr_all rfl) (by rfl) N.all (by decide +kernel) (pa_cons (pe_lc (own := [("character", 1)]) (g := gName 1) (tt := tYes) rfl sc_is_name.nd (pi_str (pv 0)) (blkOk_by (N := N_is_name) (sc := defScope s_is_name) (by decide +kernel)) (fun _ _ _ _ _ => (pg_name (i := 1) sc_is_name.nd rfl (by walk_at "lv"))) (fun _ _ _ _ _ => pts_nil) (fun _ _ _ _ _ => (pe_or (pe_cmpR op_in_sign (pv 1) (pe_glob (v := .str "abcdefghijklmnopqrstuvwxyz") (by rfl) mSMALL_LETTERS ⟨_, rfl⟩) (by rfl)) (pe_one (pe_cmpR op_in_sign (pv 1) (pe_glob (v := .str "0123456789") (by rfl) mFIGURES ⟨_, rfl⟩) (by rfl)))))) pa_nil)))))), ?_⟩
    try dsimp only [cxOf, L2.Cx.wish]
    have hlen : lenD (.str z) = some z.length := if_pos hl
    walk_at "wq"
    refine ⟨_, _, _, rfl, isi_str z, ?_⟩
    walk_at "wq"
    have e1 := str_len z
    cases ez : z.cps.toList with
    | nil =>
      rw [ez] at e1
      rw [show nmB z = false by unfold nmB; rw [ez]] at hk
      refine ⟨fun h => ?_, fun _ => ?_⟩
      · have := of_decide_eq_true h; rw [e1] at this; exact absurd this (by decide)
      · walk_at "wq"
        exact hk
    | cons c cs =>
      rw [ez] at e1
      rw [show nmB z = (decide ((c :: cs).length ≤ 8) && (inZ smallZ c && (c :: cs).all fun c => inZ smallZ c || inZ figZ c)) by unfold nmB; rw [ez]] at hk
      refine ⟨fun h1 => ?_, fun h => ?_⟩
      · walk_at "wq"
        rw [e1]
        by_cases h8 : (c :: cs).length ≤ 8
        · rw [decide_eq_true h8, Bool.true_and] at hk
          rw [show decide (((c :: cs).length : Int) ≤ 8) = true from decide_eq_true (by omega)]
          walk_at "wq"
          refine We_op rd_notInS ?_
          refine We_op rd_ixS ?_
          walk_at "wr"
          refine ⟨z, 0, c, rfl, rfl, hl, by rw [ez]; exact atI0, ?_⟩
          walk_at "wr"
          refine ⟨fun h2 => ?_, fun h2 => ?_⟩
          · rw [show inZ smallZ c = false by unfold inZ; simpa using h2, Bool.false_and] at hk
            walk_at "wq"
            exact hk
          · rw [show inZ smallZ c = true by unfold inZ; simpa using h2, Bool.true_and] at hk
            walk_at "wq"
            refine We_new (Wn_map (GIn.name (by decide)) (Wi_str ?_))
            walk_at "wr"
            refine ⟨by rw [List.length_map, ← str_len]; exact hl, (z.cps.toList.map fun c => inZ smallZ c || inZ figZ c).map .bool, by rw [List.length_map, List.length_map, List.length_map], fun j d e hd he => ?_, ?_⟩
            · rw [List.getElem?_map] at hd
              obtain ⟨cc, hc, rfl⟩ := Option.map_eq_some_iff.mp hd
              rw [List.map_map, List.getElem?_map, hc] at he
              cases he
              walk_at "wr"
              refine We_op rd_inS ?_
              walk_at "wr"
              show (decide (cc ∈ smallZ.cps.toList) = false → _) ∧ (decide (cc ∈ smallZ.cps.toList) = true → _)
              refine ⟨fun hb => ?_, fun hb => ⟨?_, rfl⟩⟩
              · refine We_op rd_inS ?_
                walk_at "wr"
                refine ⟨?_, rfl⟩
                show PyData.bool (decide (cc ∈ figZ.cps.toList)) = .bool (decide (cc ∈ smallZ.cps.toList) || decide (cc ∈ figZ.cps.toList))
                rw [hb, Bool.false_or]
              · show PyData.bool true = .bool (decide (cc ∈ smallZ.cps.toList) || decide (cc ∈ figZ.cps.toList))
                rw [hb, Bool.true_or]
            · walk_at "wr"
              rw [List.all_map]
              rw [ez]
              exact hk
        · rw [decide_eq_false h8, Bool.false_and] at hk
          rw [show decide (((c :: cs).length : Int) ≤ 8) = false from decide_eq_false (by omega)]
          walk_at "wq"
          exact hk
      · have := of_decide_eq_false h; rw [e1, List.length_cons] at this; omega
end
def Rw.vr : Rw → Int
  | .deed v _ => v
  | .copy v _ => v
  | .need v _ => v
  | .ite v _ _ _ => v
  | .whil v _ _ => v
  | .call _ _ v => v
  | _ => 0
/-- shape of a row's data -/
structure RwS (s : Bool) (r : Rw) : Prop where
  all : Shp (Rw.d s r)
  bl : ∀ b ∈ r.bl, Shp (sq s (Rw.dl s b))
theorem RwS.of {m : Int} {tb : List (Key × PyData)} {s : Bool} {r : Rw} (h : r.ok m tb) (hd : r.dep ≤ 25) : RwS s r := ⟨(small_rw (s := s) r h).shaped (by omega), fun b hb => (small_sq (small_rws (s := s) b (ok_bl h hb))).shaped (by have := dep_bl hb; omega)⟩
theorem shp_args {s : Bool} (as : List Int) : Shp (sq s (as.map .int)) := (small_sq (n := 0) fun d hd => by
  obtain ⟨a, _, rfl⟩ := List.mem_map.mp hd
  exact small_int).shaped (by decide)
theorem lenD_rw (s : Bool) (r : Rw) : ∃ n : Nat, lenD (Rw.d s r) = some n ∧ tblL r.wd = some (n : Int) := by
  cases r with
  | deed v l => exact ⟨3, rfl, (show tblL "deed" = some 3 by decide +kernel)⟩
  | copy v l => exact ⟨3, rfl, (show tblL "copy" = some 3 by decide +kernel)⟩
  | need v l => exact ⟨3, rfl, (show tblL "need" = some 3 by decide +kernel)⟩
  | ite v t b c => exact ⟨5, rfl, (show tblL "if" = some 5 by decide +kernel)⟩
  | eith b c => exact ⟨3, rfl, (show tblL "either" = some 3 by decide +kernel)⟩
  | whil v t b => exact ⟨4, rfl, (show tblL "while" = some 4 by decide +kernel)⟩
  | call v l a => exact ⟨4, rfl, (show tblL "call" = some 4 by decide +kernel)⟩
  | stop => exact ⟨1, rfl, (show tblL "stop" = some 1 by decide +kernel)⟩
theorem isSq_rw (s : Bool) (r : Rw) : isSq (Rw.d s r) = true := by cases r <;> rfl
theorem tru_rw (s : Bool) (r : Rw) : truD (Rw.d s r) = some true := by cases r <;> rfl
theorem wd_mem (r : Rw) : r.wd ∈ words8 := by cases r <;> simp [Rw.wd, words8]
section
variable {P : Program} {w : World} {K : PySem.W.Frag} {mg : Str → Option Value} {base : Heap}
def RSqO : List En → Unit → KD Unit → KX Unit → Prop := fun es _ k _ => ∃ s ds, ∃ n : Int, es = [En.da (sq s ds), En.da (.int n)] ∧ Shp (sq s ds) ∧ k (.bool (decide ((ds.length : Int) = n))) ()
abbrev s_is_sequence_of : Stmt := top 4
abbrev N_is_sequence_of : List Str := ["thing", "many"]
abbrev P_is_sequence_of : List Str := ["thing", "many"]
theorem sc_is_sequence_of : FnScope N_is_sequence_of P_is_sequence_of (defScope s_is_sequence_of) := ⟨rfl, rfl, rfl, by decide +kernel, rfl, by decide +kernel, by decide +kernel⟩
-- slots: 0 thing, 1 many
theorem kp_is_sequence_of (F : At K mg "is_sequence_of" s_is_sequence_of) (N : Nb mg) (G_is_sequence : Keeps CX0 P w K mg base "is_sequence" 1 ["thing"] (spSeq_ K)) : Keeps CX0 P w K mg base "is_sequence_of" 2 ["thing", "many"] (spX K Co.pure RSqO) := by
  refine keeps_x F sc_is_sequence_of (fun _ _ _ _ _ _ us hl => match us, hl with | [_, _], _ => rfl) (fun es g k x h => ?_) (fun f cdv A outer s H E es g k x hr h => ?_)
  · obtain ⟨s, ds, n, rfl, _⟩ := h; rfl
  · obtain ⟨s, ds, n, rfl, hs, hk⟩ := h
    refine ⟨_, (pss_one (ps_ret (pe_and (pe_k (G_is_sequence.up (by omega)) hr (by rfl) pass0 (pa_cons (pv 0) pa_nil)) (pe_one (pe_cmpR (op_eqD hr.units) (pe_callB call_len (by rfl) N.len (by decide +kernel) (pa_cons (pv 0) pa_nil)) (pv 1) (nomark _)))))), ?_⟩
    try dsimp only [cxOf, L2.Cx.wish]
    have hl : lenD (sq s ds) = some ds.length := lenD_sq
    walk_at "wq"
    rw [isSq_sq]
    walk_at "wq"
    rw [eqv_int]
    exact hk
def RForm : List En → Unit → KD Unit → KX Unit → Prop := fun es _ k _ => ∃ s r, es = [En.da (Rw.d s r)] ∧ Shp (Rw.d s r) ∧ k (.bool true) ()
abbrev s__has_row_form : Stmt := top 32
abbrev N__has_row_form : List Str := ["row"]
abbrev P__has_row_form : List Str := ["row"]
theorem sc__has_row_form : FnScope N__has_row_form P__has_row_form (defScope s__has_row_form) := ⟨rfl, rfl, rfl, by decide +kernel, rfl, by decide +kernel, by decide +kernel⟩
-- slots: 0 row
theorem kp__has_row_form (F : At K mg "_has_row_form" s__has_row_form) (N : Nb mg) (S : DicI K w mg "LENGTHS" words8 tblL) (G_is_sequence : Keeps CX0 P w K mg base "is_sequence" 1 ["thing"] (spSeq_ K)) : Keeps CX0 P w K mg base "_has_row_form" 2 ["row"] (spX K Co.pure RForm) := by
  refine keeps_x F sc__has_row_form (fun _ _ _ _ _ _ us hl => match us, hl with | [_], _ => rfl) (fun es g k x h => ?_) (fun f cdv A outer s H E es g k x hr h => ?_)
  · obtain ⟨s, r, rfl, _⟩ := h; rfl
  · obtain ⟨s, r, rfl, hs, hk⟩ := h
    obtain ⟨dLENGTHS, mLENGTHS, ⟨es, n, DLENGTHS⟩, dl⟩ := S.ex
    refine ⟨_, (pss_cons (ps_if (PW.pt (pw_or (pt_not (pt_truth (pe_k (G_is_sequence.up (by omega)) hr (by rfl) pass0 (pa_cons (pv 0) pa_nil)) (by intro _; rfl))) (pw_or (pt_not (pt_truth (pv 0) (by intro _; rfl))) (pw_or1 (pt_not (pt_truth (pe_callB call_isi (by rfl) N.isinstance boot_isinstance (pa_cons (pe_ix ix_any (pv 0) pe_int (fun _ _ => rfl)) (pa_cons (pe_bltn (v := .ty "str") (by rfl) N.str (by decide +kernel) rfl) pa_nil))) (by intro _; rfl))))))) (pss_one (ps_ret pe_bl)) pss_nil)
        (pss_one (ps_ret (pe_and (pe_cmpR (op_in_kd DLENGTHS) (pe_ix ix_any (pv 0) pe_int (fun _ _ => rfl)) (pe_glob (v := .ref dLENGTHS) (by rfl) mLENGTHS rfl) (by rfl)) (pe_one (pe_cmpR (op_eqD hr.units) (pe_callB call_len (by rfl) N.len (by decide +kernel) (pa_cons (pv 0) pa_nil)) (pe_ix ix_kdict (pe_glob (v := .ref dLENGTHS) (by rfl) mLENGTHS rfl) (pe_ix ix_any (pv 0) pe_int (fun _ _ => rfl)) (fun _ _ => rfl)) (nomark _))))))), ?_⟩
    try dsimp only [cxOf, L2.Cx.wish]
    obtain ⟨ds, e1, e2⟩ := rw_ix0 s r
    obtain ⟨ln, l1, l2⟩ := lenD_rw s r
    have hd := dl r.wd (wd_mem r)
    rw [l2] at hd
    obtain ⟨tt, hd⟩ := hd
    walk_at "wq"
    rw [isSq_rw]
    walk_at "wq"
    rw [tru_rw]
    walk_at "wq"
    refine ⟨ds, 0, _, e1, rfl, e2, ?_⟩
    walk_at "wq"
    refine ⟨_, _, _, rfl, isi_str _, ?_⟩
    walk_at "wq"
    refine ⟨ds, 0, _, e1, rfl, e2, ?_⟩
    walk_at "wq"
    refine ⟨ds, 0, _, e1, rfl, e2, ?_⟩
    walk_at "wq"
    rw [eqv_int, decide_eq_true rfl]
    exact hk
def RCf : List En → Unit → KD Unit → KX Unit → Prop := fun es _ k _ => ∃ s f as v m tb, es = [En.da (Rw.d s (.call f as v)), En.da (.int m), En.da (dkD tb)] ∧ Rw.ok m tb (.call f as v) ∧ k .none ()
abbrev s__call_fault : Stmt := top 33
abbrev N__call_fault : List Str := ["row", "variables", "variables_of", "_", "callee", "args", "source"]
abbrev P__call_fault : List Str := ["row", "variables", "variables_of"]
theorem sc__call_fault : FnScope N__call_fault P__call_fault (defScope s__call_fault) := ⟨rfl, rfl, rfl, by decide +kernel, rfl, by decide +kernel, by decide +kernel⟩
-- slots: 0 row, 1 variables, 2 variables_of, 3 _, 4 callee, 5 args, 6 source
theorem kp__call_fault (F : At K mg "_call_fault" s__call_fault) (N : Nb mg) (G_is_sequence : Keeps CX0 P w K mg base "is_sequence" 1 ["thing"] (spSeq_ K)) (G_is_whole_from : Keeps CX0 P w K mg base "is_whole_from" 2 ["thing", "low", "high"] (spWholeF_ K)) : Keeps CX0 P w K mg base "_call_fault" 3 ["row", "variables", "variables_of"] (spX K Co.pure RCf) := by
  refine keeps_x F sc__call_fault (fun _ _ _ _ _ _ us hl => match us, hl with | [_, _, _], _ => rfl) (fun es g k x h => ?_) (fun f cdv A outer s H E es g k x hr h => ?_)
  · obtain ⟨s, f, as, v, m, tb, rfl, _⟩ := h; rfl
  · obtain ⟨s, fn, as, v, m, tb, rfl, ho, hk⟩ := h
    refine ⟨_, (pss_cons (ps_asg (pv 0) (pg_tupA (by rfl) (pgs_cons (pg_name (i := 3) sc__call_fault.nd rfl (by walk_at "lv")) (pgs_cons (pg_name (i := 4) sc__call_fault.nd rfl (by walk_at "lv")) (pgs_cons (pg_name (i := 5) sc__call_fault.nd rfl (by walk_at "lv")) (pgs_cons (pg_name (i := 3) sc__call_fault.nd rfl (by walk_at "lv")) pgs_nil))))))
        (pss_cons (ps_if (PW.pt (pw_or (pt_not (pt_truth (pe_callB call_isi (by rfl) N.isinstance boot_isinstance (pa_cons (pv 4) (pa_cons (pe_bltn (v := .ty "str") (by rfl) N.str (by decide +kernel) rfl) pa_nil))) (by intro _; rfl))) (pw_or1 (pt_cmp (pc_dnotin (hu_of hr) (pv 4) (pv 2)))))) (pss_one (ps_ret pe_str)) pss_nil)
        (pss_cons (ps_if (PW.pt (pw_or (pt_not (pt_truth (pe_k (G_is_sequence.up (by omega)) hr (by rfl) pass0 (pa_cons (pv 5) pa_nil)) (by intro _; rfl))) (pw_or1 (pt_cmpR op_gt (pe_callB call_len (by rfl) N.len (by decide +kernel) (pa_cons (pv 5) pa_nil)) (pe_dget (hu_of hr) (pv 2) (pv 4) (fun _ _ => rfl)) (nomark _))))) (pss_one (ps_ret pe_str)) pss_nil)
        (pss_cons (ps_if (pt_not (pt_truth (pe_callB (cr_all rfl) (by rfl) N.all (by decide +kernel) (pa_cons (pe_lc (own := [("source", 6)]) (g := gName 6) (tt := tYes) rfl sc__call_fault.nd (pi_seqE (pv 5)) (blkOk_by (N := N__call_fault) (sc := defScope s__call_fault) (by decide +kernel)) (fun _ _ _ _ _ => (pg_name (i := 6) sc__call_fault.nd rfl (by walk_at "lv"))) (fun _ _ _ _ _ => pts_nil) (fun _ _ _ _ _ => (pe_k (G_is_whole_from.up (by omega)) hr (by rfl) pass0 (pa_cons (pv 6) (pa_cons pe_int (pa_cons (pe_op op_sub (pv 1) pe_int) pa_nil)))))) pa_nil)) (by intro _; rfl))) (pss_one (ps_ret pe_str)) pss_nil)
        (pss_one (ps_ret pe_non)))))), ?_⟩
    try dsimp only [cxOf, L2.Cx.wish]
    rw [Rw.ok] at ho
    obtain ⟨hv, hn, ⟨c, hc, hac⟩, ha6, hall⟩ := ho
    have hl : lenD (sq s (as.map PyData.int)) = some (as.map PyData.int).length := lenD_sq
    have hs : Shp (sq s (as.map PyData.int)) := shp_args as
    walk_at "wq"
    refine Ws_asg (We_var rfl (Wg_tupA ⟨_, rfl, rfl, Wgs_cons (Wx_name ⟨rfl, Wgs_cons (Wx_name ⟨rfl, Wgs_cons (Wx_name ⟨rfl, Wgs_cons (Wx_name ⟨rfl, Wgs_nil ?_⟩)⟩)⟩)⟩)⟩))
    walk_at "wq"
    refine ⟨_, _, _, rfl, isi_str _, ?_⟩
    walk_at "wq"
    refine ⟨tb, .inr fn, rfl, rfl, ?_⟩
    rw [hc]
    walk_at "wq"
    rw [isSq_sq]
    walk_at "wq"
    refine ⟨tb, .inr fn, _, rfl, rfl, hc, ?_⟩
    walk_at "wq"
    rw [List.length_map]
    rw [show decide (c < (as.length : Int)) = false from decide_eq_false (by omega)]
    walk_at "wq"
    refine We_new (Wn_map (GIn.name (by decide)) (Wi_seq ?_))
    walk_at "wr"
    refine ⟨_, rowsOf_sq, by rw [List.length_map]; omega, (as.map fun _ => true).map .bool, by rw [List.length_map, List.length_map, List.length_map], fun j d e hd he => ?_, ?_⟩
    · rw [List.getElem?_map] at hd
      obtain ⟨a, ha, rfl⟩ := Option.map_eq_some_iff.mp hd
      rw [List.map_map, List.getElem?_map, ha] at he
      cases he
      obtain ⟨h0, h1⟩ := hall a (List.mem_of_getElem? ha)
      walk_at "wr"
      refine ⟨.int a, 0, m - 1, rfl, by simp [PyData.canLay0], ?_, rfl⟩
      show PyData.bool (decide (0 ≤ a) && decide (a ≤ m - 1)) = .bool true
      rw [decide_eq_true h0, decide_eq_true (by omega)]
      rfl
    · walk_at "wq"
      rw [show ((as.map fun _ => true).all id) = true by simp]
      walk_at "wq"
      exact hk
/-- what is said of a row that is let, but for its depth -/
def deepF (r : Rw) (depth : Int) : PyData := if r.bl ≠ [] ∧ 20 ≤ depth then .str "deep" else .none
theorem blD_isE (s : Bool) (r : Rw) : (blD s r).isEmpty = r.bl.isEmpty := by unfold blD; cases r.bl <;> rfl
def RRf : List En → Unit → KD Unit → KX Unit → Prop := fun es _ k _ => ∃ s r m tb depth, es = [En.da (Rw.d s r), En.da (.int m), En.da (dkD tb), En.da (.int depth)] ∧ Rw.ok m tb r ∧ r.dep ≤ 25 ∧ k (deepF r depth) ()
theorem wr_ok {a m : Int} (h : 0 ≤ a ∧ a < m) : wDd 0 (m - 1) (.int a) = true := by
  show (decide (0 ≤ a) && decide (a ≤ m - 1)) = true
  rw [decide_eq_true h.1, decide_eq_true (by omega)]
  rfl
theorem Ws_no_if {γ : Type} {B : Bd γ} {tt : TT} {t u : TS} {g : γ} {ρ : List En} {kt : Kz γ} (h : Wt B tt g ρ fun b g1 => b = false ∧ g1 = g) (h2 : Ws B u g ρ kt) : Ws B (tIfS tt t u) g ρ kt := Ws_if (h.mono fun b g1 ⟨e1, e2⟩ => by subst e1 e2; exact ⟨fun z => (nomatch z), fun _ => h2⟩)
theorem vr_ix (s : Bool) {r : Rw} {m : Int} {tb : List (Key × PyData)} (h : r.ok m tb) : tblV r.wd = none ∨ ∃ i, tblV r.wd = some i ∧ (∃ ds, rowsOf (Rw.d s r) = some ds ∧ atI ds i = some (.int r.vr)) ∧ 0 ≤ r.vr ∧ r.vr < m := by
  cases r with
  | deed v l => rw [Rw.ok] at h; exact .inr ⟨1, (show tblV "deed" = some 1 by decide +kernel), ⟨_, rfl, rfl⟩, h.1⟩
  | copy v l => rw [Rw.ok] at h; exact .inr ⟨1, (show tblV "copy" = some 1 by decide +kernel), ⟨_, rfl, rfl⟩, h.1⟩
  | need v l => rw [Rw.ok] at h; exact .inr ⟨1, (show tblV "need" = some 1 by decide +kernel), ⟨_, rfl, rfl⟩, h.1⟩
  | ite v t b c => rw [Rw.ok] at h; exact .inr ⟨1, (show tblV "if" = some 1 by decide +kernel), ⟨_, rfl, rfl⟩, h.1⟩
  | eith b c => exact .inl (show tblV "either" = none by decide +kernel)
  | whil v t b => rw [Rw.ok] at h; exact .inr ⟨1, (show tblV "while" = some 1 by decide +kernel), ⟨_, rfl, rfl⟩, h.1⟩
  | call f as v => rw [Rw.ok] at h; exact .inr ⟨3, (show tblV "call" = some 3 by decide +kernel), ⟨_, rfl, rfl⟩, h.1⟩
  | stop => exact .inl (show tblV "stop" = none by decide +kernel)
theorem lt_rows (l : Lt) : rowsOf l.d = some l.ds := by cases l <;> rfl
theorem ts_rows (l : Ts) : rowsOf l.d = some l.ds := by cases l <;> rfl
abbrev s__row_fault : Stmt := top 31
abbrev N__row_fault : List Str := ["row", "variables", "variables_of", "depth", "word", "blocks", "block"]
abbrev P__row_fault : List Str := ["row", "variables", "variables_of", "depth"]
theorem sc__row_fault : FnScope N__row_fault P__row_fault (defScope s__row_fault) := ⟨rfl, rfl, rfl, by decide +kernel, rfl, by decide +kernel, by decide +kernel⟩
-- slots: 0 row, 1 variables, 2 variables_of, 3 depth, 4 word, 5 blocks, 6 block
theorem kp__row_fault (F : At K mg "_row_fault" s__row_fault) (N : Nb mg) (M1 : ∃ t, mg "DEEPEST" = some (.int 20 t)) (S : DicI K w mg "VARIABLE_AT" words8 tblV) (G_is_sequence : Keeps CX0 P w K mg base "is_sequence" 1 ["thing"] (spSeq_ K)) (G_is_whole_from : Keeps CX0 P w K mg base "is_whole_from" 2 ["thing", "low", "high"] (spWholeF_ K))
    (G__has_row_form : Keeps CX0 P w K mg base "_has_row_form" 2 ["row"] (spX K Co.pure RForm)) (G__call_fault : Keeps CX0 P w K mg base "_call_fault" 3 ["row", "variables", "variables_of"] (spX K Co.pure RCf)) (G_blocks_of : Keeps CX0 P w K mg base "blocks_of" 2 ["row"] (spX K Co.pure RBlk))
    (G_fits_letter : Keeps CX0 P w K mg base "fits_letter" 3 ["letter"] (spFit_ K flT)) (G_fits_test : Keeps CX0 P w K mg base "fits_test" 3 ["test"] (spFit_ K ftT)) : Keeps CX0 P w K mg base "_row_fault" 4 ["row", "variables", "variables_of", "depth"] (spX K Co.pure RRf) := by
  obtain ⟨_, mDEEPEST⟩ := M1
  refine keeps_x F sc__row_fault (fun _ _ _ _ _ _ us hl => match us, hl with | [_, _, _, _], _ => rfl) (fun es g k x h => ?_) (fun f cdv A outer s H E es g k x hr h => ?_)
  · obtain ⟨s, r, m, tb, depth, rfl, _⟩ := h; rfl
  · obtain ⟨s, r, m, tb, depth, rfl, ho, hd, hk⟩ := h
    obtain ⟨dVARIABLE_AT, mVARIABLE_AT, ⟨es, n, DVARIABLE_AT⟩, dl⟩ := S.ex
    refine ⟨_, (pss_cons (ps_if (pt_not (pt_truth (pe_k (G__has_row_form.up (by omega)) hr (by rfl) pass0 (pa_cons (pv 0) pa_nil)) (by intro _; rfl))) (pss_one (ps_ret pe_str)) pss_nil)
        (pss_cons (ps_set (i := 4) sc__row_fault.nd rfl (by walk_at "lv") (pe_ix ix_any (pv 0) pe_int (fun _ _ => rfl)))
        (pss_cons (ps_if (PW.pt (pw_and (pt_cmpR (op_in_kd DVARIABLE_AT) (pv 4) (pe_glob (v := .ref dVARIABLE_AT) (by rfl) mVARIABLE_AT rfl) (by rfl)) (pw_and1 (pt_not (pt_truth (pe_k (G_is_whole_from.up (by omega)) hr (by rfl) pass0 (pa_cons (pe_ix ix_any (pv 0) (pe_ix ix_kdict (pe_glob (v := .ref dVARIABLE_AT) (by rfl) mVARIABLE_AT rfl) (pv 4) (fun _ _ => rfl)) (fun _ _ => rfl)) (pa_cons pe_int (pa_cons (pe_op op_sub (pv 1) pe_int) pa_nil)))) (by intro _; rfl)))))) (pss_one (ps_ret pe_str)) pss_nil)
        (pss_cons (ps_if (PW.pt (pw_and (pt_cmpR (op_eqD hr.units) (pv 4) pe_str (nomark _)) (pw_and1 (pt_not (pt_truth (pe_k (G_is_whole_from.up (by omega)) hr (by rfl) pass0 (pa_cons (pe_ix ix_any (pv 0) pe_int (fun _ _ => rfl)) (pa_cons pe_int (pa_cons (pe_op op_sub (pv 1) pe_int) pa_nil)))) (by intro _; rfl)))))) (pss_one (ps_ret pe_str)) pss_nil)
        (pss_cons (ps_if (PW.pt (pw_and (pt_cmpR (op_eqD hr.units) (pv 4) pe_str (nomark _)) (pw_and1 (pt_not (pt_truth (pe_k (G_fits_letter.up (by omega)) hr (by rfl) pass0 (pa_cons (pe_ix ix_any (pv 0) pe_int (fun _ _ => rfl)) pa_nil)) (by intro _; rfl)))))) (pss_one (ps_ret pe_str)) pss_nil)
        (pss_cons (ps_if (PW.pt (pw_and (pt_cmpR (op_inT (Room.u65 hr)) (pv 4) (pe_tup (pa_cons pe_str (pa_cons pe_str (pa_cons pe_str pa_nil)))) (by rfl)) (pw_and1 (pt_not (pt_truth (pe_k (G_fits_test.up (by omega)) hr (by rfl) pass0 (pa_cons (pe_ix ix_any (pv 0) pe_int (fun _ _ => rfl)) pa_nil)) (by intro _; rfl)))))) (pss_one (ps_ret pe_str)) pss_nil)
        (pss_cons (ps_if (pt_cmpR (op_eqD hr.units) (pv 4) pe_str (nomark _)) (pss_one (ps_ret (pe_k (G__call_fault.up (by omega)) hr (by rfl) pass0 (pa_cons (pv 0) (pa_cons (pv 1) (pa_cons (pv 2) pa_nil)))))) pss_nil)
        (pss_cons (ps_set (i := 5) sc__row_fault.nd rfl (by walk_at "lv") (pe_k (G_blocks_of.up (by omega)) hr (by rfl) pass0 (pa_cons (pv 0) pa_nil)))
        (pss_cons (ps_if (pt_not (pt_truth (pe_callB (cr_all rfl) (by rfl) N.all (by decide +kernel) (pa_cons (pe_lc (own := [("block", 6)]) (g := gName 6) (tt := tYes) rfl sc__row_fault.nd (pi_seqE (pv 5)) (blkOk_by (N := N__row_fault) (sc := defScope s__row_fault) (by decide +kernel)) (fun _ _ _ _ _ => (pg_name (i := 6) sc__row_fault.nd rfl (by walk_at "lv"))) (fun _ _ _ _ _ => pts_nil) (fun _ _ _ _ _ => (pe_k (G_is_sequence.up (by omega)) hr (by rfl) pass0 (pa_cons (pv 6) pa_nil)))) pa_nil)) (by intro _; rfl))) (pss_one (ps_ret pe_str)) pss_nil)
        (pss_cons (ps_if (PW.pt (pw_and (pt_truth (pv 5) (by intro _; rfl)) (pw_and1 (pt_cmpR op_ge (pv 3) (pe_glob (v := .int 20) (by rfl) mDEEPEST ⟨_, rfl⟩) (nomark _))))) (pss_one (ps_ret pe_str)) pss_nil)
        (pss_one (ps_ret pe_non)))))))))))), ?_⟩
    try dsimp only [cxOf, L2.Cx.wish]
    have hS := RwS.of (s := s) ho hd
    have hs := hS.all
    obtain ⟨ds, e1, e2⟩ := rw_ix0 s r
    refine Ws_seq (Ws_no_if ?_ (Ws_next ?_))
    · walk_at "wr"
      first | exact ⟨rfl, rfl⟩ | rfl
    refine Ws_seq (Wx_set ?_)
    walk_at "wr"
    refine ⟨ds, 0, _, e1, rfl, e2, ?_⟩
    walk_at "wr"
    have sw := shp_wd r
    refine Ws_seq (Ws_no_if ?_ (Ws_next ?_))
    · have hd := dl r.wd (wd_mem r)
      rcases vr_ix s ho with hv | ⟨i, hv, q1, q2⟩
      · rw [hv] at hd
        walk_at "wr"
        first | exact ⟨rfl, rfl⟩ | rfl
      · rw [hv] at hd
        obtain ⟨tt, hd⟩ := hd
        obtain ⟨es2, q3, q4⟩ := q1
        walk_at "wr"
        refine ⟨es2, _, _, q3, rfl, q4, ?_⟩
        walk_at "wr"
        rw [wr_ok q2]
        walk_at "wr"
        first | exact ⟨rfl, rfl⟩ | rfl
    refine Ws_seq (Ws_no_if ?_ (Ws_next ?_))
    · walk_at "wr"
      rw [eqv_wd]
      refine ⟨fun h => ?_, fun h => ?_⟩
      · cases r with
        | copy v u =>
          rw [Rw.ok] at ho
          walk_at "wr"
          rw [wr_ok ho.2]
          walk_at "wr"
          first | exact ⟨rfl, rfl⟩ | rfl
        | _ => exact absurd (of_decide_eq_true h) (by simp only [Rw.wd]; decide +kernel)
      · first | exact ⟨rfl, rfl⟩ | rfl
    refine Ws_seq (Ws_no_if ?_ (Ws_next ?_))
    · walk_at "wr"
      rw [eqv_wd]
      refine ⟨fun h => ?_, fun h => ?_⟩
      · cases r with
        | deed v l =>
          rw [Rw.ok] at ho
          have hl := shp_lt l
          have hf : flT l.d = true := flT_of ho.2 (lt_rows l)
          walk_at "wr"
          rw [hf]
          walk_at "wr"
          first | exact ⟨rfl, rfl⟩ | rfl
        | _ => exact absurd (of_decide_eq_true h) (by simp only [Rw.wd]; decide +kernel)
      · first | exact ⟨rfl, rfl⟩ | rfl
    refine Ws_seq (Ws_no_if ?_ (Ws_next ?_))
    · walk_at "wr"
      refine ⟨fun h => ?_, fun h => ?_⟩
      · have key : ∀ (v : Int) (t : Ts), (∃ es, rowsOf (Rw.d s r) = some es ∧ atI es 2 = some t.d) → t.Ok → Wt ⟨K, Co.pure, E, x⟩ (tNot fun σ H Q => tCall (spFit_ K ftT) [] E0 (tCons (tOp (rIxA K) (tVar 0) (tC (.int 2))) tNil) σ H fun x H' => ∃ k, TruV K x H' k ∧ Q k H') g ((slots N__row_fault [En.da (Rw.d s r), En.da (.int m), En.da (dkD tb), En.da (.int depth)]).set 4 (En.da (.str r.wd))) fun b g1 => b = false ∧ g1 = g := by
          rintro v t ⟨es, q1, q2⟩ ok
          have hl := shp_ts t
          have hf : ftT t.d = true := ftT_of ok (ts_rows t)
          walk_at "wr"
          refine ⟨es, _, _, q1, rfl, q2, ?_⟩
          walk_at "wr"
          rw [hf]
          walk_at "wr"
          first | exact ⟨rfl, rfl⟩ | rfl
        cases r with
        | need v t => rw [Rw.ok] at ho; exact key v t ⟨_, rfl, rfl⟩ ho.2
        | ite v t b c => rw [Rw.ok] at ho; exact key v t ⟨_, rfl, rfl⟩ ho.2.1
        | whil v t b => rw [Rw.ok] at ho; exact key v t ⟨_, rfl, rfl⟩ ho.2.1
        | _ => exact absurd h (by simp only [Rw.wd, List.any_cons, List.any_nil, eqv_str]; decide +kernel)
      · first | exact ⟨rfl, rfl⟩ | rfl
    by_cases hc : r.wd = "call"
    · cases r with
      | call f as v =>
        walk_at "wq"
        exact ⟨s, f, as, v, m, tb, rfl, ho, hk⟩
      | _ => exact absurd hc (by simp only [Rw.wd]; decide +kernel)
    refine Ws_seq (Ws_no_if ?_ (Ws_next ?_))
    · walk_at "wr"
      rw [eqv_wd]
      exact ⟨decide_eq_false hc, rfl⟩
    refine Ws_seq (Wx_set ?_)
    walk_at "wr"
    refine Ws_seq (Ws_no_if ?_ (Ws_next ?_))
    · walk_at "wr"
      refine We_new (Wn_map (GIn.name (by decide)) (Wi_seq ?_))
      walk_at "wr"
      refine ⟨blD_len s r, (r.bl.map fun _ => true).map .bool, by rw [blD, List.length_map, List.length_map, List.length_map], fun j d e hd he => ?_, ?_⟩
      · obtain ⟨b, hb, rfl⟩ := blD_get hd
        rw [List.map_map, List.getElem?_map, hb] at he
        cases he
        have hsb := hS.bl b (List.mem_of_getElem? hb)
        walk_at "wr"
        refine ⟨congrArg PyData.bool isSq_sq, rfl⟩
      · walk_at "wr"
        rw [show ((r.bl.map fun _ => true).all id) = true by simp]
        walk_at "wr"
        first | exact ⟨rfl, rfl⟩ | rfl
    unfold deepF at hk
    walk_at "wq"
    rw [blD_isE]
    refine ⟨fun h => ?_, fun h => ?_⟩
    · have hne : r.bl ≠ [] := fun z => by rw [z] at h; cases h
      walk_at "wq"
      refine ⟨fun h => ?_, fun h => ?_⟩
      · rw [if_pos ⟨hne, of_decide_eq_true h⟩] at hk
        walk_at "wq"
        exact hk
      · rw [if_neg (fun z => of_decide_eq_false h z.2)] at hk
        walk_at "wq"
        exact hk
    · have he : r.bl = [] := by simpa using h
      rw [if_neg (fun z => z.1 he)] at hk
      walk_at "wq"
      exact hk
end
/-! ### errors whose context is None -/
section
variable {X : L2.Cx} {x f0 : Str} {e : Expr} {es : List Expr} {ta : TA} {p pos : Pos} {k : Nat} {fs : List Str}
theorem pmk_eN (S : ErrA X.prog X.w X.K X.mg X.base x (f0 :: fs)) (hr : Room (k + 2) X.A) (hg : Gl X x) (ha : PA X (e :: es) ta)
    (dbg : (x == ("__debug__" : Str)) = false := by decide) (hst : starEach (e :: es) X.env = (false, eval e X.env) :: starEach es X.env := by rfl) (hpl : (backTo pos (starEach es X.env)).any (·.1) = false := by rfl) :
    L2N.PMk X (.Call (.Name x p) (e :: es) [] pos) (fun σ H W => tMkO (He.ga X.K x) (spIni (He.ga X.K x) (f0 :: fs)) [] ta σ H W) := by
  obtain ⟨fd, F, binds⟩ := S.xi
  obtain ⟨iC, tI⟩ := S.xt.ini (fun z => nomatch z)
  have T := S.xt.ox
  have room : Room (0 + 1 + 1) X.A := hr.mono (by omega)
  intro pins s σ H W I asked
  obtain ⟨cn, cq, cN, cbs, cbm, csn, csub, cab, ccol, cdd, c0, c1, c2, c3, c5, look, mro⟩ := T.cls
  refine wpAny_Call_Name_kw (ld_glob I hg S.xt.g (PySem.W.callWith_K (h₀ := X.base) I.ok.mod.kin T.kC (thn (ha.run pos pins s σ H _ I asked) fun us s1 ⟨vs, H1, I1, r1, big, w1⟩ => ⟨I1.kIn, ?_⟩) hst hpl) dbg)
  obtain ⟨hp, gn, dr, tk, os⟩ := s1
  have fresh : H1 (hp.objs.size + 1) = none := I1.hok.fresh (Nat.le_succ _)
  have want := w1 _ fresh
  have keeps : ∀ b o, hp.get? b = some o → ((hp.push (PySem.W.kdv_tup us)).push (PySem.HandSPX.excO (He.ga X.K x) hp.objs.size)).get? b = some o := fun b o z => Heap.get?_push_of_some _ (Heap.get?_push_of_some _ z)
  have laid : Inv X pins σ (upd H1 (hp.objs.size + 1) (exo (hp.objs.size + 1) (He.ga X.K x) none)) ⟨(hp.push (PySem.W.kdv_tup us)).push (PySem.HandSPX.excO (He.ga X.K x) hp.objs.size), gn, dr, tk, os⟩ :=
    I1.laid (t' := tk) (a := hp.objs.size + 1) (o := exo (hp.objs.size + 1) (He.ga X.K x) none) (h' := (hp.push (PySem.W.kdv_tup us)).push (PySem.HandSPX.excO (He.ga X.K x) hp.objs.size)) keeps (Nat.le_succ _) (exo_ok (by heap_get))
  have args : Vals (V.ref (hp.objs.size + 1) :: (vs ++ [])) (Value.ref (hp.objs.size + 1) :: (us ++ [])) := .cons rfl (r1.append .nil)
  have lens : (Value.ref (hp.objs.size + 1) :: us ++ []).length = (("self" : Str) :: f0 :: fs).length := (args.length.symm.trans (F.len _ _ _ _ want) : (Value.ref (hp.objs.size + 1) :: (us ++ [])).length = _)
  have short : us.length ≤ sizeLine := by
    have := Paired.length r1
    rw [sizeLine_eq]
    omega
  have bb := binds _ (Value.ref (hp.objs.size + 1) :: us) laid.kIn lens
  rw [List.cons_append] at bb
  refine (wpAny_call (PySem.HandSPX.call_own PySem.F.excBase_ValueError (fun Y => PySem.HandSPX.refsVE_contains Y cbm mro) (I1.kIn _ _ look) (PySem.W.looks_findIn I1.kIn iC) (fun self => PySem.W.bind_fn I1.kIn self tI) short (codeAny_mono (F.run _ X.stack _ _ ⟨Value.ref (hp.objs.size + 1) :: us, []⟩ (Value.ref (hp.objs.size + 1) :: (us ++ [])) _ _ (fun _ _ _ => False) (room.make (He.ga X.K x) us []) (laid.env0.make (He.ga X.K x) us []) bb args want) fun r s' got => ?_)) : wpAny _ _ (call (.ref (He.ga X.K x)) us) _ _ _)
  rcases r with er | fl
  · exact pass0 pins σ _ _ er s' laid got
  · cases fl with
    | ret u =>
      obtain ⟨v, H2, os2, bare2, un2, hok2, rv, ev, d, gs, ea, ed, hd1, w2⟩ := got
      subst ev
      obtain ⟨h2, g2, d2, t2, os'⟩ := s'; obtain ⟨t0, G, J, kG, ge, hoe, na⟩ := mk_end0 (d2 := d2) (t2 := t2) I1 (Nat.le_succ _) keeps un2 hok2 os2 bare2 ea ed hd1
      exact ⟨rv, hp.objs.size + 1, _, _, ⟨G, g2, d2, t2, os'⟩, _, .ref (He.ga X.K x), some d, rfl, J, kG, ge, hoe, ⟨rfl, rfl, fun vs hv => by cases hv; rfl⟩, rfl, rfl, na, rfl, bare2, raises_own T.exC T.tyC, w2⟩
    | next => exact got.elim
    | brk => exact got.elim
    | cont => exact got.elim
end
theorem pt_truK {X : L2.Cx} {K : PySem.W.Frag} {e : Expr} {te : TE} (hK : X.K = K) (h : PE X e te) (he : ∀ whole, isTrue e X.env whole = (do let v ← whole; standAt e.pos; holding [v] (truthy v))) : PT X e (fun σ H Q => te σ H fun x H' => ∃ k, TruV K x H' k ∧ Q k H') := by
  subst hK
  exact pt_truth h he
mutual
/-- the place of the first row that stands too deep -/
def Rw.dpa : Rw → Nat → Option Nat
  | .ite _ _ b c, k => if 20 ≤ k then some 0 else ((Rw.dpl b (k + 1)).map (1 + ·)).or ((Rw.dpl c (k + 1)).map (1 + Rw.szl b + ·))
  | .eith b c, k => if 20 ≤ k then some 0 else ((Rw.dpl b (k + 1)).map (1 + ·)).or ((Rw.dpl c (k + 1)).map (1 + Rw.szl b + ·))
  | .whil _ _ b, k => if 20 ≤ k then some 0 else (Rw.dpl b (k + 1)).map (1 + ·)
  | _, _ => none
def Rw.dpl : List Rw → Nat → Option Nat
  | [], _ => none
  | r :: rs, k => (r.dpa k).or ((Rw.dpl rs k).map (r.sz + ·))
end
def dpb : List (List Rw) → Nat → Nat → Option Nat
  | [], _, _ => none
  | b :: bs, k, o => ((Rw.dpl b k).map (o + ·)).or (dpb bs k (o + Rw.szl b))
theorem dpa_eq (r : Rw) (k : Nat) : r.dpa k = if r.bl ≠ [] ∧ 20 ≤ k then some 0 else dpb r.bl (k + 1) 1 := by
  cases r <;> simp [Rw.dpa, Rw.bl, dpb]
def convD (d : PyData) : PyData := match rowsOf d with
  | some es => .tuple es
  | none => d
def fldD (s : Bool) (r : Rw) : List PyData := (rowsOf (Rw.d s r)).getD []
theorem fldD_eq (s : Bool) (r : Rw) : rowsOf (Rw.d s r) = some (fldD s r) := by cases r <;> rfl
theorem fldD_len (s : Bool) (r : Rw) : (fldD s r).length ≤ 5 := by cases r <;> simp [fldD, Rw.d, rowsOf]
/-- a row's parts, the first j blocks checked -/
def ptJ (s : Bool) (r : Rw) : Nat → List PyData
  | 0 => (fldD s r).map convD
  | j + 1 => (ptJ s r j).set (r.plc.getD j 0).toNat (.tuple (Rw.dl false (r.bl.getD j [])))
theorem convD_sq (s : Bool) (ds : List PyData) : convD (sq s ds) = .tuple ds := by cases s <;> rfl
theorem convD_lt (l : Lt) : convD l.d = l.d := by cases l <;> rfl
theorem convD_ts (l : Ts) : convD l.d = l.d := by cases l <;> rfl
theorem ptJ_all (s : Bool) (r : Rw) : PyData.tuple (ptJ s r r.bl.length) = Rw.d false r := by
  cases r with
  | deed v l => show PyData.tuple [.str "deed", .int v, convD l.d] = _; rw [convD_lt]; rfl
  | copy v u => rfl
  | need v t => show PyData.tuple [.str "need", .int v, convD t.d] = _; rw [convD_ts]; rfl
  | ite v t b c => show PyData.tuple [.str "if", .int v, convD t.d, .tuple (Rw.dl false b), .tuple (Rw.dl false c)] = _; rw [convD_ts]; rfl
  | eith b c => rfl
  | whil v t b => show PyData.tuple [.str "while", .int v, convD t.d, .tuple (Rw.dl false b)] = _; rw [convD_ts]; rfl
  | call f as v => show PyData.tuple [.str "call", .str f, convD (sq s (as.map .int)), .int v] = _; rw [convD_sq]; rfl
  | stop => rfl
theorem ptJ_len (s : Bool) (r : Rw) : ∀ j, (ptJ s r j).length = (fldD s r).length
  | 0 => List.length_map _
  | j + 1 => by rw [ptJ, List.length_set, ptJ_len s r j]
theorem plc_at (s : Bool) (r : Rw) {j : Nat} {b : List Rw} (h : r.bl[j]? = some b) : ∃ n : Nat, r.plc[j]? = some (n : Int) ∧ n < (fldD s r).length ∧ (fldD s r)[n]? = some (sq s (Rw.dl s b)) := by
  cases r with
  | ite v t x y =>
    match j, h with
    | 0, h => cases h; exact ⟨3, rfl, Nat.le_of_ble_eq_true rfl, rfl⟩
    | 1, h => cases h; exact ⟨4, rfl, Nat.le_of_ble_eq_true rfl, rfl⟩
  | eith x y =>
    match j, h with
    | 0, h => cases h; exact ⟨1, rfl, Nat.le_of_ble_eq_true rfl, rfl⟩
    | 1, h => cases h; exact ⟨2, rfl, Nat.le_of_ble_eq_true rfl, rfl⟩
  | whil v t x =>
    match j, h with
    | 0, h => cases h; exact ⟨3, rfl, Nat.le_of_ble_eq_true rfl, rfl⟩
  | _ => cases h
theorem plc_len (r : Rw) : r.plc.length = r.bl.length := by cases r <;> rfl
def bpX (f : Str) (p : Int) (z : Str) : List (PyData × PyData) := [(.str "what", .str z), (.str "place", .int p), (.str "name", .str f)]
theorem dpl_drop {rs : List Rw} {k i : Nat} {r : Rw} (h : rs[i]? = some r) {o : Nat} {x : Option Nat} (he : x = (Rw.dpl (rs.drop i) k).map (o + ·)) (hn : r.dpa k = none) : x = (Rw.dpl (rs.drop (i + 1)) k).map (o + r.sz + ·) := by
  rw [he, drop_get h, Rw.dpl, hn, Option.none_or, Option.map_map]
  congr 1
  funext q
  show o + (r.sz + q) = _
  omega
section
variable {P : Program} {w : World} {K : PySem.W.Frag} {mg : Str → Option Value} {base : Heap}
def RCr (n : Nat) : List En → Unit → KD Unit → KX Unit → Prop := fun es _ kk x => ∃ (f : Str) (tb : List (Key × PyData)) (s s' : Bool) (rs : List Rw) (p k : Nat) (m : Int), es = [En.da (.str f), En.da (dkD tb), En.da (sq s' (Rw.dl s rs)), En.da (.int (p : Nat)), En.da (.int (k : Nat))] ∧ lkM tb (.inr f) = some (.int m) ∧ Rw.okl m tb rs ∧ Rw.depl rs < n ∧ Rw.depl rs ≤ 25 ∧ Rw.szl rs ≤ 60000 ∧
  (Rw.dpl rs k = none → kk (.tuple [.tuple (Rw.dl false rs), .int ((p + Rw.szl rs : Nat) : Int)]) ()) ∧ ∀ q, Rw.dpl rs k = some q → x "BadProgram" (bpX f ((p + q : Nat) : Int) "deep") ()
abbrev s__checked_rows : Stmt := top 30
abbrev N__checked_rows : List Str := ["name", "variables_of", "rows", "place", "depth", "checked", "row", "what", "parts", "at", "part"]
abbrev P__checked_rows : List Str := ["name", "variables_of", "rows", "place", "depth"]
theorem sc__checked_rows : FnScope N__checked_rows P__checked_rows (defScope s__checked_rows) := ⟨rfl, rfl, rfl, by decide +kernel, rfl, by decide +kernel, by decide +kernel⟩
-- slots: 0 name, 1 variables_of, 2 rows, 3 place, 4 depth, 5 checked, 6 row, 7 what, 8 parts, 9 at, 10 part
theorem kp__checked_rows (F : At K mg "_checked_rows" s__checked_rows) (N : Nb mg) (S_BadProgram : ErrA P w K mg base "BadProgram" ["name", "place", "what"]) (G__row_fault : Keeps CX0 P w K mg base "_row_fault" 4 ["row", "variables", "variables_of", "depth"] (spX K Co.pure RRf)) (G_is_sequence : Keeps CX0 P w K mg base "is_sequence" 1 ["thing"] (spSeq_ K))
    (G_block_places : Keeps CX0 P w K mg base "block_places" 1 ["row"] (spX K Co.pure RPlc)) : ∀ n, Keeps (L2N.CX P w) P w K mg base "_checked_rows" (n + 5) ["name", "variables_of", "rows", "place", "depth"] (spX K Co.pure (RCr n)) := by
  intro n
  induction n with
  | zero => exact keeps_xX F sc__checked_rows (fun _ _ _ _ _ _ us hl => match us, hl with | [_, _, _, _, _], _ => rfl) (fun es g k x h => by obtain ⟨_, _, _, _, _, _, _, _, rfl, _⟩ := h; rfl) (fun f cdv A outer s H E es g k x hr h => by obtain ⟨_, _, _, _, _, _, _, _, _, _, _, z, _⟩ := h; exact absurd z (Nat.not_lt_zero _))
  | succ n ih =>
    refine keeps_xX F sc__checked_rows (fun _ _ _ _ _ _ us hl => match us, hl with | [_, _, _, _, _], _ => rfl) (fun es g k x h => by obtain ⟨_, _, _, _, _, _, _, _, rfl, _⟩ := h; rfl) (fun fa cdv A outer sh H E es g kk x hr h => ?_)
    obtain ⟨f, tb, s, s', rs, p, k, m, rfl, hm, hok, hn, hd25, hz, hk, hx⟩ := h
    refine ⟨_, (pss_cons (ps_set (i := 5) sc__checked_rows.nd rfl (by walk_at "lv") (pe_lst pa_nil))
        (pss_cons (ps_for (passes_of rfl) rfl (pi_seqE (pv 2)) (pg_name (i := 6) sc__checked_rows.nd rfl (by walk_at "lv")) (pss_cons (ps_set (i := 7) sc__checked_rows.nd rfl (by walk_at "lv") (pe_k (G__row_fault.up (by omega)) hr (by rfl) pass0 (pa_cons (pv 6) (pa_cons (pe_dget (hu_of hr) (pv 1) (pv 0) (fun _ _ => rfl)) (pa_cons (pv 1) (pa_cons (pv 4) pa_nil))))))
        (pss_cons (ps_if (pt_cmpR op_notN (pv 7) pe_non (nomark _)) (pss_one (L2N.ps_raise rfl (L2N.takes_of rfl rfl rfl rfl) (by exact pmk_eN S_BadProgram hr (by rfl) (pa_cons (pv 0) (pa_cons (pv 3) (pa_cons (pv 7) pa_nil)))))) pss_nil)
        (pss_cons (ps_setLc (i := 8) (own := [("part", 10)]) (g := gName 10) (tt := tYes) rfl sc__checked_rows.nd rfl rfl (sw_true rfl rfl rfl (by decide +kernel)) (pi_seqE (pv 6)) (blkOk_by (N := N__checked_rows) (sc := defScope s__checked_rows) (by decide +kernel)) (fun _ _ _ _ _ => (pg_name (i := 10) sc__checked_rows.nd rfl (by walk_at "lv"))) (fun _ _ _ _ _ => pts_nil) (fun _ _ _ _ _ => (pe_ifExp (pt_truK (K := K) rfl (pe_k (G_is_sequence.up (by omega)) hr (by rfl) pass0 (pa_cons (pv 10) pa_nil)) (by intro _; rfl)) (pe_callTy (r := rTupOf K) call_tuple_of (by rfl) N.tuple (by decide +kernel) (pa_cons (pv 10) pa_nil)) (pv 10))))
        (pss_cons (ps_aug (i := 3) sc__checked_rows.nd rfl (by walk_at "lv") pe_int ip_add)
        (pss_cons (ps_for (passes_of rfl) rfl (pi_seqE (pe_k (G_block_places.up (by omega)) hr (by rfl) pass0 (pa_cons (pv 6) pa_nil))) (pg_name (i := 9) sc__checked_rows.nd rfl (by walk_at "lv")) (pss_one (ps_asg (pe_k (ih.up (by omega)) hr (by rfl) (L2N.passes_call (L2N.takes_of rfl rfl rfl rfl) (fun _ _ _ _ h => h)) (pa_cons (pv 0) (pa_cons (pv 1) (pa_cons (pe_ix ix_any (pv 6) (pv 9) (fun _ _ => rfl)) (pa_cons (pv 3) (pa_cons (pe_op op_add (pv 4) pe_int) pa_nil)))))) (pg_tupA (by rfl) (pgs_cons (pg_sub (pv 8) (pv 9) set_list) (pgs_cons (pg_name (i := 3) sc__checked_rows.nd rfl (by walk_at "lv")) pgs_nil))))))
        (pss_one (ps_expr (pe_bm PySem.F.plainAttrs_list PySem.F.slot_list_append PySem.F.type_list_append mt_append (pv 5) (pa_cons (pe_callTy call_tuple_of (by rfl) N.tuple (by decide +kernel) (pa_cons (pv 8) pa_nil)) pa_nil))))))))))
        (pss_one (ps_ret (pe_tup (pa_cons (pe_callTy call_tuple_of (by rfl) N.tuple (by decide +kernel) (pa_cons (pv 5) pa_nil)) (pa_cons (pv 3) pa_nil))))))), ?_⟩
    try dsimp only [cxOf, L2.Cx.wish]
    refine Ws_seq (Wx_new (Wn_lst ?_))
    walk_at "wr"
    refine Ws_seq (Ws_for (Wi_seq ?_))
    walk_at "wr"
    refine ⟨_, rowsOf_sq, fun i _ ρ => ∃ y6 y7 y8 y9 y10, ρ = [En.da (.str f), En.da (dkD tb), En.da (sq s' (Rw.dl s rs)), En.da (.int ((p + Rw.szl (rs.take i) : Nat) : Int)), En.da (.int (k : Nat)), En.own (.list (Rw.dl false (rs.take i))), y6, y7, y8, y9, y10] ∧ Rw.dpl rs k = (Rw.dpl (rs.drop i) k).map (Rw.szl (rs.take i) + ·), ⟨_, _, _, _, _, rfl, ?_⟩, ?_, ?_⟩
    · rw [List.drop_zero, List.take_zero]
      cases Rw.dpl rs k <;> simp [Rw.szl]
    · rintro i d g2 ρ2 hd ⟨y6, y7, y8, y9, y10, rfl, hdp⟩
      obtain ⟨r, hr2, rfl⟩ := dl_get hd
      have hmem := List.mem_of_getElem? hr2
      have hrok := okl_mem hok hmem
      have hdr := dep_mem hmem
      have hS := RwS.of (s := s) hrok (by omega)
      have hil : i < rs.length := (List.getElem?_eq_some_iff.mp hr2).1
      have hszi := szl_take_le rs (i + 1)
      rw [take_get hr2, szl_snoc] at hszi
      have hlen : ∀ l : List Rw, l.length ≤ Rw.szl l := fun l => by
        induction l with
        | nil => exact Nat.le_refl _
        | cons a l ih => rw [List.length_cons, Rw.szl]; have := sz_pos a; omega
      walk_at "wr"
      refine Ws_seq (Wx_set ?_)
      walk_at "wr"
      refine ⟨tb, .inr f, _, rfl, rfl, hm, ?_⟩
      walk_at "wr"
      refine ⟨s, r, m, tb, _, rfl, hrok, by omega, ?_⟩
      by_cases hdeep : r.bl ≠ [] ∧ (20 : Int) ≤ (k : Nat)
      · unfold deepF
        rw [if_pos hdeep]
        refine ⟨rfl, ?_⟩
        walk_at "wq"
        refine Ws_raise ?_
        walk_at "wr"
        have hq : Rw.dpl rs k = some (Rw.szl (rs.take i) + 0) := by
          rw [hdp, drop_get hr2, Rw.dpl, dpa_eq, if_pos ⟨hdeep.1, by omega⟩]; rfl
        refine ⟨Nat.le_of_ble_eq_true rfl, ?_⟩
        exact hx _ hq
      · unfold deepF
        rw [if_neg hdeep]
        have hdpa : r.dpa k = dpb r.bl (k + 1) 1 := by rw [dpa_eq, if_neg (fun z => hdeep ⟨z.1, by omega⟩)]
        refine ⟨rfl, ?_⟩
        refine Ws_seq (Ws_no_if ?_ (Ws_next ?_))
        · walk_at "wr"
          rfl
        refine Ws_seq (Wx_new (Wn_map (GIn.name (by decide)) (Wi_seq ?_)))
        walk_at "wr"
        refine ⟨_, fldD_eq s r, Nat.le_trans (fldD_len s r) (by decide), (fldD s r).map convD, List.length_map _, fun j d e hd he => ?_, rfl, ?_⟩
        · rw [List.getElem?_map, hd] at he
          cases he
          have hsh : Shp d := by
            have q := hS.all
            have : ∀ d ∈ fldD s r, SeqAt.shaped d = true := by
              refine shp_list ?_
              cases r <;> exact q
            exact this d (List.mem_of_getElem? hd)
          walk_at "wr"
          rw [isSq_rows]
          unfold convD
          cases er : rowsOf d with
          | none =>
            walk_at "wr"
            rfl
          | some es =>
            walk_at "wr"
            rfl
        refine Ws_seq (Ws_aug rfl ?_)
        walk_at "wr"
        refine Ws_seq (Ws_for (Wi_seq ?_))
        walk_at "wr"
        refine ⟨fun j _ ρ => ∃ y9 y10, ρ = [En.da (.str f), En.da (dkD tb), En.da (sq s' (Rw.dl s rs)), En.da (.int ((p + (Rw.szl (rs.take i) + (1 + ((r.bl.take j).map Rw.szl).sum)) : Nat) : Int)), En.da (.int (k : Nat)), En.own (.list (Rw.dl false (rs.take i))), En.da (Rw.d s r), En.da .none, En.own (.list (ptJ s r j)), y9, y10] ∧ r.dpa k = dpb (r.bl.drop j) (k + 1) (1 + ((r.bl.take j).map Rw.szl).sum), ⟨y9, y10, ?_, ?_⟩, ?_, ?_⟩
        · rw [show (p + (Rw.szl (rs.take i) + (1 + ((r.bl.take 0).map Rw.szl).sum)) : Nat) = p + Rw.szl (rs.take i) + 1 by simp; omega]
          rfl
        · simp [hdpa]
        · rintro j d g2 ρ2 hd ⟨y9, y10, rfl, hdb⟩
          rw [List.getElem?_map] at hd
          obtain ⟨at_, hat, rfl⟩ := Option.map_eq_some_iff.mp hd
          have hjl : j < r.bl.length := by rw [← plc_len]; exact (List.getElem?_eq_some_iff.mp hat).1
          have hb := List.getElem?_eq_getElem hjl
          generalize r.bl[j] = b at hb
          obtain ⟨n', hn', hnl, hix⟩ := plc_at s r hb
          rw [hat] at hn'
          cases hn'
          have hbm := List.mem_of_getElem? hb
          have hdb2 := dep_bl hbm
          have esum : ((r.bl.take (j + 1)).map Rw.szl).sum = ((r.bl.take j).map Rw.szl).sum + Rw.szl b := by
            rw [take_get hb, List.map_append, List.sum_append]; simp
          have hbs := sum_take (r.bl.map Rw.szl) (j + 1)
          rw [← List.map_take, esum, show (r.bl.map Rw.szl).sum = r.sz - 1 by rw [sz_bl]; omega] at hbs
          rw [drop_get hb] at hdb
          walk_at "wr"
          refine Ws_asg (We_call Ln.pure ?_)
          walk_at "wr"
          refine ⟨fldD s r, (n' : Int), _, fldD_eq s r, rfl, atI_nat hix, ?_⟩
          walk_at "wr"
          refine ⟨f, tb, s, s, b, p + (Rw.szl (rs.take i) + (1 + ((r.bl.take j).map Rw.szl).sum)), k + 1, m, rfl, hm, ok_bl hrok hbm, by omega, by omega, by omega, fun hnone => ?_, fun q hq => ?_⟩
          · refine Wg_tupA ⟨_, rfl, rfl, Wgs_cons (Wg_put rfl ?_)⟩
            walk_at "wr"
            refine ⟨by rw [ptJ_len]; exact hnl, Wgs_cons (Wx_name ⟨rfl, Wgs_nil ⟨En.da (.int (n' : Nat)), y10, ?_, ?_⟩⟩)⟩
            · rw [show p + (Rw.szl (rs.take i) + (1 + ((r.bl.take (j + 1)).map Rw.szl).sum)) = p + (Rw.szl (rs.take i) + (1 + ((r.bl.take j).map Rw.szl).sum)) + Rw.szl b by rw [esum]; omega]
              have ej : ptJ s r (j + 1) = (ptJ s r j).set n' (.tuple (Rw.dl false b)) := by
                rw [ptJ, List.getD_eq_getElem?_getD, hat, List.getD_eq_getElem?_getD, hb]; rfl
              rw [ej]
              rfl
            · rw [hdb, dpb, hnone, esum]
              simp only [Option.map_none, Option.none_or]
              rw [Nat.add_assoc]
          · have hq2 : Rw.dpl rs k = some (Rw.szl (rs.take i) + (1 + ((r.bl.take j).map Rw.szl).sum + q)) := by
              rw [hdp, drop_get hr2, Rw.dpl, hdb, dpb, hq]; rfl
            have hxx := hx _ hq2
            rw [show p + (Rw.szl (rs.take i) + (1 + ((r.bl.take j).map Rw.szl).sum + q)) = p + (Rw.szl (rs.take i) + (1 + ((r.bl.take j).map Rw.szl).sum)) + q by omega] at hxx
            exact hxx
        · rintro g2 ρ2 ⟨y9, y10, rfl, hdb⟩
          rw [List.length_map, plc_len, drop_all, show dpb [] (k + 1) (1 + ((r.bl.take r.bl.length).map Rw.szl).sum) = none from rfl] at hdb
          have hd2 := dpl_drop hr2 hdp hdb
          rw [List.length_map, plc_len, take_all]
          refine Ws_freeze (i := 8) rfl ?_
          refine Ws_app rfl ?_
          walk_at "wr"
          rw [ptJ_all]
          have := hlen (rs.take i)
          refine ⟨by rw [dl_len]; omega, En.da (Rw.d s r), En.da .none, En.da (.list (ptJ s r r.bl.length)), y9, y10, ?_, ?_⟩
          · rw [take_get hr2, szl_snoc, sz_bl, dl_app]
            rfl
          · rw [hd2, take_get hr2, szl_snoc]
    · rintro g2 ρ2 ⟨y6, y7, y8, y9, y10, rfl, hdp⟩
      rw [dl_len, drop_all, show Rw.dpl [] k = none from rfl] at hdp
      rw [dl_len, take_all]
      refine Ws_freeze (i := 5) rfl ?_
      walk_at "wq"
      exact hk hdp
end
/-! ### instances by data -/
/-- a def of the class at C, as it stands -/
def AtM (K : PySem.W.Frag) (C : Addr) (g : Addr) (nm q : Str) (st : Stmt) : Prop := ∃ fd, FunD K nm q (defArgs st) (defBody st) (defScope st) [] [] g fd
def KeepsM (CY : CXT) (P : Program) (w : World) (K : PySem.W.Frag) (mg : Str → Option Value) (base : Heap) (g : Addr) (k : Nat) (ps : List Str) (sp : Sp) : Prop := ∃ fd, FnOk P w K mg base CY k g fd ps sp ∧ Binds K fd ps []
abbrev bindsM (st : Stmt) (nm q : Str) (ps : List Str) : Prop := ∀ (kV doc pm : Value) (an : Option Addr) (cdv ct : Value) (us : List Value), us.length = ps.length → bindArgs (PySem.W.fnOf nm q (defArgs st) (defBody st) (defScope st) .none kV doc pm an cdv ct) ⟨us, []⟩ = pure (ps.zip us)
def insD (C : Str) (gs : List (Str × PyData)) : PyData := .dict ((.none, .str C) :: gs.map fun p => (.str p.1, p.2))
def putG (f : Str) (d : PyData) : List (Str × PyData) → List (Str × PyData)
  | [] => [(f, d)]
  | (g, x) :: r => if g = f then (g, d) :: r else (g, x) :: putG f d r
section
variable {CY : CXT} {P : Program} {w : World} {K : PySem.W.Frag} {mg : Str → Option Value} {base : Heap}
theorem keepsM_yX {ι γ : Type} {C0 : Addr} {C : ι → Co γ} {R : ι → List En → γ → KD γ → KX γ → Prop} {g : Addr} {nm q : Str} {st : Stmt} {N ps : List Str} {lv : Nat} (F : AtM K C0 g nm q st) (sc : FnScope N ps (defScope st)) (hb : bindsM st nm q ps) (len : ∀ i es g k x, R i es g k x → es.length = ps.length)
    (hbody : ∀ (cdv : Value) (A : Around) (outer : List Env) (s : Shared) (H : Hp) (E : XK) i es gh k x, Room lv (A.deeper (envOfC q (defScope st) s.heap.objs.size g cdv)) → R i es gh k x → ∃ t, PSs (cxOf CY P w K mg base N q (defScope st) g cdv A outer s H E) (defBody st) t ∧ Ws ⟨K, C i, E, x⟩ t gh (slots N es) ⟨fun g' _ => k .none g', k, fun _ _ => False, fun _ _ => False⟩) : KeepsM CY P w K mg base g (lv + 1) ps (spY K C R) := by
  obtain ⟨fd, F⟩ := F
  refine ⟨fd, F.ok sc (fun vs H Q E h => ?_) (fun cdv A outer s H vs Q E hr h => ?_), F.bindsN hb⟩
  · obtain ⟨i, S, g, es, k, x, _, _, _, al, hR, _⟩ := h
    rw [arl_len al]; exact len _ _ _ _ _ hR
  · obtain ⟨i, S, g, es, k, x, sub, old, I, al, hR, q, hx⟩ := h
    obtain ⟨t, h1, h2⟩ := hbody cdv A outer s H E i es g k x hr hR
    exact ⟨t, h1, ws_run sub old I al q hx h2⟩
end
section
variable {K : PySem.W.Frag} {S T : Ad} {H H' : Hp} {a p : Addr} {C : Str}
theorem Ho.ins_inv {gs : List (Str × PyData)} (h : Ho K S H a (insD C gs)) : ∃ dx fs, H a = some (.ins (He.ga K C) dx fs) ∧ DaF K S H (fs.map fun p => (PyData.str p.1, p.2)) (gs.map fun p => (PyData.str p.1, p.2)) := by
  unfold insD at h
  cases h with
  | ins q r => exact ⟨_, _, q, r⟩
  | dic q r =>
    rename_i kvs
    cases kvs with
    | nil => cases r
    | cons p m =>
      exfalso
      obtain ⟨p1, p2⟩ := p
      cases p1 <;> cases r
theorem daF_put {f : Str} {v : V} {d : PyData} (dv : Da K S H v d) : ∀ {fs : List (Str × V)} {gs : List (Str × PyData)}, DaF K S H (fs.map fun p => (PyData.str p.1, p.2)) (gs.map fun p => (PyData.str p.1, p.2)) → DaF K S H ((putF f v fs).map fun p => (PyData.str p.1, p.2)) ((putG f d gs).map fun p => (PyData.str p.1, p.2))
  | [], [], _ => .cons dv .nil
  | [], _ :: _, h => by cases h
  | _ :: _, [], h => by cases h
  | (n, x) :: fs, (n', e) :: gs, h => by
    rw [List.map_cons, List.map_cons] at h; cases h with
    | cons h r =>
      unfold putF putG
      by_cases q : n = f
      · rw [if_pos q, if_pos q]; exact .cons dv r
      · rw [if_neg q, if_neg q]; exact .cons h (daF_put dv r)
theorem daF_len : ∀ {fs : List (PyData × V)} {gs : List (PyData × PyData)}, DaF K S H fs gs → fs.length = gs.length
  | _, _, .nil => rfl
  | _, _, .cons _ r => congrArg Nat.succ (daF_len r)
end
section
variable {γ : Type} {B : Bd γ} {tv te ta : TE} {g : γ} {ρ : List En} {k : KD γ} {kt : Kz γ} {i : Nat} {p : Addr} {get : γ → PyData} {put : γ → PyData → γ} {nm f : Str}
/-- self.f = e -/
theorem Ws_fldB (b : Bx B.K B.C p get put) (e : ρ[i]? = some (En.raw (.ref p))) (c : Cls B.K (He.ga B.K nm)) (na : NoAttr B.K (He.ga B.K nm) f) (h : We B tv g ρ fun d g1 => ∃ gs, get g1 = insD nm gs ∧ gs.length < 1000 ∧ kt.nx (put g1 (insD nm (putG f d gs))) ρ) : Ws B (sFld B.K (tVar i) tv f) g ρ kt := fun S H0 σ H D s x L => h S H0 σ H _ s x fun y H1 d g1 fr I dy ⟨gs, e1, hl, h1⟩ => by
  have s1 := s.step fr I
  have o := b.get _ _ _ I
  rw [e1] at o
  obtain ⟨dx, fs, e2, df⟩ := o.ins_inv
  have tp : SS S σ ρ p := s.subs p b.M
  have fu : Frm (SS S σ ρ) H1 (upd H1 p (.ins (He.ga B.K nm) dx (putF f y fs))) := (Frm.refl _ H1).put tp
  have fm : Frm B.C.M H1 (upd H1 p (.ins (He.ga B.K nm) dx (putF f y fs))) := (Frm.refl _ H1).put b.M
  have I2 := b.put (SS S σ ρ) g1 H1 (.ins (He.ga B.K nm) dx (putF f y fs)) (insD nm (putG f d gs)) s.subs I (.ins upd_same (daF_put (dy.keep fu) (df.keep fu))) nt_d
  have ln := daF_len df
  rw [List.length_map, List.length_map] at ln
  exact ⟨_, s.raw i _ e, p, _, dx, fs, rfl, e2, c, na, by omega, L.nx σ _ ρ _ (s1.step fm I2) ((s.stp fr I).trans (s1.stp fm I2)) h1⟩
/-- self.f -/
theorem We_fldB (b : Bx B.K B.C p get put) (e : ρ[i]? = some (En.raw (.ref p))) (c : Cls B.K (He.ga B.K nm)) (na : NoAttr B.K (He.ga B.K nm) f) (h : ∃ gs u, get g = .dict ((.none, .str nm) :: gs) ∧ lkD f gs = some u ∧ k u g) : We B (tFld B.K (tVar i) f) g ρ k := fun S H0 σ H Q s x q => by
  obtain ⟨gs, u, e1, e2, hk⟩ := h
  have o := b.get _ _ _ s.I
  rw [e1] at o
  cases o with
  | ins e3 r =>
    obtain ⟨v, e4, dv⟩ := lk_fld r e2
    exact ⟨_, s.raw i _ e, _, _, _, _, v, rfl, e3, c, na, e4, q v H u g (Frm.refl _ _) s.I dv hk⟩
  | dic e3 r =>
    rename_i kvs
    cases kvs with
    | nil => cases r
    | cons p rest =>
      exfalso
      obtain ⟨p1, p2⟩ := p
      cases p1 <;> cases r
theorem made_same {H : Hp} {x dx C : Addr} (hx : H x = none) (hdx : H dx = none) : Same H (upd (upd H dx (.own x)) x (.ins C dx [])) := fun b o e => by
  rw [upd_ne (ne_of_none e hx), upd_ne (ne_of_none e hdx)]
  exact e
/-- C(e, ..): a new instance -/
theorem Wn_make0 {E : XK} {R : Addr → List En → PB → KD PB → KX PB → Prop} {Q : VK} {S : Ad} {H0 H1 : Hp} {σ : L2.St} {ys : List V} {es : List En} (hE : E = B.E) (s1 : Sl B.K B.C S H0 g H1 σ ρ) (xe : XE B S H0) (al : ArL B.K (SS S σ ρ) H1 ys es) (h : ∀ p, R p (En.raw (.ref p) :: es) ((), insD nm []) (fun d g' => d = .none ∧ NT g'.2 ∧ k g'.2 g) fun n xs _ => B.x n xs g)
    (q : ∀ a H' d g', H1 a = none → Frm B.C.M H1 H' → B.C.I ((SS S σ ρ).add a) g' H' → Ho B.K ((SS S σ ρ).add a) H' a d → NT d → k d g' → Q (.ref a) H') :
    ∀ x dx, H1 x = none → H1 dx = none → dx ≠ x → spY B.K (CB B.K) R (.ref x :: (ys ++ [])) (upd (upd H1 dx (.own x)) x (.ins (He.ga B.K nm) dx [])) (fun v H2 => v = .non ∧ Q (.ref x) H2) E := fun x dx hx hdx ne => by
  subst hE
  rw [List.append_nil]
  have sm := made_same (C := He.ga B.K nm) hx hdx
  have old2 : Old ((SS S σ ρ).add x) (upd (upd H1 dx (.own x)) x (.ins (He.ga B.K nm) dx [])) := (s1.olds.put (a := dx) (o := .own x) (fun z => z)).new (fun z => z)
  have al2 : ArL B.K ((SS S σ ρ).add x) (upd (upd H1 dx (.own x)) x (.ins (He.ga B.K nm) dx [])) ys es := by
    clear h
    induction al with
    | nil => exact .nil
    | da dx' _ ih => exact .da ((dx'.add hx).same sm) ih
    | raw _ ih => exact .raw ih
  have I2 : B.C.I ((SS S σ ρ).add x) g (upd (upd H1 dx (.own x)) x (.ins (He.ga B.K nm) dx [])) := B.C.same (fun b m => .inl (s1.subs b m)) (add_old hx s1.I) sm
  have nM : ¬ B.C.M x := fun m => s1.olds.not hx (s1.subs x m)
  have on : ∀ {H' : Hp}, Frm (fun b => False ∨ b = x) (upd (upd H1 dx (.own x)) x (.ins (He.ga B.K nm) dx [])) H' → Frm B.C.M H1 H' ∧ B.C.I ((SS S σ ρ).add x) g H' := fun {H'} f => by
    refine ⟨fun b o n e => f b o (fun z => z.elim id fun z => ne_of_none e hx z) (sm b o e), ?_⟩
    refine B.C.keep _ _ _ _ (fun b m => .inl (s1.subs b m)) (fun b m => ?_) (f.wide fun b z => z.elim False.elim fun z => .inr z) I2
    obtain ⟨o, e, _⟩ := B.C.old _ _ _ I2 b m
    rw [e]
    exact f b o (fun z => z.elim id fun z => nM (z ▸ m)) e
  refine ⟨x, (SS S σ ρ).add x, ((), insD nm []), _, _, _, fun b m => m.elim False.elim fun z => .inr z, old2, ⟨trivial, fun z => z.elim, .ins upd_same .nil, nt_d⟩, .raw al2, h x, fun y H' d g' f I dy hk => ?_, fun n od H' g' xs f I xd hx' => ?_⟩
  · obtain ⟨rfl, nt, hk⟩ := hk
    obtain ⟨f1, i1⟩ := on f
    exact ⟨dy.non_inv, q x H' _ g hx f1 i1 I.2.2.1 nt hk⟩
  · obtain ⟨f1, i1⟩ := on f
    exact xe n od H' g xs (s1.frm.trans f1) (B.C.mono _ _ _ _ (fun _ _ _ z => .inl (.inl z)) i1) (xd.mono fun _ _ _ z => .inl (.inl z)) hx'
theorem Wn_make {tl : TA} {R : Addr → List En → PB → KD PB → KX PB → Prop} (h : Wa B tl g ρ fun es g1 => ∀ p, R p (En.raw (.ref p) :: es) ((), insD nm []) (fun d g' => d = .none ∧ NT g'.2 ∧ k g'.2 g1) fun n xs _ => B.x n xs g1) : Wn B (tMake (He.ga B.K nm) (spY B.K (CB B.K) R) [] B.E tl) g ρ k := fun S H0 σ H Q s x q =>
  h S H0 σ H _ s x fun ys H1 es g1 f I al hR => Wn_make0 rfl (s.step f I) x al hR fun a H' d g' n f2 I2 ho nt hk => q a H' d g' (f.gone (B.C.old _ _ _ I) n) (f.trans f2) I2 ho nt hk
end
/-! ### try with several clauses `except C as n`, `except (C, D) as n` -/
section
variable {X : L2.Cx}
/-- what a clause's class expression answers -/
def Test (X : L2.Cx) (t : Expr) (cs : List Value) : Prop :=
  ∀ {pins : List (Addr × Obj)} {σ : L2.St} {H : Hp} {s : Shared} {a : Addr} {oe : Obj} {cls : Value} {b : Bool} {Q : Bool → Shared → Prop} {E : Value → Shared → Prop},
    Inv (X.suite a ((a, oe) :: (X.pn ++ pins))) [] σ H s → s.heap.get? a = some oe → oe.cls = cls → PySem.W.exmAny X.K cls cs = some b →
    (∀ h', (∀ q o, s.heap.get? q = some o → h'.get? q = some o) → Q b { s with heap := h' }) →
    wpAny (model X.prog X.w) (X.A.mark (some (.ref a))) (eval t X.env) (fun c s1 => wpAny (model X.prog X.w) (X.A.mark (some (.ref a))) (excMatches (.ref a) c) Q E s1) E s
theorem looks_of {M : Model} {h : Heap} {a : Addr} {oe : Obj} {cls : Value} (he : h.get? a = some oe) (hc : oe.cls = cls) : PySem.W.Looks M h (typeOf (.ref a)) cls :=
  fun A Q E s k q => wpAny_typeOf_ref (k _ _ he) (by rw [hc]; exact q)
theorem name_at {pins : List (Addr × Obj)} {σ : L2.St} {H : Hp} {s : Shared} {a : Addr} {oe : Obj} {x : Str} {c : Value} {p : Pos} (I : Inv (X.suite a ((a, oe) :: (X.pn ++ pins))) [] σ H s) (hc : Names X x c)
    {Q : Value → Shared → Prop} {E : Value → Shared → Prop} (q : Q c s) : wpAny (model X.prog X.w) (X.A.mark (some (.ref a))) (eval (.Name x p) X.env) Q E s := by
  rcases hc with ⟨hg, hdbg, m | ⟨m, hv, hnn⟩⟩
  · exact (ld_glob (X := X.suite a ((a, oe) :: (X.pn ++ pins))) I hg m q hdbg)
  · exact (ld_blt (X := X.suite a ((a, oe) :: (X.pn ++ pins))) I hg m hv q hnn hdbg)
theorem test1 {x : Str} {c : Value} {p : Pos} (hc : Names X x c) : Test X (.Name x p) [c] := by
  intro pins σ H s a oe cls b Q E I he hcl hx q
  obtain ⟨b1, d1, x1, y1, rfl⟩ := PySem.W.exmAny_cons hx
  cases (show some false = some d1 from y1)
  refine name_at I hc ?_
  refine (PySem.W.exm_one (M := model X.prog X.w) I.kIn (looks_of he hcl) x1).here ?_
  rw [Bool.or_false] at q
  exact q s.heap fun _ _ e => e
theorem test2 {x y : Str} {c d : Value} {p1 p2 p : Pos} {k : Nat} (hc : Names X x c) (hd : Names X y d) : Test X (.Tuple [.Name x p1, .Name y p2] k p) [c, d] := by
  intro pins σ H s a oe cls b Q E I he hcl hx q
  refine wpAny_Tuple (wpAny_items_cons (name_at I hc (wpAny_items_cons (name_at I hd (wpAny_items_nil ⟨by show 2 ≤ sizeLine; decide, ?_⟩)))))
  have keep : ∀ q o, s.heap.get? q = some o → (s.heap.push { cls := .type "tuple", data := .seq [c, d].toArray }).get? q = some o := fun _ _ z => (Heap.get?_push_of_some _ z)
  exact (PySem.W.exm_tup2 (I.kIn.keeps keep) (looks_of (keep _ _ he) hcl) (Heap.get?_push_size s.heap rfl) hx).here (q _ keep)
theorem flying_on {h h' B : Heap} {l : List Env} {e : Addr} {Z : Obj → Prop} (k : ∀ q o, h.get? q = some o → h'.get? q = some o) (x : HandSPX.FlyingZ B l e Z h) : HandSPX.FlyingZ B l e Z h' := by
  obtain ⟨f1, f2, f3, oe, vs, T, oT, ts, he, hz, hd, h1, hn, hne, hT, hdT, h3⟩ := x
  exact ⟨fun b o z => k _ _ (f1 _ _ z), f2, f3.of_keeps fun b o z _ => ⟨o, k _ _ z, rfl⟩, oe, vs, T, oT, ts, k _ _ he, hz, hd, h1, hn, hne, k _ _ hT, hdT, h3⟩
abbrev Cls := List Value × (Addr → Value → Option Addr → TS)
def ends (i : Nat) (D : Ends) : Ends := { nx := fun σ H => D.nx (σ.set i none) H, rt := D.rt, bk := fun σ H => D.bk (σ.set i none) H, ct := fun σ H => D.ct (σ.set i none) H }
/-- what the clauses wish of an exception, one after the other -/
def wCls (K : PySem.W.Frag) (i : Nat) (Wout : WX) (D : Ends) : List Cls → WX
  | [] => Wout
  | c :: r => fun cls d σ H => ∃ b, PySem.W.exmAny K cls c.1 = some b ∧ (b = true → ∀ a, H a = none → c.2 a cls d (ends i D) (σ.set i (some (.ref a))) H) ∧ (b = false → wCls K i Wout D r cls d σ H)
inductive ClsOk (X : L2.Cx) (n : Str) : List ExceptHandler → List Cls → Prop
  | nil : ClsOk X n [] []
  | cons {t : Expr} {cs : List Value} {ts : Addr → Value → Option Addr → TS} {b₀ : Stmt} {suite : List Stmt} {p : Pos} {hs : List ExceptHandler} {l : List Cls} (ht : Test X t cs)
      (hsu : ∀ (a : Addr) (oe : Obj) (cls : Value) (d : Option Addr) (pn : List (Addr × Obj)), Zc cls d oe → (∃ vs, oe.data = .fields vs) → PSs (X.suite a ((a, oe) :: pn)) (b₀ :: suite) (ts a cls d)) (r : ClsOk X n hs l) :
      ClsOk X n (.ExceptHandler (some t) (some n) (b₀ :: suite) p :: hs) ((cs, ts) :: l)
theorem ps_try_cls {n : Str} {i : Nat} {body : List Stmt} {h₀ : ExceptHandler} {hs : List ExceptHandler} {l : List Cls} {pos : Pos} {tb : WX → TS} {Wout : WX}
    (hst : X.stack = X.env :: X.outer) (hf : X.env.frame = some X.env.locals) (hN : X.N.Nodup) (hi : X.N[i]? = some n) (hln : X.env.kindOf n = some .local) (tk : Takes X Wout)
    (hb : ∀ (W : WX) (pn : List (Addr × Obj)) (xe : Value → Shared → Prop), Takes (X.tr pn xe) W → PassesOwn (model X.prog X.w) X.A X.env xe → PSs (X.tr pn xe) body (tb W))
    (hh : ClsOk X n (h₀ :: hs) l) : PS X (.Try body (h₀ :: hs) [] [] pos) (fun D σ H => tb (wCls X.K i Wout D l) D σ H) := by
  refine ⟨fun pins s σ H D I wanted => ?_⟩
  have ok := I.ok
  have hfr : X.A.frames = some (X.env :: X.outer) := by rw [ok.frames, hst]
  have vis : Loc X.env.scope n := .inl hln
  refine wpAny_Try_except ?_
  refine wpAny_mono ((hb (wCls X.K i Wout D l) (X.pn ++ pins) (fun e s₁ => wpAny (model X.prog X.w) X.A (noteFrame e X.env) (fun _ s₂ => wpAny (model X.prog X.w) X.A (setFlight e none) (fun _ s₃ =>
      wpAny (model X.prog X.w) X.A (handleBy e X.env (h₀ :: hs)) (SP X pins D) X.xe s₃) X.xe s₂) X.xe s₁) (fun u s' flies => ?_) PassesOwn.looking).run [] s σ H D (I.toTry _) wanted) (fun fl s1 went => ?_) (fun e s1 he => he)
  case _ =>
    obtain ⟨a, B, sI, pins', σ1, H1, cls, d, rfl, J0, gr, up0, sky, na, eo, ag, wish⟩ := flies
    have J : Inv X pins σ1 H1 sI := J0.ofTry ok
    have sky1 : Sky B (X.env :: X.outer) a (Zc cls d) X.env.locals s'.heap := hst ▸ sky
    refine (Sky.land (M := model X.prog X.w) Zc.steady hfr hf sky1 fun h3 fl3 up3 => ?_ : wpAny (model X.prog X.w) X.A (noteFrame (.ref a) X.env) _ _ _)
    -- the clauses, over any heap that keeps the flight
    have go : ∀ {hs' : List ExceptHandler} {l' : List Cls}, ClsOk X n hs' l' → ∀ h, HandSPX.FlyingZ B (X.env :: X.outer) a (Zc cls d) h → sI.heap.UpToSlots h → wCls X.K i Wout D l' cls d σ1 H1 →
        wpAny (model X.prog X.w) X.A (handleBy (.ref a) X.env hs') (SP X pins D) X.xe { s' with heap := h } := by
      intro hs' l' hk
      induction hk with
      | nil =>
        intro h fl up wo
        refine wpAny_handleBy_nil ?_
        obtain ⟨g1, g2, g3, oe, vs, T, oT, rs, he, hz, hd, e1, more⟩ := id fl
        unfold PySem.passOn
        refine wpAny_bind (wpAny_field he hd e1 ?_)
        rw [if_neg (by simp : ¬ ((Value.ref T == Value.none) = true))]
        have last : wpAny (model X.prog X.w) X.A (setFlight (.ref a) X.env.frame) (fun _ s4 => wpAny (model X.prog X.w) X.A (throw (.ref a) : Sem Flow) (SP X pins D) X.xe s4) X.xe { s' with heap := h } :=
          hf ▸ HandSPX.setFlight_upZ fl fun h4 fly4 up4 => wpAny_throw (tk _ _ ⟨a, B, sI, pins, σ1, H1, cls, d, rfl, J, gr, up.trans up4, .inr (.inr (by rw [hst]; exact fly4)), na, eo, ag, wo⟩)
        first
          | exact (wpAny_bind (wpAny_pure (wpAny_bind last)))
          | exact (wpAny_bind last)
      | @cons t cs ts b₀ suite p hs2 l2 ht hsu r ih =>
        intro h fl up wo
        obtain ⟨b, eb, yes, no⟩ := wo
        have inAir : ∀ {h : Heap}, HandSPX.FlyingZ B (X.env :: X.outer) a (Zc cls d) h → sI.heap.UpToSlots h → ∃ oe vs, h.get? a = some oe ∧ Zc cls d oe ∧ oe.data = .fields vs ∧ Inv (X.suite a ((a, oe) :: (X.pn ++ pins))) [] σ1 H1 { s' with heap := h } := by
          intro h fl up
          obtain ⟨oe, vs, he, hz, hd⟩ := (fl.there)
          have notFrame : a ∉ frs (X.env :: X.outer) := fun hm => by
            obtain ⟨_, o', e', nof⟩ := fl.2.2.1.mem hm
            rw [he] at e'
            cases e'
            exact nof _ hd
          have nL : a ≠ X.env.locals := fun z => notFrame (List.mem_filterMap.mpr ⟨X.env, List.mem_cons_self, z ▸ hf⟩)
          have nF : a ∉ X.fs := fun inFs => by
            obtain ⟨e, he, q⟩ := List.mem_filterMap.1 inFs
            exact notFrame (List.mem_filterMap.mpr ⟨e, (List.mem_cons_of_mem _ he), q⟩)
          have J2 : Inv X pins σ1 H1 { s' with heap := h } := J.landed gr fl.1 up eo ag
          exact ⟨oe, vs, he, hz, hd, J2.suite he hd na nL nF⟩
        obtain ⟨oe, vs, he, hz, hd, S⟩ := inAir fl up
        refine wpAny_handleBy_cons (codeAny_handlers_test (ht S he hz.1 eb fun h5 kp => ?_)) (by intro q; cases q)
        have fl5 := flying_on kp fl
        have up5 := up.trans (Heap.UpToSlots.of_keeps kp)
        cases b with
        | false => exact ih h5 fl5 up5 (no rfl)
        | true =>
          refine codeAny_handlers_suite_as (HandSPX.lands_againZ fl5 fun h6 fl6 up6 => ?_)
          obtain ⟨oe6, vs6, he6, hz6, hd6, S6⟩ := inAir fl6 (up5.trans up6)
          refine store_ok (X := X.suite a ((a, oe6) :: (X.pn ++ pins))) (v := .ref a) S6 hN hi vis rfl (fun s7 S7 => ?_) (.inr hln)
          refine wpAny_mono ((hsu a oe6 cls d (X.pn ++ pins) hz6 ⟨_, hd6⟩).run [] s7 _ H1 _ S7 (yes rfl a na)) (fun fl8 s8 went => ?_) (fun _ _ z => (z : False).elim)
          have off : ∀ {σ9 : L2.St} {H9 : Hp} {Q : Shared → Prop}, Inv (X.suite a ((a, oe6) :: (X.pn ++ pins))) [] σ9 H9 s8 → (∀ s9, Inv X pins (σ9.set i none) H9 s9 → Q s9) →
              wpAny (model X.prog X.w) X.A (do bindName X.env n .none; unbindBehindTheSuite X.env n p) (fun _ s9 => Q s9) X.xe s8 := fun S9 hq => gone_ok (S9.unsuite ok) hN hi hln hq
          cases fl8 with
          | next => obtain ⟨σ9, H9, S9, q9⟩ := went; exact off S9 fun s9 J9 => ⟨_, _, J9, q9⟩
          | brk => obtain ⟨σ9, H9, S9, q9⟩ := went; exact off S9 fun s9 J9 => ⟨_, _, J9, q9⟩
          | cont => obtain ⟨σ9, H9, S9, q9⟩ := went; exact off S9 fun s9 J9 => ⟨_, _, J9, q9⟩
          | ret u => obtain ⟨v9, σ9, H9, S9, r9, q9⟩ := went; exact off S9 fun s9 J9 => ⟨_, _, _, J9, r9, q9⟩
    exact go hh h3 fl3 (up0.trans up3) wish
  case _ =>
    cases fl with
    | next => obtain ⟨σ1, H1, J1, q⟩ := went; exact wpAny_execs_nil ⟨σ1, H1, J1.ofTry ok, q⟩
    | brk => obtain ⟨σ1, H1, J1, q⟩ := went; exact ⟨σ1, H1, J1.ofTry ok, q⟩
    | cont => obtain ⟨σ1, H1, J1, q⟩ := went; exact ⟨σ1, H1, J1.ofTry ok, q⟩
    | ret u => obtain ⟨v, σ1, H1, J1, r, q⟩ := went; exact ⟨v, σ1, H1, J1.ofTry ok, r, q⟩
end
/-! ### try with named and unnamed clauses -/
abbrev ClN := List Value × Option Nat × (Addr → Value → Option Addr → TS)
def endsO : Option Nat → Ends → Ends
  | some i, D => ends i D
  | none, D => D
def setO : Option Nat → Addr → L2.St → L2.St
  | some i, a, σ => σ.set i (some (.ref a))
  | none, _, σ => σ
/-- what the clauses wish of an error -/
def wMix (K : PySem.W.Frag) (Wout : WX) (D : Ends) : List ClN → WX
  | [] => Wout
  | c :: r => fun cls d σ H => ∃ b, PySem.W.exmAny K cls c.1 = some b ∧ (b = true → ∀ a, H a = none → c.2.2 a cls d (endsO c.2.1 D) (setO c.2.1 a σ) H) ∧ (b = false → wMix K Wout D r cls d σ H)
inductive MixOk (X : L2.Cx) : List ExceptHandler → List ClN → Prop
  | nil : MixOk X [] []
  | nmd {n : Str} {i : Nat} {t : Expr} {cs : List Value} {ts : Addr → Value → Option Addr → TS} {b₀ : Stmt} {suite : List Stmt} {p : Pos} {hs : List ExceptHandler} {l : List ClN} (hi : X.N[i]? = some n) (hln : X.env.kindOf n = some .local) (ht : Test X t cs)
      (hsu : ∀ (a : Addr) (oe : Obj) (cls : Value) (d : Option Addr) (pn : List (Addr × Obj)), Zc cls d oe → (∃ vs, oe.data = .fields vs) → PSs (X.suite a ((a, oe) :: pn)) (b₀ :: suite) (ts a cls d)) (r : MixOk X hs l) :
      MixOk X (.ExceptHandler (some t) (some n) (b₀ :: suite) p :: hs) ((cs, some i, ts) :: l)
  | bare {t : Expr} {cs : List Value} {ts : Addr → Value → Option Addr → TS} {b₀ : Stmt} {suite : List Stmt} {p : Pos} {hs : List ExceptHandler} {l : List ClN} (ht : Test X t cs)
      (hsu : ∀ (a : Addr) (oe : Obj) (cls : Value) (d : Option Addr) (pn : List (Addr × Obj)), Zc cls d oe → (∃ vs, oe.data = .fields vs) → PSs (X.suite a ((a, oe) :: pn)) (b₀ :: suite) (ts a cls d)) (r : MixOk X hs l) :
      MixOk X (.ExceptHandler (some t) none (b₀ :: suite) p :: hs) ((cs, none, ts) :: l)
section
variable {X : L2.Cx}
theorem ps_try_mix {body : List Stmt} {h₀ : ExceptHandler} {hs : List ExceptHandler} {l : List ClN} {pos : Pos} {tb : WX → TS} {Wout : WX}
    (hst : X.stack = X.env :: X.outer) (hf : X.env.frame = some X.env.locals) (hN : X.N.Nodup) (tk : Takes X Wout)
    (hb : ∀ (W : WX) (pn : List (Addr × Obj)) (xe : Value → Shared → Prop), Takes (X.tr pn xe) W → PassesOwn (model X.prog X.w) X.A X.env xe → PSs (X.tr pn xe) body (tb W))
    (hh : MixOk X (h₀ :: hs) l) : PS X (.Try body (h₀ :: hs) [] [] pos) (fun D σ H => tb (wMix X.K Wout D l) D σ H) := by
  refine ⟨fun pins s σ H D I wanted => ?_⟩
  have ok := I.ok
  have hfr : X.A.frames = some (X.env :: X.outer) := by rw [ok.frames, hst]
  refine wpAny_Try_except ?_
  refine wpAny_mono ((hb (wMix X.K Wout D l) (X.pn ++ pins) (fun e s₁ => wpAny (model X.prog X.w) X.A (noteFrame e X.env) (fun _ s₂ => wpAny (model X.prog X.w) X.A (setFlight e none) (fun _ s₃ =>
      wpAny (model X.prog X.w) X.A (handleBy e X.env (h₀ :: hs)) (SP X pins D) X.xe s₃) X.xe s₂) X.xe s₁) (fun u s' flies => ?_) PassesOwn.looking).run [] s σ H D (I.toTry _) wanted) (fun fl s1 went => ?_) (fun e s1 he => he)
  case _ =>
    obtain ⟨a, B, sI, pins', σ1, H1, cls, d, rfl, J0, gr, up0, sky, na, eo, ag, wish⟩ := flies
    have J : Inv X pins σ1 H1 sI := J0.ofTry ok
    have sky1 : Sky B (X.env :: X.outer) a (Zc cls d) X.env.locals s'.heap := hst ▸ sky
    refine (Sky.land (M := model X.prog X.w) Zc.steady hfr hf sky1 fun h3 fl3 up3 => ?_ : wpAny (model X.prog X.w) X.A (noteFrame (.ref a) X.env) _ _ _)
    -- the clauses, over any heap that keeps the flight
    have go : ∀ {hs' : List ExceptHandler} {l' : List ClN}, MixOk X hs' l' → ∀ h, HandSPX.FlyingZ B (X.env :: X.outer) a (Zc cls d) h → sI.heap.UpToSlots h → wMix X.K Wout D l' cls d σ1 H1 →
        wpAny (model X.prog X.w) X.A (handleBy (.ref a) X.env hs') (SP X pins D) X.xe { s' with heap := h } := by
      intro hs' l' hk
      induction hk with
      | nil =>
        intro h fl up wo
        refine wpAny_handleBy_nil ?_
        obtain ⟨g1, g2, g3, oe, vs, T, oT, rs, he, hz, hd, e1, more⟩ := id fl
        unfold PySem.passOn
        refine wpAny_bind (wpAny_field he hd e1 ?_)
        rw [if_neg (by simp : ¬ ((Value.ref T == Value.none) = true))]
        have last : wpAny (model X.prog X.w) X.A (setFlight (.ref a) X.env.frame) (fun _ s4 => wpAny (model X.prog X.w) X.A (throw (.ref a) : Sem Flow) (SP X pins D) X.xe s4) X.xe { s' with heap := h } :=
          hf ▸ HandSPX.setFlight_upZ fl fun h4 fly4 up4 => wpAny_throw (tk _ _ ⟨a, B, sI, pins, σ1, H1, cls, d, rfl, J, gr, up.trans up4, .inr (.inr (by rw [hst]; exact fly4)), na, eo, ag, wo⟩)
        first
          | exact (wpAny_bind (wpAny_pure (wpAny_bind last)))
          | exact (wpAny_bind last)
      | @nmd n i t cs ts b₀ suite p hs2 l2 hi hln ht hsu r ih =>
        intro h fl up wo
        obtain ⟨b, eb, yes, no⟩ := wo
        have inAir : ∀ {h : Heap}, HandSPX.FlyingZ B (X.env :: X.outer) a (Zc cls d) h → sI.heap.UpToSlots h → ∃ oe vs, h.get? a = some oe ∧ Zc cls d oe ∧ oe.data = .fields vs ∧ Inv (X.suite a ((a, oe) :: (X.pn ++ pins))) [] σ1 H1 { s' with heap := h } := by
          intro h fl up
          obtain ⟨oe, vs, he, hz, hd⟩ := (fl.there)
          have notFrame : a ∉ frs (X.env :: X.outer) := fun hm => by
            obtain ⟨_, o', e', nof⟩ := fl.2.2.1.mem hm
            rw [he] at e'
            cases e'
            exact nof _ hd
          have nL : a ≠ X.env.locals := fun z => notFrame (List.mem_filterMap.mpr ⟨X.env, List.mem_cons_self, z ▸ hf⟩)
          have nF : a ∉ X.fs := fun inFs => by
            obtain ⟨e, he, q⟩ := List.mem_filterMap.1 inFs
            exact notFrame (List.mem_filterMap.mpr ⟨e, (List.mem_cons_of_mem _ he), q⟩)
          have J2 : Inv X pins σ1 H1 { s' with heap := h } := J.landed gr fl.1 up eo ag
          exact ⟨oe, vs, he, hz, hd, J2.suite he hd na nL nF⟩
        obtain ⟨oe, vs, he, hz, hd, S⟩ := inAir fl up
        refine wpAny_handleBy_cons (codeAny_handlers_test (ht S he hz.1 eb fun h5 kp => ?_)) (by intro q; cases q)
        have fl5 := flying_on kp fl
        have up5 := up.trans (Heap.UpToSlots.of_keeps kp)
        cases b with
        | false => exact ih h5 fl5 up5 (no rfl)
        | true =>
          have vis : Loc X.env.scope n := .inl hln
          refine codeAny_handlers_suite_as (HandSPX.lands_againZ fl5 fun h6 fl6 up6 => ?_)
          obtain ⟨oe6, vs6, he6, hz6, hd6, S6⟩ := inAir fl6 (up5.trans up6)
          refine store_ok (X := X.suite a ((a, oe6) :: (X.pn ++ pins))) (v := .ref a) S6 hN hi vis rfl (fun s7 S7 => ?_) (.inr hln)
          refine wpAny_mono ((hsu a oe6 cls d (X.pn ++ pins) hz6 ⟨_, hd6⟩).run [] s7 _ H1 _ S7 (yes rfl a na)) (fun fl8 s8 went => ?_) (fun _ _ z => (z : False).elim)
          have off : ∀ {σ9 : L2.St} {H9 : Hp} {Q : Shared → Prop}, Inv (X.suite a ((a, oe6) :: (X.pn ++ pins))) [] σ9 H9 s8 → (∀ s9, Inv X pins (σ9.set i none) H9 s9 → Q s9) →
              wpAny (model X.prog X.w) X.A (do bindName X.env n .none; unbindBehindTheSuite X.env n p) (fun _ s9 => Q s9) X.xe s8 := fun S9 hq => gone_ok (S9.unsuite ok) hN hi hln hq
          cases fl8 with
          | next => obtain ⟨σ9, H9, S9, q9⟩ := went; exact off S9 fun s9 J9 => ⟨_, _, J9, q9⟩
          | brk => obtain ⟨σ9, H9, S9, q9⟩ := went; exact off S9 fun s9 J9 => ⟨_, _, J9, q9⟩
          | cont => obtain ⟨σ9, H9, S9, q9⟩ := went; exact off S9 fun s9 J9 => ⟨_, _, J9, q9⟩
          | ret u => obtain ⟨v9, σ9, H9, S9, r9, q9⟩ := went; exact off S9 fun s9 J9 => ⟨_, _, _, J9, r9, q9⟩
      | @bare t cs ts b₀ suite p hs2 l2 ht hsu r ih =>
        intro h fl up wo
        obtain ⟨b, eb, yes, no⟩ := wo
        have inAir : ∀ {h : Heap}, HandSPX.FlyingZ B (X.env :: X.outer) a (Zc cls d) h → sI.heap.UpToSlots h → ∃ oe vs, h.get? a = some oe ∧ Zc cls d oe ∧ oe.data = .fields vs ∧ Inv (X.suite a ((a, oe) :: (X.pn ++ pins))) [] σ1 H1 { s' with heap := h } := by
          intro h fl up
          obtain ⟨oe, vs, he, hz, hd⟩ := (fl.there)
          have notFrame : a ∉ frs (X.env :: X.outer) := fun hm => by
            obtain ⟨_, o', e', nof⟩ := fl.2.2.1.mem hm
            rw [he] at e'
            cases e'
            exact nof _ hd
          have nL : a ≠ X.env.locals := fun z => notFrame (List.mem_filterMap.mpr ⟨X.env, List.mem_cons_self, z ▸ hf⟩)
          have nF : a ∉ X.fs := fun inFs => by
            obtain ⟨e, he, q⟩ := List.mem_filterMap.1 inFs
            exact notFrame (List.mem_filterMap.mpr ⟨e, (List.mem_cons_of_mem _ he), q⟩)
          have J2 : Inv X pins σ1 H1 { s' with heap := h } := J.landed gr fl.1 up eo ag
          exact ⟨oe, vs, he, hz, hd, J2.suite he hd na nL nF⟩
        obtain ⟨oe, vs, he, hz, hd, S⟩ := inAir fl up
        refine wpAny_handleBy_cons (codeAny_handlers_test (ht S he hz.1 eb fun h5 kp => ?_)) (by intro q; cases q)
        have fl5 := flying_on kp fl
        have up5 := up.trans (Heap.UpToSlots.of_keeps kp)
        cases b with
        | false => exact ih h5 fl5 up5 (no rfl)
        | true =>
          refine codeAny_handlers_suite (HandSPX.lands_againZ fl5 fun h6 fl6 up6 => ?_)
          obtain ⟨oe6, vs6, he6, hz6, hd6, S6⟩ := inAir fl6 (up5.trans up6)
          refine wpAny_mono ((hsu a oe6 cls d (X.pn ++ pins) hz6 ⟨_, hd6⟩).run [] _ _ H1 _ S6 (yes rfl a na)) (fun fl8 s8 went => ?_) (fun _ _ z => (z : False).elim)
          cases fl8 with
          | next => obtain ⟨σ9, H9, S9, q9⟩ := went; exact ⟨_, _, S9.unsuite ok, q9⟩
          | brk => obtain ⟨σ9, H9, S9, q9⟩ := went; exact ⟨_, _, S9.unsuite ok, q9⟩
          | cont => obtain ⟨σ9, H9, S9, q9⟩ := went; exact ⟨_, _, S9.unsuite ok, q9⟩
          | ret u => obtain ⟨v9, σ9, H9, S9, r9, q9⟩ := went; exact ⟨_, _, _, S9.unsuite ok, r9, q9⟩
    exact go hh h3 fl3 (up0.trans up3) wish
  case _ =>
    cases fl with
    | next => obtain ⟨σ1, H1, J1, q⟩ := went; exact wpAny_execs_nil ⟨σ1, H1, J1.ofTry ok, q⟩
    | brk => obtain ⟨σ1, H1, J1, q⟩ := went; exact ⟨σ1, H1, J1.ofTry ok, q⟩
    | cont => obtain ⟨σ1, H1, J1, q⟩ := went; exact ⟨σ1, H1, J1.ofTry ok, q⟩
    | ret u => obtain ⟨v, σ1, H1, J1, r, q⟩ := went; exact ⟨v, σ1, H1, J1.ofTry ok, r, q⟩
end
/-! ### C(e, ..) whose __init__ may raise, in a try -/
section
variable {X : L2.Cx} {CY : CXT} {k : Nat} {f C : Addr} {fd : FuncData} {ps : List Str} {sp : Sp} {E : L2.St → XK} {x : Str} {p pos : Pos} {e : Expr} {es : List Expr} {t : TA}
def tMakeS (C : Addr) (sp : Sp) (E : L2.St → XK) (t : TA) : TE := fun σ H Q => t σ H fun vs H1 => ∀ x dx, H1 x = none → H1 dx = none → dx ≠ x → sp (.ref x :: (vs ++ [])) (upd (upd H1 dx (.own x)) x (.ins C dx [])) (fun v H2 => v = .non ∧ Q (.ref x) H2) (E σ)
theorem run_makeS {pins : List (Addr × Obj)} {σ : L2.St} {H : Hp} {s : Shared} {Q : VK} {us ds : List Value} {vs dvs : List V} (M : Mk X.K C f) (F : FnOk X.prog X.w X.K X.mg X.base CY k f fd ps sp) (hr : Room (k + 1) X.A) (hb : Binds X.K fd ps ds) (hd : Vals dvs ds)
    (out : PassesAt CY X σ (E σ)) (I : Inv X pins σ H s) (r : Vals vs us) (w0 : ∀ x dx, H x = none → H dx = none → dx ≠ x → sp (.ref x :: (vs ++ dvs)) (upd (upd H dx (.own x)) x (.ins C dx [])) (fun v H2 => v = .non ∧ Q (.ref x) H2) (E σ)) : wpAny (model X.prog X.w) X.A (call (.ref C) us) (EP X pins σ Q) X.xe s := by
  have new : ∀ j, H (s.heap.objs.size + j) = none := fun j => I.hok.fresh (Nat.le_add_right _ j)
  have goal := w0 _ _ (new 1) (new 0) (Nat.ne_of_lt (Nat.lt_succ_self s.heap.objs.size))
  have J := Inv.made (C := C) (pins := pins) (σ := σ) I
  have args : Vals (V.ref (s.heap.objs.size + 1) :: (vs ++ dvs)) (Value.ref (s.heap.objs.size + 1) :: (us ++ ds)) := .cons rfl (Vals.append r hd)
  have many : (Value.ref (s.heap.objs.size + 1) :: (us ++ ds)).length = ps.length := args.length.symm.trans (F.len _ _ _ _ goal)
  have ran := F.run _ X.stack _ _ ⟨Value.ref (s.heap.objs.size + 1) :: us, []⟩ _ _ _ (E σ) (hr.make C us []) (J.env0.make C us []) (hb _ (Value.ref (s.heap.objs.size + 1) :: us) J.kIn many) args goal
  refine wpAny_call (make_map (f := f) I.kIn M.makes M.init (beq_iff_eq.mp M.fn) (codeAny_mono ran ?_))
  rintro (er | fl) s2 got
  · exact out pins _ _ er s2 J got
  · match fl, got with
    | .ret u, got =>
      obtain ⟨v, H', J2, rv, e0, q⟩ := J.after got
      exact ⟨(e0 ▸ rv : RelV .non u), .ref (s.heap.objs.size + 1), H', J2, rfl, q⟩
    | .next, got => exact got.elim
    | .brk, got => exact got.elim
    | .cont, got => exact got.elim
theorem pe_makeS (M : Mk X.K C f) (F : FnOk X.prog X.w X.K X.mg X.base CY k f fd ps sp) (hr : Room (k + 1) X.A) (hg : Gl X x) (hm : X.mg x = some (.ref C)) (hb : Binds X.K fd ps []) (out : ∀ σ, PassesAt CY X σ (E σ)) (ha : PA X (e :: es) t)
    (hdb : (x == ("__debug__" : Str)) = false := by decide) (st : starEach (e :: es) X.env = (false, eval e X.env) :: starEach es X.env := by rfl) (pl : (backTo pos (starEach es X.env)).any (·.1) = false := by rfl) : PE X (.Call (.Name x p) (e :: es) [] pos) (tMakeS C sp E t) where
  run pins s σ H Q I w0 := wpAny_Call_Name_kw (ld_glob I hg hm (PySem.W.callWith_K (h₀ := X.base) I.ok.mod.kin M.kp (thn (ha.run pos pins s σ H _ I w0) fun _ _ ⟨_, _, J, r, q⟩ => ⟨J.kIn, run_makeS (dvs := []) M F hr hb .nil (out σ) J r q⟩) st pl) hdb)
end
/-! ### try by data -/
/-- the attributes of an error, as they stand -/
def Co.xd (K : PySem.W.Frag) (dd : Addr) (fs : List (Str × V)) (es : List (PyData × PyData)) : Co Unit where
  M := fun _ => False
  I := fun T _ H => ¬ T dd ∧ H dd = some (.xd fs) ∧ DaF K T H (fs.map fun (p : Str × V) => (PyData.str p.1, p.2)) es
  old := fun _ _ _ _ _ m => m.elim
  keep := fun _ _ _ _ _ _ f h => ⟨h.1, f _ _ h.1 h.2.1, h.2.2.keep f⟩
  mono := fun _ _ _ _ w h => ⟨fun z => h.1 (w _ _ h.2.1 z), h.2.1, h.2.2.mono w⟩
def lkE (f : Str) : List (PyData × PyData) → Option PyData
  | [] => none
  | (.str n, d) :: r => if f = n then some d else lkE f r
  | _ :: r => lkE f r
theorem daF_lkE {K : PySem.W.Frag} {S : Ad} {H : Hp} {f : Str} {d : PyData} : ∀ {fs : List (Str × V)} {es : List (PyData × PyData)}, DaF K S H (fs.map fun p => (PyData.str p.1, p.2)) es → lkE f es = some d → ∃ v, fs.lookup f = some v ∧ Da K S H v d
  | [], [], _, h => by cases h
  | [], _ :: _, h, _ => by (cases h)
  | _ :: _, [], h, _ => by (cases h)
  | (n, x) :: fs, (n', e) :: es, h, hl => by
    rw [List.map_cons] at h
    cases h with
    | cons h r =>
      rw [lkE] at hl
      by_cases q : f = n
      · rw [if_pos q] at hl
        cases hl
        subst q
        exact ⟨x, by simp [List.lookup], h⟩
      · rw [if_neg q] at hl
        obtain ⟨v, e1, e2⟩ := daF_lkE r hl
        refine ⟨v, ?_, e2⟩
        rw [List.lookup_cons, show (f == n) = false from beq_eq_false_iff_ne.mpr q]
        exact e1
section
variable {K : PySem.W.Frag} {E : XK} {x : KX Unit} {g : Unit} {ρ : List En} {k : KD Unit} {kt : Kz Unit} {i : Nat} {a dd : Addr} {fs : List (Str × V)} {es : List (PyData × PyData)} {d : PyData} {nm f : Str} {tl : TA}
/-- e.f of the error in hand -/
theorem We_xf (e : ρ[i]? = some (En.raw (.ref a))) (hl : lkE f es = some d) (h : k d g) : We ⟨K, Co.xd K dd fs es, E, x⟩ (tXf a (.ref (He.ga K nm)) (some dd) (He.ga K nm) f (tVar i)) g ρ k := fun S H0 σ H Q s xe q => by
  obtain ⟨v, e1, dv⟩ := daF_lkE s.I.2.2 hl
  exact ⟨_, s.raw i _ e, rfl, rfl, dd, fs, v, rfl, s.I.2.1, e1, q v H d g (Frm.refl _ _) s.I dv h⟩
/-- what a clause makes of an error -/
inductive TryAt (K : PySem.W.Frag) (ρ : List En) (r : KD Unit) (nm : Str) (es : List (PyData × PyData)) : List ClN → Prop
  | nmd {cs : List Value} {i : Nat} {ts : Addr → Value → Option Addr → TS} {l : List ClN} (m : PySem.W.exmAny K (.ref (He.ga K nm)) cs = some true) (ne : es ≠ []) (hi : i < ρ.length)
      (h : ∀ a dd fs, Ws ⟨K, Co.xd K dd fs es, E0, Nev Unit⟩ (ts a (.ref (He.ga K nm)) (some dd)) () (ρ.set i (En.raw (.ref a))) ⟨fun _ _ => False, r, fun _ _ => False, fun _ _ => False⟩) : TryAt K ρ r nm es ((cs, some i, ts) :: l)
  | bare {cs : List Value} {ts : Addr → Value → Option Addr → TS} {l : List ClN} (m : PySem.W.exmAny K (.ref (He.ga K nm)) cs = some true)
      (h : ∀ a od, Ws ⟨K, Co.pure, E0, Nev Unit⟩ (ts a (.ref (He.ga K nm)) od) () ρ ⟨fun _ _ => False, r, fun _ _ => False, fun _ _ => False⟩) : TryAt K ρ r nm es ((cs, none, ts) :: l)
  | skip {c : ClN} {l : List ClN} (m : PySem.W.exmAny K (.ref (He.ga K nm)) c.1 = some false) (t : TryAt K ρ r nm es l) : TryAt K ρ r nm es (c :: l)
theorem Ws_try {l : List ClN} {tb : WX → TS} {tbE : (L2.St → XK) → TS} {x' : KX Unit} (eq : ∀ (W : WX) (D : Ends) (σ : L2.St) (H : Hp), tb W D σ H = tbE (fun _ => WE W σ) D σ H) (no : ∀ (i : Nat) d, ρ[i]? ≠ some (En.own d))
    (h : ∀ E' : XK, Ws ⟨K, Co.pure, E', x'⟩ (tbE fun _ => E') () ρ kt) (hx : ∀ n es, x' n es () → TryAt K ρ kt.rt n es l) : Ws ⟨K, Co.pure, E, x⟩ (fun D σ H => tb (wMix K (fun _ _ _ _ => False) D l) D σ H) () ρ kt := fun S H0 σ H D s xe L => by
  show tb _ D σ H
  rw [eq]
  have nT : ∀ a, ¬ Tow σ ρ a := fun a ⟨i, d, e, _⟩ => no i d e
  have ss : SS S σ ρ = S := funext fun a => propext ⟨fun z => z.elim id fun z => (nT a z).elim, .inl⟩
  have s0 : Sl K Co.pure S H () H σ ρ := ⟨Frm.refl _ _, s.old, fun a m => m.elim, fun a t => (nT a t).elim, trivial, s.len, s.da, s.own, s.raw, s.nt, s.inj⟩
  have hold : ∀ a, H a = none ∧ ¬ S a → H0 a = none ∧ ¬ S a := fun a t => by
    obtain ⟨t1, t2⟩ := t
    refine ⟨?_, t2⟩
    cases e : H0 a with
    | none => rfl
    | some o =>
      have := s.frm a o (fun z => z) e
      rw [t1] at this
      cases this
  have back : ∀ {σ' : L2.St} {H' : Hp} {ρ' : List En} {g' : Unit}, Sl K Co.pure S H g' H' σ' ρ' → Sl K Co.pure S H0 g' H' σ' ρ' := fun s' => ⟨s.frm.trans s'.frm, s'.old, s'.sub, fun a t => hold a (s'.tn a t), s'.I, s'.len, s'.da, s'.own, s'.raw, s'.nt, s'.inj⟩
  refine h _ S H σ H D s0 (fun n od H' g' es f I xd hx' => ?_) ⟨fun σ' H' ρ' g' s' st w => L.nx σ' H' ρ' g' (back s') st w, fun y H' d g' f I dy w => L.rt y H' d g' (s.frm.trans f) trivial dy w, fun σ' H' ρ' g' s' st w => L.bk σ' H' ρ' g' (back s') st w, fun σ' H' ρ' g' s' st w => L.ct σ' H' ρ' g' (back s') st w⟩
  show wMix K (fun _ _ _ _ => False) D l (.ref (He.ga K n)) od σ H'
  have s1 : Sl K Co.pure S H0 () H' σ ρ := s.step f trivial
  have never : ∀ {n : Unit → List En → Prop} {C : Co Unit} {x2 : KX Unit} {ρ2 : List En} {σ2 : L2.St} {N : L2.St → Hp → Prop}, (∀ g r, ¬ n g r) → LkN ⟨K, C, E0, x2⟩ S H0 σ2 ρ2 H' n N := fun hn σ' H2 ρ' g' _ _ w => (hn _ _ w).elim
  have all : ∀ l', TryAt K ρ kt.rt n es l' → wMix K (fun _ _ _ _ => False) D l' (.ref (He.ga K n)) od σ H' := by
   intro l' go
   induction go with
   | @nmd cs i ts l m ne hi h1 =>
    refine ⟨true, m, fun _ a ha => ?_, fun z => nomatch z⟩
    rcases xd with ⟨_, z⟩ | ⟨dd, fs, rfl, ed, df⟩
    · exact absurd z ne
    have nS : ¬ S dd := fun z => by
      obtain ⟨o, e, nt⟩ := s1.old dd z
      rw [ed] at e; cases e; exact nt trivial
    have s2 := s1.set_raw (x := .ref a) hi
    have nT2 : ∀ b, ¬ Tow (σ.set i (some (.ref a))) (ρ.set i (En.raw (.ref a))) b := fun b ⟨j, d, e, _⟩ => (get_set e).elim (fun z => by cases z.2) fun z => no j d z.2
    have ss2 : SS S (σ.set i (some (.ref a))) (ρ.set i (En.raw (.ref a))) = S := funext fun a => propext ⟨fun z => z.elim id fun z => (nT2 a z).elim, .inl⟩
    have s3 : Sl K (Co.xd K dd fs es) S H0 () H' (σ.set i (some (.ref a))) (ρ.set i (En.raw (.ref a))) := ⟨s2.frm, s2.old, s2.sub, s2.tn, by rw [ss2]; exact ⟨nS, ed, df⟩, s2.len, s2.da, s2.own, s2.raw, s2.nt, s2.inj⟩
    exact h1 a dd fs S H0 _ H' _ s3 (XE.nev rfl) ⟨never fun _ _ z => z, fun y H2 d g' f2 I2 dy w => L.rt y H2 d g' f2 trivial dy w, never fun _ _ z => z, never fun _ _ z => z⟩
   | @bare cs ts l m h1 =>
    refine ⟨true, m, fun _ a ha => ?_, fun z => nomatch z⟩
    exact h1 a od S H0 _ H' _ s1 (XE.nev rfl) ⟨never fun _ _ z => z, fun y H2 d g' f2 I2 dy w => L.rt y H2 d g' f2 trivial dy w, never fun _ _ z => z, never fun _ _ z => z⟩
   | @skip c l m t ih => exact ⟨false, m, (fun z => nomatch z), fun _ => ih⟩
  exact all l (hx n es hx')
end
section
variable {γ γ' : Type} {B : Bd γ} {tl : TA} {g : γ} {ρ : List En} {k : KD γ} {nm : Str}
theorem We_callS {C' : Co γ'} {get : γ → γ'} {put : γ → γ' → γ} (L : Ln B.C C' get put) {R : List En → γ' → KD γ' → KX γ' → Prop} (h : Wa B tl g ρ fun es g1 => R es (get g1) (fun d g' => k d (put g1 g')) fun nm xs g' => B.x nm xs (put g1 g')) : We B (tCallS (spX B.K C' R) (fun _ => B.E) tl) g ρ k := fun S H0 σ H Q s x q =>
  h S H0 σ H _ s x fun ys H1 es g1 f1 I1 a1 h1 => spX_run L (s.step f1 I1) a1 h1 (x.into L (s.step f1 I1)) fun y H2 d g2 f2 I2 d2 h2 => q y H2 d g2 (f1.trans f2) I2 d2 h2
theorem Wn_makeS {R : Addr → List En → PB → KD PB → KX PB → Prop} (h : Wa B tl g ρ fun es g1 => ∀ p, R p (En.raw (.ref p) :: es) ((), insD nm []) (fun d g' => d = .none ∧ NT g'.2 ∧ k g'.2 g1) fun n xs _ => B.x n xs g1) : Wn B (tMakeS (He.ga B.K nm) (spY B.K (CB B.K) R) (fun _ => B.E) tl) g ρ k := fun S H0 σ H Q s x q =>
  h S H0 σ H _ s x fun ys H1 es g1 f I al hR => Wn_make0 rfl (s.step f I) x al hR fun a H' d g' n f2 I2 ho nt hk => q a H' d g' (f.gone (B.C.old _ _ _ I) n) (f.trans f2) I2 ho nt hk
end
/-! ### isinstance(e, c) of the error that the suite holds, with its own dict -/
def rIsEd (K : PySem.W.Frag) (D a : Addr) (cls : Value) (d : Option Addr) : List V → Hp → VK → Prop := fun xs H Q => ∃ (c : V) (cv : Value) (b : Bool), xs = [.ref a, c] ∧ cls = .ref D ∧ (∀ u, RelV c u → u = cv) ∧ PySem.W.kitOne K (.ref D) cv = some b ∧ (∃ dd fs, d = some dd ∧ H dd = some (.xd fs)) ∧ Q (.bl b) H
theorem call_isEd {X : Cx} {x b : Str} {fs : List Str} {a : Addr} {oe : Obj} {cls : Value} {d : Option Addr} {pn : List (Addr × Obj)} (T : ExF X.K X.mg x b fs) (hn : PySem.W.specialIn X.K (.builtin "object.__class__") "__get__" = some (some (.builtin "getset_descriptor.__get__"))) (ht : PySem.W.takesIn X.K (.builtin "object.__class__") = some true)
    (hz : Zc cls d oe) (hf : ∃ vs, oe.data = .fields vs) : CallR (X.suite a ((a, oe) :: pn)) (.builtin "isinstance") (rIsEd X.K (He.ga X.K x) a cls d) := by
  intro pns s σ H xs us Q I r h
  obtain ⟨c, cv, bb, rfl, rfl, hcv, e, ⟨dd, f2, rfl, ed⟩, q⟩ := h
  cases r with
  | cons rx rr =>
    cases rr with
    | cons rt rr =>
      cases rr
      cases rx
      have ec := hcv _ rt
      subst ec
      obtain ⟨hget, _⟩ := I.pin (a, oe) (List.mem_append_left _ List.mem_cons_self)
      obtain ⟨vs, hd⟩ := hf
      obtain ⟨mA, hns, _⟩ := (show ObjOk X.prog X.w H s.heap dd (.xd f2) from I.hok dd _ ed)
      obtain ⟨o2, ho2, _⟩ := lookIn_ns hns
      have J : PySem.W.InstAt s.heap a oe (He.ga X.K x) (some o2) := ⟨hget, hz.1, by unfold PySem.W.notCls; rw [hd] <;> rfl, by rw [hz.2]; exact ho2⟩
      exact PySem.W.kia_one (PySem.W.kitx_exc T.cl T.ga T.gg T.exC T.ca hn ht T.mo) I.kIn J e (fun z => nomatch z) fun tk => ⟨.bl bb, H, I.tok tk, rfl, q⟩
/-- an error with attributes, in full -/
structure ErrF (P : Program) (w : World) (K : PySem.W.Frag) (mg : Str → Option Value) (base : Heap) (x : Str) (fs : List Str) : Prop where
  a : ErrA P w K mg base x fs
  xf : XfC K (He.ga K x)
  xm : PySem.W.exmOne K (.ref (He.ga K x)) (.ref (He.ga K x)) = some true
/-- what isinstance asks of every error -/
structure IsTxt (K : PySem.W.Frag) (mg : Str → Option Value) : Prop where
  gb : mg "BookError" = some (.ref (He.ga K "BookError"))
  (hn : (PySem.W.specialIn K (.builtin "object.__class__") "__get__" = some (some (.builtin "getset_descriptor.__get__"))))
  (ht : (PySem.W.takesIn K (.builtin "object.__class__") = some true))
section
variable {P : Program} {w : World} {K : PySem.W.Frag} {mg : Str → Option Value} {base : Heap}
/-! ### _law_refused -/
end
section
variable {P : Program} {w : World} {K : PySem.W.Frag} {mg : Str → Option Value} {base : Heap}
theorem exm1 {K : PySem.W.Frag} {cls c : Value} {b : Bool} (h : PySem.W.exmOne K cls c = some b) : PySem.W.exmAny K cls [c] = some b := by
  have e : PySem.W.exmAny K cls [c] = (match PySem.W.exmOne K cls c, PySem.W.exmAny K cls [] with | some b, some d => some (b || d) | _, _ => none) := rfl
  rw [e, h]
  show some (b || false) = _
  rw [Bool.or_false]
def RRef (n : Nat) : List En → Unit → KD Unit → KX Unit → Prop := fun es _ k _ => ∃ (ps : List Pr) (nm pl : PyData) (wy : Int), es = [En.da (.int wy), En.da (pgD ps), En.da nm, En.da pl] ∧ pl.canLay0 = true ∧ Shp nm ∧ (∀ p ∈ ps, Shp (.str p.f)) ∧ (∀ p ∈ ps, Rw.depl p.rs < n ∧ Rw.szl p.rs ≤ 60000) ∧
  (ps.find? (isNm nm) = none → k (.tuple [.str "name", nm]) ()) ∧ ∀ p, ps.find? (isNm nm) = some p → wy = 3 ∧ (wDd 0 (Rw.szl p.rs : Nat) pl = false → k (.tuple [.str "place"]) ()) ∧ ∀ i : Nat, pl = .int i → i ≤ Rw.szl p.rs → k (.tuple [.str "none"]) ()
abbrev tRf (K : PySem.W.Frag) (n : Nat) (E : L2.St → XK) : TS := tIfS (tTest (tOp (rEqD K) (tVar 0) (tC (.int 0)))) (tDrop (tCallS (spX K Co.pure (RCnt n)) E (tCons (tVar 1) (tCons (tVar 2) tNil))))
  (tIfS (tTest (tOp (rEqD K) (tVar 0) (tC (.int 1)))) (tDrop (tCallS (spX K Co.pure (RCpl n)) E (tCons (tVar 1) (tCons (tVar 2) tNil))))
  (tIfS (tTest (tOp (rEqD K) (tVar 0) (tC (.int 2)))) (tDrop (tCallS (spX K Co.pure (RArr n)) E (tCons (tVar 1) (tCons (tVar 2) tNil))))
  (tDrop (tCallS (spX K Co.pure (RRap n)) E (tCons (tVar 1) (tCons (tVar 2) (tCons (tVar 3) tNil)))))))
abbrev s__law_refused : Stmt := top 70
abbrev N__law_refused : List Str := ["_law_way", "_law_program_here", "_law_name", "_law_place", "e"]
abbrev P__law_refused : List Str := ["_law_way", "_law_program_here", "_law_name", "_law_place"]
theorem sc__law_refused : FnScope N__law_refused P__law_refused (defScope s__law_refused) := ⟨rfl, rfl, rfl, by decide +kernel, rfl, by decide +kernel, by decide +kernel⟩
-- slots: 0 _law_way, 1 _law_program_here, 2 _law_name, 3 _law_place, 4 e
theorem kp__law_refused (n : Nat) (F : At K mg "_law_refused" s__law_refused) (S : ErrF P w K mg base "NoProcedure" ["name"]) (S2 : ExF K mg "BadPlace" "BookError" []) (no1 : PySem.W.exmOne K (.ref (He.ga K "BadPlace")) (.ref (He.ga K "NoProcedure")) = some false) (ye1 : PySem.W.exmOne K (.ref (He.ga K "BadPlace")) (.ref (He.ga K "BadPlace")) = some true)
    (G0 : Keeps (CX P w) P w K mg base "place_count" (n + 4) ["program", "name"] (spX K Co.pure (RCnt n))) (G1 : Keeps (CX P w) P w K mg base "call_places" (n + 4) ["program", "name"] (spX K Co.pure (RCpl n))) (G2 : Keeps (CX P w) P w K mg base "arrows_of" (2 * n + 4) ["program", "name"] (spX K Co.pure (RArr n)))
    (G3 : Keeps (CX P w) P w K mg base "row_at_place" (n + 4) ["program", "name", "place"] (spX K Co.pure (RRap n))) : Keeps CX0 P w K mg base "_law_refused" (2 * n + 5) ["_law_way", "_law_program_here", "_law_name", "_law_place"] (spX K Co.pure (RRef n)) := by
  refine keeps_x F sc__law_refused (fun _ _ _ _ _ _ us hl => match us, hl with | [_, _, _, _], _ => rfl) (fun es g k x h => ?_) (fun fa cdv A outer s H E es g k x hr h => ?_)
  · obtain ⟨_, _, _, _, rfl, _⟩ := h; rfl
  · obtain ⟨ps, nm, pl, wy, rfl, hpl, hnm, hps, hdp, hk0, hk⟩ := h
    obtain ⟨f0, F0, b0, p0, m0⟩ := G0.up (show n + 4 ≤ 2 * n + 4 by omega)
    obtain ⟨f1, F1, b1, p1, m1⟩ := G1.up (show n + 4 ≤ 2 * n + 4 by omega)
    obtain ⟨f2, F2, b2, p2, m2⟩ := G2
    obtain ⟨f3, F3, b3, p3, m3⟩ := G3.up (show n + 4 ≤ 2 * n + 4 by omega)
    refine ⟨_, (pss_cons (ps_try_mix (l := [([.ref (He.ga K "NoProcedure")], some 4, fun a cls d => tRet (tTup (tCons (tC (.str "name")) (tCons (tXf a cls d (He.ga K "NoProcedure") "name" (tVar 4)) tNil)))), ([.ref (He.ga K "BadPlace")], none, fun a cls d => tRet (tTup (tCons (tC (.str "place")) tNil)))])
        (tb := fun W => tRf K n (WE W)) (Wout := fun _ _ _ _ => False) rfl rfl sc__law_refused.nd takes0
        (fun W pn xe tk _ => pss_one (ps_if (pt_cmpR (op_eqD hr.units) (pv 0) pe_int (nomark _)) (pss_one (ps_expr (pe_callS F0 hr (by rfl) m0 p0 b0 (fun σ => passAt tk σ) (pa_cons (pv 1) (pa_cons (pv 2) pa_nil)))))
          (pss_one (ps_if (pt_cmpR (op_eqD hr.units) (pv 0) pe_int (nomark _)) (pss_one (ps_expr (pe_callS F1 hr (by rfl) m1 p1 b1 (fun σ => passAt tk σ) (pa_cons (pv 1) (pa_cons (pv 2) pa_nil)))))
          (pss_one (ps_if (pt_cmpR (op_eqD hr.units) (pv 0) pe_int (nomark _)) (pss_one (ps_expr (pe_callS F2 hr (by rfl) m2 p2 b2 (fun σ => passAt tk σ) (pa_cons (pv 1) (pa_cons (pv 2) pa_nil)))))
          (pss_one (ps_expr (pe_callS F3 hr (by rfl) m3 p3 b3 (fun σ => passAt tk σ) (pa_cons (pv 1) (pa_cons (pv 2) (pa_cons (pv 3) pa_nil))))))))))))
        (MixOk.nmd rfl rfl (test1 ⟨(by rfl), by decide, .inl S.a.xt.g⟩) (fun a oe cls d pn hz hf => pss_one (ps_ret (pe_tup (pa_cons pe_str (pa_cons (pe_xf S.xf (S.a.xt.no _ (by decide)) hz hf (pv 4)) pa_nil)))))
          (MixOk.bare (test1 ⟨(by rfl), by decide, .inl S2.g⟩) (fun a oe cls d pn hz hf => pss_one (ps_ret (pe_tup (pa_cons pe_str pa_nil)))) .nil)))
        (pss_one (ps_ret (pe_tup (pa_cons pe_str pa_nil))))), ?_⟩
    try dsimp only [cxOf, L2.Cx.wish]
    have none_ : (PyData.int 0).canLay0 = true := rfl
    refine Ws_seq (Ws_try (tbE := fun E => tRf K n E) (x' := fun z es _ => (z = "NoProcedure" ∧ es = nopX nm ∧ k (.tuple [.str "name", nm]) ()) ∨ (z = "BadPlace" ∧ es = [] ∧ k (.tuple [.str "place"]) ())) (fun W D σ H => rfl) (fun i d e => ?_) (fun E' => ?_) (fun z es hx => ?_))
    · have := List.mem_of_getElem? e
      simp [slots] at this
    · have done : k (.tuple [.str "none"]) () → Ws ⟨K, Co.pure, E, x⟩ (tRet (tTup (tCons (tC (.str "none")) tNil))) () (slots N__law_refused [En.da (.int wy), En.da (pgD ps), En.da nm, En.da pl]) ⟨fun g' _ => k .none g', k, fun _ _ => False, fun _ _ => False⟩ := fun hk => by
        walk_at "wq"
        exact hk
      have bad : ∀ {R : Prop}, wy ≠ 3 → ∀ p, ps.find? (isNm nm) = some p → R := fun h p hp => absurd (hk p hp).1 h
      have e3 : ∀ j : Int, PyData.eqv (.int wy) (.int j) = decide (wy = j) := fun j => rfl
      refine Ws_if ?_
      walk_at "wv"
      refine ⟨fun h => ?_, fun h => ?_⟩
      · have hw : wy ≠ 3 := by have := of_decide_eq_true (h : decide (wy = 0) = true); omega
        refine Ws_drop (We_callS Ln.pure (Wa_cons (We_var rfl (Wa_cons (We_var rfl (Wa_nil ⟨_, _, rfl, ps, rfl, hnm, hps, hdp, bad hw, fun hn => .inl ⟨rfl, rfl, hk0 hn⟩⟩))))))
      refine Ws_if ?_
      walk_at "wv"
      refine ⟨fun h => ?_, fun h => ?_⟩
      · have hw : wy ≠ 3 := by have := of_decide_eq_true (h : decide (wy = 1) = true); omega
        refine Ws_drop (We_callS Ln.pure (Wa_cons (We_var rfl (Wa_cons (We_var rfl (Wa_nil ⟨_, _, rfl, ps, rfl, hnm, hps, hdp, bad hw, fun hn => .inl ⟨rfl, rfl, hk0 hn⟩⟩))))))
      refine Ws_if ?_
      walk_at "wv"
      refine ⟨fun h => ?_, fun h => ?_⟩
      · have hw : wy ≠ 3 := by have := of_decide_eq_true (h : decide (wy = 2) = true); omega
        refine Ws_drop (We_callS Ln.pure (Wa_cons (We_var rfl (Wa_cons (We_var rfl (Wa_nil ⟨_, _, rfl, ps, rfl, hnm, hps, hdp, bad hw, fun hn => .inl ⟨rfl, rfl, hk0 hn⟩⟩))))))
      refine Ws_drop (We_callS Ln.pure (Wa_cons (We_var rfl (Wa_cons (We_var rfl (Wa_cons (We_var rfl (Wa_nil ⟨_, _, _, rfl, hpl, ps, rfl, hnm, hps, hdp, fun p hp => ⟨fun hw => .inr ⟨rfl, rfl, (hk p hp).2.1 hw⟩, fun i hi hl => done ((hk p hp).2.2 i hi hl)⟩, fun hn => .inl ⟨rfl, rfl, hk0 hn⟩⟩))))))))
    · rcases hx with ⟨rfl, rfl, hk⟩ | ⟨rfl, rfl, hk⟩
      · refine .nmd (exm1 S.xm) (fun z => nomatch z) (Nat.lt_of_lt_of_eq (by decide : 4 < 5) rfl) fun a dd fs => ?_
        refine Ws_ret (We_tup (Wa_cons (We_str (Wa_cons (We_xf rfl rfl (Wa_nil ?_))))))
        exact ⟨_, rfl, Nat.le_of_ble_eq_true rfl, hk⟩
      · refine .skip (exm1 no1) (.bare (exm1 ye1) fun a od => ?_)
        walk_at "wq"
        exact hk
end
def Pr.dd (s s' : Bool) (p : Pr) : PyData := .tuple [.str p.f, .int p.n, sq s' (Rw.dl s p.rs)]
/-- a procedure that is let, but for its depth -/
structure PrOk (tb : List (Key × PyData)) (p : Pr) : Prop where
  nm : nmB p.f = true
  n : 1 ≤ p.n ∧ p.n ≤ 40
  ok : Rw.okl p.n tb p.rs
  dep : Rw.depl p.rs ≤ 25
  sz : Rw.szl p.rs ≤ 60000
def tbD (ps : List Pr) : List (Key × PyData) := ps.map fun p => (.inr p.f, .int p.n)
theorem shp_prr {tb : List (Key × PyData)} {p : Pr} {s s' : Bool} (h : PrOk tb p) : Shp (sq s' (Rw.dl s p.rs)) := (small_sq (small_rws (s := s) p.rs h.ok)).shaped (by have := h.dep; omega)
theorem shp_pr {tb : List (Key × PyData)} {p : Pr} {s s' : Bool} (h : PrOk tb p) : Shp (p.dd s s') := (small_tup (n := 2 * Rw.depl p.rs + 4) fun d hd => by
  simp only [List.mem_cons, List.not_mem_nil, or_false] at hd
  rcases hd with rfl | rfl | rfl
  · exact (nm_shp h.nm).mono (by omega)
  · exact small_int.mono (by omega)
  · exact small_sq (small_rws (s := s) p.rs h.ok)).shaped (by have := h.dep; omega)
theorem lk_tb {ps : List Pr} {f : Str} (h : ∀ p ∈ ps, p.f ≠ f) : lkM (tbD ps) (.inr f) = none := by
  unfold lkM tbD
  rw [Option.map_eq_none_iff, List.find?_eq_none]
  intro x hx z
  obtain ⟨p, hp, rfl⟩ := List.mem_map.mp hx
  have := of_decide_eq_true z
  injection this with this
  exact h p hp this
theorem lk_tb_at {ps : List Pr} {p : Pr} (nd : (ps.map Pr.f).Nodup) (h : p ∈ ps) : lkM (tbD ps) (.inr p.f) = some (.int p.n) := by
  induction ps with
  | nil => cases h
  | cons a r ih =>
    rw [List.map_cons, List.nodup_cons] at nd
    by_cases e : a.f = p.f
    · rcases (List.mem_cons.mp h) with rfl | h
      · simp [lkM, tbD]
      · exact absurd (List.mem_map.mpr ⟨p, h, e.symm⟩) nd.1
    · rcases (List.mem_cons.mp h) with rfl | h
      · exact absurd rfl e
      · have := ih nd.2 h
        rw [← this]
        have ne : ¬ ((Sum.inr a.f : Key) = Sum.inr p.f) := fun z => e (by injection z)
        simp [lkM, tbD, List.find?_cons, ne]
theorem nodup_take {ps : List Pr} {i : Nat} {p : Pr} (nd : (ps.map Pr.f).Nodup) (h : ps[i]? = some p) : ∀ q ∈ ps.take i, q.f ≠ p.f := by
  intro q hq e
  have s : ps = ps.take i ++ p :: ps.drop (i + 1) := by rw [← drop_get h, List.take_append_drop]
  rw [s, List.map_append, List.map_cons] at nd
  have := (List.nodup_append.mp nd).2.2 q.f (List.mem_map.mpr ⟨q, hq, rfl⟩) p.f List.mem_cons_self
  exact this e
section
variable {P : Program} {w : World} {K : PySem.W.Frag} {mg : Str → Option Value} {base : Heap}
def RHd : List En → Unit → KD Unit → KX Unit → Prop := fun es _ k _ => ∃ (s s' s0 : Bool) (ps : List Pr) (tb : List (Key × PyData)), es = [En.da (sq s0 (ps.map (Pr.dd s s')))] ∧ (∀ p ∈ ps, PrOk tb p) ∧ (ps.map Pr.f).Nodup ∧ ps.length ≤ 1000 ∧ k (dkD (tbD ps)) ()
abbrev s__checked_heads : Stmt := top 28
abbrev N__checked_heads : List Str := ["procedures", "variables_of", "procedure", "name", "variables", "_"]
abbrev P__checked_heads : List Str := ["procedures"]
theorem sc__checked_heads : FnScope N__checked_heads P__checked_heads (defScope s__checked_heads) := ⟨rfl, rfl, rfl, by decide +kernel, rfl, by decide +kernel, by decide +kernel⟩
-- slots: 0 procedures, 1 variables_of, 2 procedure, 3 name, 4 variables, 5 _
theorem kp__checked_heads (F : At K mg "_checked_heads" s__checked_heads) (N : Nb mg) (M1 : ∃ t, mg "MOST_VARIABLES" = some (.int 40 t)) (S_BadProgram : ErrA P w K mg base "BadProgram" ["name", "place", "what"]) (G_is_sequence_of : Keeps CX0 P w K mg base "is_sequence_of" 2 ["thing", "many"] (spX K Co.pure RSqO)) (G_is_name : Keeps CX0 P w K mg base "is_name" 1 ["thing"] (spX K Co.pure RNm))
    (G_is_whole_from : Keeps CX0 P w K mg base "is_whole_from" 2 ["thing", "low", "high"] (spWholeF_ K)) : Keeps (L2N.CX P w) P w K mg base "_checked_heads" 3 ["procedures"] (spX K Co.pure RHd) := by
  obtain ⟨_, mMOST_VARIABLES⟩ := M1
  refine keeps_xX F sc__checked_heads (fun _ _ _ _ _ _ us hl => match us, hl with | [_], _ => rfl) (fun es g k x h => ?_) (fun f cdv A outer s H E es g k x hr h => ?_)
  · obtain ⟨_, _, _, _, _, rfl, _⟩ := h; rfl
  · obtain ⟨s, s', s0, ps, tb, rfl, hok, hnd, hl, hk⟩ := h
    refine ⟨_, (pss_cons (ps_set (i := 1) sc__checked_heads.nd rfl (by walk_at "lv") pe_dnewK)
        (pss_cons (ps_for (passes_of rfl) rfl (pi_seqE (pv 0)) (pg_name (i := 2) sc__checked_heads.nd rfl (by walk_at "lv")) (pss_cons (ps_if (pt_not (pt_truth (pe_k (G_is_sequence_of.up (by omega)) hr (by rfl) pass0 (pa_cons (pv 2) (pa_cons pe_int pa_nil))) (by intro _; rfl))) (pss_one (L2N.ps_raise rfl (L2N.takes_of rfl rfl rfl rfl) (by exact pmk_eN S_BadProgram hr (by rfl) (pa_cons pe_str (pa_cons (pe_un un_neg pe_int) (pa_cons pe_str pa_nil)))))) pss_nil)
        (pss_cons (ps_asg (pv 2) (pg_tupA (by rfl) (pgs_cons (pg_name (i := 3) sc__checked_heads.nd rfl (by walk_at "lv")) (pgs_cons (pg_name (i := 4) sc__checked_heads.nd rfl (by walk_at "lv")) (pgs_cons (pg_name (i := 5) sc__checked_heads.nd rfl (by walk_at "lv")) pgs_nil)))))
        (pss_cons (ps_if (pt_not (pt_truth (pe_k (G_is_name.up (by omega)) hr (by rfl) pass0 (pa_cons (pv 3) pa_nil)) (by intro _; rfl))) (pss_one (L2N.ps_raise rfl (L2N.takes_of rfl rfl rfl rfl) (by exact pmk_eN S_BadProgram hr (by rfl) (pa_cons pe_str (pa_cons (pe_un un_neg pe_int) (pa_cons pe_str pa_nil)))))) pss_nil)
        (pss_cons (ps_if (pt_cmp (pc_din (hu_of hr) (pv 3) (pv 1))) (pss_one (L2N.ps_raise rfl (L2N.takes_of rfl rfl rfl rfl) (by exact pmk_eN S_BadProgram hr (by rfl) (pa_cons (pv 3) (pa_cons (pe_un un_neg pe_int) (pa_cons pe_str pa_nil)))))) pss_nil)
        (pss_cons (ps_if (pt_not (pt_truth (pe_k (G_is_whole_from.up (by omega)) hr (by rfl) pass0 (pa_cons (pv 4) (pa_cons pe_int (pa_cons (pe_glob (v := .int 40) (by rfl) mMOST_VARIABLES ⟨_, rfl⟩) pa_nil)))) (by intro _; rfl))) (pss_one (L2N.ps_raise rfl (L2N.takes_of rfl rfl rfl rfl) (by exact pmk_eN S_BadProgram hr (by rfl) (pa_cons (pv 3) (pa_cons (pe_un un_neg pe_int) (pa_cons pe_str pa_nil)))))) pss_nil)
        (pss_one (ps_asg (pv 4) (pg_sub (pv 1) (pv 3) (set_dict (hu_of hr)))))))))))
        (pss_one (ps_ret (pv 1))))), ?_⟩
    try dsimp only [cxOf, L2.Cx.wish]
    refine Ws_seq (Wx_new (Wn_dk ⟨rfl, ?_⟩))
    refine Ws_seq (Ws_for (Wi_seq ?_))
    walk_at "wr"
    refine ⟨_, rowsOf_sq, fun i _ ρ => ∃ y2 y3 y4 y5, ρ = [En.da (sq s0 (ps.map (Pr.dd s s'))), En.own (dkD (tbD (ps.take i))), y2, y3, y4, y5], ⟨_, _, _, _, rfl⟩, ?_, ?_⟩
    · rintro i d g2 ρ2 hd ⟨y2, y3, y4, y5, rfl⟩
      rw [List.getElem?_map] at hd
      obtain ⟨p, hp, rfl⟩ := Option.map_eq_some_iff.mp hd
      have hpo := hok p (List.mem_of_getElem? hp)
      have hs := shp_pr (s := s) (s' := s') hpo
      have hnl := (nm_len hpo.nm).2
      walk_at "wr"
      refine Ws_seq (Ws_no_if ?_ (Ws_next ?_))
      · walk_at "wr"
        refine ⟨false, _, 3, rfl, hs, ?_⟩
        walk_at "wr"
        rfl
      refine Ws_seq (Ws_asg (We_var rfl (Wg_tupA ⟨_, rfl, rfl, Wgs_cons (Wx_name ⟨rfl, Wgs_cons (Wx_name ⟨rfl, Wgs_cons (Wx_name ⟨rfl, Wgs_nil ?_⟩)⟩)⟩)⟩)))
      refine Ws_seq (Ws_no_if ?_ (Ws_next ?_))
      · walk_at "wr"
        refine ⟨by omega, ?_⟩
        rw [hpo.nm]
        walk_at "wr"
        rfl
      refine Ws_seq (Ws_no_if ?_ (Ws_next ?_))
      · refine Wt_peek ?_
        walk_at "wr"
        refine ⟨_, .inr p.f, rfl, rfl, ?_⟩
        rw [lk_tb (nodup_take hnd hp)]
        walk_at "wr"
        rfl
      refine Ws_seq (Ws_no_if ?_ (Ws_next ?_))
      · walk_at "wr"
        refine ⟨.int p.n, 1, 40, rfl, by simp [PyData.canLay0], ?_⟩
        rw [show wDd 1 40 (.int p.n) = true by show (decide (1 ≤ p.n) && decide (p.n ≤ 40)) = true; rw [decide_eq_true hpo.n.1, decide_eq_true hpo.n.2]; rfl]
        walk_at "wr"
        rfl
      refine Ws_asg (We_var rfl (Wg_dk rfl ?_))
      walk_at "wr"
      refine ⟨.inr p.f, rfl, ?_, En.da (p.dd s s'), En.da (.str p.f), En.da (.int p.n), En.da (sq s' (Rw.dl s p.rs)), ?_⟩
      · rw [tbD, List.length_map, List.length_take]; omega
      · rw [putM_new (lk_tb (nodup_take hnd hp)), take_get hp, tbD, tbD, List.map_append]
        rfl
    · rintro g2 ρ2 ⟨y2, y3, y4, y5, rfl⟩
      rw [List.length_map, take_all]
      refine Ws_freeze (i := 1) rfl ?_
      walk_at "wq"
      exact hk
def RCp (n : Nat) : List En → Unit → KD Unit → KX Unit → Prop := fun es _ kk x => ∃ (s s' : Bool) (p : Pr) (tb : List (Key × PyData)), es = [En.da (p.dd s s'), En.da (dkD tb)] ∧ lkM tb (.inr p.f) = some (.int p.n) ∧ PrOk tb p ∧ Rw.depl p.rs < n ∧ (Rw.dpl p.rs 0 = none → kk p.d ()) ∧ ∀ q : Nat, Rw.dpl p.rs 0 = some q → x "BadProgram" (bpX p.f (q : Nat) "deep") ()
abbrev s__checked_procedure : Stmt := top 29
abbrev N__checked_procedure : List Str := ["procedure", "variables_of", "name", "variables", "rows", "_"]
abbrev P__checked_procedure : List Str := ["procedure", "variables_of"]
theorem sc__checked_procedure : FnScope N__checked_procedure P__checked_procedure (defScope s__checked_procedure) := ⟨rfl, rfl, rfl, by decide +kernel, rfl, by decide +kernel, by decide +kernel⟩
-- slots: 0 procedure, 1 variables_of, 2 name, 3 variables, 4 rows, 5 _
theorem kp__checked_procedure (n : Nat) (F : At K mg "_checked_procedure" s__checked_procedure) (N : Nb mg) (S_BadProgram : ErrA P w K mg base "BadProgram" ["name", "place", "what"]) (G_is_sequence : Keeps CX0 P w K mg base "is_sequence" 1 ["thing"] (spSeq_ K)) (G__checked_rows : Keeps (L2N.CX P w) P w K mg base "_checked_rows" (n + 5) ["name", "variables_of", "rows", "place", "depth"] (spX K Co.pure (RCr n))) : Keeps (L2N.CX P w) P w K mg base "_checked_procedure" (n + 6) ["procedure", "variables_of"] (spX K Co.pure (RCp n)) := by
  refine keeps_xX F sc__checked_procedure (fun _ _ _ _ _ _ us hl => match us, hl with | [_, _], _ => rfl) (fun es g k x h => ?_) (fun f cdv A outer s H E es g k x hr h => ?_)
  · obtain ⟨_, _, _, _, rfl, _⟩ := h; rfl
  · obtain ⟨s, s', p, tb, rfl, hm, hpo, hn, hk, hx⟩ := h
    refine ⟨_, (pss_cons (ps_asg (pv 0) (pg_tupA (by rfl) (pgs_cons (pg_name (i := 2) sc__checked_procedure.nd rfl (by walk_at "lv")) (pgs_cons (pg_name (i := 3) sc__checked_procedure.nd rfl (by walk_at "lv")) (pgs_cons (pg_name (i := 4) sc__checked_procedure.nd rfl (by walk_at "lv")) pgs_nil)))))
        (pss_cons (ps_if (pt_not (pt_truth (pe_k (G_is_sequence.up (by omega)) hr (by rfl) pass0 (pa_cons (pv 4) pa_nil)) (by intro _; rfl))) (pss_one (L2N.ps_raise rfl (L2N.takes_of rfl rfl rfl rfl) (by exact pmk_eN S_BadProgram hr (by rfl) (pa_cons (pv 2) (pa_cons (pe_un un_neg pe_int) (pa_cons pe_str pa_nil)))))) pss_nil)
        (pss_cons (ps_asg (pe_k (G__checked_rows.up (by omega)) hr (by rfl) (L2N.passes_call (L2N.takes_of rfl rfl rfl rfl) (fun _ _ _ _ h => h)) (pa_cons (pv 2) (pa_cons (pv 1) (pa_cons (pv 4) (pa_cons pe_int (pa_cons pe_int pa_nil)))))) (pg_tupA (by rfl) (pgs_cons (pg_name (i := 4) sc__checked_procedure.nd rfl (by walk_at "lv")) (pgs_cons (pg_name (i := 5) sc__checked_procedure.nd rfl (by walk_at "lv")) pgs_nil))))
        (pss_one (ps_ret (pe_tup (pa_cons (pv 2) (pa_cons (pv 3) (pa_cons (pv 4) pa_nil))))))))), ?_⟩
    try dsimp only [cxOf, L2.Cx.wish]
    have hs := shp_prr (s := s) (s' := s') hpo
    refine Ws_seq (Ws_asg (We_var rfl (Wg_tupA ⟨_, rfl, rfl, Wgs_cons (Wx_name ⟨rfl, Wgs_cons (Wx_name ⟨rfl, Wgs_cons (Wx_name ⟨rfl, Wgs_nil ?_⟩)⟩)⟩)⟩)))
    refine Ws_seq (Ws_no_if ?_ (Ws_next ?_))
    · walk_at "wr"
      rw [isSq_sq]
      walk_at "wr"
      rfl
    refine Ws_seq (Ws_asg (We_call Ln.pure ?_))
    walk_at "wr"
    refine ⟨p.f, tb, s, s', p.rs, 0, 0, p.n, rfl, hm, hpo.ok, hn, hpo.dep, hpo.sz, fun hnone => ?_, fun q hq => ?_⟩
    · refine Wg_tupA ⟨_, rfl, rfl, Wgs_cons (Wx_name ⟨rfl, Wgs_cons (Wx_name ⟨rfl, Wgs_nil ?_⟩)⟩)⟩
      walk_at "wq"
      exact hk hnone
    · have := hx q hq
      rw [Nat.zero_add]
      exact this
end
/-! ### a comprehension whose element is a call that may raise -/
open HandSPX in
/-- it goes on in the frame of the def -/
theorem goes_on {M : Model} {A : Around} {Er : Value → Shared → Prop} {t : Shared} {B : Heap} {l : List Env} {a L : Addr} {Z : Obj → Prop} {ce : Env} {why : String} (hf : ce.frame = some L) (hh : HeldZ B l a Z L t.heap)
    (hQ : ∀ h3, HeldZ B l a Z L h3 → t.heap.UpToSlots h3 → Er (.ref a) { t with heap := h3 }) : wpAny M A (PySem.passOn why (.ref a) ce : Sem Value) (fun _ _ => False) Er t := by
  obtain ⟨hkb, hen, hl, oe, vs, T, oT, ts, he, hz, hd, h1, hnT, hTe, hT, hdT, h3⟩ := hh
  have q3 : 3 < ts.size := (Array.getElem?_eq_some_iff.mp h3).1
  have tn : (Value.ref T == Value.none) = false := by simp
  unfold PySem.passOn
  refine wpAny_bind (wpAny_field he hd h1 ?_); rw [tn, hf]
  have oth : ∀ b, b ≠ T → (t.heap.update T (Obj.mapFields (·.setIfInBounds 3 ((some L : Option Addr).elim Value.none fun f => rawInt f)))).get? b = t.heap.get? b := fun b n => Heap.get?_update_other _ _ n.symm
  have rec_ : ∀ b o, t.heap.get? b = some o → (∀ ws, o.data ≠ .fields ws) → b ≠ T := fun b o e nf z => by
    subst z; rw [hT] at e; cases e; exact nf ts hdT
  refine wpAny_bind ?_
  unfold setFlight
  refine wpAny_bind (wpAny_field he hd h1 ?_); rw [if_pos (show (Value.ref T != Value.none) = true by simp)]
  refine wpAny_setField hT hdT q3 (wpAny_throw ?_)
  refine hQ _ ⟨fun b o e => (oth b fun z => by subst z; rw [hnT] at e; cases e).trans (hkb b o e), hen, hl.of_keeps fun b o e nf => ⟨o, (oth b (rec_ b o e nf)).trans e, rfl⟩, ?_⟩ fun b o e nf => ⟨o.slots, (oth b (rec_ b o e nf)).trans e⟩
  exact ⟨oe, vs, T, _, _, (oth a hTe.symm).trans he, hz, hd, h1, hnT, hTe, Heap.get?_update_self _ hT (Obj.isFreed_of_fields (Obj.data_mapFields hdT _)), Obj.data_mapFields hdT _, by simp [q3]⟩
abbrev blkE (X : L2.Cx) (s : Shared) (H : Hp) (scope : Scope) (ce : Env) (fp : List Addr) (xe : Value → Shared → Prop) : L2.Cx := { X.blk s H scope ce fp with xe := xe }
section
variable {X : L2.Cx} {W : WX} {E : XK}
/-- a call's exception, out of the block -/
theorem out_blk {pins : List (Addr × Obj)} {σ σ8 : L2.St} {H3 H8 : Hp} {s3 s8 s' : Shared} {scope : Scope} {ce : Env} {fp : List Addr} {xe : Value → Shared → Prop} {pb : List (Addr × Obj)} {u : Value}
    (hst : X.stack = X.env :: X.outer) (hf : X.env.frame = some X.env.locals) (tk : L2N.Takes X W) (hW : ∀ cls d σ H, E cls d H → W cls d σ H) (I3 : Inv X pins σ H3 s3) (f3 : ∀ b ∈ fp, FpOk X pins H3 b ∧ b < s3.heap.objs.size) (hcf : ce.frame = X.env.frame) (cL : ce.locals = s3.heap.objs.size)
    (I8 : Inv (blkE X s3 H3 scope ce fp xe) pb σ8 H8 s8) (c : L2N.CX X.prog X.w X.stack H8 s8 E u s') : notedBy (model X.prog X.w) X.A ce (CompFails (model X.prog X.w) X.A X.xe ce) u s' := by
  obtain ⟨a, B, H', cls, d, rfl, fl, hok, ub, na, os, ag, hE⟩ := c; have hfr : X.A.frames = some (X.env :: X.outer) := by rw [I3.ok.frames, hst]
  have un : Un (frs X.stack) fp H3 H8 s3.heap s8.heap := I8.base
  have freeC : H8 ce.locals = none := I8.free
  have stC : ∀ b ∈ frs X.stack, b ≠ ce.locals := fun b hb z => by
    obtain ⟨_, o, e, _⟩ := I3.stack.mem hb
    have := Heap.lt_size e
    rw [z, cL] at this
    exact Nat.lt_irrefl _ this
  obtain ⟨m8, hn8, _⟩ := I8.loc
  have hn8 : s8.heap.Ns ce.locals m8 := hn8
  have hn' : s'.heap.Ns ce.locals m8 := by
    obtain ⟨oL, es, ep, e, r⟩ := hn8
    exact ⟨oL, es, ep, fl.1 _ _ (ub.keep _ _ e freeC fun hb => stC _ hb rfl), r⟩
  have H'C : H' ce.locals = none := by
    obtain ⟨oL, es, ep, e, _⟩ := hn8
    exact ub.free _ _ e freeC
  have old : ∀ {b : Addr} {o : Obj}, s3.heap.get? b = some o → b ≠ ce.locals := fun {b o} e z => by
    have := Heap.lt_size e
    rw [z, cL] at this
    exact Nat.lt_irrefl _ this
  show wpAny _ _ (noteFrame (.ref a) ce) _ _ _
  rw [noteFrame_env _ hcf]
  refine PXN.looks_onZ L2N.Zn.steady hfr hf (hst ▸ fl) fun h1 hh up1 => ⟨m8, hn'.upToSlots fun b o e nf => up1 b o e nf, fun h2 m2 hn2 sb => ?_⟩
  have sb : Heap.SameBut ce.locals h1 h2 := sb
  have hn1 : h1.Ns ce.locals m8 := hn'.upToSlots fun b o e nf => up1 b o e nf
  -- the ground without the block's names
  generalize hB' : PySem.W.hideAll B [ce.locals] = B'
  have gB : ∀ b o, B.get? b = some o → b ≠ ce.locals → B'.get? b = some o := fun b o e n => by
    rw [← hB']
    exact PySem.W.hideAll_get _ e fun z => n (List.mem_singleton.mp z)
  have bG : ∀ b o, B'.get? b = some o → B.get? b = some o ∧ b ≠ ce.locals := fun b o e => by
    rw [← hB'] at e
    refine ⟨PySem.W.of_hideAll _ e, fun z => ?_⟩
    rw [PySem.W.hideAll_none _ (List.mem_singleton.mpr z)] at e; cases e
  have none' : ∀ {b : Addr}, B.get? b = none → B'.get? b = none := fun {b} e => by
    cases q : B'.get? b with
    | none => rfl
    | some o => rw [(bG b o q).1] at e; cases e
  have hokB : HOk X.prog X.w H' B' := fun b o q => (hok b o q).stay (fun c v hc r => gB c v r fun z => by
    subst z
    rcases hc with hc | hc
    · rw [hc, q] at H'C; cases H'C
    · rw [hc] at H'C; cases H'C) (fun _ r => r) fun _ _ r => r
  have held : HandSPX.HeldZ B' (X.env :: X.outer) a (L2N.Zn cls d) X.env.locals h2 := by
    obtain ⟨k1, k2, k3, oe, vs, T, oT, ts, he, hz, hd, e1, hnT, hTe, hT, hdT, e3⟩ := hh
    have dC : ∀ {b : Addr} {o : Obj} {ws : Array Value}, h1.get? b = some o → o.data = .fields ws → b ≠ ce.locals := fun {b o ws} e q z => by
      subst z
      obtain ⟨oL, es, ep, e', dd, _⟩ := hn1
      rw [e] at e'; cases e'
      rw [q] at dd; cases dd
    refine ⟨fun b o e => (sb.2 b (bG b o e).2).trans (k1 b o (bG b o e).1), none' k2, funFrames_none (Heap.FunFrames.sameBut sb hn2 k3) fun L hL => none' (k3.mem hL).1, oe, vs, T, oT, ts, (sb.2 a (dC he hd)).trans he, hz, hd, e1, none' hnT, hTe, (sb.2 T (dC hT hdT)).trans hT, hdT, e3⟩
  refine goes_on (t := { s' with heap := h2 }) (hcf.trans hf) held fun h3 held3 up3 => ?_
  -- in the air of the def
  have slots : ∀ b ∈ frs X.stack, ∀ o, s'.heap.get? b = some o → (∀ ws, o.data ≠ .fields ws) → ∃ sl, h3.get? b = some { o with slots := sl } := fun b hb o e nf => by
    obtain ⟨s1, q1⟩ := up1 b o e nf
    have q2 := (sb.2 b (stC b hb)).trans q1
    obtain ⟨s2, q3⟩ := up3 b _ q2 nf
    exact ⟨s2, q3⟩
  have nofld : ∀ b ∈ frs X.stack, ∀ o, s3.heap.get? b = some o → ∀ ws, o.data ≠ .fields ws := fun b hb o e => by
    obtain ⟨_, o', e', nf⟩ := I3.stack.mem hb
    rw [e] at e'; cases e'
    exact nf
  obtain ⟨G, g1, g2⟩ := restrict h3 fun b => (B'.get? b).isSome || decide (b ∈ frs X.stack)
  have gG : ∀ b o, B'.get? b = some o → G.get? b = some o := fun b o e => by rw [g1 b (by simp [e])]; exact held3.1 b o e
  have gF : ∀ b, b ∈ frs X.stack → G.get? b = h3.get? b := fun b hb => g1 b (by simp [hb])
  have ofG : ∀ b o, G.get? b = some o → h3.get? b = some o ∧ ((B'.get? b).isSome = true ∨ b ∈ frs X.stack) := fun b o e => by
    cases q : ((B'.get? b).isSome || decide (b ∈ frs X.stack)) with
    | false => (rw [g2 b q] at e; cases e)
    | true => rw [g1 b q] at e; exact ⟨e, by simpa [Bool.or_eq_true] using q⟩
  have slotF : ∀ b o, s3.heap.get? b = some o → H3 b = none → b ∈ frs X.stack → b ∉ fp → ∃ sl, G.get? b = some { o with slots := sl } := fun b o e n hb hc => by
    obtain ⟨s1, q1⟩ := un.slot b o e n hb hc
    obtain ⟨s2, q2⟩ := ub.slot b _ q1 hb
    obtain ⟨s4, q4⟩ := slots b hb _ q2 (nofld b hb o e)
    exact ⟨s4, by rw [gF b hb]; exact q4⟩
  refine tk _ _ ⟨a, B', { s3 with heap := G, gens := s'.gens, drawn := s'.drawn, toks := s'.toks }, pins, σ, H', cls, d, rfl, ?_, fun b o e hb => ?_, Heap.UpToSlots.of_keeps fun b o e => (ofG b o e).1, .inr (.inr (hst ▸ held3)), na, os.trans I8.os, ag, hW _ _ _ _ hE⟩
  · refine I3.call (ch := fp) ⟨fun b o e n hb hc => gG b o (gB b o (ub.keep b o (un.keep b o e n hb hc) (un.free b o e n hc) hb) (old e)), slotF, fun b o e n hc => ?_, fun b o e hc => ?_, fun b xs e => ub.tups b xs (un.tups b xs e), fun b o u e => ub.frzs b o u (un.frzs b o u e), fun b ps e => ?_⟩ (hokB.kept gG) ag fun b hb => ⟨(f3 b hb).1.2.2.2.1, (f3 b hb).1.2.1, (f3 b hb).1.2.2.2.2.1, (f3 b hb).1.2.2.2.2.2⟩
    · obtain ⟨s1, q1⟩ := un.any e n hc
      exact ub.free b _ q1 (un.free b o e n hc)
    · by_cases hb : (b ∈ frs X.stack)
      · obtain ⟨s1, q1⟩ := slotF b o e (I3.stkFree b hb) hb hc
        exact ⟨_, q1⟩
      · obtain ⟨o1, q1⟩ := un.there b o e hc
        obtain ⟨o2, q2⟩ := ub.there b o1 q1 hb
        exact ⟨o2, gG b o2 (gB b o2 q2 (old e))⟩
    · obtain ⟨m1, q1⟩ := un.tbls b ps e
      obtain ⟨m2, q2⟩ := ub.tbls b _ q1
      exact ⟨m1 ++ m2, by rw [q2, Array.append_assoc]⟩
  · obtain ⟨e', h⟩ := ofG b o e
    rcases h with h | h
    · obtain ⟨o', q⟩ := Option.isSome_iff_exists.mp h; have z := held3.1 b o' q
      rw [e'] at z; cases z
      exact q
    · exact absurd h hb
end
/-! ### [f(x) for x in xs], f may raise -/
section
variable {X : L2.Cx} {W : WX} {E : XK}
theorem lc_raise {pins : List (Addr × Obj)} {s : Shared} {σ : L2.St} {H : Hp} {Q : VK} {elt tg iter : Expr} {ifs : List Expr} {scope : Scope} {own : List (Str × Nat)} {pos pos' : Pos} {wi : TI} {g : TG} {tt : TT} {te : TE} {use : Option (Value → Sem Unit)} {Qf : Value → Shared → Prop}
    (hst : X.stack = X.env :: X.outer) (hf : X.env.frame = some X.env.locals) (tk : L2N.Takes X W) (hW : ∀ cls d σ H, E cls d H → W cls d σ H) (hc : X.calm = true) (hN : X.N.Nodup) (I : Inv X pins σ H s) (hi : PI X tg iter wi) (ok : BlkOk X.N X.env.scope scope own)
    (hg : ∀ (s : Shared) (H : Hp) (C : Addr) (cl : List (Str × Addr)) (fp : List Addr) (xe : Value → Shared → Prop), PG (blkE X s H scope (compEnvC scope cl C X.env) fp xe) tg g) (ht : ∀ (s : Shared) (H : Hp) (C : Addr) (cl : List (Str × Addr)) (fp : List Addr) (xe : Value → Shared → Prop), PTs (blkE X s H scope (compEnvC scope cl C X.env) fp xe) ifs tt)
    (he : ∀ (s : Shared) (H : Hp) (C : Addr) (cl : List (Str × Addr)) (fp : List Addr) (xe : Value → Shared → Prop), Passes (L2N.CX X.prog X.w) (blkE X s H scope (compEnvC scope cl C X.env) fp xe) E → PE (blkE X s H scope (compEnvC scope cl C X.env) fp xe) elt te) (hs : ∀ x, foldedSetIterable iter X.env x = pure x) (h : tLc wi g tt te (own.map (·.2)) σ H Q)
    (hRR : ∀ D (ce : Env) s' m H', Inv X pins σ H' s' → Q (.ref D) H' → s'.heap.Ns ce.locals m → FpOk X pins H' ce.locals → compEnds (model X.prog X.w) X.A X.xe use Qf (.ref D) ce (.ok .next) s') : wpAny (model X.prog X.w) X.A (comprehension (.ListComp elt [⟨tg, iter, ifs, 0⟩] scope pos) scope X.env pos' (newList []) false (eval iter X.env) use) Qf X.xe s := by
  have fr : ∀ y ∈ scope.names, y.2 = .free → ∃ c, X.env.cells.lookup y.1 = some c := fun y hy e => (ok.free y hy e).elim (fun k => I.ok.has _ (.inl k)) fun k => I.ok.has _ (.inr k)
  refine comprehension_at (use := use) rfl hs (closure_ok fr) ok.kind (fun y hy e => by rw [ok.uniq y hy, e]) (thn (hi.run pins s σ H _ I h) fun xv s1 hx => thn hx fun itv s2 h2 => ?_)
  obtain ⟨it, fp, tn, J, H2, rfl, I2, T, st2, f2, q⟩ := h2
  refine wpAny_newObj_type (newEnv_comp ?_) (by show 0 ≤ sizeLine; decide); generalize hD : s2.heap.objs.size = D
  have nD : H2 D = none := I2.hok.fresh (Nat.le_of_eq hD)
  obtain ⟨Wt, ⟨m0, w0⟩, turn⟩ := q D nD
  generalize hs3 : ({ s2 with heap := s2.heap.push { cls := .type "list", data := .seq ([] : List Value).toArray } } : Shared) = s3; have h3 : s3.heap = s2.heap.push { cls := .type "list", data := .seq ([] : List Value).toArray } := by rw [← hs3]
  have I3 : (Inv X pins σ (upd H2 D (.lst [])) s3) := by
    subst hs3
    exact I2.laid (t' := s2.toks) (fun b o e => Heap.get?_push_of_some _ e) (Nat.le_of_eq hD) ⟨Nat.zero_le _, [], 0, .nil, by rw [← hD]; exact Heap.get?_push_size _ rfl⟩
  have sz : ∀ b ∈ fp, b < s2.heap.objs.size := fun b hb => let ⟨o, e, _⟩ := T.obj _ _ st2 b hb; Heap.lt_size e
  have f3 : (∀ b ∈ fp, FpOk X pins (upd H2 D (.lst [])) b ∧ b < s3.heap.objs.size) := fun b hb => by
    have lt := sz b hb
    refine ⟨⟨(upd_ne (by rw [← hD]; exact Nat.ne_of_lt lt)).trans (f2 b hb).1, (f2 b hb).2⟩, ?_⟩
    rw [h3, Heap.size_push]; exact Nat.lt_succ_of_lt lt
  have st3 : (tn 0 s3.heap) := T.keep _ _ _ st2 fun b _ o e => by rw [h3]; exact Heap.get?_push_of_some _ e
  have I4 := (block_start I3 ok hN f3)
  generalize hcl : cellsFrom (s3.heap.objs.size + 1) scope.names (cloFrom X.env.cells scope.names []) = cl at I4; have nfp : ∀ b ∈ fp, (upd H2 D (.lst [])) b = none := fun b hb => (f3 b hb).1.1
  have pg := hg s3 (upd H2 D (.lst [])) s3.heap.objs.size cl fp
  have pt := ht s3 (upd H2 D (.lst [])) s3.heap.objs.size cl fp
  have pe := he s3 (upd H2 D (.lst [])) s3.heap.objs.size cl fp
  have cL0 : (compEnvC scope cl s3.heap.objs.size X.env).locals = s3.heap.objs.size := rfl
  have cF0 : (compEnvC scope cl s3.heap.objs.size X.env).frame = X.env.frame := rfl
  show codeAny _ _ (.compStart _ 0 (.ref it) (.ref D) (compEnvC scope cl s3.heap.objs.size X.env)) (compEnds (model X.prog X.w) X.A X.xe use Qf (.ref D) (compEnvC scope cl s3.heap.objs.size X.env)) _
  generalize compEnvC scope cl s3.heap.objs.size X.env = ce at I4 pg pt pe cL0 cF0 ⊢
  generalize upd H2 D (.lst []) = H3 at I3 I4 pg pt pe w0 nfp f3
  generalize hs4 : ({ s3 with heap := pushCells (s3.heap.push { cls := .type "dict", data := .dict #[] }) scope.names } : Shared) = s4 at I4 ⊢; have st4 : tn 0 s4.heap := T.keep _ _ _ st3 fun b _ o e => by rw [← hs4]; exact pushCells_keeps _ _ _ _ (Heap.get?_push_of_some _ e)
  -- what a turn owes if it raises
  generalize hxe : notedBy (model X.prog X.w) X.A ce (CompFails (model X.prog X.w) X.A X.xe ce) = xe
  have xeq : notedBy (model X.prog X.w) X.A ce (fun e s' => compEnds (model X.prog X.w) X.A X.xe use Qf (.ref D) ce (.error e) s') = xe := by
    rw [← hxe]
    have : (fun e s' => compEnds (model X.prog X.w) X.A X.xe use Qf (.ref D) ce (.error e) s') = CompFails (model X.prog X.w) X.A X.xe ce := by
      funext e s'
      cases use <;> rfl
    rw [this]
  have pg := pg xe
  have pt := pt xe
  have pe := pe xe fun pb σ8 H8 s8 u s' I8 c => by
    show xe u s'
    rw [← hxe]
    exact out_blk hst hf tk hW I3 f3 cF0 cL0 I8 c
  have I5 : Inv (blkE X s3 H3 scope ce fp xe) [] (wipe σ (own.map (·.2))) H3 s4 := ⟨⟨I4.ok.mod, I4.ok.kind, I4.ok.glob, I4.ok.blt, I4.ok.above, I4.ok.inj, I4.ok.has, I4.ok.cab, I4.ok.hd, I4.ok.frames, I4.ok.stk, I4.ok.exf, I4.ok.bs, I4.ok.bsz, I4.ok.noex, I4.ok.exfs, I4.ok.funs, I4.ok.frf⟩, I4.os, I4.bare, I4.base, I4.loc, I4.cell, I4.free, I4.freeC, I4.pin, I4.hok, I4.len⟩
  have stat : ∀ {σ' : L2.St} {H' : Hp} {s' : Shared}, Inv (blkE X s3 H3 scope ce fp xe) [] σ' H' s' → (∀ b ∈ fp, H' b = none) → ∀ b ∈ fp, FpOk (blkE X s3 H3 scope ce fp xe) [] H' b := fun {σ' H' s'} I' hn b hb => by
    exact ⟨hn b hb, (I'.ok.exf b hb).1, I'.ok.exfs b hb, .inl hb, fun x c e => (I'.ok.exf b hb).2 x c e, fun p hp => absurd (show p ∈ ([] : List (Addr × Obj)) ++ [] from hp) (by simp)⟩
  have loop : codeAny (model X.prog X.w) X.A (.compLoop (.ListComp elt [⟨tg, iter, ifs, 0⟩] scope pos) 0 (.ref it) (.ref D) ce) (compEnds (model X.prog X.w) X.A X.xe use Qf (.ref D) ce) s4 := by
    refine compLoop_any (fun n s' => ∃ i H', Inv (blkE X s3 H3 scope ce fp xe) [] (wipe σ (own.map (·.2))) H' s' ∧ tn i s'.heap ∧ (∀ b ∈ fp, H' b = none) ∧ Wt i n H') ?_ m0 ⟨0, H3, I5, st4, nfp, w0⟩
    rintro n s5 ⟨i, H5, I5, st5, n5, w5⟩; rcases turn i n H5 w5 with ⟨stop, qq⟩ | ⟨go, Nx, hNx, step⟩
    · have td := T.done (blkE X s3 H3 scope ce fp xe) rfl rfl rfl hc i [] s5 _ H5 (fun _ _ => False) I5 (stat I5 n5) st5 stop
      refine thnF td fun r s6 ⟨hr, I6⟩ => ?_; subst hr
      have back : Inv X pins σ H5 s6 := I3.call' (ch := fp) I6.os I6.base I6.hok I6.bare fun b hb => ⟨(f3 b hb).1.2.2.2.1, (f3 b hb).1.2.1, (f3 b hb).1.2.2.2.2.1, (f3 b hb).1.2.2.2.2.2⟩
      obtain ⟨m, hn, _⟩ := I6.loc
      have fC : H5 ce.locals = none := I6.free
      exact hRR D ce s6 m H5 back qq hn (by rw [cL0]; exact I3.fpOk (Nat.le_refl _) (by rw [← cL0]; exact fC))
    · have ti := T.item (blkE X s3 H3 scope ce fp xe) rfl rfl rfl hc i [] s5 _ H5 (fun _ _ => False) I5 (stat I5 n5) st5 go
      refine thnF ti fun r s6 ⟨u, hr, h6⟩ => ?_; subst hr
      refine thnF h6 fun _ s7 ⟨x, H7, I7, r7, y7, st7, n7⟩ => ?_; have I7' := I7.pinned (stat I7 n7) (T.obj _ _ st7)
      rw [xeq]
      have r1 := pg.run _ s7 _ H7 x u _ I7' r7 (step x H7 y7)
      refine thn r1 fun _ s8 ⟨σ8, H8, I8, hw8, q8⟩ => ?_
      have r2 := pt.run _ s8 σ8 H8 _ I8 q8
      refine thn r2 fun b s9 ⟨H9, I9, q9⟩ => ?_
      have fin : ∀ {s' : Shared} {H' : Hp}, Inv (blkE X s3 H3 scope ce fp xe) ([] ++ pinsAt fp s7.heap) σ8 H' s' → Nx H' → ∃ m, m < n ∧ ∃ i H', Inv (blkE X s3 H3 scope ce fp xe) [] (wipe σ (own.map (·.2))) H' s' ∧ tn i s'.heap ∧ (∀ b ∈ fp, H' b = none) ∧ Wt i m H' := fun {s' H'} I' nx => by
        obtain ⟨m', hm, w'⟩ := hNx H' nx; have pin' : ∀ b ∈ fp, ∀ o, s7.heap.get? b = some o → s'.heap.get? b = some o ∧ H' b = none := fun b hb o e => by
          have z := I'.pin (b, o) (List.mem_append_right _ (List.mem_append_right _ (mem_pinsAt hb e)))
          exact ⟨z.1, z.2.1⟩
        refine ⟨m', hm, i + 1, H', (I'.unpinned (pins := [])).weak (by rw [← hw8, wipe_length]) (fun j v e => ?_), T.keep _ _ _ st7 fun b hb o e => (pin' b hb o e).1, fun b hb => ?_, w'⟩
        · rw [← hw8] at e; exact (wipe_some e).1
        · obtain ⟨o, e, _⟩ := T.obj _ _ st7 b hb; exact (pin' b hb o e).2
      cases b with
      | false =>
        simp only [Bool.false_eq_true, if_false] at q9 ⊢; exact fin I9 q9
      | true =>
        simp only [if_true] at q9 ⊢
        have r3 := pe.run _ s9 σ8 H9 _ I9 q9
        refine thn r3 fun z s10 ⟨yv, H10, I10, r10, got, hD10, hz10, nx⟩ => ?_
        have r4 := app_ok (E := xe) (Q := fun _ s5 => ∃ m, m < n ∧ ∃ i H', Inv (blkE X s3 H3 scope ce fp xe) [] (wipe σ (own.map (·.2))) H' s5 ∧ tn i s5.heap ∧ (∀ b ∈ fp, H' b = none) ∧ Wt i m H') I10 hD10 hz10 r10 fun s11 I11 => fin I11 nx
        exact r4
  (exact codeAny_compStart_list loop (T.self X.A 0 _ _ _ st4 loop))
end
section
variable {X : L2.Cx} {W : WX} {E : XK}
/-- .. as a value -/
theorem pe_lcX {elt tg iter : Expr} {ifs : List Expr} {scope : Scope} {own : List (Str × Nat)} {pos : Pos} {wi : TI} {g : TG} {tt : TT} {te : TE} (hst : X.stack = X.env :: X.outer) (hf : X.env.frame = some X.env.locals) (tk : L2N.Takes X W) (hW : ∀ cls d σ H, E cls d H → W cls d σ H) (hc : X.calm = true) (hN : X.N.Nodup) (hi : PI X tg iter wi) (ok : BlkOk X.N X.env.scope scope own)
    (hg : ∀ (s : Shared) (H : Hp) (C : Addr) (cl : List (Str × Addr)) (fp : List Addr) (xe : Value → Shared → Prop), PG (blkE X s H scope (compEnvC scope cl C X.env) fp xe) tg g) (ht : ∀ (s : Shared) (H : Hp) (C : Addr) (cl : List (Str × Addr)) (fp : List Addr) (xe : Value → Shared → Prop), PTs (blkE X s H scope (compEnvC scope cl C X.env) fp xe) ifs tt)
    (he : ∀ (s : Shared) (H : Hp) (C : Addr) (cl : List (Str × Addr)) (fp : List Addr) (xe : Value → Shared → Prop), Passes (L2N.CX X.prog X.w) (blkE X s H scope (compEnvC scope cl C X.env) fp xe) E → PE (blkE X s H scope (compEnvC scope cl C X.env) fp xe) elt te) (hs : ∀ x, foldedSetIterable iter X.env x = pure x := by intro _; rfl) : PE X (.ListComp elt [⟨tg, iter, ifs, 0⟩] scope pos) (tLc wi g tt te (own.map (·.2))) := by
  refine ⟨fun pins s σ H Q I h => ?_⟩
  rw [eval_ListComp]
  refine lc_raise hst hf tk hW hc hN I hi ok hg ht he hs h fun D ce s' m H' I' q hn f => ⟨m, hn, fun h2 sb => ?_⟩
  obtain ⟨f0, f1, f2, f3, f4, f5⟩ := f; exact ⟨.ref D, H', I'.turned (t' := s'.toks) (fun b o n e => (sb.2 b n).trans e) f0 f1 f3 f4 f5, rfl, q⟩
/-- .. given to a name -/
theorem ps_setLcX {i : Nat} {y : Str} {py : Pos} {elt tg iter : Expr} {ifs : List Expr} {scope : Scope} {own : List (Str × Nat)} {pos spos : Pos} {wi : TI} {g : TG} {tt : TT} {te : TE} (hst : X.stack = X.env :: X.outer) (hf : X.env.frame = some X.env.locals) (tk : L2N.Takes X W) (hW : ∀ cls d σ H, E cls d H → W cls d σ H) (hc : X.calm = true) (hN : X.N.Nodup) (hy : X.N[i]? = some y) (hyl : X.env.scope.names.lookup y = some .local)
    (hsw : (swapsWith (.ListComp elt [⟨tg, iter, ifs, 0⟩] scope pos) (some (.Name y py)) spos.line X.env = pure true)) (hi : PI X tg iter wi) (ok : BlkOk X.N X.env.scope scope own)
    (hg : ∀ (s : Shared) (H : Hp) (C : Addr) (cl : List (Str × Addr)) (fp : List Addr) (xe : Value → Shared → Prop), PG (blkE X s H scope (compEnvC scope cl C X.env) fp xe) tg g) (ht : ∀ (s : Shared) (H : Hp) (C : Addr) (cl : List (Str × Addr)) (fp : List Addr) (xe : Value → Shared → Prop), PTs (blkE X s H scope (compEnvC scope cl C X.env) fp xe) ifs tt)
    (he : ∀ (s : Shared) (H : Hp) (C : Addr) (cl : List (Str × Addr)) (fp : List Addr) (xe : Value → Shared → Prop), Passes (L2N.CX X.prog X.w) (blkE X s H scope (compEnvC scope cl C X.env) fp xe) E → PE (blkE X s H scope (compEnvC scope cl C X.env) fp xe) elt te) (hs : ∀ x, foldedSetIterable iter X.env x = pure x := by intro _; rfl) : PS X (.Assign [.Name y py] (.ListComp elt [⟨tg, iter, ifs, 0⟩] scope pos) spos) (tAsg (tLc wi g tt te (own.map (·.2))) (gName i)) := by
  refine ⟨fun pins s σ H D I h => ?_⟩
  rw [exec_Assign_Name_used _ _ _ _ hsw]; refine wpAny_bind (wpAny_standAt (wpAny_bind ?_))
  show wpAny _ X.A (do let _ ← comprehension (.ListComp elt [⟨tg, iter, ifs, 0⟩] scope pos) scope X.env (firstIterPos [⟨tg, iter, ifs, 0⟩] pos) (newList []) false (eval iter X.env) (some (assign (.Name y py) X.env))) _ _ s; have h : tLc wi g tt te (own.map (·.2)) σ H (fun x H1 => gName i x σ H1 D.nx) := h
  refine wpAny_bind (thn (lc_raise (Qf := fun _ s' => SP X pins D .next s') hst hf tk hW hc hN I hi ok hg ht he hs h fun L ce s' m H' I' q hn f => ?_) fun _ s' hq => wpAny_pure (wpAny_pure hq))
  show wpAny _ _ (assign (.Name y py) X.env (.ref L)) _ _ _; refine wpAny_assign_Name (store_ok2 (v := V.ref L) I' hN hy (.inl hyl) rfl (fun s2 I2 ⟨a, sb, ha⟩ => ?_) (.inr hyl))
  obtain ⟨f0, f1, f2, f3, f4, f5⟩ := f; have haC : ce.locals ≠ a := ha.elim (fun z => by rw [z]; exact f1) fun z e => f4 y a z e.symm
  exact ⟨m, hn.sameBut sb haC, fun h3 sb3 => ⟨_, H', I2.turned (t' := s2.toks) (fun b o n e => (sb3.2 b n).trans e) f0 f1 f3 f4 f5, q⟩⟩
end
theorem pgD_ins (ps : List Pr) : pgD ps = insD "Program" [("procedures", .tuple (ps.map Pr.d))] := rfl
section
variable {P : Program} {w : World} {K : PySem.W.Frag} {mg : Str → Option Value} {base : Heap}
structure PgOk (n : Nat) (ps : List Pr) : Prop where
  len : 1 ≤ ps.length ∧ ps.length ≤ 300
  all : ∀ p ∈ ps, PrOk (tbD ps) p
  nd : (ps.map Pr.f).Nodup
  dep : ∀ p ∈ ps, Rw.depl p.rs < n
  sz : (ps.map fun p => Rw.szl p.rs).sum ≤ 3000
theorem PgOk.shp {n : Nat} {ps : List Pr} {s s' s0 : Bool} (h : PgOk n ps) : Shp (sq s0 (ps.map (Pr.dd s s'))) := (small_sq (n := 60) fun d hd => by
  obtain ⟨p, hp, rfl⟩ := List.mem_map.mp hd
  have ho := h.all p hp
  exact (small_tup (n := 2 * Rw.depl p.rs + 4) fun d hd => by
    simp only [List.mem_cons, List.not_mem_nil, or_false] at hd
    rcases hd with rfl | rfl | rfl
    · exact (nm_shp ho.nm).mono (by omega)
    · exact small_int.mono (by omega)
    · exact small_sq (small_rws (s := s) p.rs ho.ok)).mono (by have := ho.dep; omega)).shaped (by decide)
def RPi (n : Nat) (p : Addr) : List En → PB → KD PB → KX PB → Prop := fun es g k x => ∃ (s s' s0 : Bool) (ps : List Pr), es = [En.raw (.ref p), En.da (sq s0 (ps.map (Pr.dd s s')))] ∧ g = ((), insD "Program" []) ∧ PgOk n ps ∧ ((∀ p ∈ ps, Rw.dpl p.rs 0 = none) → k .none ((), pgD ps)) ∧ ∀ p ∈ ps, ∀ q : Nat, Rw.dpl p.rs 0 = some q → ∀ g', x "BadProgram" (bpX p.f (q : Nat) "deep") g'
abbrev s_Program__init__ : Stmt := inClass (top 26) 0
abbrev N_Program__init__ : List Str := ["self", "procedures", "variables_of", "procedure"]
abbrev P_Program__init__ : List Str := ["self", "procedures"]
theorem sc_Program__init__ : FnScope N_Program__init__ P_Program__init__ (defScope s_Program__init__) := ⟨rfl, rfl, rfl, by decide +kernel, rfl, by decide +kernel, by decide +kernel⟩
-- slots: 0 self, 1 procedures, 2 variables_of, 3 procedure
theorem kp_program_init {g : Addr} (n : Nat) (F : AtM K (He.ga K "Program") g "__init__" "Program.__init__" s_Program__init__) (N : Nb mg) (T : PrgT K) (M1 : ∃ t, mg "MOST_PROCEDURES" = some (.int 300 t)) (M2 : ∃ t, mg "MOST_ROWS" = some (.int 3000 t)) (S_BadProgram : ErrA P w K mg base "BadProgram" ["name", "place", "what"])
    (G_is_sequence : Keeps CX0 P w K mg base "is_sequence" 1 ["thing"] (spSeq_ K)) (G__checked_heads : Keeps (L2N.CX P w) P w K mg base "_checked_heads" 3 ["procedures"] (spX K Co.pure RHd)) (G__checked_procedure : Keeps (L2N.CX P w) P w K mg base "_checked_procedure" (n + 6) ["procedure", "variables_of"] (spX K Co.pure (RCp n)))
    (G_rows_count : Keeps CX0 P w K mg base "rows_count" (n + 2) ["rows"] (spX K Co.pure (RSz n))) : KeepsM (L2N.CX P w) P w K mg base g (n + 7) ["self", "procedures"] (spY K (CB K) (RPi n)) := by
  obtain ⟨_, mMOST_PROCEDURES⟩ := M1
  obtain ⟨_, mMOST_ROWS⟩ := M2
  refine keepsM_yX F sc_Program__init__ (fun _ _ _ _ _ _ us hl => match us, hl with | [_, _], _ => rfl) (fun i es g k x h => ?_) (fun cdv A outer s H E i es g k x hr h => ?_)
  · obtain ⟨_, _, _, _, rfl, _⟩ := h; rfl
  · obtain ⟨s, s', s0, ps, rfl, rfl, hpg, hk, hx⟩ := h
    refine ⟨_, (pss_cons (ps_if (PW.pt (pw_or (pt_not (pt_truth (pe_k (G_is_sequence.up (by omega)) hr (by rfl) pass0 (pa_cons (pv 1) pa_nil)) (by intro _; rfl))) (pw_or1 (pt_not (pt_chain op_le op_le pe_int (pe_callB call_len (by rfl) N.len (by decide +kernel) (pa_cons (pv 1) pa_nil)) (pe_glob (v := .int 300) (by rfl) mMOST_PROCEDURES ⟨_, rfl⟩)))))) (pss_one (L2N.ps_raise rfl (L2N.takes_of rfl rfl rfl rfl) (by exact pmk_eN S_BadProgram hr (by rfl) (pa_cons pe_str (pa_cons (pe_un un_neg pe_int) (pa_cons pe_str pa_nil)))))) pss_nil)
        (pss_cons (ps_set (i := 2) sc_Program__init__.nd rfl (by walk_at "lv") (pe_k (G__checked_heads.up (by omega)) hr (by rfl) (L2N.passes_call (L2N.takes_of rfl rfl rfl rfl) (fun _ _ _ _ h => h)) (pa_cons (pv 1) pa_nil)))
        (pss_cons (ps_fld (pv 0) (pe_callTy call_tuple_of (by rfl) N.tuple (by decide +kernel) (pa_cons (pe_lcX (E := E) (own := [("procedure", 3)]) (g := gName 3) (tt := tYes) rfl rfl (L2N.takes_of rfl rfl rfl rfl) (fun _ _ _ _ h => h) rfl sc_Program__init__.nd (pi_seqE (pv 1)) (blkOk_by (N := N_Program__init__) (sc := defScope s_Program__init__) (by decide +kernel)) (fun _ _ _ _ _ _ => (pg_name (i := 3) sc_Program__init__.nd rfl (by walk_at "lv"))) (fun _ _ _ _ _ _ => pts_nil) (fun _ _ _ _ _ _ px => (pe_k (G__checked_procedure.up (by omega)) hr (by rfl) px (pa_cons (pv 3) (pa_cons (pv 2) pa_nil))))) pa_nil)) rfl)
        (pss_one (ps_if (pt_cmpR op_gt (pe_callB (cr_sum rfl) (by rfl) N.sum (by decide +kernel) (pa_cons (pe_lc (own := [("procedure", 3)]) (g := gName 3) (tt := tYes) rfl sc_Program__init__.nd (pi_seqE (pe_fld (pv 0) rfl)) (blkOk_by (N := N_Program__init__) (sc := defScope s_Program__init__) (by decide +kernel)) (fun _ _ _ _ _ => (pg_name (i := 3) sc_Program__init__.nd rfl (by walk_at "lv"))) (fun _ _ _ _ _ => pts_nil) (fun _ _ _ _ _ => (pe_k (G_rows_count.up (by omega)) hr (by rfl) pass0 (pa_cons (pe_ix (r := rIxA K) ix_any (pv 3) pe_int (fun _ _ => rfl)) pa_nil)))) pa_nil)) (pe_glob (v := .int 3000) (by rfl) mMOST_ROWS ⟨_, rfl⟩) (nomark _)) (pss_one (L2N.ps_raise rfl (L2N.takes_of rfl rfl rfl rfl) (by exact pmk_eN S_BadProgram hr (by rfl) (pa_cons pe_str (pa_cons (pe_un un_neg pe_int) (pa_cons pe_str pa_nil)))))) pss_nil))))), ?_⟩
    try dsimp only [cxOf, L2.Cx.wish]
    have hs := hpg.shp (s := s) (s' := s') (s0 := s0)
    have hl : lenD (sq s0 (ps.map (Pr.dd s s'))) = some (ps.map (Pr.dd s s')).length := lenD_sq
    refine Ws_seq (Ws_no_if ?_ (Ws_next ?_))
    · walk_at "wr"
      rw [isSq_sq]
      walk_at "wr"
      rw [List.length_map, decide_eq_true (show (1 : Int) ≤ (ps.length : Nat) by have := hpg.len; omega)]
      walk_at "wr"
      rw [decide_eq_true (show ((ps.length : Nat) : Int) ≤ 300 by have := hpg.len; omega)]
      walk_at "wr"
      rfl
    refine Ws_seq (Wx_set (We_call Ln.pure ?_))
    walk_at "wr"
    refine ⟨s, s', s0, ps, tbD ps, rfl, hpg.all, hpg.nd, by have := hpg.len; omega, rfl, ?_⟩
    refine Ws_seq (Ws_fldB (nm := "Program") Bx.box rfl T.c T.a ?_)
    refine We_cb rf_tup (Wa_cons (We_new (Wn_lc (GIn.name (by decide)) (Wi_seq ?_))))
    walk_at "wr"
    refine ⟨_, rowsOf_sq, by rw [List.length_map]; have := hpg.len; omega, fun i acc g2 => acc = (ps.take i).map Pr.d ∧ g2 = ((), insD "Program" []) ∧ ∀ p ∈ ps.take i, Rw.dpl p.rs 0 = none, ⟨rfl, rfl, fun p hp => by rw [List.take_zero] at hp; cases hp⟩, ?_, ?_⟩
    · rintro i d acc g2 hd ⟨rfl, rfl, hno⟩
      rw [List.getElem?_map] at hd
      obtain ⟨p, hp, rfl⟩ := Option.map_eq_some_iff.mp hd
      have hpm := List.mem_of_getElem? hp
      refine Wx_name ⟨rfl, Wt_yes ⟨fun _ => We_call Ln.pure ?_, fun z => nomatch z⟩⟩
      walk_at "wr"
      refine ⟨s, s', p, tbD ps, rfl, lk_tb_at hpg.nd hpm, hpg.all p hpm, hpg.dep p hpm, fun hnone => ⟨?_, rfl, ?_⟩, fun q hq => hx p hpm q hq _⟩
      · rw [take_get hp, List.map_append]; rfl
      · intro p' hp'
        rw [take_get hp] at hp'
        rcases List.mem_append.mp hp' with h | h
        · exact hno p' h
        · rw [List.mem_singleton.mp h]; exact hnone
    · rintro acc g2 ⟨rfl, rfl, hno⟩
      rw [List.length_map, take_all] at hno
      rw [List.length_map, take_all]
      walk_at "wr"
      refine Ws_no_if ?_ (Ws_next (hk hno))
      walk_at "wr"
      refine We_new (Wn_map (GIn.name (by decide)) (Wi_seq (We_fldB (nm := "Program") Bx.box rfl T.c T.a ?_)))
      refine ⟨_, _, rfl, rfl, _, rfl, ?_⟩
      refine ⟨by rw [List.length_map]; have := hpg.len; omega, (ps.map fun p => ((Rw.szl p.rs : Nat) : Int)).map .int, by rw [List.length_map, List.length_map, List.length_map], fun j d e hd he => ?_, ?_⟩
      · rw [List.getElem?_map] at hd
        obtain ⟨p, hp, rfl⟩ := Option.map_eq_some_iff.mp hd
        rw [List.map_map, List.getElem?_map, hp] at he
        cases he
        walk_at "wr"
        exact ⟨false, false, p.rs, rfl, hpg.dep p (List.mem_of_getElem? hp), rfl, rfl⟩
      · walk_at "wr"
        rw [sum_cast, decide_eq_false (show ¬ ((3000 : Int) < ((ps.map fun p => Rw.szl p.rs).sum : Nat)) by have := hpg.sz; omega)]
        exact ⟨rfl, rfl⟩
end
theorem Ws_cutP {γ : Type} {B : Bd γ} {t : TS} {g : γ} {ρ : List En} {kt : Kz γ} (R : γ → List En → Prop) (h : Ws B t g ρ ⟨R, fun _ _ => False, fun _ _ => False, fun _ _ => False⟩) (h2 : ∀ g1 ρ1, R g1 ρ1 → kt.nx g1 ρ1) : Ws B t g ρ kt := h.mono h2 (fun _ _ z => z.elim) (fun _ _ z => z.elim) fun _ _ z => z.elim
section
variable {P : Program} {w : World} {K : PySem.W.Frag} {mg : Str → Option Value} {base : Heap}
abbrev Dg (ds : List Int) : Prop := ∀ d ∈ ds, 0 ≤ d ∧ d < 2147483648
theorem dg_snoc {ds : List Int} {d : Int} (h : Dg ds) (h0 : 0 ≤ d) (h1 : d < 2147483648) : Dg (ds ++ [d]) := fun e he => by
  rcases (List.mem_append.mp he) with he | he
  · exact h e he
  · rw [List.mem_singleton.mp he]; exact ⟨h0, h1⟩
def RDg : List En → Unit → KD Unit → KX Unit → Prop := fun es _ k _ => ∃ (c : Int) (m : Nat), es = [En.da (.int c), En.da (.int (m : Nat))] ∧ m ≤ 1000 ∧ ∀ ds : List Int, ds.length = m → Dg ds → k (.list (ds.map .int)) ()
abbrev s__law_digits : Stmt := top 56
abbrev N__law_digits : List Str := ["_law_cell_here", "_law_many", "_law_big", "_law_out", "_law_state", "_law_at"]
abbrev P__law_digits : List Str := ["_law_cell_here", "_law_many"]
theorem sc__law_digits : FnScope N__law_digits P__law_digits (defScope s__law_digits) := ⟨rfl, rfl, rfl, by decide +kernel, rfl, by decide +kernel, by decide +kernel⟩
-- slots: 0 _law_cell_here, 1 _law_many, 2 _law_big, 3 _law_out, 4 _law_state, 5 _law_at
theorem kp__law_digits (F : At K mg "_law_digits" s__law_digits) (N : Nb mg) : Keeps CX0 P w K mg base "_law_digits" 1 ["_law_cell_here", "_law_many"] (spX K Co.pure RDg) := by
  refine keeps_x F sc__law_digits (fun _ _ _ _ _ _ us hl => match us, hl with | [_, _], _ => rfl) (fun es g k x h => ?_) (fun fa cdv A outer s H E es g k x hr h => ?_)
  · obtain ⟨_, _, rfl, _⟩ := h; rfl
  · obtain ⟨c, m, rfl, hm, hk⟩ := h
    refine ⟨_, (pss_cons (ps_set (i := 2) sc__law_digits.nd rfl (by walk_at "lv") (pe_callB call_abs (by rfl) N.abs (by decide +kernel) (pa_cons (pe_callTy call_int1 (by rfl) N.int (by decide +kernel) (pa_cons (pv 0) pa_nil)) pa_nil)))
        (pss_cons (ps_set (i := 3) sc__law_digits.nd rfl (by walk_at "lv") (pe_lst pa_nil))
        (pss_cons (ps_set (i := 4) sc__law_digits.nd rfl (by walk_at "lv") (pe_op op_mod (pe_callTy call_int1 (by rfl) N.int (by decide +kernel) (pa_cons (pe_op op_add (pe_op op_mul (pv 0) pe_int) pe_int) pa_nil)) pe_int))
        (pss_cons (ps_if (pt_cmpR op_lt (pv 2) (pe_op op_pow pe_int pe_int) (nomark _)) (pss_one (ps_set (i := 2) sc__law_digits.nd rfl (by walk_at "lv") pe_int)) pss_nil)
        (pss_cons (ps_for PassesOwn.never rfl (pi_range1 (by rfl) N.range (pa_cons (pv 1) pa_nil)) (pg_name (i := 5) sc__law_digits.nd rfl (by walk_at "lv")) (pss_cons (ps_set (i := 4) sc__law_digits.nd rfl (by walk_at "lv") (pe_op op_mod (pe_callTy call_int1 (by rfl) N.int (by decide +kernel) (pa_cons (pe_op op_add (pe_op op_add (pe_op op_mul (pv 4) pe_int) (pe_op op_mul pe_int (pv 5))) pe_int) pa_nil)) pe_int))
        (pss_one (ps_if (pt_cmpR op_gt (pv 2) pe_int (nomark _)) (pss_cons (ps_expr (pe_bm PySem.F.plainAttrs_list PySem.F.slot_list_append PySem.F.type_list_append mt_append (pv 3) (pa_cons (pe_op op_mod (pe_callTy call_int1 (by rfl) N.int (by decide +kernel) (pa_cons (pv 2) pa_nil)) pe_int) pa_nil)))
        (pss_one (ps_set (i := 2) sc__law_digits.nd rfl (by walk_at "lv") (pe_op op_fdiv (pv 2) pe_int)))) (pss_one (ps_expr (pe_bm PySem.F.plainAttrs_list PySem.F.slot_list_append PySem.F.type_list_append mt_append (pv 3) (pa_cons (pe_op op_fdiv (pv 4) pe_int) pa_nil))))))))
        (pss_one (ps_ret (pv 3)))))))), ?_⟩
    try dsimp only [cxOf, L2.Cx.wish]
    refine Ws_seq (Wx_set ?_)
    walk_at "wi"
    refine Ws_seq (Wx_new (Wn_lst ?_))
    walk_at "wi"
    refine Ws_seq (Wx_set ?_)
    walk_at "wi"
    generalize hc1 : (if c < 0 then -c else c) = big
    generalize hst : (c * 48271 + 11) % 2147483647 = st
    have hb0 : 0 ≤ big := by subst hc1; split <;> omega
    have hs0 : 0 ≤ st := by subst hst; exact Int.emod_nonneg _ (by decide)
    refine Ws_seq (Ws_cutP (fun _ ρ => ∃ big : Int, 0 ≤ big ∧ ρ = [En.da (.int c), En.da (.int (m : Nat)), En.da (.int big), En.own (.list []), En.da (.int st), En.no]) ?_ ?_)
    · refine Ws_if ?_
      walk_at "wi"
      refine ⟨fun h => ?_, fun h => ?_⟩
      · refine Wx_set ?_
        walk_at "wi"
        exact ⟨0, Int.le_refl 0, rfl⟩
      · exact Ws_next ⟨big, hb0, rfl⟩
    · rintro g1 ρ1 ⟨big, hb0, rfl⟩
      refine Ws_seq (Ws_for (Wi_rng1 ?_))
      walk_at "wi"
      refine ⟨by omega, by omega, fun i _ ρ => ∃ (y5 : En) (b st : Int) (ds : List Int), ρ = [En.da (.int c), En.da (.int (m : Nat)), En.da (.int b), En.own (.list (ds.map .int)), En.da (.int st), y5] ∧ 0 ≤ b ∧ 0 ≤ st ∧ ds.length = i ∧ Dg ds, ⟨_, big, st, [], rfl, hb0, hs0, rfl, fun d hd => by cases hd⟩, ?_, ?_⟩
      · rintro i d g2 ρ2 hd ⟨y5, b, st, ds, rfl, hb, hs, hl, hds⟩
        rw [List.getElem?_map] at hd
        obtain ⟨j', hj, rfl⟩ := Option.map_eq_some_iff.mp hd
        have hij : j' = i ∧ i < m := by
          obtain ⟨a, b⟩ := List.getElem?_eq_some_iff.mp hj
          rw [List.length_range] at a
          rw [List.getElem_range] at b
          exact ⟨b.symm, by omega⟩
        obtain ⟨rfl, hlt⟩ := hij
        refine Wx_name ⟨rfl, ?_⟩
        refine Ws_seq (Wx_set ?_)
        walk_at "wi"
        generalize hst2 : (st * 69621 + 7919 * (j' : Int) + 104729) % 2147483629 = st2
        have hs2 : 0 ≤ st2 ∧ st2 < 2147483629 := by subst hst2; exact ⟨Int.emod_nonneg _ (by decide), Int.emod_lt_of_pos _ (by decide)⟩
        refine Ws_if ?_
        walk_at "wi"
        refine ⟨fun h => ?_, fun h => ?_⟩
        · refine Ws_seq (Ws_app rfl ?_)
          walk_at "wi"
          refine ⟨by rw [List.length_map]; omega, ?_⟩
          refine Wx_set ?_
          walk_at "wi"
          refine ⟨En.da (.int (j' : Nat)), b / 997, st2, ds ++ [b % 997], ?_, by omega, hs2.1, by rw [List.length_append, hl]; rfl, dg_snoc hds (by omega) (by omega)⟩
          rw [List.map_append]; rfl
        · refine Ws_app rfl ?_
          walk_at "wi"
          refine ⟨by rw [List.length_map]; omega, ?_⟩
          refine ⟨En.da (.int (j' : Nat)), b, st2, ds ++ [st2 / 13], ?_, hb, hs2.1, by rw [List.length_append, hl]; rfl, dg_snoc hds (by omega) (by omega)⟩
          rw [List.map_append]; rfl
      · rintro g2 ρ2 ⟨y5, b, st, ds, rfl, hb, hs, hl, hds⟩
        rw [List.length_map, List.length_range] at hl
        refine Ws_freeze (i := 3) rfl ?_
        walk_at "wj"
        exact hk ds hl hds
def RCell : List En → Unit → KD Unit → KX Unit → Prop := fun es _ k _ => ∃ (ns : List Int) (i : Nat), es = [En.da (.list (ns.map .int)), En.da (.int (i : Nat))] ∧ i ≤ 1000 ∧ ∀ c : Int, k (.int c) ()
abbrev s__law_cell : Stmt := top 57
abbrev N__law_cell : List Str := ["_law_script", "_law_at"]
abbrev P__law_cell : List Str := ["_law_script", "_law_at"]
theorem sc__law_cell : FnScope N__law_cell P__law_cell (defScope s__law_cell) := ⟨rfl, rfl, rfl, by decide +kernel, rfl, by decide +kernel, by decide +kernel⟩
-- slots: 0 _law_script, 1 _law_at
theorem kp__law_cell (F : At K mg "_law_cell" s__law_cell) (N : Nb mg) : Keeps CX0 P w K mg base "_law_cell" 1 ["_law_script", "_law_at"] (spX K Co.pure RCell) := by
  refine keeps_x F sc__law_cell (fun _ _ _ _ _ _ us hl => match us, hl with | [_, _], _ => rfl) (fun es g k x h => ?_) (fun fa cdv A outer s H E es g k x hr h => ?_)
  · obtain ⟨_, _, rfl, _⟩ := h; rfl
  · obtain ⟨ns, i, rfl, hi, hk⟩ := h
    refine ⟨_, (pss_one (ps_ret (pe_ifExp (pt_cmpR op_lt (pv 1) (pe_callB call_len (by rfl) N.len (by decide +kernel) (pa_cons (pv 0) pa_nil)) (nomark _)) (pe_callTy call_int1 (by rfl) N.int (by decide +kernel) (pa_cons (pe_ix ix_any (pv 0) (pv 1) (fun _ _ => rfl)) pa_nil)) (pe_op op_add (pe_op op_mul pe_int (pv 1)) pe_int)))), ?_⟩
    try dsimp only [cxOf, L2.Cx.wish]
    walk_at "wj"
    rw [List.length_map]
    refine ⟨fun h => ?_, fun h => ?_⟩
    · have := of_decide_eq_true h
      have hg : (ns.map PyData.int)[i]? = some (.int (ns[i]'(by omega))) := by rw [List.getElem?_map, List.getElem?_eq_getElem (by omega)]; rfl
      walk_at "wj"
      refine ⟨_, _, _, rfl, rfl, atI_nat hg, ?_⟩
      walk_at "wj"
      exact hk _
    · walk_at "wj"
      exact hk _
def RNext (p : Addr) : List En → PB → KD PB → KX PB → Prop := fun es g k _ => ∃ (ds : List Int) (q : Int), es = [En.da (.list (ds.map .int)), En.raw (.ref p)] ∧ g = ((), .list [.int q]) ∧ ds ≠ [] ∧ Dg ds ∧ ∀ (d q' : Int), 0 ≤ d → d < 2147483648 → k (.int d) ((), .list [.int q'])
abbrev s__law_next : Stmt := top 61
abbrev N__law_next : List Str := ["_law_ds", "_law_pos"]
abbrev P__law_next : List Str := ["_law_ds", "_law_pos"]
theorem sc__law_next : FnScope N__law_next P__law_next (defScope s__law_next) := ⟨rfl, rfl, rfl, by decide +kernel, rfl, by decide +kernel, by decide +kernel⟩
-- slots: 0 _law_ds, 1 _law_pos
theorem kp__law_next (F : At K mg "_law_next" s__law_next) (N : Nb mg) : Keeps CX0 P w K mg base "_law_next" 1 ["_law_ds", "_law_pos"] (spY K (CB K) RNext) := by
  refine keeps_y F sc__law_next (fun _ _ _ _ _ _ us hl => match us, hl with | [_, _], _ => rfl) (fun i es g k x h => ?_) (fun fa cdv A outer s H E p es g k x hr h => ?_)
  · obtain ⟨_, _, rfl, _⟩ := h; rfl
  · obtain ⟨ds, q, rfl, rfl, hne, hds, hk⟩ := h
    refine ⟨_, (pss_cons (ps_asg (pe_op op_add (pe_ix ix_any (pv 1) pe_int (fun _ _ => rfl)) pe_int) (pg_sub (pv 1) pe_int set_list))
        (pss_one (ps_ret (pe_callTy call_int1 (by rfl) N.int (by decide +kernel) (pa_cons (pe_ix ix_any (pv 0) (pe_op op_mod (pe_callTy call_int1 (by rfl) N.int (by decide +kernel) (pa_cons (pe_ix ix_any (pv 1) pe_int (fun _ _ => rfl)) pa_nil)) (pe_callB call_len (by rfl) N.len (by decide +kernel) (pa_cons (pv 0) pa_nil))) (fun _ _ => rfl)) pa_nil))))), ?_⟩
    try dsimp only [cxOf, L2.Cx.wish]
    have hlen : 0 < ds.length := List.length_pos_iff.mpr hne
    refine Ws_seq (Ws_asg ?_)
    walk_at "wi"
    refine Wg_putB Bx.box rfl (We_int ⟨_, 0, rfl, rfl, Nat.zero_lt_one, ?_⟩)
    walk_at "wj"
    rw [List.length_map]
    refine ⟨by omega, ?_⟩
    have h0 : 0 ≤ (q + 1) % (ds.length : Int) := Int.emod_nonneg _ (by omega)
    have h1 : (q + 1) % (ds.length : Int) < ds.length := Int.emod_lt_of_pos _ (by omega)
    generalize (q + 1) % (ds.length : Int) = i at h0 h1
    obtain ⟨v, e1, e2⟩ := atI_of (xs := ds.map PyData.int) h0 (by rw [List.length_map]; exact h1)
    rw [List.getElem?_map] at e1
    obtain ⟨d, hd, rfl⟩ := Option.map_eq_some_iff.mp e1
    have hdd := hds d (List.mem_of_getElem? hd)
    refine ⟨_, _, _, rfl, rfl, e2, ?_⟩
    walk_at "wj"
    exact hk d (q + 1) hdd.1 hdd.2
end
abbrev tl (z : Str) : List Nat := z.cps.toList
theorem tl_app (a b : Str) : tl (a ++ b) = tl a ++ tl b := by
  show (a.cps ++ b.cps).toList = _
  exact Array.toList_append
theorem tl_one (c : Nat) : tl ⟨#[c]⟩ = [c] := rfl
def dgt (i : Nat) : Str := toString ((i : Nat) : Int)
theorem dgt_tl {i : Nat} (h : i < 4) : tl (dgt i) = [48 + i] := by
  match i, h with
  | 0, _ => decide +kernel
  | 1, _ => decide +kernel
  | 2, _ => decide +kernel
  | 3, _ => decide +kernel
/-- one to three small letters -/
structure Sm (z : Str) : Prop where
  all : ∀ c ∈ tl z, inZ smallZ c = true
  len : 1 ≤ z.length ∧ z.length ≤ 3
theorem sm_no {c : Nat} (h : c < 97) : inZ smallZ c = false := by
  cases e : inZ smallZ c with
  | false => rfl
  | true =>
    have := of_decide_eq_true e
    have := (by decide +kernel : ∀ c ∈ smallZ.cps.toList, 97 ≤ c) c this
    omega
theorem Sm.nm {z : Str} (h : Sm z) : nmB z = true := by
  unfold nmB
  have hl := h.len
  rw [str_len] at hl
  cases e : z.cps.toList with
  | nil => rw [e] at hl; exact absurd hl.1 (by decide)
  | cons c cs =>
    have ha := h.all
    rw [show tl z = c :: cs from e] at ha
    rw [e] at hl
    show (decide ((c :: cs).length ≤ 8) && (inZ smallZ c && (c :: cs).all fun c => inZ smallZ c || inZ figZ c)) = true
    rw [decide_eq_true (by omega), ha c List.mem_cons_self, Bool.true_and, Bool.true_and, List.all_eq_true]
    intro d hd
    rw [ha d hd, Bool.true_or]
theorem Sm.nmd {z : Str} (h : Sm z) {i : Nat} (hi : i < 4) : nmB (z ++ dgt i) = true ∧ (z ++ dgt i).length ≤ 4 := by
  have hl := h.len
  rw [str_len] at hl
  have et : (z ++ dgt i).cps.toList = tl z ++ [48 + i] := by rw [← dgt_tl hi]; exact tl_app z (dgt i)
  refine ⟨?_, by rw [str_len, et, List.length_append, List.length_singleton, show (tl z).length = z.cps.toList.length from rfl]; omega⟩
  unfold nmB
  rw [et]
  cases e : z.cps.toList with
  | nil => rw [e] at hl; exact absurd hl.1 (by decide)
  | cons c cs =>
    have ha := h.all
    rw [show tl z = c :: cs from e] at ha
    rw [e] at hl
    rw [show tl z = c :: cs from e]
    show (decide ((c :: (cs ++ [48 + i])).length ≤ 8) && (inZ smallZ c && (c :: (cs ++ [48 + i])).all fun c => inZ smallZ c || inZ figZ c)) = true
    rw [List.length_cons] at hl
    rw [decide_eq_true (by rw [List.length_cons, List.length_append, List.length_singleton]; omega), ha c List.mem_cons_self, Bool.true_and, Bool.true_and, List.all_eq_true]
    intro d hd; rcases List.mem_cons.mp hd with rfl | hd
    · rw [ha d List.mem_cons_self, Bool.true_or]
    · rcases List.mem_append.mp hd with hd | hd
      · rw [ha d (List.mem_cons_of_mem _ hd), Bool.true_or]
      · rw [List.mem_singleton.mp hd]
        have : inZ figZ (48 + i) = true := by
          match i, hi with
          | 0, _ => decide +kernel
          | 1, _ => decide +kernel
          | 2, _ => decide +kernel
          | 3, _ => decide +kernel
        rw [this, Bool.or_true]
/-- names so far -/
def NmI (k : Nat) (nms : List Str) : Prop := nms.length = k ∧ nms.Nodup ∧ ∀ z ∈ nms, Sm z ∨ ∃ w i, i < k ∧ Sm w ∧ z = w ++ dgt i
theorem NmI.add {k : Nat} {nms : List Str} {z : Str} (h : NmI k nms) (hz : Sm z) (hk : k < 4) : (z ∉ nms → NmI (k + 1) (nms ++ [z])) ∧ NmI (k + 1) (nms ++ [z ++ dgt k]) := by
  obtain ⟨h1, h2, h3⟩ := h
  have up : ∀ y ∈ nms, Sm y ∨ ∃ w i, i < k + 1 ∧ Sm w ∧ y = w ++ dgt i := fun y hy => (h3 y hy).elim .inl fun ⟨w, i, a, b, c⟩ => .inr ⟨w, i, by omega, b, c⟩
  constructor
  · intro hn
    refine ⟨by rw [List.length_append, h1]; rfl, List.nodup_append.mpr ⟨h2, by simp, fun a ha b hb => ?_⟩, fun y hy => ?_⟩
    · rw [List.mem_singleton.mp hb]; exact fun e => hn (e ▸ ha)
    · rcases List.mem_append.mp hy with hy | hy
      · exact up y hy
      · rw [List.mem_singleton.mp hy]; exact .inl hz
  · refine ⟨by rw [List.length_append, h1]; rfl, List.nodup_append.mpr ⟨h2, by simp, fun a ha b hb => ?_⟩, fun y hy => ?_⟩
    · rw [List.mem_singleton.mp hb]; intro e
      have et : tl a = tl z ++ [48 + k] := by rw [e, tl_app, dgt_tl hk]
      rcases h3 a ha with s | ⟨w, i, hi, sw, rfl⟩
      · have := s.all (48 + k) (by rw [et]; exact List.mem_append_right _ List.mem_cons_self)
        rw [sm_no (by omega)] at this
        cases this
      · rw [tl_app, dgt_tl (by omega)] at et
        have := List.append_inj_right' et rfl
        simp only [List.cons.injEq, and_true] at this
        omega
    · rcases List.mem_append.mp hy with hy | hy
      · exact up y hy
      · rw [List.mem_singleton.mp hy]; exact .inr ⟨z, k, by omega, hz, rfl⟩
theorem NmI.nm {k : Nat} {nms : List Str} (h : NmI k nms) (hk : k ≤ 4) : ∀ z ∈ nms, nmB z = true ∧ z.length ≤ 4 := fun z hz => by
  rcases h.2.2 z hz with s | ⟨w, i, hi, sw, rfl⟩
  · exact ⟨s.nm, by have := s.len; omega⟩
  · exact sw.nmd (by omega)
section
variable {P : Program} {w : World} {K : PySem.W.Frag} {mg : Str → Option Value} {base : Heap}
def RNames : List En → Unit → KD Unit → KX Unit → Prop := fun es _ k _ => ∃ (ds : List Int) (m : Nat), es = [En.da (.list (ds.map .int)), En.da (.int 10), En.da (.int (m : Nat))] ∧ ds.length = 260 ∧ Dg ds ∧ m ≤ 4 ∧ ∀ nms, NmI m nms → k (.list (nms.map .str)) ()
theorem dg_at {ds : List Int} (h : Dg ds) (i : Nat) (hi : i < ds.length) : ∃ d, atI (ds.map PyData.int) (i : Int) = some (.int d) ∧ 0 ≤ d ∧ d < 2147483648 := ⟨ds[i], atI_nat (by rw [List.getElem?_map, List.getElem?_eq_getElem hi]; rfl), h _ (List.getElem_mem hi)⟩
abbrev s__law_names : Stmt := top 60
abbrev N__law_names : List Str := ["_law_ds", "_law_at", "_law_many", "_law_out", "_law_k", "_law_name", "_law_j"]
abbrev P__law_names : List Str := ["_law_ds", "_law_at", "_law_many"]
theorem sc__law_names : FnScope N__law_names P__law_names (defScope s__law_names) := ⟨rfl, rfl, rfl, by decide +kernel, rfl, by decide +kernel, by decide +kernel⟩
-- slots: 0 _law_ds, 1 _law_at, 2 _law_many, 3 _law_out, 4 _law_k, 5 _law_name, 6 _law_j
theorem kp__law_names (F : At K mg "_law_names" s__law_names) (N : Nb mg) : Keeps CX0 P w K mg base "_law_names" 1 ["_law_ds", "_law_at", "_law_many"] (spX K Co.pure RNames) := by
  refine keeps_x F sc__law_names (fun _ _ _ _ _ _ us hl => match us, hl with | [_, _, _], _ => rfl) (fun es g k x h => ?_) (fun fa cdv A outer s H E es g k x hr h => ?_)
  · obtain ⟨_, _, rfl, _⟩ := h; rfl
  · obtain ⟨ds, m, rfl, hl, hds, hm, hk⟩ := h
    refine ⟨_, (pss_cons (ps_set (i := 3) sc__law_names.nd rfl (by walk_at "lv") (pe_lst pa_nil))
        (pss_cons (ps_for PassesOwn.never rfl (pi_range1 (by rfl) N.range (pa_cons (pv 2) pa_nil)) (pg_name (i := 4) sc__law_names.nd rfl (by walk_at "lv")) (pss_cons (ps_set (i := 5) sc__law_names.nd rfl (by walk_at "lv") pe_str)
        (pss_cons (ps_for PassesOwn.never rfl (pi_range1 (by rfl) N.range (pa_cons (pe_op op_add pe_int (pe_op op_mod (pe_op op_fdiv (pe_callTy call_int1 (by rfl) N.int (by decide +kernel) (pa_cons (pe_ix ix_any (pv 0) (pv 1) (fun _ _ => rfl)) pa_nil)) pe_int) pe_int)) pa_nil)) (pg_name (i := 6) sc__law_names.nd rfl (by walk_at "lv")) (pss_one (ps_set (i := 5) sc__law_names.nd rfl (by walk_at "lv") (pe_op op_add_str (pv 5) (pe_ix ix_str pe_str (pe_op op_mod (pe_callTy call_int1 (by rfl) N.int (by decide +kernel) (pa_cons (pe_op op_add (pe_ix ix_any (pv 0) (pe_op op_add (pv 1) (pv 4)) (fun _ _ => rfl)) (pe_op op_mul (pv 6) (pe_ix ix_any (pv 0) (pe_op op_add (pv 1) pe_int) (fun _ _ => rfl)))) pa_nil)) pe_int) (fun _ _ => rfl))))))
        (pss_one (ps_expr (pe_bm PySem.F.plainAttrs_list PySem.F.slot_list_append PySem.F.type_list_append mt_append (pv 3) (pa_cons (pe_ifExp (pt_cmpR (op_notInD (Room.u65 hr)) (pv 5) (pv 3) (by rfl)) (pv 5) (pe_op op_add_str (pv 5) (pe_callTy call_str_int (by rfl) N.str (by decide +kernel) (pa_cons (pv 4) pa_nil)))) pa_nil)))))))
        (pss_one (ps_ret (pv 3))))), ?_⟩
    try dsimp only [cxOf, L2.Cx.wish]
    obtain ⟨d10, hd10, hda, hdb⟩ := dg_at hds 10 (by omega)
    obtain ⟨d11, hd11, hdc, hdd⟩ := dg_at hds 11 (by omega)
    have hd10 : atI (ds.map PyData.int) 10 = some (.int d10) := hd10
    have hd11 : atI (ds.map PyData.int) (10 + 1) = some (.int d11) := hd11
    refine Ws_seq (Wx_new (Wn_lst ?_))
    walk_at "wi"
    refine Ws_seq (Ws_for (Wi_rng1 ?_))
    walk_at "wi"
    refine ⟨by omega, by omega, fun i _ ρ => ∃ (y4 y5 y6 : En) (nms : List Str), ρ = [En.da (.list (ds.map .int)), En.da (.int 10), En.da (.int (m : Nat)), En.own (.list (nms.map .str)), y4, y5, y6] ∧ NmI i nms, ⟨_, _, _, [], rfl, rfl, List.nodup_nil, fun z hz => by cases hz⟩, ?_, ?_⟩
    · rintro i d g2 ρ2 hd ⟨y4, y5, y6, nms, rfl, hnm⟩
      rw [List.getElem?_map] at hd
      obtain ⟨j', hj, rfl⟩ := Option.map_eq_some_iff.mp hd
      have hij : j' = i ∧ i < m := by
        obtain ⟨a, b⟩ := List.getElem?_eq_some_iff.mp hj
        rw [List.length_range] at a
        rw [List.getElem_range] at b
        exact ⟨b.symm, by omega⟩
      obtain ⟨rfl, hlt⟩ := hij
      obtain ⟨dk, hdk, hdk0, hdk1⟩ := dg_at hds (10 + j') (by omega)
      have hdk : atI (ds.map PyData.int) (10 + (j' : Int)) = some (.int dk) := hdk
      refine Wx_name ⟨rfl, ?_⟩
      refine Ws_seq (Wx_set ?_)
      walk_at "wi"
      refine Ws_seq (Ws_cutP (fun _ ρ => ∃ (z : Str) (y6 : En), Sm z ∧ ρ = [En.da (.list (ds.map .int)), En.da (.int 10), En.da (.int (m : Nat)), En.own (.list (nms.map .str)), En.da (.int (j' : Nat)), En.da (.str z), y6]) ?_ ?_)
      · refine Ws_for (Wi_rng1 ?_)
        walk_at "wi"
        refine ⟨_, _, _, rfl, rfl, hd10, ?_⟩
        walk_at "wi"
        generalize hw : 1 + d10 / 5 % 3 = wd
        have hw3 : 1 ≤ wd ∧ wd ≤ 3 := by omega
        refine ⟨by omega, by omega, fun i _ ρ => ∃ (z : Str) (y6 : En), (∀ c ∈ tl z, inZ smallZ c = true) ∧ z.length = i ∧ ρ = [En.da (.list (ds.map .int)), En.da (.int 10), En.da (.int (m : Nat)), En.own (.list (nms.map .str)), En.da (.int (j' : Nat)), En.da (.str z), y6], ⟨"", y6, (fun c hc => (by cases hc)), rfl, rfl⟩, ?_, ?_⟩
        · rintro i d g2 ρ2 hd ⟨z, y6, hz, hzl, rfl⟩
          rw [List.getElem?_map] at hd
          obtain ⟨j2, hj2, rfl⟩ := Option.map_eq_some_iff.mp hd
          have hij : j2 = i ∧ i < 3 := by
            obtain ⟨a, b⟩ := List.getElem?_eq_some_iff.mp hj2
            rw [List.length_range] at a
            rw [List.getElem_range] at b
            exact ⟨b.symm, by omega⟩
          obtain ⟨rfl, hlt2⟩ := hij
          refine Wx_name ⟨rfl, ?_⟩
          refine Wx_set ?_
          walk_at "wi"
          refine ⟨_, _, _, rfl, rfl, hdk, ?_⟩
          walk_at "wi"
          refine ⟨_, _, _, rfl, rfl, hd11, ?_⟩
          walk_at "wi"
          refine ⟨.inr ⟨by omega, by omega⟩, ?_⟩
          walk_at "wi"
          have h0 : 0 ≤ (dk + (j2 : Int) * d11) % 26 := Int.emod_nonneg _ (by decide)
          have h1 : (dk + (j2 : Int) * d11) % 26 < 26 := Int.emod_lt_of_pos _ (by decide)
          generalize (dk + (j2 : Int) * d11) % 26 = ix at h0 h1
          obtain ⟨c, e1, e2⟩ := atI_of (xs := smallZ.cps.toList) h0 (by rw [show smallZ.cps.toList.length = 26 by decide +kernel]; exact h1)
          refine ⟨smallZ, _, c, rfl, rfl, by decide +kernel, e2, ?_⟩
          walk_at "wi"
          have hcl : (⟨#[c]⟩ : Str).length = 1 := rfl
          refine ⟨by rw [hcl]; omega, rfl, z ++ ⟨#[c]⟩, En.da (.int (j2 : Nat)), fun d hd => ?_, ?_, rfl⟩
          · rw [tl_app, tl_one] at hd
            rcases List.mem_append.mp hd with hd | hd
            · exact hz d hd
            · rw [List.mem_singleton.mp hd]; exact decide_eq_true (List.mem_of_getElem? e1)
          · rw [str_len, show (z ++ (⟨#[c]⟩ : Str)).cps.toList = tl z ++ [c] from tl_app _ _, List.length_append, ← hzl, str_len z]; rfl
        · rintro g2 ρ2 ⟨z, y6, hz, hzl, rfl⟩
          rw [List.length_map, List.length_range] at hzl
          exact ⟨z, y6, ⟨hz, by omega⟩, rfl⟩
      · rintro g1 ρ1 ⟨z, y6, hz, rfl⟩
        have hadd := hnm.add hz (by omega)
        have hnn := hnm.nm (by omega)
        have hsz : Shp (.str z) := (nm_shp hz.nm).shaped (by decide)
        have hsl : Shp (.list (nms.map .str)) := (small_lst (n := 0) fun d hd => by
          obtain ⟨y, hy, rfl⟩ := List.mem_map.mp hd
          exact nm_shp (hnn y hy).1).shaped (by decide)
        have hlen3 := hz.len
        refine Ws_app rfl (We.mono (k := fun d _ => ∃ z', d = .str z' ∧ NmI (j' + 1) (nms ++ [z'])) ?_ ?_)
        · refine We_if (Wt_peek ?_)
          walk_at "wi"
          rw [show (nms.map PyData.str).any (fun y => PyData.eqv y (.str z)) = decide (z ∈ nms) by
            rw [Bool.eq_iff_iff, List.any_map, List.any_eq_true, decide_eq_true_iff]
            constructor
            · rintro ⟨y, hy, e⟩
              rw [Function.comp, eqv_str, decide_eq_true_iff] at e
              exact e ▸ hy
            · intro hy
              exact ⟨z, hy, by rw [Function.comp, eqv_str, decide_eq_true_iff]⟩]
          refine ⟨fun h => ?_, fun h => ?_⟩
          · walk_at "wi"
            exact hadd.1 (by simpa using h)
          · walk_at "wi"
            refine We_cb rf_strI ?_
            walk_at "wi"
            have hdl : (dgt j').length = 1 := by rw [str_len, show (dgt j').cps.toList = [48 + j'] from dgt_tl (by omega)]; rfl
            have hlg : ((j' : Nat) : Int).natAbs.log2 < 1920 := by
              have h4 : j' < 4 := by omega
              match j', h4 with
              | 0, _ => decide +kernel
              | 1, _ => decide +kernel
              | 2, _ => decide +kernel
              | 3, _ => decide +kernel
            refine ⟨hlg, _, _, rfl, rfl, ?_, _, rfl, hadd.2⟩
            show z.length + (dgt j').length ≤ 60000
            omega
        · rintro d g3 ⟨z', rfl, hz'⟩
          refine ⟨by rw [List.length_map, hnm.1]; omega, En.da (.int (j' : Nat)), En.da (.str z), y6, nms ++ [z'], ?_, hz'⟩
          rw [List.map_append]; rfl
    · rintro g2 ρ2 ⟨y4, y5, y6, nms, rfl, hnm⟩
      rw [List.length_map, List.length_range] at hnm
      refine Ws_freeze (i := 3) rfl ?_
      walk_at "wj"
      exact hk nms hnm
end
theorem len_szl : ∀ l : List Rw, l.length ≤ Rw.szl l
  | [] => Nat.le_refl _
  | a :: l => by rw [List.length_cons, Rw.szl]; have := sz_pos a; have := len_szl l; omega
abbrev nilL (n : Nat) : List PyData := List.replicate n (.list [])
theorem set_mid (A C : List PyData) (x y : PyData) : (A ++ x :: C).set A.length y = A ++ y :: C := by
  induction A with
  | nil => rfl
  | cons a A ih => rw [List.cons_append, List.length_cons, List.set_cons_succ, ih]; rfl
theorem Ws_cut {γ : Type} {B : Bd γ} {t : TS} {g G : γ} {ρ R : List En} {kt : Kz γ} (h : Ws B t g ρ ⟨fun g1 ρ1 => g1 = G ∧ ρ1 = R, fun _ _ => False, fun _ _ => False, fun _ _ => False⟩) (h2 : kt.nx G R) : Ws B t g ρ kt := h.mono (fun _ _ z => by rw [z.1, z.2]; exact h2) (fun _ _ z => z.elim) (fun _ _ z => z.elim) fun _ _ z => z.elim
theorem nilL_split (a b : Nat) : nilL (a + b) = nilL a ++ nilL b := List.replicate_append_replicate.symm
section
variable {P : Program} {w : World} {K : PySem.W.Frag} {mg : Str → Option Value} {base : Heap}
def RPut (n : Nat) (p : Addr) : List En → PB → KD PB → KX PB → Prop := fun es g k _ => ∃ (rs : List Rw) (bh : Nat) (pre post : List PyData), es = [En.da (.tuple (Rw.dl false rs)), En.da (.int (pre.length : Nat)), En.da (.int (bh : Nat)), En.raw (.ref p)] ∧ g = ((), .list (pre ++ (nilL (Rw.szl rs) ++ post))) ∧ Rw.depl rs < n ∧ Rw.szl rs ≤ 60000 ∧ k .none ((), .list (pre ++ ((Rw.arl rs pre.length bh).map .list ++ post)))
abbrev s__law_put : Stmt := top 54
abbrev N__law_put : List Str := ["_law_rows", "_law_place", "_law_behind", "_law_out", "_law_at", "_law_row", "_law_size_here", "_law_after", "_law_blocks_here", "_law_inner", "_law_heads", "_law_block_here", "_law_back"]
abbrev P__law_put : List Str := ["_law_rows", "_law_place", "_law_behind", "_law_out"]
theorem sc__law_put : FnScope N__law_put P__law_put (defScope s__law_put) := ⟨rfl, rfl, rfl, by decide +kernel, rfl, by decide +kernel, by decide +kernel⟩
-- slots: 0 _law_rows, 1 _law_place, 2 _law_behind, 3 _law_out, 4 _law_at, 5 _law_row, 6 _law_size_here, 7 _law_after, 8 _law_blocks_here, 9 _law_inner, 10 _law_heads, 11 _law_block_here, 12 _law_back
theorem kp__law_put (F : At K mg "_law_put" s__law_put) (N : Nb mg) (G__law_blocks : Keeps CX0 P w K mg base "_law_blocks" 1 ["_law_row"] (spX K Co.pure RBlk)) (G__law_size : ∀ n, Keeps CX0 P w K mg base "_law_size" (n + 1) ["_law_rows"] (spX K Co.pure (RSz n))) : ∀ n, Keeps CX0 P w K mg base "_law_put" (n + 3) ["_law_rows", "_law_place", "_law_behind", "_law_out"] (spY K (CB K) (RPut n)) := by
  intro n
  induction n with
  | zero => exact keeps_y F sc__law_put (fun _ _ _ _ _ _ us hl => match us, hl with | [_, _, _, _], _ => rfl) (fun i es g k x h => by obtain ⟨_, _, _, _, rfl, _⟩ := h; rfl) (fun fa cdv A outer s H E i es g k x hr h => by obtain ⟨_, _, _, _, _, _, z, _⟩ := h; exact absurd z (Nat.not_lt_zero _))
  | succ n ih =>
    refine keeps_y F sc__law_put (fun _ _ _ _ _ _ us hl => match us, hl with | [_, _, _, _], _ => rfl) (fun i es g k x h => by obtain ⟨_, _, _, _, rfl, _⟩ := h; rfl) (fun fa cdv A outer s H E p es g k x hr h => ?_)
    obtain ⟨rs, bh, pre, post, rfl, rfl, hn, hz, hk⟩ := h
    have G__law_size := G__law_size (n + 1)
    refine ⟨_, (pss_one (ps_for PassesOwn.never rfl (pi_range1 (by rfl) N.range (pa_cons (pe_callB call_len (by rfl) N.len (by decide +kernel) (pa_cons (pv 0) pa_nil)) pa_nil)) (pg_name (i := 4) sc__law_put.nd rfl (by walk_at "lv")) (pss_cons (ps_set (i := 5) sc__law_put.nd rfl (by walk_at "lv") (pe_ix ix_any (pv 0) (pv 4) (fun _ _ => rfl)))
        (pss_cons (ps_set (i := 6) sc__law_put.nd rfl (by walk_at "lv") (pe_k (G__law_size.up (by omega)) hr (by rfl) pass0 (pa_cons (pe_lst (pa_cons (pv 5) pa_nil)) pa_nil)))
        (pss_cons (ps_set (i := 7) sc__law_put.nd rfl (by walk_at "lv") (pe_ifExp (pt_cmpR op_lt (pe_op op_add (pv 4) pe_int) (pe_callB call_len (by rfl) N.len (by decide +kernel) (pa_cons (pv 0) pa_nil)) (nomark _)) (pe_op op_add (pv 1) (pv 6)) (pv 2)))
        (pss_cons (ps_set (i := 8) sc__law_put.nd rfl (by walk_at "lv") (pe_k (G__law_blocks.up (by omega)) hr (by rfl) pass0 (pa_cons (pv 5) pa_nil)))
        (pss_cons (ps_set (i := 9) sc__law_put.nd rfl (by walk_at "lv") (pe_op op_add (pv 1) pe_int))
        (pss_cons (ps_set (i := 10) sc__law_put.nd rfl (by walk_at "lv") (pe_lst pa_nil))
        (pss_cons (ps_for PassesOwn.never rfl (pi_seqE (pv 8)) (pg_name (i := 11) sc__law_put.nd rfl (by walk_at "lv")) (pss_cons (ps_set (i := 12) sc__law_put.nd rfl (by walk_at "lv") (pe_ifExp (pt_cmpR (op_eqD hr.units) (pe_ix ix_any (pv 5) pe_int (fun _ _ => rfl)) pe_str (nomark _)) (pv 1) (pv 7)))
        (pss_cons (ps_expr (pe_bm PySem.F.plainAttrs_list PySem.F.slot_list_append PySem.F.type_list_append mt_append (pv 10) (pa_cons (pe_ifExp (pt_cmpR op_gt (pe_callB call_len (by rfl) N.len (by decide +kernel) (pa_cons (pv 11) pa_nil)) pe_int (nomark _)) (pv 9) (pv 12)) pa_nil)))
        (pss_cons (ps_expr (pe_k (ih.up (by omega)) hr (by rfl) pass0 (pa_cons (pv 11) (pa_cons (pv 9) (pa_cons (pv 12) (pa_cons (pv 3) pa_nil))))))
        (pss_one (ps_set (i := 9) sc__law_put.nd rfl (by walk_at "lv") (pe_op op_add (pv 9) (pe_k (G__law_size.up (by omega)) hr (by rfl) pass0 (pa_cons (pv 11) pa_nil)))))))))
        (pss_cons (ps_if (pt_cmpR (op_eqD hr.units) (pe_ix ix_any (pv 5) pe_int (fun _ _ => rfl)) pe_str (nomark _)) (pss_one (ps_asg (pe_lst (pa_cons (pe_tup (pa_cons (pe_tup (pa_cons pe_str (pa_cons (pe_ix ix_any (pv 5) pe_int (fun _ _ => rfl)) (pa_cons (pe_ix ix_any (pv 5) pe_int (fun _ _ => rfl)) pa_nil)))) (pa_cons (pv 7) pa_nil))) pa_nil)) (pg_sub (pv 3) (pv 1) set_list))) (pss_one (ps_if (pt_cmpR (op_eqD hr.units) (pe_ix ix_any (pv 5) pe_int (fun _ _ => rfl)) pe_str (nomark _)) (pss_one (ps_asg (pe_lst (pa_cons (pe_tup (pa_cons (pe_tup (pa_cons pe_str (pa_cons (pe_ix ix_any (pv 5) pe_int (fun _ _ => rfl)) (pa_cons (pe_ix ix_any (pv 5) pe_int (fun _ _ => rfl)) pa_nil)))) (pa_cons (pe_ix ix_any (pv 10) pe_int (fun _ _ => rfl)) pa_nil))) (pa_cons (pe_tup (pa_cons (pe_tup (pa_cons pe_str (pa_cons (pe_ix ix_any (pv 5) pe_int (fun _ _ => rfl)) (pa_cons (pe_ix ix_any (pv 5) pe_int (fun _ _ => rfl)) pa_nil)))) (pa_cons (pe_ix ix_any (pv 10) pe_int (fun _ _ => rfl)) pa_nil))) pa_nil))) (pg_sub (pv 3) (pv 1) set_list))) (pss_one (ps_if (pt_cmpR (op_eqD hr.units) (pe_ix ix_any (pv 5) pe_int (fun _ _ => rfl)) pe_str (nomark _)) (pss_one (ps_asg (pe_lst (pa_cons (pe_tup (pa_cons (pe_tup (pa_cons pe_str pa_nil)) (pa_cons (pe_ix ix_any (pv 10) pe_int (fun _ _ => rfl)) pa_nil))) (pa_cons (pe_tup (pa_cons (pe_tup (pa_cons pe_str pa_nil)) (pa_cons (pe_ix ix_any (pv 10) pe_int (fun _ _ => rfl)) pa_nil))) pa_nil))) (pg_sub (pv 3) (pv 1) set_list))) (pss_one (ps_if (pt_cmpR (op_eqD hr.units) (pe_ix ix_any (pv 5) pe_int (fun _ _ => rfl)) pe_str (nomark _)) (pss_one (ps_asg (pe_lst (pa_cons (pe_tup (pa_cons (pe_tup (pa_cons pe_str (pa_cons (pe_ix ix_any (pv 5) pe_int (fun _ _ => rfl)) (pa_cons (pe_ix ix_any (pv 5) pe_int (fun _ _ => rfl)) pa_nil)))) (pa_cons (pe_ix ix_any (pv 10) pe_int (fun _ _ => rfl)) pa_nil))) (pa_cons (pe_tup (pa_cons (pe_tup (pa_cons pe_str (pa_cons (pe_ix ix_any (pv 5) pe_int (fun _ _ => rfl)) (pa_cons (pe_ix ix_any (pv 5) pe_int (fun _ _ => rfl)) pa_nil)))) (pa_cons (pv 7) pa_nil))) pa_nil))) (pg_sub (pv 3) (pv 1) set_list))) (pss_one (ps_if (pt_cmpR (op_neD hr.units) (pe_ix ix_any (pv 5) pe_int (fun _ _ => rfl)) pe_str (nomark _)) (pss_one (ps_asg (pe_lst (pa_cons (pe_tup (pa_cons (pv 5) (pa_cons (pv 7) pa_nil))) pa_nil)) (pg_sub (pv 3) (pv 1) set_list))) pss_nil)))))))))
        (pss_one (ps_set (i := 1) sc__law_put.nd rfl (by walk_at "lv") (pe_op op_add (pv 1) (pv 6)))))))))))))), ?_⟩
    try dsimp only [cxOf, L2.Cx.wish]
    have hrl := len_szl rs
    refine Ws_for (Wi_rng1 ?_)
    walk_at "wr"
    rw [dl_len]
    refine ⟨by omega, by omega, fun i g ρ => ∃ y4 y5 y6 y7 y8 y9 y10 y11 y12, ∃ D : List PyData, g = ((), .list (D ++ (nilL (Rw.szl (rs.drop i)) ++ post))) ∧ ρ = [En.da (.tuple (Rw.dl false rs)), En.da (.int (D.length : Nat)), En.da (.int (bh : Nat)), En.raw (.ref p), y4, y5, y6, y7, y8, y9, y10, y11, y12] ∧ D ++ (Rw.arl (rs.drop i) D.length bh).map .list = pre ++ (Rw.arl rs pre.length bh).map .list, ⟨_, _, _, _, _, _, _, _, _, pre, rfl, rfl, rfl⟩, ?_, ?_⟩
    · rintro i d g2 ρ2 hd ⟨y4, y5, y6, y7, y8, y9, y10, y11, y12, D, rfl, rfl, hD⟩
      rw [List.getElem?_map] at hd
      obtain ⟨j', hj, rfl⟩ := Option.map_eq_some_iff.mp hd
      have hij : j' = i ∧ i < rs.length := by
        obtain ⟨a, b⟩ := List.getElem?_eq_some_iff.mp hj
        rw [List.length_range] at a
        rw [List.getElem_range] at b
        exact ⟨b.symm, a⟩
      obtain ⟨rfl, hlt⟩ := hij
      have hr2 := List.getElem?_eq_getElem hlt
      generalize rs[j'] = r at hr2
      have hdr := dep_mem (List.mem_of_getElem? hr2)
      have hszi := szl_take_le rs (j' + 1)
      rw [take_get hr2, szl_snoc] at hszi
      refine Wx_name ⟨rfl, ?_⟩
      refine Ws_seq (Wx_set ?_)
      walk_at "wr"
      refine ⟨_, _, _, rfl, rfl, atI_nat (by rw [dl_map, List.getElem?_map, hr2]; rfl), rfl, ?_⟩
      refine Ws_seq (Wx_set ?_)
      walk_at "wr"
      refine ⟨false, true, [r], rfl, by rw [dep_one]; omega, rfl, ?_⟩
      rw [sz_one]
      generalize hF : (if (rs.drop (j' + 1)).isEmpty then bh else D.length + r.sz) = f
      refine Ws_seq (Wx_set (We.mono (k := fun d g' => d = .int (f : Nat) ∧ g' = ((), .list (D ++ (nilL (Rw.szl (rs.drop j')) ++ post)))) ?_ ?_))
      · walk_at "wr"
        rw [dl_len]
        have hie : (rs.drop (j' + 1)).isEmpty = !decide ((j' : Int) + 1 < (rs.length : Nat)) := by
          rw [Bool.eq_iff_iff, List.isEmpty_iff, Bool.not_eq_true', decide_eq_false_iff_not, ← List.length_eq_zero_iff, List.length_drop]
          omega
        rw [hie] at hF
        refine ⟨fun h => ?_, fun h => ?_⟩
        · rw [h] at hF
          walk_at "wr"
          rw [← hF]
          exact ⟨rfl, rfl⟩
        · rw [h] at hF
          walk_at "wr"
          rw [← hF]
          exact ⟨rfl, rfl⟩
      rintro _ _ ⟨rfl, rfl⟩
      refine ⟨rfl, ?_⟩
      refine Ws_seq (Wx_set (We_call0 Ln.pure (Wa_cons (We_var rfl (Wa_nil ⟨false, r, rfl, rfl, ?_⟩)))))
      refine Ws_seq (Wx_set ?_)
      walk_at "wr"
      refine Ws_seq (Wx_new (Wn_lst ?_))
      walk_at "wr"
      generalize hR : nilL (Rw.szl (rs.drop (j' + 1))) ++ post = R
      have eR : D ++ (nilL (Rw.szl (rs.drop j')) ++ post) = D ++ (.list [] :: (([] : List PyData) ++ (nilL ((r.bl.drop 0).map Rw.szl).sum ++ R))) := by
        rw [drop_get hr2, Rw.szl, sz_bl, ← hR, nilL_split, nilL_split, List.drop_zero, List.nil_append, show nilL 1 = [.list []] from rfl]; simp only [List.append_assoc, List.singleton_append, List.cons_append, List.nil_append]
      rw [eR]
      generalize hL : leadA r D.length f = L
      have hbl2 := bl_len r
      refine Ws_seq (Ws_for (Wi_seq ?_))
      walk_at "wr"
      refine ⟨fun j g ρ => ∃ (y11 y12 : En) (B : List PyData) (hs : List Nat), g = ((), .list (D ++ (.list [] :: (B ++ (nilL ((r.bl.drop j).map Rw.szl).sum ++ R))))) ∧ ρ = [En.da (.tuple (Rw.dl false rs)), En.da (.int (D.length : Nat)), En.da (.int (bh : Nat)), En.raw (.ref p), En.da (.int (j' : Nat)), En.da (Rw.d false r), En.da (.int (r.sz : Nat)), En.da (.int (f : Nat)), En.da (.list (blD false r)), En.da (.int ((D.length + 1 + B.length : Nat) : Int)), En.own (.list (hs.map fun i => .int (i : Nat))), y11, y12] ∧ hs.length = j ∧ hs ++ hdsA (r.bl.drop j) (D.length + 1 + B.length) L = hdsA r.bl (D.length + 1) L ∧ B ++ (arbA (r.bl.drop j) (D.length + 1 + B.length) L).map .list = (arbA r.bl (D.length + 1) L).map .list, ⟨y11, y12, [], [], rfl, rfl, rfl, rfl, rfl⟩, ?_, ?_⟩
      · rintro j d g2 ρ2 hd ⟨y11, y12, B, hs, rfl, rfl, hsl, hhs, hB⟩
        obtain ⟨b, hb, rfl⟩ := blD_get hd
        have hb2 := List.mem_of_getElem? hb
        have hj2 := (List.getElem?_eq_some_iff.mp hb).1
        have hdb := dep_bl hb2
        have hsb := sum_take (r.bl.map Rw.szl) (j + 1)
        rw [← List.map_take, take_get hb, List.map_append, List.sum_append, show (r.bl.map Rw.szl).sum = r.sz - 1 by rw [sz_bl]; omega] at hsb
        simp only [List.map_cons, List.map_nil, List.sum_cons, List.sum_nil] at hsb
        rw [drop_get hb] at hhs hB
        refine Wx_name ⟨rfl, ?_⟩
        refine Ws_seq (Wx_set (We.mono (k := fun d g' => d = .int (L : Nat) ∧ g' = ((), .list (D ++ (.list [] :: (B ++ (nilL ((r.bl.drop j).map Rw.szl).sum ++ R)))))) ?_ ?_))
        · obtain ⟨ds, e1, e2⟩ := rw_ix0 false r
          walk_at "wr"
          refine ⟨ds, _, _, e1, rfl, e2, ?_⟩
          walk_at "wr"
          have sw := shp_wd r
          walk_at "wr"
          rw [eqv_wd]
          unfold leadA at hL
          refine ⟨fun h => ?_, fun h => ?_⟩
          · rw [if_pos (of_decide_eq_true h)] at hL
            subst hL
            walk_at "wr"
            rfl
          · rw [if_neg (of_decide_eq_false h)] at hL
            subst hL
            walk_at "wr"
            rfl
        rintro _ _ ⟨rfl, rfl⟩
        refine ⟨rfl, ?_⟩
        refine Ws_seq (Ws_app rfl (We.mono (k := fun d g' => d = .int (hdA b (D.length + 1 + B.length) L : Nat) ∧ g' = ((), .list (D ++ (.list [] :: (B ++ (nilL ((r.bl.drop j).map Rw.szl).sum ++ R)))))) ?_ ?_))
        · have hlb : lenD (sq false (Rw.dl false b)) = some (Rw.dl false b).length := lenD_sq
          walk_at "wr"
          rw [dl_len]
          unfold hdA
          refine ⟨fun h => ?_, fun h => ?_⟩
          · have := of_decide_eq_true h
            rw [if_neg (by rw [List.isEmpty_iff_length_eq_zero]; omega)]
            walk_at "wr"
            rfl
          · have := of_decide_eq_false h; rw [if_pos (by rw [List.isEmpty_iff_length_eq_zero]; omega)]
            walk_at "wr"
            rfl
        rintro _ _ ⟨rfl, rfl⟩
        refine ⟨by rw [List.length_map]; omega, ?_⟩
        have eg : D ++ (.list [] :: (B ++ (nilL ((r.bl.drop j).map Rw.szl).sum ++ R))) = (D ++ (.list [] :: B)) ++ (nilL (Rw.szl b) ++ (nilL ((r.bl.drop (j + 1)).map Rw.szl).sum ++ R)) := by
          rw [drop_get hb, List.map_cons, List.sum_cons, nilL_split]; simp only [List.append_assoc, List.cons_append]
        have el : (D ++ (PyData.list [] :: B)).length = D.length + 1 + B.length := by rw [List.length_append, List.length_cons]; omega
        refine Ws_seq (Ws_drop (We_callY0 p Ln.id (Wa_cons (We_var rfl (Wa_cons (We_var rfl (Wa_cons (We_var rfl (Wa_raw rfl (Wa_nil ?_)))))))))) 
        refine ⟨b, L, D ++ (.list [] :: B), nilL ((r.bl.drop (j + 1)).map Rw.szl).sum ++ R, by rw [el]; rfl, by rw [eg], by omega, by omega, ?_⟩
        rw [el]
        refine Wx_set ?_
        walk_at "wr"
        refine ⟨false, false, b, rfl, by omega, _, _, rfl, rfl, rfl, ?_⟩
        refine ⟨En.da (sq false (Rw.dl false b)), En.da (.int (L : Nat)), B ++ (Rw.arl b (D.length + 1 + B.length) L).map .list, hs ++ [hdA b (D.length + 1 + B.length) L], ?_, ?_, ?_, ?_, ?_⟩
        · simp only [List.append_assoc, List.cons_append]
        · rw [List.length_append, List.length_map, arwl_len, List.map_append, ← Nat.add_assoc]; rfl
        · rw [List.length_append, hsl]; rfl
        · rw [← hhs, List.append_assoc, List.length_append, List.length_map, arwl_len, ← Nat.add_assoc]; rfl
        · rw [← hB, List.length_append, List.length_map, arwl_len, ← Nat.add_assoc, arbA, List.map_append, List.append_assoc]
      · rintro g2 ρ2 ⟨y11, y12, B, hs, rfl, rfl, hsl, hhs, hB⟩
        rw [show (blD false r).length = r.bl.length by rw [blD, List.length_map]] at hsl hhs hB ⊢
        rw [drop_all, show hdsA [] (D.length + 1 + B.length) L = [] from rfl, List.append_nil] at hhs
        rw [drop_all, show (arbA [] (D.length + 1 + B.length) L).map PyData.list = [] from rfl, List.append_nil] at hB
        rw [drop_all, show nilL ((([] : List (List Rw)).map Rw.szl).sum) = [] from rfl, List.nil_append]
        refine Ws_freeze (i := 10) rfl ?_
        refine Ws_seq (Ws_cut (G := ((), .list (D ++ (.list (arAt r hs f) :: (B ++ R))))) (R := [En.da (.tuple (Rw.dl false rs)), En.da (.int (D.length : Nat)), En.da (.int (bh : Nat)), En.raw (.ref p), En.da (.int (j' : Nat)), En.da (Rw.d false r), En.da (.int (r.sz : Nat)), En.da (.int (f : Nat)), En.da (.list (blD false r)), En.da (.int ((D.length + 1 + B.length : Nat) : Int)), En.da (.list (hs.map fun i => .int (i : Nat))), y11, y12]) ?_ ?_)
        · have put : ∀ (ls : List PyData), ls = arAt r hs f → Wg ⟨K, CB K p, E, x⟩ (gSub (tVar 3) (tVar 1) rSetL) (.list ls) ((), .list (D ++ (.list [] :: (B ++ R)))) [En.da (.tuple (Rw.dl false rs)), En.da (.int (D.length : Nat)), En.da (.int (bh : Nat)), En.raw (.ref p), En.da (.int (j' : Nat)), En.da (Rw.d false r), En.da (.int (r.sz : Nat)), En.da (.int (f : Nat)), En.da (.list (blD false r)), En.da (.int ((D.length + 1 + B.length : Nat) : Int)), En.da (.list (hs.map fun i => .int (i : Nat))), y11, y12] fun g1 ρ1 => g1 = ((), .list (D ++ (.list (arAt r hs f) :: (B ++ R)))) ∧ ρ1 = [En.da (.tuple (Rw.dl false rs)), En.da (.int (D.length : Nat)), En.da (.int (bh : Nat)), En.raw (.ref p), En.da (.int (j' : Nat)), En.da (Rw.d false r), En.da (.int (r.sz : Nat)), En.da (.int (f : Nat)), En.da (.list (blD false r)), En.da (.int ((D.length + 1 + B.length : Nat) : Int)), En.da (.list (hs.map fun i => .int (i : Nat))), y11, y12] := fun ls e => by
            subst e
            refine Wg_putB Bx.box rfl (We_var rfl ⟨_, D.length, rfl, rfl, by rw [List.length_append, List.length_cons]; omega, ?_, rfl⟩)
            rw [set_mid]
          cases r with
          | ite v t b c =>
            match hs, hsl with
            | [h0, h1], _ =>
              walk_at "wq"
              refine Ws_asg (We_lst ?_)
              walk_at "wr"
              exact put _ rfl
          | eith b c =>
            match hs, hsl with
            | [h0, h1], _ =>
              walk_at "wq"
              refine Ws_asg (We_lst ?_)
              walk_at "wr"
              exact put _ rfl
          | whil v t b =>
            match hs, hsl with
            | [h0], _ =>
              walk_at "wq"
              refine Ws_asg (We_lst ?_)
              walk_at "wr"
              exact put _ rfl
          | need v t =>
            walk_at "wq"
            refine Ws_asg (We_lst ?_)
            walk_at "wr"
            exact put _ rfl
          | deed v l =>
            walk_at "wq"
            refine Ws_asg (We_lst ?_)
            walk_at "wr"
            exact put _ rfl
          | copy v l =>
            walk_at "wq"
            refine Ws_asg (We_lst ?_)
            walk_at "wr"
            exact put _ rfl
          | call v l a =>
            walk_at "wq"
            refine Ws_asg (We_lst ?_)
            walk_at "wr"
            exact put _ rfl
          | stop =>
            walk_at "wq"
            rfl
        · have har : r.ar D.length f = arAt r hs f :: arbA r.bl (D.length + 1) L := by rw [ar_eq, hL, hhs]
          have hal := arw_len r D.length f
          rw [har, List.length_cons] at hal
          have hBl : B.length = (arbA r.bl (D.length + 1) L).length := by rw [hB, List.length_map]
          have hDl : (D ++ (PyData.list (arAt r hs f) :: B)).length = D.length + r.sz := by rw [List.length_append, List.length_cons]; omega
          refine Wx_set ?_
          walk_at "wr"
          refine ⟨En.da (.int (j' : Nat)), En.da (Rw.d false r), En.da (.int (r.sz : Nat)), En.da (.int (f : Nat)), En.da (.list (blD false r)), En.da (.int ((D.length + 1 + B.length : Nat) : Int)), En.da (.list (hs.map fun i => .int (i : Nat))), y11, y12, D ++ (.list (arAt r hs f) :: B), ?_, ?_, ?_⟩
          · simp only [List.append_assoc, List.cons_append]
          · rw [hDl]; rfl
          · rw [hDl, ← hD, drop_get hr2, Rw.arl, hF, har, hB, List.map_append, List.map_cons]; simp only [List.append_assoc, List.cons_append]
    · rintro g2 ρ2 ⟨y4, y5, y6, y7, y8, y9, y10, y11, y12, D, rfl, rfl, hD⟩
      rw [List.length_map, List.length_range, show ((rs.length : Nat) : Int).toNat = rs.length from rfl, drop_all] at hD
      rw [List.length_map, List.length_range, show ((rs.length : Nat) : Int).toNat = rs.length from rfl, drop_all]
      rw [show (Rw.arl [] D.length bh).map PyData.list = [] from rfl, List.append_nil] at hD
      rw [hD, List.append_assoc]
      exact hk
def lawArD (rs : List Rw) : PyData := .list ((Rw.arl rs 0 (Rw.szl rs)).map .list ++ [.list []])
def RLar (n : Nat) : List En → Unit → KD Unit → KX Unit → Prop := fun es _ k _ => ∃ (rs : List Rw), es = [En.da (.tuple (Rw.dl false rs))] ∧ Rw.depl rs < n ∧ Rw.szl rs ≤ 50000 ∧ k (lawArD rs) ()
abbrev s__law_arrows : Stmt := top 55
abbrev N__law_arrows : List Str := ["_law_rows", "_law_many", "_law_out", "_law_k"]
abbrev P__law_arrows : List Str := ["_law_rows"]
theorem sc__law_arrows : FnScope N__law_arrows P__law_arrows (defScope s__law_arrows) := ⟨rfl, rfl, rfl, by decide +kernel, rfl, by decide +kernel, by decide +kernel⟩
-- slots: 0 _law_rows, 1 _law_many, 2 _law_out, 3 _law_k
theorem kp__law_arrows (n : Nat) (F : At K mg "_law_arrows" s__law_arrows) (N : Nb mg) (G__law_size : Keeps CX0 P w K mg base "_law_size" (n + 1) ["_law_rows"] (spX K Co.pure (RSz n))) (G__law_put : Keeps CX0 P w K mg base "_law_put" (n + 3) ["_law_rows", "_law_place", "_law_behind", "_law_out"] (spY K (CB K) (RPut n))) : Keeps CX0 P w K mg base "_law_arrows" (n + 4) ["_law_rows"] (spX K Co.pure (RLar n)) := by
  refine keeps_x F sc__law_arrows (fun _ _ _ _ _ _ us hl => match us, hl with | [_], _ => rfl) (fun es g k x h => ?_) (fun fa cdv A outer s H E es g k x hr h => ?_)
  · obtain ⟨_, rfl, _⟩ := h; rfl
  · obtain ⟨rs, rfl, hn, hz, hk⟩ := h
    refine ⟨_, (pss_cons (ps_set (i := 1) sc__law_arrows.nd rfl (by walk_at "lv") (pe_k (G__law_size.up (by omega)) hr (by rfl) pass0 (pa_cons (pv 0) pa_nil)))
        (pss_cons (ps_setLc (i := 2) (own := [("_law_k", 3)]) (g := gName 3) (tt := tYes) rfl sc__law_arrows.nd rfl rfl (sw_true rfl rfl rfl (by decide +kernel)) (pi_range1 (by rfl) N.range (pa_cons (pe_op op_add (pv 1) pe_int) pa_nil)) (blkOk_by (N := N__law_arrows) (sc := defScope s__law_arrows) (by decide +kernel)) (fun _ _ _ _ _ => (pg_name (i := 3) sc__law_arrows.nd rfl (by walk_at "lv"))) (fun _ _ _ _ _ => pts_nil) (fun _ _ _ _ _ => (pe_lst pa_nil)))
        (pss_cons (ps_expr (pe_k (G__law_put.up (by omega)) hr (by rfl) pass0 (pa_cons (pv 0) (pa_cons pe_int (pa_cons (pv 1) (pa_cons (pv 2) pa_nil))))))
        (pss_one (ps_ret (pv 2)))))), ?_⟩
    try dsimp only [cxOf, L2.Cx.wish]
    refine Ws_seq (Wx_set ?_)
    walk_at "wr"
    refine ⟨false, false, rs, rfl, hn, rfl, ?_⟩
    refine Ws_seq (Wx_new (Wn_map (GIn.name (by decide)) (Wi_rng1 ?_)))
    walk_at "wr"
    have e1 : ((Rw.szl rs : Nat) : Int) + 1 = ((Rw.szl rs + 1 : Nat) : Int) := rfl
    rw [e1]
    refine ⟨by omega, by omega, by rw [List.length_map, List.length_range]; omega, nilL (Rw.szl rs + 1), by rw [List.length_replicate, List.length_map, List.length_range]; rfl, fun j d e hd he => ?_, rfl, ?_⟩
    · have := List.mem_of_getElem? he
      rw [List.eq_of_mem_replicate this]
      refine Wx_name ⟨rfl, ?_⟩
      walk_at "wr"
      rfl
    · refine Ws_seq (Ws_lend (i := 2) rfl fun o => ?_)
      refine Ws_drop (We_callY0 o (Ln.box Ln.pure) (Wa_cons (We_var rfl (Wa_cons (We_int (Wa_cons (We_var rfl (Wa_raw rfl (Wa_nil ?_)))))))))
      refine ⟨rs, Rw.szl rs, [], [.list []], rfl, ?_, hn, by omega, rfl, ?_⟩
      · rw [nilL_split]; rfl
      · refine Ws_freeze (i := 2) rfl ?_
        walk_at "wq"
        exact hk
end
abbrev PB2 := PB × PyData
abbrev C2 (K : PySem.W.Frag) (pr : Addr × Addr) : Co PB2 := (CB K pr.1).box K pr.2
abbrev gG (q : Int) (rm : Nat) : PB2 := (((), .list [.int q]), .list [.int ((rm : Nat) : Int)])
def szD (s : Str × Int) : PyData := .tuple [.str s.1, .int s.2]
/-- what a drawn block is made of -/
structure BkOk (m : Int) (tb : List (Key × PyData)) (ds : List Int) (szs : List (Str × Int)) (Ls : List Lt) (Tss : List Ts) : Prop where
  m0 : 0 < m
  d0 : ds ≠ []
  dg : Dg ds
  s0 : szs ≠ []
  sz : ∀ s ∈ szs, nmB s.1 = true ∧ (1 ≤ s.2 ∧ s.2 ≤ 40) ∧ lkM tb (.inr s.1) = some (.int s.2)
  l0 : Ls ≠ []
  lt : ∀ L ∈ Ls, L.Ok
  ts : ∀ T ∈ Tss, T.Ok
theorem at_mod {α : Type} {f : α → PyData} {xs : List α} (h : xs ≠ []) (i : Int) : 0 < (xs.length : Int) ∧ ∃ a, a ∈ xs ∧ atI (xs.map f) (i % (xs.length : Int)) = some (f a) := by
  have hl : 0 < (xs.length : Int) := by have := List.length_pos_iff.mpr h; omega
  have h0 : 0 ≤ i % (xs.length : Int) := Int.emod_nonneg i (Int.ne_of_gt hl)
  obtain ⟨v, e1, e2⟩ := atI_of (xs := xs.map f) h0 (by rw [List.length_map]; exact Int.emod_lt_of_pos i hl)
  rw [List.getElem?_map] at e1
  obtain ⟨a, ha, rfl⟩ := Option.map_eq_some_iff.mp e1
  exact ⟨hl, a, List.mem_of_getElem? ha, e2⟩
theorem okl_snoc {m : Int} {tb : List (Key × PyData)} {rs : List Rw} {r : Rw} (h : Rw.okl m tb rs) (hr : r.ok m tb) : Rw.okl m tb (rs ++ [r]) := okl_of fun x hx => (List.mem_append.mp hx).elim (fun z => okl_mem h z) fun z => by rw [List.mem_singleton.mp z]; exact hr
theorem depl_snoc {rs : List Rw} {r : Rw} {d : Nat} (h : Rw.depl rs ≤ d) (hr : r.dep ≤ d) : Rw.depl (rs ++ [r]) ≤ d := by
  induction rs with
  | nil => rw [List.nil_append, dep_one]; exact hr
  | cons a l ih =>
    rw [Rw.depl] at h
    rw [List.cons_append, Rw.depl]
    have := ih (by omega)
    omega
section
variable {P : Program} {w : World} {K : PySem.W.Frag} {mg : Str → Option Value} {base : Heap}
def RLb (n : Nat) (pr : Addr × Addr) : List En → PB2 → KD PB2 → KX PB2 → Prop := fun es g k _ => ∃ (ds : List Int) (q : Int) (rm d : Nat) (m : Int) (szs : List (Str × Int)) (Ls : List Lt) (Tss : List Ts) (tb : List (Key × PyData)), es = [En.da (.list (ds.map .int)), En.raw (.ref pr.1), En.raw (.ref pr.2), En.da (.int (d : Nat)), En.da (.int m), En.da (.list (szs.map szD)), En.da (.list (Ls.map Lt.d)), En.da (.list (Tss.map Ts.d))] ∧ g = gG q rm ∧ BkOk m tb ds szs Ls Tss ∧ d < n ∧ rm ≤ 1000 ∧
  ∀ (rs : List Rw) (rm' : Nat) (q' : Int), Rw.szl rs + rm' ≤ rm → Rw.okl m tb rs → Rw.depl rs ≤ d → k (.list (Rw.dl true rs)) (gG q' rm')
abbrev s__law_block : Stmt := top 62
abbrev N__law_block : List Str := ["_law_ds", "_law_pos", "_law_room", "_law_deep", "_law_mine", "_law_sizes", "_law_letters", "_law_tests", "_law_rows", "_law_k", "_law_kind", "_law_v", "_law_pick", "_law_test_here", "_law_block_here", "_law_callee", "_law_args", "_law_j"]
abbrev P__law_block : List Str := ["_law_ds", "_law_pos", "_law_room", "_law_deep", "_law_mine", "_law_sizes", "_law_letters", "_law_tests"]
theorem sc__law_block : FnScope N__law_block P__law_block (defScope s__law_block) := ⟨rfl, rfl, rfl, by decide +kernel, rfl, by decide +kernel, by decide +kernel⟩
-- slots: 0 _law_ds, 1 _law_pos, 2 _law_room, 3 _law_deep, 4 _law_mine, 5 _law_sizes, 6 _law_letters, 7 _law_tests, 8 _law_rows, 9 _law_k, 10 _law_kind, 11 _law_v, 12 _law_pick, 13 _law_test_here, 14 _law_block_here, 15 _law_callee, 16 _law_args, 17 _law_j
theorem kp__law_block (F : At K mg "_law_block" s__law_block) (N : Nb mg) (G__law_next : Keeps CX0 P w K mg base "_law_next" 1 ["_law_ds", "_law_pos"] (spY K (CB K) RNext)) : ∀ n, Keeps CX0 P w K mg base "_law_block" (n + 2) ["_law_ds", "_law_pos", "_law_room", "_law_deep", "_law_mine", "_law_sizes", "_law_letters", "_law_tests"] (spY K (C2 K) (RLb n)) := by
  intro n
  induction n with
  | zero => exact keeps_y F sc__law_block (fun _ _ _ _ _ _ us hl => match us, hl with | [_, _, _, _, _, _, _, _], _ => rfl) (fun i es g k x h => by obtain ⟨_, _, _, _, _, _, _, _, _, rfl, _⟩ := h; rfl) (fun fa cdv A outer s H E i es g k x hr h => by obtain ⟨_, _, _, _, _, _, _, _, _, _, _, _, z, _⟩ := h; exact absurd z (Nat.not_lt_zero _))
  | succ n ih =>
    refine keeps_y F sc__law_block (fun _ _ _ _ _ _ us hl => match us, hl with | [_, _, _, _, _, _, _, _], _ => rfl) (fun i es g k x h => by obtain ⟨_, _, _, _, _, _, _, _, _, rfl, _⟩ := h; rfl) (fun fa cdv A outer s H E pr es g k x hr h => ?_)
    obtain ⟨p, r⟩ := pr
    obtain ⟨ds, q, rm, d, m, szs, Ls, Tss, tb, rfl, rfl, hb, hd, hrm, hk⟩ := h
    refine ⟨_, (pss_cons (ps_set (i := 8) sc__law_block.nd rfl (by walk_at "lv") (pe_lst pa_nil))
        (pss_cons (ps_for PassesOwn.never rfl (pi_range1 (by rfl) N.range (pa_cons (pe_op op_add pe_int (pe_op op_mod (pe_k (G__law_next.up (by omega)) hr (by rfl) pass0 (pa_cons (pv 0) (pa_cons (pv 1) pa_nil))) pe_int)) pa_nil)) (pg_name (i := 9) sc__law_block.nd rfl (by walk_at "lv")) (pss_cons (ps_if (pt_cmpR op_le (pe_ix ix_any (pv 2) pe_int (fun _ _ => rfl)) pe_int (nomark _)) (pss_one ps_break) pss_nil)
        (pss_cons (ps_asg (pe_op op_sub (pe_ix ix_any (pv 2) pe_int (fun _ _ => rfl)) pe_int) (pg_sub (pv 2) pe_int set_list))
        (pss_cons (ps_set (i := 10) sc__law_block.nd rfl (by walk_at "lv") (pe_op op_mod (pe_k (G__law_next.up (by omega)) hr (by rfl) pass0 (pa_cons (pv 0) (pa_cons (pv 1) pa_nil))) pe_int))
        (pss_cons (ps_set (i := 11) sc__law_block.nd rfl (by walk_at "lv") (pe_op op_mod (pe_k (G__law_next.up (by omega)) hr (by rfl) pass0 (pa_cons (pv 0) (pa_cons (pv 1) pa_nil))) (pv 4)))
        (pss_cons (ps_set (i := 12) sc__law_block.nd rfl (by walk_at "lv") (pe_k (G__law_next.up (by omega)) hr (by rfl) pass0 (pa_cons (pv 0) (pa_cons (pv 1) pa_nil))))
        (pss_cons (ps_set (i := 13) sc__law_block.nd rfl (by walk_at "lv") (pe_ifExp (pt_truth (pv 7) (by intro _; rfl)) (pe_ix ix_any (pv 7) (pe_op op_mod (pe_callTy call_int1 (by rfl) N.int (by decide +kernel) (pa_cons (pv 12) pa_nil)) (pe_callB call_len (by rfl) N.len (by decide +kernel) (pa_cons (pv 7) pa_nil))) (fun _ _ => rfl)) pe_non))
        (pss_one (ps_if (PW.pt (pw_and (pt_cmpR (op_inT (Room.u65 hr)) (pv 10) (pe_tup (pa_cons pe_int (pa_cons pe_int (pa_cons pe_int (pa_cons pe_int (pa_cons pe_int pa_nil)))))) (by rfl)) (pw_and1 (pt_cmpR op_gt (pv 3) pe_int (nomark _))))) (pss_cons (ps_set (i := 14) sc__law_block.nd rfl (by walk_at "lv") (pe_k (ih.up (by omega)) hr (by rfl) pass0 (pa_cons (pv 0) (pa_cons (pv 1) (pa_cons (pv 2) (pa_cons (pe_op op_sub (pv 3) pe_int) (pa_cons (pv 4) (pa_cons (pv 5) (pa_cons (pv 6) (pa_cons (pv 7) pa_nil))))))))))
        (pss_one (ps_if (PW.pt (pw_or (pt_cmpR (op_eqD hr.units) (pv 10) pe_int (nomark _)) (pw_or1 (pt_cmpR op_isN (pv 13) pe_non (nomark _))))) (pss_one (ps_expr (pe_bm PySem.F.plainAttrs_list PySem.F.slot_list_append PySem.F.type_list_append mt_append (pv 8) (pa_cons (pe_tup (pa_cons pe_str (pa_cons (pv 14) (pa_cons (pe_ifExp (pt_truth (pe_op op_mod (pe_op op_fdiv (pe_callTy call_int1 (by rfl) N.int (by decide +kernel) (pa_cons (pv 12) pa_nil)) pe_int) pe_int) (by intro _; rfl)) (pe_k (ih.up (by omega)) hr (by rfl) pass0 (pa_cons (pv 0) (pa_cons (pv 1) (pa_cons (pv 2) (pa_cons (pe_op op_sub (pv 3) pe_int) (pa_cons (pv 4) (pa_cons (pv 5) (pa_cons (pv 6) (pa_cons (pv 7) pa_nil))))))))) (pe_lst pa_nil)) pa_nil)))) pa_nil)))) (pss_one (ps_if (pt_cmpR op_lt (pv 10) pe_int (nomark _)) (pss_one (ps_expr (pe_bm PySem.F.plainAttrs_list PySem.F.slot_list_append PySem.F.type_list_append mt_append (pv 8) (pa_cons (pe_tup (pa_cons pe_str (pa_cons (pv 11) (pa_cons (pv 13) (pa_cons (pv 14) (pa_cons (pe_ifExp (pt_truth (pe_op op_mod (pe_op op_fdiv (pe_callTy call_int1 (by rfl) N.int (by decide +kernel) (pa_cons (pv 12) pa_nil)) pe_int) pe_int) (by intro _; rfl)) (pe_k (ih.up (by omega)) hr (by rfl) pass0 (pa_cons (pv 0) (pa_cons (pv 1) (pa_cons (pv 2) (pa_cons (pe_op op_sub (pv 3) pe_int) (pa_cons (pv 4) (pa_cons (pv 5) (pa_cons (pv 6) (pa_cons (pv 7) pa_nil))))))))) (pe_lst pa_nil)) pa_nil)))))) pa_nil)))) (pss_one (ps_expr (pe_bm PySem.F.plainAttrs_list PySem.F.slot_list_append PySem.F.type_list_append mt_append (pv 8) (pa_cons (pe_tup (pa_cons pe_str (pa_cons (pv 11) (pa_cons (pv 13) (pa_cons (pe_ifExp (pt_truth (pe_op op_mod (pe_op op_fdiv (pe_callTy call_int1 (by rfl) N.int (by decide +kernel) (pa_cons (pv 12) pa_nil)) pe_int) pe_int) (by intro _; rfl)) (pv 14) (pe_lst pa_nil)) pa_nil))))) pa_nil))))))))) (pss_one (ps_if (PW.pt (pw_and (pt_cmpR (op_eqD hr.units) (pv 10) pe_int (nomark _)) (pw_and1 (pt_cmpR op_notN (pv 13) pe_non (nomark _))))) (pss_one (ps_expr (pe_bm PySem.F.plainAttrs_list PySem.F.slot_list_append PySem.F.type_list_append mt_append (pv 8) (pa_cons (pe_tup (pa_cons pe_str (pa_cons (pv 11) (pa_cons (pv 13) pa_nil)))) pa_nil)))) (pss_one (ps_if (pt_cmpR (op_eqD hr.units) (pv 10) pe_int (nomark _)) (pss_one (ps_expr (pe_bm PySem.F.plainAttrs_list PySem.F.slot_list_append PySem.F.type_list_append mt_append (pv 8) (pa_cons (pe_tup (pa_cons pe_str (pa_cons (pv 11) (pa_cons (pe_op op_mod (pe_callTy call_int1 (by rfl) N.int (by decide +kernel) (pa_cons (pv 12) pa_nil)) (pv 4)) pa_nil)))) pa_nil)))) (pss_one (ps_if (pt_cmpR (op_inT (Room.u65 hr)) (pv 10) (pe_tup (pa_cons pe_int (pa_cons pe_int (pa_cons pe_int pa_nil)))) (by rfl)) (pss_cons (ps_set (i := 15) sc__law_block.nd rfl (by walk_at "lv") (pe_ix ix_any (pv 5) (pe_op op_mod (pe_callTy call_int1 (by rfl) N.int (by decide +kernel) (pa_cons (pv 12) pa_nil)) (pe_callB call_len (by rfl) N.len (by decide +kernel) (pa_cons (pv 5) pa_nil))) (fun _ _ => rfl)))
        (pss_cons (ps_setLc (i := 16) (own := [("_law_j", 17)]) (g := gName 17) (tt := tYes) rfl sc__law_block.nd rfl rfl (sw_true rfl rfl rfl (by decide +kernel)) (pi_range1 (by rfl) N.range (pa_cons (pe_op op_mod (pe_op op_fdiv (pe_callTy call_int1 (by rfl) N.int (by decide +kernel) (pa_cons (pv 12) pa_nil)) pe_int) (pe_op op_add (pe_ix ix_any (pv 15) pe_int (fun _ _ => rfl)) pe_int)) pa_nil)) (blkOk_by (N := N__law_block) (sc := defScope s__law_block) (by decide +kernel)) (fun _ _ _ _ _ => (pg_name (i := 17) sc__law_block.nd rfl (by walk_at "lv"))) (fun _ _ _ _ _ => pts_nil) (fun _ _ _ _ _ => (pe_op op_mod (pe_op op_fdiv (pe_callTy call_int1 (by rfl) N.int (by decide +kernel) (pa_cons (pv 12) pa_nil)) (pe_op op_add pe_int (pe_op op_mul pe_int (pv 17)))) (pv 4))))
        (pss_one (ps_expr (pe_bm PySem.F.plainAttrs_list PySem.F.slot_list_append PySem.F.type_list_append mt_append (pv 8) (pa_cons (pe_tup (pa_cons pe_str (pa_cons (pe_ix ix_any (pv 15) pe_int (fun _ _ => rfl)) (pa_cons (pv 16) (pa_cons (pv 11) pa_nil))))) pa_nil)))))) (pss_one (ps_if (PW.pt (pw_and (pt_cmpR (op_eqD hr.units) (pv 10) pe_int (nomark _)) (pw_and1 (pt_cmpR (op_eqD hr.units) (pe_op op_mod (pe_callTy call_int1 (by rfl) N.int (by decide +kernel) (pa_cons (pv 12) pa_nil)) pe_int) pe_int (nomark _))))) (pss_one (ps_expr (pe_bm PySem.F.plainAttrs_list PySem.F.slot_list_append PySem.F.type_list_append mt_append (pv 8) (pa_cons (pe_tup (pa_cons pe_str pa_nil)) pa_nil)))) (pss_one (ps_expr (pe_bm PySem.F.plainAttrs_list PySem.F.slot_list_append PySem.F.type_list_append mt_append (pv 8) (pa_cons (pe_tup (pa_cons pe_str (pa_cons (pv 11) (pa_cons (pe_ix ix_any (pv 6) (pe_op op_mod (pe_callTy call_int1 (by rfl) N.int (by decide +kernel) (pa_cons (pv 12) pa_nil)) (pe_callB call_len (by rfl) N.len (by decide +kernel) (pa_cons (pv 6) pa_nil))) (fun _ _ => rfl)) pa_nil)))) pa_nil)))))))))))))))))))))
        (pss_one (ps_ret (pv 8))))), ?_⟩
    try dsimp only [cxOf, L2.Cx.wish]
    have hm0 := hb.m0
    refine Ws_seq (Wx_new (Wn_lst ?_))
    walk_at "wi"
    refine Ws_seq (Ws_for (Wi_rng1 ?_))
    walk_at "wi"
    refine We_callY0 p Ln.fst (Wa_cons (We_var rfl (Wa_raw rfl (Wa_nil ⟨ds, q, rfl, rfl, hb.d0, hb.dg, fun x0 q0 hx0 hx1 => ?_⟩))))
    walk_at "wi"
    have hw0 : 0 ≤ x0 % 4 := Int.emod_nonneg _ (by decide)
    have hw1 : x0 % 4 < 4 := Int.emod_lt_of_pos _ (by decide)
    generalize hwd : 1 + x0 % 4 = wd
    have jfin : ∀ (g1 : PB2) (ρ1 : List En), (∃ (y9 y10 y11 y12 y13 y14 y15 y16 y17 : En) (rs : List Rw) (q : Int) (rm' : Nat), g1 = gG q rm' ∧ ρ1 = [En.da (.list (ds.map .int)), En.raw (.ref p), En.raw (.ref r), En.da (.int (d : Nat)), En.da (.int m), En.da (.list (szs.map szD)), En.da (.list (Ls.map Lt.d)), En.da (.list (Tss.map Ts.d)), En.own (.list (Rw.dl true rs)), y9, y10, y11, y12, y13, y14, y15, y16, y17] ∧ Rw.szl rs + rm' ≤ rm ∧ Rw.okl m tb rs ∧ Rw.depl rs ≤ d) → Ws ⟨K, C2 K (p, r), E, x⟩ (tRet (tVar 8)) g1 ρ1 ⟨fun g' _ => k .none g', k, fun _ _ => False, fun _ _ => False⟩ := by
      rintro g1 ρ1 ⟨y9, y10, y11, y12, y13, y14, y15, y16, y17, rs, q, rm', rfl, rfl, h1, h2, h3⟩
      refine Ws_freeze (i := 8) rfl ?_
      walk_at "wj"
      exact hk rs rm' q h1 h2 h3
    refine ⟨by omega, by omega, fun i g1 ρ1 => ∃ (y9 y10 y11 y12 y13 y14 y15 y16 y17 : En) (rs : List Rw) (q : Int) (rm' : Nat), g1 = gG q rm' ∧ ρ1 = [En.da (.list (ds.map .int)), En.raw (.ref p), En.raw (.ref r), En.da (.int (d : Nat)), En.da (.int m), En.da (.list (szs.map szD)), En.da (.list (Ls.map Lt.d)), En.da (.list (Tss.map Ts.d)), En.own (.list (Rw.dl true rs)), y9, y10, y11, y12, y13, y14, y15, y16, y17] ∧ Rw.szl rs + rm' ≤ rm ∧ Rw.okl m tb rs ∧ Rw.depl rs ≤ d, ⟨_, _, _, _, _, _, _, _, _, [], q0, rm, rfl, rfl, by simp [Rw.szl], trivial, Nat.zero_le _⟩, ?_, fun g2 ρ2 h => jfin g2 ρ2 h⟩
    rintro i dd g2 ρ2 hdd ⟨y9, y10, y11, y12, y13, y14, y15, y16, y17, rs, q, rm', rfl, rfl, h1, h2, h3⟩
    refine Wx_name ⟨rfl, ?_⟩
    refine Ws_seq (Ws_if ?_)
    walk_at "wi"
    refine ⟨fun h => ?_, fun h => ?_⟩
    · refine Ws_break ?_
      exact jfin _ _ ⟨_, _, _, _, _, _, _, _, _, rs, q, rm', rfl, rfl, h1, h2, h3⟩
    refine Ws_next ?_
    have hrm0 : 0 < rm' := by have := of_decide_eq_false h; omega
    obtain ⟨rm2, rfl⟩ : ∃ rm2, rm' = rm2 + 1 := ⟨rm' - 1, by omega⟩
    refine Ws_seq (Ws_asg ?_)
    walk_at "wi"
    refine Wg_putB Bx.box rfl (We_int ⟨_, 0, rfl, rfl, Nat.zero_lt_one, ?_⟩)
    rw [show (((rm2 + 1 : Nat) : Int) - 1) = (rm2 : Nat) by omega]
    show Ws _ _ (gG q rm2) _ _
    refine Ws_seq (Wx_set ?_)
    walk_at "wi"
    refine We_callY0 p Ln.fst (Wa_cons (We_var rfl (Wa_raw rfl (Wa_nil ⟨ds, q, rfl, rfl, hb.d0, hb.dg, fun x1 q1 hx10 hx11 => ?_⟩))))
    walk_at "wi"
    show Ws _ _ (gG q1 rm2) _ _
    generalize x1 % 16 = kd
    refine Ws_seq (Wx_set ?_)
    walk_at "wi"
    refine We_callY0 p Ln.fst (Wa_cons (We_var rfl (Wa_raw rfl (Wa_nil ⟨ds, q1, rfl, rfl, hb.d0, hb.dg, fun x2 q2 hx20 hx21 => ?_⟩))))
    walk_at "wi"
    show Ws _ _ (gG q2 rm2) _ _
    have hv : 0 ≤ x2 % m ∧ x2 % m < m := ⟨Int.emod_nonneg _ (Int.ne_of_gt hm0), Int.emod_lt_of_pos _ hm0⟩
    generalize x2 % m = v at hv
    refine Ws_seq (Wx_set ?_)
    walk_at "wi"
    refine We_callY0 p Ln.fst (Wa_cons (We_var rfl (Wa_raw rfl (Wa_nil ⟨ds, q2, rfl, rfl, hb.d0, hb.dg, fun x3 q3 hx30 hx31 => ?_⟩))))
    refine ⟨rfl, ?_⟩
    show Ws _ _ (gG q3 rm2) _ _
    refine Ws_seq (Wx_set (We.mono (k := fun td g' => g' = gG q3 rm2 ∧ (td = .none ∨ ∃ T, T.Ok ∧ td = Ts.d T)) ?_ ?_))
    · walk_at "wi"
      refine ⟨fun h => ?_, fun h => ?_⟩
      · have hne : Tss ≠ [] := by rintro rfl; cases h
        obtain ⟨hl, T, hT, e⟩ := at_mod (f := Ts.d) hne x3
        walk_at "wi"
        rw [List.length_map]
        refine ⟨hl, ?_⟩
        exact ⟨_, _, _, rfl, rfl, e, rfl, .inr ⟨T, hb.ts T hT, rfl⟩⟩
      · walk_at "wi"
        exact .inl rfl
    rintro td _ ⟨rfl, htd⟩
    refine ⟨rfl, ?_⟩
    have hlen : (Rw.dl true rs).length ≤ 60000 := by rw [dl_len]; have := len_szl rs; omega
    have add : ∀ (rw : Rw) (q' : Int) (rmx : Nat) (z9 z10 z11 z12 z13 z14 z15 z16 z17 : En), rw.ok m tb → rw.dep ≤ d → rw.sz + rmx ≤ rm2 + 1 → ∃ (y9 y10 y11 y12 y13 y14 y15 y16 y17 : En) (rs' : List Rw) (q'' : Int) (rm'' : Nat), gG q' rmx = gG q'' rm'' ∧ [En.da (.list (ds.map .int)), En.raw (.ref p), En.raw (.ref r), En.da (.int (d : Nat)), En.da (.int m), En.da (.list (szs.map szD)), En.da (.list (Ls.map Lt.d)), En.da (.list (Tss.map Ts.d)), En.own (.list (Rw.dl true rs ++ [Rw.d true rw])), z9, z10, z11, z12, z13, z14, z15, z16, z17] = [En.da (.list (ds.map .int)), En.raw (.ref p), En.raw (.ref r), En.da (.int (d : Nat)), En.da (.int m), En.da (.list (szs.map szD)), En.da (.list (Ls.map Lt.d)), En.da (.list (Tss.map Ts.d)), En.own (.list (Rw.dl true rs')), y9, y10, y11, y12, y13, y14, y15, y16, y17] ∧ Rw.szl rs' + rm'' ≤ rm ∧ Rw.okl m tb rs' ∧ Rw.depl rs' ≤ d := fun rw q' rmx z9 z10 z11 z12 z13 z14 z15 z16 z17 a1 a2 a3 => ⟨z9, z10, z11, z12, z13, z14, z15, z16, z17, rs ++ [rw], q', rmx, rfl, by rw [dl_app]; rfl, by rw [szl_snoc]; omega, okl_snoc h2 a1, depl_snoc h3 a2⟩
    refine Ws_if (Wt.mono (kb := fun b g' => g' = gG q3 rm2 ∧ (b = true → 0 < d)) ?_ ?_)
    · walk_at "wi"
      refine ⟨fun hk1 => ?_, fun hk1 => ?_⟩
      · walk_at "wi"
        exact fun h => by have := of_decide_eq_true h; omega
      · exact ⟨rfl, fun h => nomatch h⟩
    rintro b0 _ ⟨rfl, hbd⟩
    refine ⟨fun hb1 => ?_, fun hb1 => ?_⟩
    · obtain ⟨d', rfl⟩ : ∃ d', d = d' + 1 := ⟨d - 1, by have := hbd hb1; omega⟩
      have ed : (((d' + 1 : Nat) : Int) - 1) = (d' : Nat) := by omega
      refine Ws_seq (Wx_set ?_)
      refine We_callY0 (p, r) Ln.id (Wa_cons (We_var rfl (Wa_raw rfl (Wa_raw rfl (Wa_cons ?_)))))
      walk_at "wi"
      rw [ed]
      refine ⟨ds, q3, rm2, d', m, szs, Ls, Tss, tb, rfl, rfl, hb, by omega, by omega, fun bs rm3 q4 hz1 hok1 hdp1 => ⟨rfl, ?_⟩⟩
      show Ws _ _ (gG q4 rm3) _ _
      refine Ws_if (Wt.mono (kb := fun b g' => g' = gG q4 rm3 ∧ (b = false → td ≠ .none)) ?_ ?_)
      · walk_at "wi"
        refine ⟨fun hk1 => ?_, fun hk1 => ?_⟩
        · walk_at "wi"
          intro h
          rintro rfl
          cases h
        · exact ⟨rfl, fun h => nomatch h⟩
      rintro b1 _ ⟨rfl, hbd1⟩
      refine ⟨fun hb2 => ?_, fun hb2 => ?_⟩
      · refine Ws_app rfl ?_
        walk_at "wi"
        refine ⟨fun hc => ?_, fun hc => ?_⟩
        · refine We_callY0 (p, r) Ln.id (Wa_cons (We_var rfl (Wa_raw rfl (Wa_raw rfl (Wa_cons ?_)))))
          walk_at "wi"
          rw [ed]
          refine ⟨ds, q4, rm3, d', m, szs, Ls, Tss, tb, rfl, rfl, hb, by omega, by omega, fun cs rm4 q5 hz2 hok2 hdp2 => ?_⟩
          walk_at "wi"
          refine add (.eith bs cs) _ _ _ _ _ _ _ _ _ _ _ (by rw [Rw.ok]; exact ⟨hok1, hok2⟩) ?_ ?_
          · simp only [Rw.dep]; omega
          · simp only [Rw.sz]; omega
        · walk_at "wi"
          refine add (.eith bs []) _ _ _ _ _ _ _ _ _ _ _ (by rw [Rw.ok]; exact ⟨hok1, trivial⟩) ?_ ?_
          · simp only [Rw.dep, Rw.depl]; omega
          · simp only [Rw.sz, Rw.szl]; omega
      obtain ⟨T, hT, rfl⟩ := htd.resolve_left (hbd1 hb2)
      refine Ws_if ?_
      walk_at "wi"
      refine ⟨fun hk1 => ?_, fun hk1 => ?_⟩
      · refine Ws_app rfl ?_
        walk_at "wi"
        refine ⟨fun hc => ?_, fun hc => ?_⟩
        · refine We_callY0 (p, r) Ln.id (Wa_cons (We_var rfl (Wa_raw rfl (Wa_raw rfl (Wa_cons ?_)))))
          walk_at "wi"
          rw [ed]
          refine ⟨ds, q4, rm3, d', m, szs, Ls, Tss, tb, rfl, rfl, hb, by omega, by omega, fun cs rm4 q5 hz2 hok2 hdp2 => ?_⟩
          walk_at "wi"
          refine add (.ite v T bs cs) _ _ _ _ _ _ _ _ _ _ _ (by rw [Rw.ok]; exact ⟨hv, hT, hok1, hok2⟩) ?_ ?_
          · simp only [Rw.dep]; omega
          · simp only [Rw.sz]; omega
        · walk_at "wi"
          refine add (.ite v T bs []) _ _ _ _ _ _ _ _ _ _ _ (by rw [Rw.ok]; exact ⟨hv, hT, hok1, trivial⟩) ?_ ?_
          · simp only [Rw.dep, Rw.depl]; omega
          · simp only [Rw.sz, Rw.szl]; omega
      · refine Ws_app rfl ?_
        walk_at "wi"
        refine ⟨fun hc => ?_, fun hc => ?_⟩
        · walk_at "wi"
          refine add (.whil v T bs) _ _ _ _ _ _ _ _ _ _ _ (by rw [Rw.ok]; exact ⟨hv, hT, hok1⟩) ?_ ?_
          · simp only [Rw.dep]; omega
          · simp only [Rw.sz]; omega
        · walk_at "wi"
          refine add (.whil v T []) _ _ _ _ _ _ _ _ _ _ _ (by rw [Rw.ok]; exact ⟨hv, hT, trivial⟩) ?_ ?_
          · simp only [Rw.dep, Rw.depl]; omega
          · simp only [Rw.sz, Rw.szl]; omega
    · refine Ws_if (Wt.mono (kb := fun b g' => g' = gG q3 rm2 ∧ (b = true → td ≠ .none)) ?_ ?_)
      · walk_at "wi"
        refine ⟨fun hk1 => ?_, fun hk1 => ?_⟩
        · walk_at "wi"
          intro h
          rintro rfl
          cases h
        · exact ⟨rfl, fun h => nomatch h⟩
      rintro b1 _ ⟨rfl, hbd1⟩
      refine ⟨fun hb2 => ?_, fun hb2 => ?_⟩
      · obtain ⟨T, hT, rfl⟩ := htd.resolve_left (hbd1 hb2)
        refine Ws_app rfl ?_
        walk_at "wi"
        refine add (.need v T) _ _ _ _ _ _ _ _ _ _ _ (by rw [Rw.ok]; exact ⟨hv, hT⟩) ?_ ?_
        · simp only [Rw.dep]; omega
        · simp only [Rw.sz]; omega
      refine Ws_if ?_
      walk_at "wi"
      refine ⟨fun hk1 => ?_, fun hk1 => ?_⟩
      · refine Ws_app rfl ?_
        walk_at "wi"
        refine add (.copy v (x3 % m)) _ _ _ _ _ _ _ _ _ _ _ (by rw [Rw.ok]; exact ⟨hv, Int.emod_nonneg _ (Int.ne_of_gt hm0), Int.emod_lt_of_pos _ hm0⟩) ?_ ?_
        · simp only [Rw.dep]; omega
        · simp only [Rw.sz]; omega
      refine Ws_if ?_
      walk_at "wi"
      refine ⟨fun hk2 => ?_, fun hk2 => ?_⟩
      · obtain ⟨hl, sz, hsz, esz⟩ := at_mod (f := szD) hb.s0 x3
        obtain ⟨hs1, hs2, hs3⟩ := hb.sz sz hsz
        refine Ws_seq (Wx_set ?_)
        walk_at "wi"
        rw [List.length_map]
        refine ⟨hl, _, _, _, rfl, rfl, esz, rfl, ?_⟩
        refine Ws_seq (Wx_new (Wn_map (GIn.name (by decide)) (Wi_rng1 ?_)))
        walk_at "wi"
        refine ⟨by omega, ?_⟩
        have hj0 : 0 ≤ x3 / 5 % (sz.2 + 1) := Int.emod_nonneg _ (by omega)
        have hj1 : x3 / 5 % (sz.2 + 1) < sz.2 + 1 := Int.emod_lt_of_pos _ (by omega)
        generalize x3 / 5 % (sz.2 + 1) = jj at hj0 hj1
        obtain ⟨jn, rfl⟩ := Int.eq_ofNat_of_zero_le hj0
        have hjn : ((jn : Nat) : Int).toNat = jn := Int.toNat_natCast jn
        refine Wa_nil ⟨_, rfl, by omega, by omega, by rw [List.length_map, List.length_range]; omega, (((List.range jn).map fun i => x3 / (5 + 4 * ((i : Nat) : Int)) % m).map .int), by rw [List.length_map, List.length_map, List.length_map, hjn], fun j dd e hdj he => ?_, rfl, ?_⟩
        · rw [hjn, List.getElem?_map] at hdj
          obtain ⟨j2, hj2, rfl⟩ := Option.map_eq_some_iff.mp hdj
          rw [List.map_map, List.getElem?_map, hj2] at he
          cases he
          have hj3 : j2 < jn := List.mem_range.mp (List.mem_of_getElem? hj2)
          refine Wx_name ⟨rfl, ?_⟩
          walk_at "wi"
          refine ⟨⟨by omega, by omega⟩, ?_⟩
          walk_at "wi"
          first | exact ⟨rfl, rfl⟩ | rfl
        · refine Ws_freeze (i := 16) rfl ?_
          refine Ws_app rfl ?_
          walk_at "wi"
          refine add (.call sz.1 ((List.range jn).map fun i => x3 / (5 + 4 * ((i : Nat) : Int)) % m) v) _ _ _ _ _ _ _ _ _ _ _ ?_ ?_ ?_
          · rw [Rw.ok]
            refine ⟨hv, hs1, ⟨sz.2, hs3, by rw [List.length_map, List.length_range]; omega⟩, by rw [List.length_map, List.length_range]; omega, fun a ha => ?_⟩
            obtain ⟨i', _, rfl⟩ := List.mem_map.mp ha
            exact ⟨Int.emod_nonneg _ (Int.ne_of_gt hm0), Int.emod_lt_of_pos _ hm0⟩
          · simp only [Rw.dep]; omega
          · simp only [Rw.sz]; omega
      refine Ws_if (Wt.mono (kb := fun b g' => g' = gG q3 rm2) ?_ ?_)
      · walk_at "wi"
        refine ⟨fun hk1 => ?_, fun hk1 => ?_⟩
        · walk_at "wi"
          rfl
        · rfl
      rintro b2 _ rfl
      refine ⟨fun hk3 => ?_, fun hk3 => ?_⟩
      · refine Ws_app rfl ?_
        walk_at "wi"
        refine add .stop _ _ _ _ _ _ _ _ _ _ _ (by rw [Rw.ok]; trivial) ?_ ?_
        · simp only [Rw.dep]; omega
        · simp only [Rw.sz]; omega
      · obtain ⟨hl, L, hL, eL⟩ := at_mod (f := Lt.d) hb.l0 x3
        refine Ws_app rfl ?_
        walk_at "wi"
        rw [List.length_map]
        refine ⟨hl, _, _, _, rfl, rfl, eL, ?_⟩
        walk_at "wi"
        refine add (.deed v L) _ _ _ _ _ _ _ _ _ _ _ (by rw [Rw.ok]; exact ⟨hv, hb.lt L hL⟩) ?_ ?_
        · simp only [Rw.dep]; omega
        · simp only [Rw.sz]; omega
end
def Rw.wb (r : Rw) (bs : List (List Rw)) : Rw := match r, bs with
  | .ite v t _ _, [b, c] => .ite v t b c
  | .eith _ _, [b, c] => .eith b c
  | .whil v t _, [b] => .whil v t b
  | r, _ => r
def bkD (s : Bool) (bs : List (List Rw)) : List PyData := bs.map fun b => sq s (Rw.dl s b)
theorem wb_d (s : Bool) (r : Rw) (bs : List (List Rw)) (h : bs.length = r.bl.length) : PyData.tuple ((fldD s r).take ((fldD s r).length - bs.length) ++ bkD s bs) = Rw.d s (r.wb bs) := by
  cases r with
  | ite v t b c => match bs, h with | [_, _], _ => rfl
  | eith b c => match bs, h with | [_, _], _ => rfl
  | whil v t b => match bs, h with | [_], _ => rfl
  | _ => match bs, h with | [], _ => rfl
theorem lenD_fld (s : Bool) (r : Rw) : lenD (Rw.d s r) = some (fldD s r).length := by cases r <;> rfl
theorem fld_bl (s : Bool) (r : Rw) : r.bl.length ≤ (fldD s r).length := by cases r <;> exact Nat.le_of_ble_eq_true rfl
theorem d_fld (s : Bool) (r : Rw) : Rw.d s r = .tuple (fldD s r) := by cases r <;> rfl
theorem wb_ok {m : Int} {tb : List (Key × PyData)} {r : Rw} {bs : List (List Rw)} (hl : bs.length = r.bl.length) (h : r.ok m tb) (hb : ∀ b ∈ bs, Rw.okl m tb b) : (r.wb bs).ok m tb := by
  cases r with
  | ite v t x y => match bs, hl with | [b, c], _ => rw [Rw.ok] at h; show Rw.ok m tb (.ite v t b c); rw [Rw.ok]; exact ⟨h.1, h.2.1, hb b (by simp), hb c (by simp)⟩
  | eith x y => match bs, hl with | [b, c], _ => show Rw.ok m tb (.eith b c); rw [Rw.ok]; exact ⟨hb b (by simp), hb c (by simp)⟩
  | whil v t x => match bs, hl with | [b], _ => rw [Rw.ok] at h; show Rw.ok m tb (.whil v t b); rw [Rw.ok]; exact ⟨h.1, h.2.1, hb b (by simp)⟩
  | _ => match bs, hl with | [], _ => exact h
theorem wb_sz {r : Rw} {bs : List (List Rw)} (hl : bs.length = r.bl.length) (h : bs.map Rw.szl = r.bl.map Rw.szl) : (r.wb bs).sz = r.sz := by
  rw [sz_bl, sz_bl, ← h]
  congr 3
  cases r with
  | ite v t x y => match bs, hl with | [b, c], _ => rfl
  | eith x y => match bs, hl with | [b, c], _ => rfl
  | whil v t x => match bs, hl with | [b], _ => rfl
  | _ => match bs, hl with | [], _ => rfl
theorem wb_dep {r : Rw} {bs : List (List Rw)} (hl : bs.length = r.bl.length) (h : ∀ (j : Nat) b b', r.bl[j]? = some b → bs[j]? = some b' → Rw.depl b' ≤ Rw.depl b) : (r.wb bs).dep ≤ r.dep := by
  cases r with
  | ite v t x y => match bs, hl with | [b, c], _ => have h0 := h 0 x b rfl rfl; have h1 := h 1 y c rfl rfl; show Rw.dep (.ite v t b c) ≤ _; rw [Rw.dep, Rw.dep]; omega
  | eith x y => match bs, hl with | [b, c], _ => have h0 := h 0 x b rfl rfl; have h1 := h 1 y c rfl rfl; show Rw.dep (.eith b c) ≤ _; rw [Rw.dep, Rw.dep]; omega
  | whil v t x => match bs, hl with | [b], _ => have h0 := h 0 x b rfl rfl; show Rw.dep (.whil v t b) ≤ _; rw [Rw.dep, Rw.dep]; omega
  | _ => match bs, hl with | [], _ => exact Nat.le_refl _
/-- tamed: as large, as deep at most, let -/
structure Tm (m : Int) (tb : List (Key × PyData)) (b b' : List Rw) : Prop where
  sz : Rw.szl b' = Rw.szl b
  ok : Rw.okl m tb b'
  dep : Rw.depl b' ≤ Rw.depl b
section
variable {P : Program} {w : World} {K : PySem.W.Frag} {mg : Str → Option Value} {base : Heap}
abbrev gL (l : Int) : PB := ((), .list [.int l])
def RTr (n : Nat) (p : Addr) : List En → PB → KD PB → KX PB → Prop := fun es g k _ => ∃ (rs : List Rw) (l m : Int) (tb : List (Key × PyData)), es = [En.da (.list (Rw.dl true rs)), En.raw (.ref p)] ∧ g = gL l ∧ Rw.depl rs < n ∧ Rw.okl m tb rs ∧ Rw.szl rs ≤ 1000 ∧ ∀ (rs' : List Rw) (l' : Int), Tm m tb rs rs' → k (.list (Rw.dl true rs')) (gL l')
abbrev s__law_tame_rows : Stmt := top 63
abbrev N__law_tame_rows : List Str := ["_law_rows", "_law_left", "_law_out", "_law_row", "_law_blocks_here", "_law_block_here"]
abbrev P__law_tame_rows : List Str := ["_law_rows", "_law_left"]
theorem sc__law_tame_rows : FnScope N__law_tame_rows P__law_tame_rows (defScope s__law_tame_rows) := ⟨rfl, rfl, rfl, by decide +kernel, rfl, by decide +kernel, by decide +kernel⟩
-- slots: 0 _law_rows, 1 _law_left, 2 _law_out, 3 _law_row, 4 _law_blocks_here, 5 _law_block_here
theorem kp__law_tame_rows (F : At K mg "_law_tame_rows" s__law_tame_rows) (N : Nb mg) (G__law_blocks : Keeps CX0 P w K mg base "_law_blocks" 1 ["_law_row"] (spX K Co.pure RBlk)) : ∀ n, Keeps CX0 P w K mg base "_law_tame_rows" (n + 2) ["_law_rows", "_law_left"] (spY K (CB K) (RTr n)) := by
  intro n
  induction n with
  | zero => exact keeps_y F sc__law_tame_rows (fun _ _ _ _ _ _ us hl => match us, hl with | [_, _], _ => rfl) (fun i es g k x h => by obtain ⟨_, _, _, _, rfl, _⟩ := h; rfl) (fun fa cdv A outer s H E i es g k x hr h => by obtain ⟨_, _, _, _, _, _, z, _⟩ := h; exact absurd z (Nat.not_lt_zero _))
  | succ n ih =>
    refine keeps_y F sc__law_tame_rows (fun _ _ _ _ _ _ us hl => match us, hl with | [_, _], _ => rfl) (fun i es g k x h => by obtain ⟨_, _, _, _, rfl, _⟩ := h; rfl) (fun fa cdv A outer s H E p es g k x hr h => ?_)
    obtain ⟨rs, l, m, tb, rfl, rfl, hn, hok, hz, hk⟩ := h
    refine ⟨_, (pss_cons (ps_set (i := 2) sc__law_tame_rows.nd rfl (by walk_at "lv") (pe_lst pa_nil))
        (pss_cons (ps_for PassesOwn.never rfl (pi_seqE (pv 0)) (pg_name (i := 3) sc__law_tame_rows.nd rfl (by walk_at "lv")) (pss_cons (ps_if (pt_cmpR (op_eqD hr.units) (pe_ix ix_any (pv 3) pe_int (fun _ _ => rfl)) pe_str (nomark _)) (pss_one (ps_asg (pe_op op_sub (pe_ix ix_any (pv 1) pe_int (fun _ _ => rfl)) pe_int) (pg_sub (pv 1) pe_int set_list))) pss_nil)
        (pss_one (ps_if (PW.pt (pw_and (pt_cmpR (op_eqD hr.units) (pe_ix ix_any (pv 3) pe_int (fun _ _ => rfl)) pe_str (nomark _)) (pw_and1 (pt_cmpR op_lt (pe_ix ix_any (pv 1) pe_int (fun _ _ => rfl)) pe_int (nomark _))))) (pss_one (ps_expr (pe_bm PySem.F.plainAttrs_list PySem.F.slot_list_append PySem.F.type_list_append mt_append (pv 2) (pa_cons (pe_tup (pa_cons pe_str (pa_cons (pe_ix ix_any (pv 3) pe_int (fun _ _ => rfl)) (pa_cons (pe_ix ix_any (pv 3) pe_int (fun _ _ => rfl)) pa_nil)))) pa_nil)))) (pss_cons (ps_setLc (i := 4) (own := [("_law_block_here", 5)]) (g := gName 5) (tt := tYes) rfl sc__law_tame_rows.nd rfl rfl (sw_true rfl rfl rfl (by decide +kernel)) (pi_seqE (pe_k (G__law_blocks.up (by omega)) hr (by rfl) pass0 (pa_cons (pv 3) pa_nil))) (blkOk_by (N := N__law_tame_rows) (sc := defScope s__law_tame_rows) (by decide +kernel)) (fun _ _ _ _ _ => (pg_name (i := 5) sc__law_tame_rows.nd rfl (by walk_at "lv"))) (fun _ _ _ _ _ => pts_nil) (fun _ _ _ _ _ => (pe_k (ih.up (by omega)) hr (by rfl) pass0 (pa_cons (pv 5) (pa_cons (pv 1) pa_nil)))))
        (pss_one (ps_expr (pe_bm PySem.F.plainAttrs_list PySem.F.slot_list_append PySem.F.type_list_append mt_append (pv 2) (pa_cons (pe_op op_catA (pe_callTy call_tuple_of (by rfl) N.tuple (by decide +kernel) (pa_cons (pe_slice sl_tupA (pv 3) po_none (po_some (pe_op op_sub (pe_callB call_len (by rfl) N.len (by decide +kernel) (pa_cons (pv 3) pa_nil)) (pe_callB call_len (by rfl) N.len (by decide +kernel) (pa_cons (pv 4) pa_nil))))) pa_nil)) (pe_callTy call_tuple_of (by rfl) N.tuple (by decide +kernel) (pa_cons (pv 4) pa_nil))) pa_nil)))))))))
        (pss_one (ps_ret (pv 2))))), ?_⟩
    try dsimp only [cxOf, L2.Cx.wish]
    refine Ws_seq (Wx_new (Wn_lst ?_))
    walk_at "wi"
    refine Ws_seq (Ws_for (Wi_seq ?_))
    walk_at "wi"
    refine ⟨fun i g1 ρ => ∃ (y3 y4 y5 : En) (rs' : List Rw) (l' : Int), g1 = gL l' ∧ ρ = [En.da (.list (Rw.dl true rs)), En.raw (.ref p), En.own (.list (Rw.dl true rs')), y3, y4, y5] ∧ Tm m tb (rs.take i) rs' ∧ rs'.length = i, ⟨_, _, _, [], l, rfl, rfl, ⟨rfl, trivial, Nat.le_refl _⟩, rfl⟩, ?_, ?_⟩
    · rintro i dd g2 ρ2 hd ⟨y3, y4, y5, rs', l', rfl, rfl, ht, hl⟩
      obtain ⟨r, hr2, rfl⟩ := dl_get hd
      have hmem := List.mem_of_getElem? hr2
      have hrok := okl_mem hok hmem
      have hdr := dep_mem hmem
      have hil : i < rs.length := (List.getElem?_eq_some_iff.mp hr2).1
      have hsr := len_szl rs
      have hlen : (Rw.dl true rs').length ≤ 60000 := by rw [dl_len]; omega
      obtain ⟨ds, e1, e2⟩ := rw_ix0 true r
      have sw := shp_wd r
      have add : ∀ (rw : Rw) (l' : Int) (z3 z4 z5 : En), rw.ok m tb → rw.dep ≤ r.dep → rw.sz = r.sz → ∃ (y3 y4 y5 : En) (rs'' : List Rw) (l'' : Int), gL l' = gL l'' ∧ [En.da (.list (Rw.dl true rs)), En.raw (.ref p), En.own (.list (Rw.dl true rs' ++ [Rw.d true rw])), z3, z4, z5] = [En.da (.list (Rw.dl true rs)), En.raw (.ref p), En.own (.list (Rw.dl true rs'')), y3, y4, y5] ∧ Tm m tb (rs.take (i + 1)) rs'' ∧ rs''.length = i + 1 := fun rw l' z3 z4 z5 a1 a2 a3 => by
        refine ⟨z3, z4, z5, rs' ++ [rw], l', rfl, by rw [dl_app]; rfl, ⟨?_, okl_snoc ht.ok a1, ?_⟩, by rw [List.length_append, hl]; rfl⟩
        · rw [take_get hr2, szl_snoc, szl_snoc, ht.sz, a3]
        · have hda : ∀ (l : List Rw) (x : Rw), Rw.depl (l ++ [x]) = max (Rw.depl l) x.dep := fun l x => by
            induction l with
            | nil => simp [Rw.depl]
            | cons a l ih => rw [List.cons_append, Rw.depl, ih, Rw.depl]; omega
          have := ht.dep
          rw [take_get hr2, hda, hda]; omega
      walk_at "wi"
      refine Ws_seq (Ws_cutP (fun g1 ρ1 => ∃ l2, g1 = gL l2 ∧ ρ1 = [En.da (.list (Rw.dl true rs)), En.raw (.ref p), En.own (.list (Rw.dl true rs')), En.da (Rw.d true r), y4, y5]) ?_ ?_)
      · refine Ws_if ?_
        walk_at "wi"
        refine ⟨ds, _, _, e1, rfl, e2, ?_⟩
        walk_at "wi"
        refine ⟨fun h => ?_, fun h => ?_⟩
        · refine Ws_asg ?_
          walk_at "wi"
          refine Wg_putB Bx.box rfl (We_int ⟨_, 0, rfl, rfl, Nat.zero_lt_one, ?_⟩)
          exact ⟨_, rfl, rfl⟩
        · exact Ws_next ⟨_, rfl, rfl⟩
      rintro g1 ρ1 ⟨l2, rfl, rfl⟩
      refine Ws_if (Wt.mono (kb := fun b g' => g' = gL l2 ∧ (b = true → r.wd = "call")) ?_ ?_)
      · walk_at "wi"
        refine ⟨ds, _, _, e1, rfl, e2, ?_⟩
        walk_at "wi"
        rw [eqv_wd]
        refine ⟨fun h => ?_, fun h => ?_⟩
        · walk_at "wi"
          exact fun _ => of_decide_eq_true h
        · exact ⟨rfl, fun h => nomatch h⟩
      rintro b0 _ ⟨rfl, hbd⟩
      refine ⟨fun hb1 => ?_, fun hb1 => ?_⟩
      · have hc := hbd hb1
        cases r with
        | call f as v =>
          rw [Rw.ok] at hrok
          refine Ws_app rfl ?_
          walk_at "wi"
          exact add (.copy v v) _ _ _ _ (by rw [Rw.ok]; exact ⟨hrok.1, hrok.1⟩) (Nat.zero_le _) rfl
        | _ => exact absurd hc (by simp only [Rw.wd]; decide +kernel)
      · refine Ws_seq (Wx_new (Wn_lc (GIn.name (by decide)) (Wi_seq (We_call0 Ln.pure (Wa_cons (We_var rfl (Wa_nil ⟨true, r, rfl, _, rfl, ?_⟩)))))))
        refine ⟨blD_len true r, fun j acc g1 => ∃ (bs : List (List Rw)) (l3 : Int), acc = bkD true bs ∧ g1 = gL l3 ∧ bs.length = j ∧ ∀ (j' : Nat) b b', r.bl[j']? = some b → bs[j']? = some b' → Tm m tb b b', ⟨[], l2, rfl, rfl, rfl, fun j' b b' _ h => by cases h⟩, ?_, ?_⟩
        · rintro j dd acc g3 hdd ⟨bs, l3, rfl, rfl, hbl, hbt⟩
          obtain ⟨b, hb, rfl⟩ := blD_get hdd
          have hbm := List.mem_of_getElem? hb
          have hdb := dep_bl hbm
          have hbs := sum_take (r.bl.map Rw.szl) (j + 1)
          rw [← List.map_take, take_get hb, List.map_append, List.sum_append, show (r.bl.map Rw.szl).sum = r.sz - 1 by rw [sz_bl]; omega] at hbs
          simp only [List.map_cons, List.map_nil, List.sum_cons, List.sum_nil] at hbs
          have hszi := szl_take_le rs (i + 1)
          rw [take_get hr2, szl_snoc] at hszi
          refine Wx_name ⟨rfl, Wt_yes ⟨fun _ => We_callY0 p Ln.id (Wa_cons (We_var rfl (Wa_raw rfl (Wa_nil ?_)))), fun z => nomatch z⟩⟩
          refine ⟨b, l3, m, tb, rfl, rfl, by omega, ok_bl hrok hbm, by omega, fun b' l4 hb' => ⟨bs ++ [b'], l4, ?_, rfl, by rw [List.length_append, hbl]; rfl, fun j' c c' hc hc' => ?_⟩⟩
          · unfold bkD; rw [List.map_append]; rfl
          · by_cases hj' : j' < bs.length
            · rw [List.getElem?_append_left hj'] at hc'
              exact hbt j' c c' hc hc'
            · have : j' = j := by
                have := (List.getElem?_eq_some_iff.mp hc').1
                rw [List.length_append, List.length_singleton] at this
                omega
              subst this
              rw [hb] at hc
              cases hc
              rw [List.getElem?_append_right (by omega), hbl, Nat.sub_self] at hc'
              cases hc'
              exact hb'
        · rintro acc g3 ⟨bs, l3, rfl, rfl, hbl, hbt⟩
          have hbl2 : bs.length = r.bl.length := by rw [hbl, blD, List.length_map]
          refine ⟨rfl, ?_⟩
          refine Ws_freeze (i := 4) rfl ?_
          have hfl := lenD_fld true r
          have hfb := fld_bl true r
          refine Ws_app rfl ?_
          walk_at "wi"
          refine We_slT rfl ?_
          walk_at "wi"
          refine ⟨fldD true r, _, d_fld true r, rfl, ?_⟩
          rw [show (bkD true bs).length = bs.length from List.length_map _, show ((((fldD true r).length : Nat) : Int) - ((bs.length : Nat) : Int)) = (((fldD true r).length - bs.length : Nat) : Int) by omega, cutD_to]
          walk_at "wi"
          have h5 := fldD_len true r
          have hb2 := bl_len r
          have hle : ((fldD true r).take ((fldD true r).length - bs.length)).length + (bkD true bs).length ≤ 60000 := by
            rw [List.length_take, show (bkD true bs).length = bs.length from List.length_map _]; omega
          refine ⟨hle, ?_⟩
          rw [wb_d true r bs hbl2]
          refine ⟨hlen, add (r.wb bs) l3 _ _ _ (wb_ok hbl2 hrok fun b' hb' => ?_) (wb_dep hbl2 fun j' b b' h h' => (hbt j' b b' h h').dep) (wb_sz hbl2 ?_)⟩
          · obtain ⟨j', hj'⟩ := List.getElem?_of_mem hb'
            have hj2 : j' < r.bl.length := by rw [← hbl2]; exact (List.getElem?_eq_some_iff.mp hj').1
            exact (hbt j' _ b' (List.getElem?_eq_getElem hj2) hj').ok
          · refine List.ext_getElem? fun j' => ?_
            rw [List.getElem?_map, List.getElem?_map]; by_cases hj2 : j' < r.bl.length
            · have hj3 : j' < bs.length := by rw [hbl2]; exact hj2
              rw [List.getElem?_eq_getElem hj2, List.getElem?_eq_getElem hj3]
              exact congrArg some (hbt j' _ _ (List.getElem?_eq_getElem hj2) (List.getElem?_eq_getElem hj3)).sz
            · rw [List.getElem?_eq_none (by omega), List.getElem?_eq_none (by omega)]
    · rintro g2 ρ2 ⟨y3, y4, y5, rs', l', rfl, rfl, ht, hl⟩
      rw [dl_len, take_all] at ht
      refine Ws_freeze (i := 2) rfl ?_
      walk_at "wj"
      exact hk rs' l' ht
/-- a tamed procedure -/
def TmP (tb : List (Key × PyData)) (p p' : Pr) : Prop := p'.f = p.f ∧ p'.n = p.n ∧ Tm p.n tb p.rs p'.rs
def RTm (n : Nat) : List En → Unit → KD Unit → KX Unit → Prop := fun es _ k _ => ∃ (ps : List Pr) (l : Int) (tb : List (Key × PyData)), es = [En.da (.list (ps.map (Pr.dd true true))), En.da (.int l)] ∧ (∀ p ∈ ps, Rw.depl p.rs < n ∧ Rw.okl p.n tb p.rs ∧ Rw.szl p.rs ≤ 1000) ∧ ps.length ≤ 1000 ∧ ∀ ps' : List Pr, ps'.length = ps.length → (∀ (i : Nat) p p', ps[i]? = some p → ps'[i]? = some p' → TmP tb p p') → k (.list (ps'.map (Pr.dd true true))) ()
abbrev s__law_tame : Stmt := top 64
abbrev N__law_tame : List Str := ["_law_program_here", "_law_most", "_law_left", "_law_p"]
abbrev P__law_tame : List Str := ["_law_program_here", "_law_most"]
theorem sc__law_tame : FnScope N__law_tame P__law_tame (defScope s__law_tame) := ⟨rfl, rfl, rfl, by decide +kernel, rfl, by decide +kernel, by decide +kernel⟩
-- slots: 0 _law_program_here, 1 _law_most, 2 _law_left, 3 _law_p
theorem kp__law_tame (n : Nat) (F : At K mg "_law_tame" s__law_tame) (N : Nb mg) (G__law_tame_rows : Keeps CX0 P w K mg base "_law_tame_rows" (n + 2) ["_law_rows", "_law_left"] (spY K (CB K) (RTr n))) : Keeps CX0 P w K mg base "_law_tame" (n + 3) ["_law_program_here", "_law_most"] (spX K Co.pure (RTm n)) := by
  refine keeps_x F sc__law_tame (fun _ _ _ _ _ _ us hl => match us, hl with | [_, _], _ => rfl) (fun es g k x h => ?_) (fun fa cdv A outer s H E es g k x hr h => ?_)
  · obtain ⟨_, _, _, rfl, _⟩ := h; rfl
  · obtain ⟨ps, l, tb, rfl, hps, hl, hk⟩ := h
    refine ⟨_, (pss_cons (ps_set (i := 2) sc__law_tame.nd rfl (by walk_at "lv") (pe_lst (pa_cons (pv 1) pa_nil)))
        (pss_one (ps_ret (pe_lc (own := [("_law_p", 3)]) (g := gName 3) (tt := tYes) rfl sc__law_tame.nd (pi_seqE (pv 0)) (blkOk_by (N := N__law_tame) (sc := defScope s__law_tame) (by decide +kernel)) (fun _ _ _ _ _ => (pg_name (i := 3) sc__law_tame.nd rfl (by walk_at "lv"))) (fun _ _ _ _ _ => pts_nil) (fun _ _ _ _ _ => (pe_tup (pa_cons (pe_ix (r := rIxA K) ix_any (pv 3) pe_int (fun _ _ => rfl)) (pa_cons (pe_ix (r := rIxA K) ix_any (pv 3) pe_int (fun _ _ => rfl)) (pa_cons (pe_k (G__law_tame_rows.up (by omega)) hr (by rfl) pass0 (pa_cons (pe_ix (r := rIxA K) ix_any (pv 3) pe_int (fun _ _ => rfl)) (pa_cons (pv 2) pa_nil))) pa_nil))))))))), ?_⟩
    try dsimp only [cxOf, L2.Cx.wish]
    refine Ws_seq (Wx_new (Wn_lst ?_))
    walk_at "wi"
    refine Ws_lend (i := 2) rfl fun o => ?_
    refine Ws_ret (We_new (Wn_lc (GIn.name (by decide)) (Wi_seq (We_var rfl ⟨_, rfl, ?_⟩))))
    refine ⟨by rw [List.length_map]; omega, fun i acc g1 => ∃ (ps' : List Pr) (l' : Int), acc = ps'.map (Pr.dd true true) ∧ g1 = gL l' ∧ ps'.length = i ∧ ∀ (j : Nat) p p', ps[j]? = some p → ps'[j]? = some p' → TmP tb p p', ⟨[], l, rfl, rfl, rfl, fun j p p' _ h => by cases h⟩, ?_, ?_⟩
    · rintro i d acc g2 hd ⟨ps', l', rfl, rfl, hl', ht⟩
      rw [List.getElem?_map] at hd
      obtain ⟨p, hp, rfl⟩ := Option.map_eq_some_iff.mp hd
      obtain ⟨a1, a2, a3⟩ := hps p (List.mem_of_getElem? hp)
      refine Wx_name ⟨rfl, Wt_yes ⟨fun _ => ?_, fun z => nomatch z⟩⟩
      walk_at "wi"
      refine We_callY0 o (Ln.box Ln.pure) (Wa_cons (We_op rd_ixA (We_var rfl (We_int ⟨_, 2, _, rfl, rfl, rfl, Wa_raw rfl (Wa_nil ⟨p.rs, l', p.n, tb, rfl, rfl, a1, a2, a3, fun rs' l2 hrs => ?_⟩)⟩))))
      walk_at "wi"
      refine ⟨ps' ++ [⟨p.f, p.n, rs'⟩], l2, ?_, rfl, by rw [List.length_append, hl']; rfl, fun j q q' hq hq' => ?_⟩
      · rw [List.map_append]; rfl
      · by_cases hj : j < ps'.length
        · rw [List.getElem?_append_left hj] at hq'
          exact ht j q q' hq hq'
        · have : j = i := by
            have := (List.getElem?_eq_some_iff.mp hq').1
            rw [List.length_append, List.length_singleton] at this
            omega
          subst this
          rw [hp] at hq
          cases hq
          rw [List.getElem?_append_right (by omega), hl', Nat.sub_self] at hq'
          cases hq'
          exact ⟨rfl, rfl, hrs⟩
    · rintro acc g2 ⟨ps', l', rfl, rfl, hl', ht⟩
      rw [List.length_map] at hl'
      exact hk ps' hl' ht
end
theorem dpl_none : ∀ (n : Nat) (rs : List Rw) (k : Nat), Rw.szl rs ≤ n → k ≤ 20 → (Rw.dpl rs k = none ↔ Rw.depl rs + k ≤ 20) := by
  intro n
  induction n with
  | zero =>
    intro rs k h hk
    cases rs with
    | nil => simp [Rw.dpl, Rw.depl, hk]
    | cons r rs => rw [Rw.szl] at h; have := sz_pos r; omega
  | succ n ih =>
    intro rs
    induction rs with
    | nil => intro k h hk; simp [Rw.dpl, Rw.depl, hk]
    | cons r rs ihr =>
      intro k h hk
      rw [Rw.szl] at h
      have hp := sz_pos r
      have h2 := ihr k (by omega) hk
      have h1 : r.dpa k = none ↔ r.dep + k ≤ 20 := by
        cases r with
        | ite v t b c =>
          rw [Rw.sz] at h
          rw [Rw.dpa, Rw.dep]
          by_cases q : 20 ≤ k
          · rw [if_pos q]; constructor
            · intro z; cases z
            · intro z; omega
          · rw [if_neg q, Option.or_eq_none_iff, Option.map_eq_none_iff, Option.map_eq_none_iff, ih b (k + 1) (by omega) (by omega), ih c (k + 1) (by omega) (by omega)]
            omega
        | eith b c =>
          rw [Rw.sz] at h
          rw [Rw.dpa, Rw.dep]
          by_cases q : 20 ≤ k
          · rw [if_pos q]; constructor
            · intro z; cases z
            · intro z; omega
          · rw [if_neg q, Option.or_eq_none_iff, Option.map_eq_none_iff, Option.map_eq_none_iff, ih b (k + 1) (by omega) (by omega), ih c (k + 1) (by omega) (by omega)]
            omega
        | whil v t b =>
          rw [Rw.sz] at h
          rw [Rw.dpa, Rw.dep]
          by_cases q : 20 ≤ k
          · rw [if_pos q]; constructor
            · intro z; cases z
            · intro z; omega
          · rw [if_neg q, Option.map_eq_none_iff, ih b (k + 1) (by omega) (by omega)]
            omega
        | _ => simp [Rw.dpa, Rw.dep, hk]
      rw [Rw.dpl, Rw.depl, Option.or_eq_none_iff, Option.map_eq_none_iff, h1, h2]
      omega
section
variable {P : Program} {w : World} {K : PySem.W.Frag} {mg : Str → Option Value} {base : Heap}
/-- what _law_too_deep tells -/
def tdD (rs : List Rw) (k : Nat) : PyData := match Rw.dpl rs k with
  | some q => .tuple [.bool true, .int (q : Nat)]
  | none => .tuple [.bool false, .int (Rw.szl rs : Nat)]
def RTd (n : Nat) : List En → Unit → KD Unit → KX Unit → Prop := fun es _ kk _ => ∃ (rs : List Rw) (k : Nat), es = [En.da (.tuple (Rw.dl false rs)), En.da (.int (k : Nat))] ∧ Rw.depl rs < n ∧ kk (tdD rs k) ()
abbrev s__law_too_deep : Stmt := top 68
abbrev N__law_too_deep : List Str := ["_law_rows", "_law_depth", "_law_place", "_law_row", "_law_block_here", "_law_found", "_law_many"]
abbrev P__law_too_deep : List Str := ["_law_rows", "_law_depth"]
theorem sc__law_too_deep : FnScope N__law_too_deep P__law_too_deep (defScope s__law_too_deep) := ⟨rfl, rfl, rfl, by decide +kernel, rfl, by decide +kernel, by decide +kernel⟩
-- slots: 0 _law_rows, 1 _law_depth, 2 _law_place, 3 _law_row, 4 _law_block_here, 5 _law_found, 6 _law_many
theorem kp__law_too_deep (F : At K mg "_law_too_deep" s__law_too_deep) (N : Nb mg) (G__law_blocks : Keeps CX0 P w K mg base "_law_blocks" 1 ["_law_row"] (spX K Co.pure RBlk)) : ∀ n, Keeps CX0 P w K mg base "_law_too_deep" (n + 2) ["_law_rows", "_law_depth"] (spX K Co.pure (RTd n)) := by
  intro n
  induction n with
  | zero => exact keeps_x F sc__law_too_deep (fun _ _ _ _ _ _ us hl => match us, hl with | [_, _], _ => rfl) (fun es g k x h => by obtain ⟨_, _, rfl, _⟩ := h; rfl) (fun fa cdv A outer s H E es g k x hr h => by obtain ⟨_, _, _, z, _⟩ := h; exact absurd z (Nat.not_lt_zero _))
  | succ n ih =>
    refine keeps_x F sc__law_too_deep (fun _ _ _ _ _ _ us hl => match us, hl with | [_, _], _ => rfl) (fun es g k x h => by obtain ⟨_, _, rfl, _⟩ := h; rfl) (fun fa cdv A outer s H E es g kk x hr h => ?_)
    obtain ⟨rs, k, rfl, hn, hk⟩ := h
    refine ⟨_, (pss_cons (ps_set (i := 2) sc__law_too_deep.nd rfl (by walk_at "lv") pe_int)
        (pss_cons (ps_for PassesOwn.never rfl (pi_seqE (pv 0)) (pg_name (i := 3) sc__law_too_deep.nd rfl (by walk_at "lv")) (pss_cons (ps_if (PW.pt (pw_and (pt_truth (pe_k (G__law_blocks.up (by omega)) hr (by rfl) pass0 (pa_cons (pv 3) pa_nil)) (by intro _; rfl)) (pw_and1 (pt_cmpR op_ge (pv 1) pe_int (nomark _))))) (pss_one (ps_ret (pe_tup (pa_cons pe_bl (pa_cons (pv 2) pa_nil))))) pss_nil)
        (pss_cons (ps_set (i := 2) sc__law_too_deep.nd rfl (by walk_at "lv") (pe_op op_add (pv 2) pe_int))
        (pss_one (ps_for PassesOwn.never rfl (pi_seqE (pe_k (G__law_blocks.up (by omega)) hr (by rfl) pass0 (pa_cons (pv 3) pa_nil))) (pg_name (i := 4) sc__law_too_deep.nd rfl (by walk_at "lv")) (pss_cons (ps_asg (pe_k (ih.up (by omega)) hr (by rfl) pass0 (pa_cons (pv 4) (pa_cons (pe_op op_add (pv 1) pe_int) pa_nil))) (pg_tupA (by rfl) (pgs_cons (pg_name (i := 5) sc__law_too_deep.nd rfl (by walk_at "lv")) (pgs_cons (pg_name (i := 6) sc__law_too_deep.nd rfl (by walk_at "lv")) pgs_nil))))
        (pss_cons (ps_if (pt_truth (pv 5) (by intro _; rfl)) (pss_one (ps_ret (pe_tup (pa_cons pe_bl (pa_cons (pe_op op_add (pv 2) (pv 6)) pa_nil))))) pss_nil)
        (pss_one (ps_set (i := 2) sc__law_too_deep.nd rfl (by walk_at "lv") (pe_op op_add (pv 2) (pv 6)))))))))))
        (pss_one (ps_ret (pe_tup (pa_cons pe_bl (pa_cons (pv 2) pa_nil))))))), ?_⟩
    try dsimp only [cxOf, L2.Cx.wish]
    have yes : ∀ q : Nat, Rw.dpl rs k = some q → kk (.tuple [.bool true, .int (q : Nat)]) () := fun q hq => by unfold tdD at hk; rw [hq] at hk; exact hk
    refine Ws_seq (Wx_set ?_)
    walk_at "wi"
    refine Ws_seq (Ws_for (Wi_seq ?_))
    walk_at "wi"
    refine ⟨fun i _ ρ => ∃ y3 y4 y5 y6 : En, ρ = [En.da (.tuple (Rw.dl false rs)), En.da (.int (k : Nat)), En.da (.int (Rw.szl (rs.take i) : Nat)), y3, y4, y5, y6] ∧ Rw.dpl rs k = (Rw.dpl (rs.drop i) k).map (Rw.szl (rs.take i) + ·), ⟨_, _, _, _, rfl, ?_⟩, ?_, ?_⟩
    · rw [List.drop_zero, List.take_zero]
      cases Rw.dpl rs k <;> simp [Rw.szl]
    · rintro i dd g2 ρ2 hd ⟨y3, y4, y5, y6, rfl, hdp⟩
      obtain ⟨r, hr2, rfl⟩ := dl_get hd
      have hdr := dep_mem (List.mem_of_getElem? hr2)
      refine Wx_name ⟨rfl, ?_⟩
      by_cases hdeep : r.bl ≠ [] ∧ (20 : Int) ≤ (k : Nat)
      · have hq : Rw.dpl rs k = some (Rw.szl (rs.take i) + 0) := by
          rw [hdp, drop_get hr2, Rw.dpl, dpa_eq, if_pos ⟨hdeep.1, by omega⟩]; rfl
        refine Ws_seq (Ws_if ?_)
        refine Wt_and (Wt_tru (We_call0 Ln.pure (Wa_cons (We_var rfl (Wa_nil ⟨false, r, rfl, _, rfl, ?_⟩)))))
        rw [blD_isE]
        refine ⟨fun _ => ?_, fun h => ?_⟩
        · walk_at "wi"
          refine ⟨fun _ => ?_, fun h => absurd hdeep.2 (of_decide_eq_false h)⟩
          walk_at "wj"
          exact yes _ hq
        · exact absurd (List.isEmpty_iff.mp (by simpa using h)) hdeep.1
      · have hdpa : r.dpa k = dpb r.bl (k + 1) 1 := by rw [dpa_eq, if_neg (fun z => hdeep ⟨z.1, by omega⟩)]
        refine Ws_seq (Ws_no_if ?_ (Ws_next ?_))
        · refine Wt_and (Wt_tru (We_call0 Ln.pure (Wa_cons (We_var rfl (Wa_nil ⟨false, r, rfl, _, rfl, ?_⟩)))))
          rw [blD_isE]
          refine ⟨fun h => ?_, fun h => ⟨rfl, rfl⟩⟩
          walk_at "wi"
          refine ⟨decide_eq_false fun z => hdeep ⟨fun e => ?_, z⟩, rfl⟩
          rw [e] at h; cases h
        refine Ws_seq (Wx_set ?_)
        walk_at "wi"
        refine Ws_for (Wi_seq (We_call0 Ln.pure (Wa_cons (We_var rfl (Wa_nil ⟨false, r, rfl, _, rfl, ?_⟩)))))
        refine ⟨fun j _ ρ => ∃ y4 y5 y6 : En, ρ = [En.da (.tuple (Rw.dl false rs)), En.da (.int (k : Nat)), En.da (.int ((Rw.szl (rs.take i) + (1 + ((r.bl.take j).map Rw.szl).sum) : Nat) : Int)), En.da (Rw.d false r), y4, y5, y6] ∧ r.dpa k = dpb (r.bl.drop j) (k + 1) (1 + ((r.bl.take j).map Rw.szl).sum), ⟨y4, y5, y6, ?_, ?_⟩, ?_, ?_⟩
        · rfl
        · simp [hdpa]
        · rintro j dd g3 ρ3 hdd ⟨y4, y5, y6, rfl, hdb⟩
          obtain ⟨b, hb, rfl⟩ := blD_get hdd
          have hbm := List.mem_of_getElem? hb
          have hdb2 := dep_bl hbm
          have esum : ((r.bl.take (j + 1)).map Rw.szl).sum = ((r.bl.take j).map Rw.szl).sum + Rw.szl b := by
            rw [take_get hb, List.map_append, List.sum_append]; simp
          rw [drop_get hb] at hdb
          refine Wx_name ⟨rfl, ?_⟩
          refine Ws_seq (Ws_asg (We_call0 Ln.pure ?_))
          walk_at "wi"
          refine ⟨by omega, ?_⟩
          unfold tdD
          cases hq : Rw.dpl b (k + 1) with
          | some q =>
            refine Wg_tupA ⟨_, rfl, rfl, Wgs_cons (Wx_name ⟨rfl, Wgs_cons (Wx_name ⟨rfl, Wgs_nil ?_⟩)⟩)⟩
            have hq2 : Rw.dpl rs k = some (Rw.szl (rs.take i) + (1 + ((r.bl.take j).map Rw.szl).sum + q)) := by
              rw [hdp, drop_get hr2, Rw.dpl, hdb, dpb, hq]; rfl
            have hy := yes _ hq2
            rw [show Rw.szl (rs.take i) + (1 + ((r.bl.take j).map Rw.szl).sum + q) = Rw.szl (rs.take i) + (1 + ((r.bl.take j).map Rw.szl).sum) + q by omega] at hy
            walk_at "wj"
            exact hy
          | none =>
            refine Wg_tupA ⟨_, rfl, rfl, Wgs_cons (Wx_name ⟨rfl, Wgs_cons (Wx_name ⟨rfl, Wgs_nil ?_⟩)⟩)⟩
            walk_at "wj"
            refine ⟨En.da (.tuple (Rw.dl false b)), En.da (.bool false), En.da (.int (Rw.szl b : Nat)), ?_, ?_⟩
            · rw [show Rw.szl (rs.take i) + (1 + ((r.bl.take (j + 1)).map Rw.szl).sum) = Rw.szl (rs.take i) + (1 + ((r.bl.take j).map Rw.szl).sum) + Rw.szl b by rw [esum]; omega]
              rfl
            · rw [hdb, dpb, hq, esum]
              simp only [Option.map_none, Option.none_or]
              rw [Nat.add_assoc]
        · rintro g3 ρ3 ⟨y4, y5, y6, rfl, hdb⟩
          rw [show (blD false r).length = r.bl.length from List.length_map _, drop_all, show dpb [] (k + 1) (1 + ((r.bl.take r.bl.length).map Rw.szl).sum) = none from rfl] at hdb
          have hd2 := dpl_drop hr2 hdp hdb
          rw [show (blD false r).length = r.bl.length from List.length_map _, take_all]
          refine ⟨En.da (Rw.d false r), y4, y5, y6, ?_, ?_⟩
          · rw [take_get hr2, szl_snoc, sz_bl]
          · rw [hd2, take_get hr2, szl_snoc]
    · rintro g2 ρ2 ⟨y3, y4, y5, y6, rfl, hdp⟩
      rw [dl_len, drop_all, show Rw.dpl [] k = none from rfl] at hdp
      unfold tdD at hk
      rw [show Rw.dpl rs k = none from hdp] at hk
      rw [dl_len, take_all]
      walk_at "wj"
      exact hk
def RNe : List En → Unit → KD Unit → KX Unit → Prop := fun es _ k _ => ∃ (dn : Nat) (num : Int) (T : Ts), es = [En.da (.int (dn : Nat)), En.da (.int num), En.da T.d] ∧ T.Ok ∧ dn ≤ 100 ∧ ∀ rs : List Rw, (∀ tb, Rw.okl 1 tb rs) → Rw.depl rs = dn → Rw.szl rs ≤ 1 + 3 * dn → k (.tuple (Rw.dl false rs)) ()
abbrev s__law_nest : Stmt := top 69
abbrev N__law_nest : List Str := ["_law_deep", "_law_number", "_law_test_here", "_law_inner", "_law_k", "_law_way", "_law_beside"]
abbrev P__law_nest : List Str := ["_law_deep", "_law_number", "_law_test_here"]
theorem sc__law_nest : FnScope N__law_nest P__law_nest (defScope s__law_nest) := ⟨rfl, rfl, rfl, by decide +kernel, rfl, by decide +kernel, by decide +kernel⟩
-- slots: 0 _law_deep, 1 _law_number, 2 _law_test_here, 3 _law_inner, 4 _law_k, 5 _law_way, 6 _law_beside
theorem kp__law_nest (F : At K mg "_law_nest" s__law_nest) (N : Nb mg) : Keeps CX0 P w K mg base "_law_nest" 1 ["_law_deep", "_law_number", "_law_test_here"] (spX K Co.pure RNe) := by
  refine keeps_x F sc__law_nest (fun _ _ _ _ _ _ us hl => match us, hl with | [_, _, _], _ => rfl) (fun es g k x h => ?_) (fun fa cdv A outer s H E es g k x hr h => ?_)
  · obtain ⟨_, _, _, rfl, _⟩ := h; rfl
  · obtain ⟨dn, num, T, rfl, hT, hdn, hk⟩ := h
    refine ⟨_, (pss_cons (ps_set (i := 3) sc__law_nest.nd rfl (by walk_at "lv") (pe_ifExp (pt_cmpR (op_eqD hr.units) (pe_op op_mod (pe_callTy call_int1 (by rfl) N.int (by decide +kernel) (pa_cons (pv 1) pa_nil)) pe_int) pe_int (nomark _)) (pe_tup pa_nil) (pe_tup (pa_cons (pe_tup (pa_cons pe_str (pa_cons pe_int (pa_cons pe_int pa_nil)))) pa_nil))))
        (pss_cons (ps_for PassesOwn.never rfl (pi_range1 (by rfl) N.range (pa_cons (pv 0) pa_nil)) (pg_name (i := 4) sc__law_nest.nd rfl (by walk_at "lv")) (pss_cons (ps_set (i := 1) sc__law_nest.nd rfl (by walk_at "lv") (pe_op op_fdiv (pv 1) pe_int))
        (pss_cons (ps_set (i := 5) sc__law_nest.nd rfl (by walk_at "lv") (pe_op op_mod (pe_callTy call_int1 (by rfl) N.int (by decide +kernel) (pa_cons (pv 1) pa_nil)) pe_int))
        (pss_cons (ps_set (i := 6) sc__law_nest.nd rfl (by walk_at "lv") (pe_ifExp (pt_cmpR (op_eqD hr.units) (pe_op op_mod (pe_op op_fdiv (pe_callTy call_int1 (by rfl) N.int (by decide +kernel) (pa_cons (pv 1) pa_nil)) pe_int) pe_int) pe_int (nomark _)) (pe_tup (pa_cons (pe_tup (pa_cons pe_str pa_nil)) pa_nil)) (pe_tup pa_nil)))
        (pss_one (ps_if (pt_cmpR (op_eqD hr.units) (pv 5) pe_int (nomark _)) (pss_one (ps_set (i := 3) sc__law_nest.nd rfl (by walk_at "lv") (pe_tup (pa_cons (pe_tup (pa_cons pe_str (pa_cons pe_int (pa_cons (pv 2) (pa_cons (pv 3) pa_nil))))) pa_nil)))) (pss_one (ps_if (pt_cmpR (op_eqD hr.units) (pv 5) pe_int (nomark _)) (pss_one (ps_set (i := 3) sc__law_nest.nd rfl (by walk_at "lv") (pe_tup (pa_cons (pe_tup (pa_cons pe_str (pa_cons pe_int (pa_cons (pv 2) (pa_cons (pv 3) (pa_cons (pv 6) pa_nil)))))) (pa_cons (pe_tup (pa_cons pe_str (pa_cons pe_int (pa_cons pe_int pa_nil)))) pa_nil))))) (pss_one (ps_if (pt_cmpR (op_eqD hr.units) (pv 5) pe_int (nomark _)) (pss_one (ps_set (i := 3) sc__law_nest.nd rfl (by walk_at "lv") (pe_tup (pa_cons (pe_tup (pa_cons pe_str (pa_cons (pv 6) (pa_cons (pv 3) pa_nil)))) pa_nil)))) (pss_one (ps_set (i := 3) sc__law_nest.nd rfl (by walk_at "lv") (pe_tup (pa_cons (pe_tup (pa_cons pe_str (pa_cons pe_int (pa_cons pe_int pa_nil)))) (pa_cons (pe_tup (pa_cons pe_str (pa_cons pe_int (pa_cons (pv 2) (pa_cons (pv 6) (pa_cons (pv 3) pa_nil)))))) pa_nil)))))))))))))))
        (pss_one (ps_ret (pv 3))))), ?_⟩
    try dsimp only [cxOf, L2.Cx.wish]
    have cp : ∀ tb, Rw.ok 1 tb (.copy 0 0) := fun tb => by rw [Rw.ok]; exact ⟨⟨Int.le_refl _, by decide⟩, Int.le_refl _, by decide⟩
    refine Ws_seq (Wx_set (We.mono (k := fun d _ => ∃ rs : List Rw, d = .tuple (Rw.dl false rs) ∧ (∀ tb, Rw.okl 1 tb rs) ∧ Rw.depl rs = 0 ∧ Rw.szl rs ≤ 1) ?_ ?_))
    · walk_at "wi"
      refine ⟨fun h => ?_, fun h => ?_⟩
      · walk_at "wi"
        exact ⟨fun tb => trivial, rfl, Nat.zero_le _⟩
      · walk_at "wi"
        exact ⟨[.copy 0 0], rfl, fun tb => ⟨cp tb, trivial⟩, rfl, Nat.le_refl _⟩
    rintro _ _ ⟨rs0, rfl, h0, hd0, hs0⟩
    refine ⟨rfl, ?_⟩
    refine Ws_seq (Ws_for (Wi_rng1 ?_))
    walk_at "wi"
    refine ⟨by omega, by omega, fun i _ ρ => ∃ (num : Int) (rs : List Rw) (y4 y5 y6 : En), ρ = [En.da (.int (dn : Nat)), En.da (.int num), En.da T.d, En.da (.tuple (Rw.dl false rs)), y4, y5, y6] ∧ (∀ tb, Rw.okl 1 tb rs) ∧ Rw.depl rs = i ∧ Rw.szl rs ≤ 1 + 3 * i, ⟨num, rs0, _, _, _, rfl, h0, hd0, hs0⟩, ?_, ?_⟩
    · rintro i dd g2 ρ2 hd ⟨num, rs, y4, y5, y6, rfl, h1, h2, h3⟩
      refine Wx_name ⟨rfl, ?_⟩
      refine Ws_seq (Wx_set ?_)
      walk_at "wi"
      generalize num / 4 = num
      refine Ws_seq (Wx_set ?_)
      walk_at "wi"
      refine Ws_seq (Wx_set (We.mono (k := fun d _ => ∃ bs : List Rw, d = .tuple (Rw.dl false bs) ∧ (∀ tb, Rw.okl 1 tb bs) ∧ Rw.depl bs = 0 ∧ Rw.szl bs ≤ 1) ?_ ?_))
      · walk_at "wi"
        refine ⟨fun h => ?_, fun h => ?_⟩
        · walk_at "wi"
          exact ⟨[.stop], rfl, fun tb => ⟨by rw [Rw.ok]; trivial, trivial⟩, rfl, Nat.le_refl _⟩
        · walk_at "wi"
          exact ⟨fun tb => trivial, rfl, Nat.zero_le _⟩
      rintro _ _ ⟨bs, rfl, hb1, hb2, hb3⟩
      refine ⟨rfl, ?_⟩
      have v0 : (0 : Int) ≤ 0 ∧ (0 : Int) < 1 := ⟨Int.le_refl _, by decide⟩
      refine Ws_if ?_
      walk_at "wi"
      refine ⟨fun h => ?_, fun h => ?_⟩
      · refine Wx_set ?_
        walk_at "wi"
        exact ⟨num, [.whil 0 T rs], _, _, _, rfl, fun tb => ⟨by rw [Rw.ok]; exact ⟨v0, hT, h1 tb⟩, trivial⟩, by simp [Rw.depl, Rw.dep]; omega, by simp [Rw.szl, Rw.sz]; omega⟩
      refine Ws_if ?_
      walk_at "wi"
      refine ⟨fun h => ?_, fun h => ?_⟩
      · refine Wx_set ?_
        walk_at "wi"
        exact ⟨num, [.ite 0 T rs bs, .copy 0 0], _, _, _, rfl, fun tb => ⟨by rw [Rw.ok]; exact ⟨v0, hT, h1 tb, hb1 tb⟩, cp tb, trivial⟩, by simp [Rw.depl, Rw.dep]; omega, by simp [Rw.szl, Rw.sz]; omega⟩
      refine Ws_if ?_
      walk_at "wi"
      refine ⟨fun h => ?_, fun h => ?_⟩
      · refine Wx_set ?_
        walk_at "wi"
        exact ⟨num, [.eith bs rs], _, _, _, rfl, fun tb => ⟨by rw [Rw.ok]; exact ⟨hb1 tb, h1 tb⟩, trivial⟩, by simp [Rw.depl, Rw.dep]; omega, by simp [Rw.szl, Rw.sz]; omega⟩
      · refine Wx_set ?_
        walk_at "wi"
        exact ⟨num, [.copy 0 0, .ite 0 T bs rs], _, _, _, rfl, fun tb => ⟨cp tb, by rw [Rw.ok]; exact ⟨v0, hT, hb1 tb, h1 tb⟩, trivial⟩, by simp [Rw.depl, Rw.dep]; omega, by simp [Rw.szl, Rw.sz]; omega⟩
    · rintro g2 ρ2 ⟨num, rs, y4, y5, y6, rfl, h1, h2, h3⟩
      rw [List.length_map, List.length_range] at h2 h3
      walk_at "wj"
      exact hk rs h1 h2 h3
end
/-- a row's parts, the last k blocks made tight -/
def ptK (r : Rw) : Nat → List PyData
  | 0 => fldD true r
  | k + 1 => (ptK r k).set ((fldD true r).length - 1 - k) (.tuple (Rw.dl false (r.bl.getD (r.bl.length - 1 - k) [])))
theorem ptK_len (r : Rw) : ∀ k, (ptK r k).length = (fldD true r).length
  | 0 => rfl
  | k + 1 => by rw [ptK, List.length_set, ptK_len r k]
theorem ptK_at (r : Rw) {k : Nat} (h : k < r.bl.length) : ∃ b, r.bl[r.bl.length - 1 - k]? = some b ∧ (fldD true r)[(fldD true r).length - 1 - k]? = some (.list (Rw.dl true b)) ∧ k < (fldD true r).length ∧ ptK r (k + 1) = (ptK r k).set ((fldD true r).length - 1 - k) (.tuple (Rw.dl false b)) := by
  have hb := fld_bl true r
  cases r with
  | ite v t x y =>
    match k, h with
    | 0, _ => exact ⟨y, rfl, rfl, by omega, rfl⟩
    | 1, _ => exact ⟨x, rfl, rfl, by omega, rfl⟩
  | eith x y =>
    match k, h with
    | 0, _ => exact ⟨y, rfl, rfl, by omega, rfl⟩
    | 1, _ => exact ⟨x, rfl, rfl, by omega, rfl⟩
  | whil v t x =>
    match k, h with
    | 0, _ => exact ⟨x, rfl, rfl, by omega, rfl⟩
  | _ => exact absurd h (Nat.not_lt_zero _)
theorem ptK_all (r : Rw) (h : r.wd ≠ "call") : PyData.tuple (ptK r r.bl.length) = Rw.d false r := by
  cases r with
  | call f as v => exact absurd rfl h
  | _ => rfl
theorem le_sum_mem {a : Nat} : ∀ {l : List Nat}, a ∈ l → a ≤ l.sum
  | b :: l, h => by
    rw [List.sum_cons]; rcases List.mem_cons.mp h with rfl | h
    · omega
    · have := le_sum_mem h; omega
section
variable {P : Program} {w : World} {K : PySem.W.Frag} {mg : Str → Option Value} {base : Heap}
def RTi (n : Nat) : List En → Unit → KD Unit → KX Unit → Prop := fun es _ k _ => ∃ (rs : List Rw), es = [En.da (.list (Rw.dl true rs))] ∧ Rw.depl rs < n ∧ Rw.szl rs ≤ 1000 ∧ k (.tuple (Rw.dl false rs)) ()
abbrev s__law_tight : Stmt := top 66
abbrev N__law_tight : List Str := ["_law_rows", "_law_out", "_law_row", "_law_parts", "_law_k", "_law_at"]
abbrev P__law_tight : List Str := ["_law_rows"]
theorem sc__law_tight : FnScope N__law_tight P__law_tight (defScope s__law_tight) := ⟨rfl, rfl, rfl, by decide +kernel, rfl, by decide +kernel, by decide +kernel⟩
-- slots: 0 _law_rows, 1 _law_out, 2 _law_row, 3 _law_parts, 4 _law_k, 5 _law_at
theorem kp__law_tight (F : At K mg "_law_tight" s__law_tight) (N : Nb mg) (G__law_blocks : Keeps CX0 P w K mg base "_law_blocks" 1 ["_law_row"] (spX K Co.pure RBlk)) : ∀ n, Keeps CX0 P w K mg base "_law_tight" (n + 2) ["_law_rows"] (spX K Co.pure (RTi n)) := by
  intro n
  induction n with
  | zero => exact keeps_x F sc__law_tight (fun _ _ _ _ _ _ us hl => match us, hl with | [_], _ => rfl) (fun es g k x h => by obtain ⟨_, rfl, _⟩ := h; rfl) (fun fa cdv A outer s H E es g k x hr h => by obtain ⟨_, _, z, _⟩ := h; exact absurd z (Nat.not_lt_zero _))
  | succ n ih =>
    refine keeps_x F sc__law_tight (fun _ _ _ _ _ _ us hl => match us, hl with | [_], _ => rfl) (fun es g k x h => by obtain ⟨_, rfl, _⟩ := h; rfl) (fun fa cdv A outer s H E es g k x hr h => ?_)
    obtain ⟨rs, rfl, hn, hz, hk⟩ := h
    refine ⟨_, (pss_cons (ps_set (i := 1) sc__law_tight.nd rfl (by walk_at "lv") (pe_lst pa_nil))
        (pss_cons (ps_for PassesOwn.never rfl (pi_seqE (pv 0)) (pg_name (i := 2) sc__law_tight.nd rfl (by walk_at "lv")) (pss_cons (ps_set (i := 3) sc__law_tight.nd rfl (by walk_at "lv") (pe_callTy call_list_of (by rfl) N.list (by decide +kernel) (pa_cons (pv 2) pa_nil)))
        (pss_cons (ps_for PassesOwn.never rfl (pi_range1 (by rfl) N.range (pa_cons (pe_callB call_len (by rfl) N.len (by decide +kernel) (pa_cons (pe_k (G__law_blocks.up (by omega)) hr (by rfl) pass0 (pa_cons (pv 2) pa_nil)) pa_nil)) pa_nil)) (pg_name (i := 4) sc__law_tight.nd rfl (by walk_at "lv")) (pss_cons (ps_set (i := 5) sc__law_tight.nd rfl (by walk_at "lv") (pe_op op_sub (pe_op op_sub (pe_callB call_len (by rfl) N.len (by decide +kernel) (pa_cons (pv 2) pa_nil)) pe_int) (pv 4)))
        (pss_one (ps_asg (pe_k (ih.up (by omega)) hr (by rfl) pass0 (pa_cons (pe_ix ix_any (pv 2) (pv 5) (fun _ _ => rfl)) pa_nil)) (pg_sub (pv 3) (pv 5) set_list)))))
        (pss_cons (ps_if (pt_cmpR (op_eqD hr.units) (pe_ix ix_any (pv 2) pe_int (fun _ _ => rfl)) pe_str (nomark _)) (pss_one (ps_asg (pe_callTy call_tuple_of (by rfl) N.tuple (by decide +kernel) (pa_cons (pe_ix ix_any (pv 2) pe_int (fun _ _ => rfl)) pa_nil)) (pg_sub (pv 3) pe_int set_list))) pss_nil)
        (pss_one (ps_expr (pe_bm PySem.F.plainAttrs_list PySem.F.slot_list_append PySem.F.type_list_append mt_append (pv 1) (pa_cons (pe_callTy call_tuple_of (by rfl) N.tuple (by decide +kernel) (pa_cons (pv 3) pa_nil)) pa_nil))))))))
        (pss_one (ps_ret (pe_callTy call_tuple_of (by rfl) N.tuple (by decide +kernel) (pa_cons (pv 1) pa_nil)))))), ?_⟩
    try dsimp only [cxOf, L2.Cx.wish]
    refine Ws_seq (Wx_new (Wn_lst ?_))
    walk_at "wi"
    refine Ws_seq (Ws_for (Wi_seq ?_))
    walk_at "wi"
    refine ⟨fun i _ ρ => ∃ y2 y3 y4 y5 : En, ρ = [En.da (.list (Rw.dl true rs)), En.own (.list (Rw.dl false (rs.take i))), y2, y3, y4, y5], ⟨_, _, _, _, rfl⟩, ?_, ?_⟩
    · rintro i dd g2 ρ2 hd ⟨y2, y3, y4, y5, rfl⟩
      obtain ⟨r, hr2, rfl⟩ := dl_get hd
      have hmem := List.mem_of_getElem? hr2
      have hdr := dep_mem hmem
      have hil : i < rs.length := (List.getElem?_eq_some_iff.mp hr2).1
      have hsr := len_szl rs
      have hszi := szl_take_le rs (i + 1)
      rw [take_get hr2, szl_snoc] at hszi
      have hlen : (Rw.dl false (rs.take i)).length ≤ 60000 := by rw [dl_len, List.length_take]; omega
      obtain ⟨ds, e1, e2⟩ := rw_ix0 true r
      obtain rfl : ds = fldD true r := by rw [fldD_eq] at e1; exact (Option.some.inj e1).symm
      have sw := shp_wd r
      have hfl := lenD_fld true r
      have hfb := fld_bl true r
      have hb2 := bl_len r
      walk_at "wi"
      refine Ws_seq (Wx_new (Wn_cb rn_list ?_))
      walk_at "wi"
      refine Ws_seq (Ws_for (Wi_rng1 ?_))
      refine Wa_cons (We_cb rf_len (Wa_cons (We_call0 Ln.pure (Wa_cons (We_var rfl (Wa_nil ⟨true, r, rfl, ?_⟩))))))
      walk_at "wi"
      rw [show (blD true r).length = r.bl.length from List.length_map _]
      refine ⟨by omega, by omega, fun j _ ρ => ∃ y4 y5 : En, ρ = [En.da (.list (Rw.dl true rs)), En.own (.list (Rw.dl false (rs.take i))), En.da (Rw.d true r), En.own (.list (ptK r j)), y4, y5], ⟨_, _, rfl⟩, ?_, ?_⟩
      · rintro j dd g3 ρ3 hdd ⟨y4, y5, rfl⟩
        rw [List.getElem?_map] at hdd
        obtain ⟨j2, hj2, rfl⟩ := Option.map_eq_some_iff.mp hdd
        have hij : j2 = j ∧ j < r.bl.length := by
          obtain ⟨a, b⟩ := List.getElem?_eq_some_iff.mp hj2
          rw [List.length_range] at a
          rw [List.getElem_range] at b
          exact ⟨b.symm, by omega⟩
        obtain ⟨rfl, hlt⟩ := hij
        obtain ⟨b, hb, hix, hkl, hpt⟩ := ptK_at r hlt
        have hbm := List.mem_of_getElem? hb
        have hdb := dep_bl hbm
        have hbs : Rw.szl b ≤ r.sz := by
          rw [sz_bl]
          have : Rw.szl b ≤ (r.bl.map Rw.szl).sum := le_sum_mem (List.mem_map.mpr ⟨b, hbm, rfl⟩)
          omega
        refine Wx_name ⟨rfl, ?_⟩
        refine Ws_seq (Wx_set ?_)
        walk_at "wi"
        rw [show ((((fldD true r).length : Nat) : Int) - 1 - (j2 : Int)) = (((fldD true r).length - 1 - j2 : Nat) : Int) by omega]
        refine Ws_asg (We_call0 Ln.pure ?_)
        walk_at "wi"
        refine ⟨fldD true r, _, _, fldD_eq true r, rfl, atI_nat hix, ?_⟩
        walk_at "wi"
        refine ⟨by omega, by omega, Wg_put rfl (We_var rfl ⟨_, rfl, by rw [ptK_len]; omega, En.da (.int (j2 : Nat)), En.da (.int ((fldD true r).length - 1 - j2 : Nat)), ?_⟩)⟩
        rw [hpt]
        rfl
      · rintro g3 ρ3 ⟨y4, y5, rfl⟩
        rw [List.length_map, List.length_range, show ((r.bl.length : Nat) : Int).toNat = r.bl.length from rfl]
        refine Ws_seq (Ws_cutP (fun _ ρ1 => ∃ ps, PyData.tuple ps = Rw.d false r ∧ ρ1 = [En.da (.list (Rw.dl true rs)), En.own (.list (Rw.dl false (rs.take i))), En.da (Rw.d true r), En.own (.list ps), y4, y5]) ?_ ?_)
        · refine Ws_if ?_
          walk_at "wi"
          refine ⟨fldD true r, _, _, e1, rfl, e2, ?_⟩
          walk_at "wi"
          rw [eqv_wd]
          refine ⟨fun h => ?_, fun h => ?_⟩
          · have hc := of_decide_eq_true h
            cases r with
            | call f as v =>
              refine Ws_asg ?_
              walk_at "wi"
              refine Wg_put rfl (We_int ⟨2, rfl, by rw [ptK_len]; exact Nat.lt_of_lt_of_eq (by decide : 2 < 4) rfl, _, ?_, rfl⟩)
              rfl
            | _ => exact absurd hc (by simp only [Rw.wd]; decide +kernel)
          · exact Ws_next ⟨_, ptK_all r (of_decide_eq_false h), rfl⟩
        rintro g1 ρ1 ⟨ps, hps, rfl⟩
        refine Ws_freeze (i := 3) rfl ?_
        refine Ws_app rfl ?_
        walk_at "wi"
        rw [hps]
        refine ⟨En.da (Rw.d true r), En.da (.list ps), y4, y5, ?_⟩
        rw [take_get hr2, dl_app]
        rfl
    · rintro g2 ρ2 ⟨y2, y3, y4, y5, rfl⟩
      rw [dl_len, take_all]
      refine Ws_freeze (i := 1) rfl ?_
      walk_at "wj"
      exact hk
def RLi (n : Nat) : List En → Unit → KD Unit → KX Unit → Prop := fun es _ k _ => ∃ (rs : List Rw), es = [En.da (.tuple (Rw.dl false rs))] ∧ Rw.depl rs < n ∧ Rw.szl rs ≤ 1000 ∧ k (.list (Rw.dl false (Rw.fll rs))) ()
abbrev s__law_listed : Stmt := top 67
abbrev N__law_listed : List Str := ["_law_rows", "_law_out", "_law_row", "_law_block_here"]
abbrev P__law_listed : List Str := ["_law_rows"]
theorem sc__law_listed : FnScope N__law_listed P__law_listed (defScope s__law_listed) := ⟨rfl, rfl, rfl, by decide +kernel, rfl, by decide +kernel, by decide +kernel⟩
-- slots: 0 _law_rows, 1 _law_out, 2 _law_row, 3 _law_block_here
theorem kp__law_listed (F : At K mg "_law_listed" s__law_listed) (N : Nb mg) (G__law_blocks : Keeps CX0 P w K mg base "_law_blocks" 1 ["_law_row"] (spX K Co.pure RBlk)) : ∀ n, Keeps CX0 P w K mg base "_law_listed" (n + 2) ["_law_rows"] (spX K Co.pure (RLi n)) := by
  intro n
  induction n with
  | zero => exact keeps_x F sc__law_listed (fun _ _ _ _ _ _ us hl => match us, hl with | [_], _ => rfl) (fun es g k x h => by obtain ⟨_, rfl, _⟩ := h; rfl) (fun fa cdv A outer s H E es g k x hr h => by obtain ⟨_, _, z, _⟩ := h; exact absurd z (Nat.not_lt_zero _))
  | succ n ih =>
    refine keeps_x F sc__law_listed (fun _ _ _ _ _ _ us hl => match us, hl with | [_], _ => rfl) (fun es g k x h => by obtain ⟨_, rfl, _⟩ := h; rfl) (fun fa cdv A outer s H E es g k x hr h => ?_)
    obtain ⟨rs, rfl, hn, hz, hk⟩ := h
    refine ⟨_, (pss_cons (ps_set (i := 1) sc__law_listed.nd rfl (by walk_at "lv") (pe_lst pa_nil))
        (pss_cons (ps_for PassesOwn.never rfl (pi_seqE (pv 0)) (pg_name (i := 2) sc__law_listed.nd rfl (by walk_at "lv")) (pss_cons (ps_expr (pe_bm PySem.F.plainAttrs_list PySem.F.slot_list_append PySem.F.type_list_append mt_append (pv 1) (pa_cons (pv 2) pa_nil)))
        (pss_one (ps_for PassesOwn.never rfl (pi_seqE (pe_k (G__law_blocks.up (by omega)) hr (by rfl) pass0 (pa_cons (pv 2) pa_nil))) (pg_name (i := 3) sc__law_listed.nd rfl (by walk_at "lv")) (pss_one (ps_set (i := 1) sc__law_listed.nd rfl (by walk_at "lv") (pe_op op_cat (pv 1) (pe_k (ih.up (by omega)) hr (by rfl) pass0 (pa_cons (pv 3) pa_nil)))))))))
        (pss_one (ps_ret (pv 1))))), ?_⟩
    try dsimp only [cxOf, L2.Cx.wish]
    refine Ws_seq (Wx_new (Wn_lst ?_))
    walk_at "wi"
    refine Ws_seq (Ws_for (Wi_seq ?_))
    walk_at "wi"
    refine ⟨fun i _ ρ => ∃ y2 y3 : En, ρ = [En.da (.tuple (Rw.dl false rs)), En.own (.list (Rw.dl false (Rw.fll (rs.take i)))), y2, y3], ⟨_, _, rfl⟩, ?_, ?_⟩
    · rintro i dd g2 ρ2 hd ⟨y2, y3, rfl⟩
      obtain ⟨r, hr2, rfl⟩ := dl_get hd
      have hmem := List.mem_of_getElem? hr2
      have hdr := dep_mem hmem
      have hszi := szl_take_le rs (i + 1)
      rw [take_get hr2, szl_snoc, sz_bl] at hszi
      walk_at "wi"
      refine Ws_seq (Ws_app rfl (We_var rfl ⟨by rw [dl_len, fll_len]; omega, ?_⟩))
      refine Ws_for (Wi_seq (We_call0 Ln.pure (Wa_cons (We_var rfl (Wa_nil ⟨false, r, rfl, _, rfl, ?_⟩)))))
      refine ⟨fun j _ ρ => ∃ y3 : En, ρ = [En.da (.tuple (Rw.dl false rs)), En.own (.list (Rw.dl false (Rw.fll (rs.take i) ++ r :: ((r.bl.take j).map Rw.fll).flatten))), En.da (Rw.d false r), y3], ⟨y3, by rw [dl_app]; rfl⟩, ?_, ?_⟩
      · rintro j dd g3 ρ3 hdd ⟨y3, rfl⟩
        obtain ⟨b, hb, rfl⟩ := blD_get hdd
        have hbm := List.mem_of_getElem? hb
        have hdb := dep_bl hbm
        have hsum := sum_take (r.bl.map Rw.szl) (j + 1)
        rw [← List.map_take, take_get hb, List.map_append, List.sum_append] at hsum
        simp only [List.map_cons, List.map_nil, List.sum_cons, List.sum_nil] at hsum
        have hf : ((r.bl.take j).map Rw.fll).flatten.length = ((r.bl.take j).map Rw.szl).sum := by
          rw [List.length_flatten, List.map_map]
          congr 1
          exact List.map_congr_left fun b _ => fll_len b
        refine Wx_name ⟨rfl, ?_⟩
        refine Ws_freeze (i := 1) rfl ?_
        refine Wx_new (Wn_op rn_cat (We_var rfl (We_call0 Ln.pure (Wa_cons (We_var rfl (Wa_nil ⟨b, rfl, by omega, by omega, _, _, rfl, rfl, ?_, rfl, En.da (sq false (Rw.dl false b)), ?_⟩))))))
        · rw [dl_len, dl_len, List.length_append, List.length_cons, hf, fll_len, fll_len]; omega
        · rw [← dl_app, take_get hb, List.map_append, List.flatten_append]
          simp
      · rintro g3 ρ3 ⟨y3, rfl⟩
        refine ⟨En.da (Rw.d false r), y3, ?_⟩
        rw [show (blD false r).length = r.bl.length from List.length_map _, take_all, take_get hr2, fll_app]
        simp [Rw.fll, fl_bl]
    · rintro g2 ρ2 ⟨y2, y3, rfl⟩
      rw [dl_len, take_all]
      refine Ws_freeze (i := 1) rfl ?_
      walk_at "wj"
      exact hk
end
abbrev tbS (szs : List (Str × Int)) : List (Key × PyData) := szs.map fun s => (.inr s.1, .int s.2)
theorem lk_tbS {szs : List (Str × Int)} (nd : (szs.map (·.1)).Nodup) {s : Str × Int} (h : s ∈ szs) : lkM (tbS szs) (.inr s.1) = some (.int s.2) := by
  have e1 : tbS szs = tbD (szs.map fun s => (⟨s.1, s.2, []⟩ : Pr)) := by unfold tbD; rw [List.map_map]; rfl
  rw [e1]
  exact lk_tb_at (ps := szs.map fun s => (⟨s.1, s.2, []⟩ : Pr)) (p := ⟨s.1, s.2, []⟩) (by rw [List.map_map]; exact nd) (List.mem_map.mpr ⟨s, h, rfl⟩)
theorem dep_app {a b : List Rw} {d : Nat} (ha : Rw.depl a ≤ d) (hb : Rw.depl b ≤ d) : Rw.depl (a ++ b) ≤ d := by
  induction a with
  | nil => exact hb
  | cons x l ih => rw [Rw.depl] at ha; rw [List.cons_append, Rw.depl]; have := ih (by omega); omega
theorem szl_app2 (a b : List Rw) : Rw.szl (a ++ b) = Rw.szl a + Rw.szl b := by
  induction a with
  | nil => simp [Rw.szl]
  | cons x l ih => rw [List.cons_append, Rw.szl, Rw.szl, ih]; omega
/-- a procedure of a drawn program -/
structure PdOk (tb : List (Key × PyData)) (p : Pr) : Prop where
  nm : nmB p.f = true ∧ p.f.length ≤ 4
  n : 1 ≤ p.n ∧ p.n ≤ 3
  ok : Rw.okl p.n tb p.rs
  dep : Rw.depl p.rs ≤ 2
  sz : Rw.szl p.rs ≤ 14
theorem PdOk.tm {tb : List (Key × PyData)} {p p' : Pr} (h : PdOk tb p) (t : TmP tb p p') : PdOk tb p' := by
  obtain ⟨t1, t2, t3⟩ := t
  exact ⟨t1 ▸ h.nm, t2 ▸ h.n, t2 ▸ t3.ok, Nat.le_trans t3.dep h.dep, t3.sz ▸ h.sz⟩
theorem map_of_at {α β γ : Type} {f : α → γ} {g : β → γ} {xs : List α} {ys : List β} (hl : xs.length = ys.length) (h : ∀ (i : Nat) x y, xs[i]? = some x → ys[i]? = some y → f x = g y) : xs.map f = ys.map g := by
  apply List.ext_getElem?
  intro i
  rw [List.getElem?_map, List.getElem?_map]; by_cases hi : i < xs.length
  · rw [List.getElem?_eq_getElem hi, List.getElem?_eq_getElem (by omega : i < ys.length)]
    exact congrArg some (h i _ _ (List.getElem?_eq_getElem hi) (List.getElem?_eq_getElem (by omega)))
  · rw [List.getElem?_eq_none (by omega), List.getElem?_eq_none (by omega)]; rfl
theorem dl_app3 (s : Bool) (a b : List Rw) : Rw.dl s (a ++ b) = Rw.dl s a ++ Rw.dl s b := by
  rw [dl_map, dl_map, dl_map, List.map_append]
section
variable {P : Program} {w : World} {K : PySem.W.Frag} {mg : Str → Option Value} {base : Heap}
def RPg : List En → Unit → KD Unit → KX Unit → Prop := fun es _ k _ => ∃ (c : Int) (Ls : List Lt) (Tss : List Ts), es = [En.da (.int c), En.da (.list (Ls.map Lt.d)), En.da (.list (Tss.map Ts.d)), En.da (.int 4), En.da (.int 3), En.da (.int 14)] ∧ Ls ≠ [] ∧ (∀ L ∈ Ls, L.Ok) ∧ (∀ T ∈ Tss, T.Ok) ∧ ∀ ps : List Pr, 1 ≤ ps.length → ps.length ≤ 4 → (ps.map Pr.f).Nodup → (∀ p ∈ ps, PdOk (tbD ps) p) → k (.list (ps.map (Pr.dd true true))) ()
abbrev s__law_program : Stmt := top 65
abbrev N__law_program : List Str := ["_law_cell_here", "_law_letters", "_law_tests", "_law_most", "_law_many", "_law_most_rows", "_law_ds", "_law_names_here", "_law_sizes", "_law_pos", "_law_out", "_law_name", "_law_mine", "_law_room", "_law_rows", "_law_k"]
abbrev P__law_program : List Str := ["_law_cell_here", "_law_letters", "_law_tests", "_law_most", "_law_many", "_law_most_rows"]
theorem sc__law_program : FnScope N__law_program P__law_program (defScope s__law_program) := ⟨rfl, rfl, rfl, by decide +kernel, rfl, by decide +kernel, by decide +kernel⟩
-- slots: 0 _law_cell_here, 1 _law_letters, 2 _law_tests, 3 _law_most, 4 _law_many, 5 _law_most_rows, 6 _law_ds, 7 _law_names_here, 8 _law_sizes, 9 _law_pos, 10 _law_out, 11 _law_name, 12 _law_mine, 13 _law_room, 14 _law_rows, 15 _law_k
theorem kp__law_program (F : At K mg "_law_program" s__law_program) (N : Nb mg) (G__law_digits : Keeps CX0 P w K mg base "_law_digits" 1 ["_law_cell_here", "_law_many"] (spX K Co.pure RDg)) (G__law_names : Keeps CX0 P w K mg base "_law_names" 1 ["_law_ds", "_law_at", "_law_many"] (spX K Co.pure RNames)) (G__law_next : Keeps CX0 P w K mg base "_law_next" 1 ["_law_ds", "_law_pos"] (spY K (CB K) RNext)) (G__law_block : Keeps CX0 P w K mg base "_law_block" 5 ["_law_ds", "_law_pos", "_law_room", "_law_deep", "_law_mine", "_law_sizes", "_law_letters", "_law_tests"] (spY K (C2 K) (RLb 3))) (G__law_tame : Keeps CX0 P w K mg base "_law_tame" 6 ["_law_program_here", "_law_most"] (spX K Co.pure (RTm 3))) : Keeps CX0 P w K mg base "_law_program" 7 ["_law_cell_here", "_law_letters", "_law_tests", "_law_most", "_law_many", "_law_most_rows"] (spX K Co.pure RPg) := by
  refine keeps_x F sc__law_program (fun _ _ _ _ _ _ us hl => match us, hl with | [_, _, _, _, _, _], _ => rfl) (fun es g k x h => ?_) (fun fa cdv A outer s H E es g k x hr h => ?_)
  · obtain ⟨_, _, _, rfl, _⟩ := h; rfl
  · obtain ⟨c, Ls, Tss, rfl, hL0, hL, hT, hk⟩ := h
    refine ⟨_, (pss_cons (ps_set (i := 6) sc__law_program.nd rfl (by walk_at "lv") (pe_k (G__law_digits.up (by omega)) hr (by rfl) pass0 (pa_cons (pv 0) (pa_cons pe_int pa_nil))))
        (pss_cons (ps_set (i := 7) sc__law_program.nd rfl (by walk_at "lv") (pe_k (G__law_names.up (by omega)) hr (by rfl) pass0 (pa_cons (pv 6) (pa_cons pe_int (pa_cons (pe_op op_add pe_int (pe_op op_mod (pe_callTy call_int1 (by rfl) N.int (by decide +kernel) (pa_cons (pe_ix ix_any (pv 6) pe_int (fun _ _ => rfl)) pa_nil)) (pv 3))) pa_nil)))))
        (pss_cons (ps_setLc (i := 8) (own := [("_law_k", 15)]) (g := gName 15) (tt := tYes) rfl sc__law_program.nd rfl rfl (sw_true rfl rfl rfl (by decide +kernel)) (pi_range1 (by rfl) N.range (pa_cons (pe_callB call_len (by rfl) N.len (by decide +kernel) (pa_cons (pv 7) pa_nil)) pa_nil)) (blkOk_by (N := N__law_program) (sc := defScope s__law_program) (by decide +kernel)) (fun _ _ _ _ _ => (pg_name (i := 15) sc__law_program.nd rfl (by walk_at "lv"))) (fun _ _ _ _ _ => pts_nil) (fun _ _ _ _ _ => (pe_tup (pa_cons (pe_ix (r := rIxA K) ix_any (pv 7) (pv 15) (fun _ _ => rfl)) (pa_cons (pe_op op_add pe_int (pe_op op_mod (pe_callTy call_int1 (by rfl) N.int (by decide +kernel) (pa_cons (pe_ix (r := rIxA K) ix_any (pv 6) (pe_op op_add pe_int (pv 15)) (fun _ _ => rfl)) pa_nil)) (pv 4))) pa_nil)))))
        (pss_cons (ps_set (i := 9) sc__law_program.nd rfl (by walk_at "lv") (pe_lst (pa_cons pe_int pa_nil)))
        (pss_cons (ps_set (i := 10) sc__law_program.nd rfl (by walk_at "lv") (pe_lst pa_nil))
        (pss_cons (ps_for PassesOwn.never rfl (pi_seqE (pv 8)) (pg_tupA (by rfl) (pgs_cons (pg_name (i := 11) sc__law_program.nd rfl (by walk_at "lv")) (pgs_cons (pg_name (i := 12) sc__law_program.nd rfl (by walk_at "lv")) pgs_nil))) (pss_cons (ps_set (i := 13) sc__law_program.nd rfl (by walk_at "lv") (pe_lst (pa_cons (pe_op op_add pe_int (pe_op op_mod (pe_k (G__law_next.up (by omega)) hr (by rfl) pass0 (pa_cons (pv 6) (pa_cons (pv 9) pa_nil))) (pe_op op_sub (pv 5) pe_int))) pa_nil)))
        (pss_cons (ps_set (i := 14) sc__law_program.nd rfl (by walk_at "lv") (pe_k (G__law_block.up (by omega)) hr (by rfl) pass0 (pa_cons (pv 6) (pa_cons (pv 9) (pa_cons (pv 13) (pa_cons pe_int (pa_cons (pv 12) (pa_cons (pv 8) (pa_cons (pv 1) (pa_cons (pv 2) pa_nil))))))))))
        (pss_cons (ps_set (i := 14) sc__law_program.nd rfl (by walk_at "lv") (pe_op op_cat (pv 14) (pe_k (G__law_block.up (by omega)) hr (by rfl) pass0 (pa_cons (pv 6) (pa_cons (pv 9) (pa_cons (pv 13) (pa_cons pe_int (pa_cons (pv 12) (pa_cons (pv 8) (pa_cons (pv 1) (pa_cons (pv 2) pa_nil)))))))))))
        (pss_one (ps_expr (pe_bm PySem.F.plainAttrs_list PySem.F.slot_list_append PySem.F.type_list_append mt_append (pv 10) (pa_cons (pe_tup (pa_cons (pv 11) (pa_cons (pv 12) (pa_cons (pv 14) pa_nil)))) pa_nil))))))))
        (pss_one (ps_ret (pe_k (G__law_tame.up (by omega)) hr (by rfl) pass0 (pa_cons (pv 10) (pa_cons pe_int pa_nil))))))))))), ?_⟩
    try dsimp only [cxOf, L2.Cx.wish]
    refine Ws_seq (Wx_set ?_)
    walk_at "wi"
    refine fun ds hds hdg => ⟨rfl, ?_⟩
    have hd0 : ds ≠ [] := by rintro rfl; cases hds
    obtain ⟨d0, ed0, hd00, _⟩ := dg_at hdg 0 (by rw [hds]; decide)
    have ed0 : atI (ds.map PyData.int) 0 = some (.int d0) := ed0
    obtain ⟨kn, ekn, hkn1, hkn4⟩ : ∃ kn : Nat, 1 + d0 % 4 = (kn : Int) ∧ 1 ≤ kn ∧ kn ≤ 4 := ⟨(1 + d0 % 4).toNat, by have := Int.emod_nonneg d0 (by decide : (4 : Int) ≠ 0); omega, by have := Int.emod_nonneg d0 (by decide : (4 : Int) ≠ 0); omega, by have := Int.emod_lt_of_pos d0 (by decide : (0 : Int) < 4); omega⟩
    refine Ws_seq (Wx_set ?_)
    walk_at "wi"
    refine ⟨_, _, _, rfl, rfl, ed0, ?_⟩
    walk_at "wi"
    rw [ekn]
    refine ⟨ds, kn, rfl, hds, hdg, hkn4, fun nms hn => ⟨rfl, ?_⟩⟩
    obtain ⟨hnl, hnd, _⟩ := id hn
    have hnm := hn.nm hkn4
    refine Ws_seq (Wx_new (Wn_lc (GIn.name (by decide)) (Wi_rng1 ?_)))
    walk_at "wi"
    rw [List.length_map, hnl]
    refine ⟨by omega, by omega, by rw [List.length_map, List.length_range]; omega, fun i acc _ => ∃ szs : List (Str × Int), acc = szs.map szD ∧ szs.map (·.1) = nms.take i ∧ ∀ s ∈ szs, 1 ≤ s.2 ∧ s.2 ≤ 3, ⟨[], rfl, by simp, fun s h => by cases h⟩, ?_, ?_⟩
    · rintro i dd acc g2 hd ⟨szs, rfl, hs1, hs2⟩
      rw [List.getElem?_map] at hd
      obtain ⟨j, hj, rfl⟩ := Option.map_eq_some_iff.mp hd
      have hij : j = i ∧ i < kn := by
        obtain ⟨a, b⟩ := List.getElem?_eq_some_iff.mp hj
        rw [List.length_range] at a
        rw [List.getElem_range] at b
        exact ⟨b.symm, by omega⟩
      obtain ⟨rfl, hlt⟩ := hij
      obtain ⟨nm, en⟩ : ∃ nm, nms[j]? = some nm := ⟨_, List.getElem?_eq_getElem (by omega)⟩
      have ean : atI (nms.map PyData.str) (j : Int) = some (.str nm) := atI_nat (by rw [List.getElem?_map, en]; rfl)
      obtain ⟨dj, edj, hdj0, _⟩ := dg_at hdg (1 + j) (by rw [hds]; exact Nat.lt_of_le_of_lt (by omega : 1 + j ≤ 4) (by decide))
      have edj : atI (ds.map PyData.int) (1 + (j : Int)) = some (.int dj) := by rw [← edj]; congr 1
      have m0 : 0 ≤ dj % 3 := Int.emod_nonneg dj (by decide)
      have m1 : dj % 3 < 3 := Int.emod_lt_of_pos dj (by decide)
      refine Wx_name ⟨rfl, Wt_yes ⟨fun _ => ?_, fun z => nomatch z⟩⟩
      walk_at "wi"
      refine ⟨_, _, _, rfl, rfl, ean, ?_⟩
      walk_at "wi"
      refine ⟨_, _, _, rfl, rfl, edj, ?_⟩
      walk_at "wi"
      refine ⟨szs ++ [(nm, 1 + dj % 3)], ?_, ?_, fun s hs => ?_⟩
      · rw [List.map_append]; rfl
      · rw [List.map_append, hs1, take_get en]; rfl
      · rcases List.mem_append.mp hs with hs | hs
        · exact hs2 s hs
        · rw [List.mem_singleton.mp hs]; exact ⟨by show 1 ≤ 1 + dj % 3; omega, by show 1 + dj % 3 ≤ 3; omega⟩
    · rintro acc g2 ⟨szs, rfl, hs1, hs2⟩
      rw [List.length_map, List.length_range] at hs1
      have hs1 : szs.map (·.1) = nms := by rw [hs1, List.take_of_length_le (by omega)]
      have hsl : szs.length = kn := by rw [← hnl, ← hs1, List.length_map]
      have hsd : (szs.map (·.1)).Nodup := by rw [hs1]; exact hnd
      have hbk : ∀ m : Int, 0 < m → BkOk m (tbS szs) ds szs Ls Tss := fun m hm => ⟨hm, hd0, hdg, by intro z; rw [z] at hsl; simp at hsl; omega, fun s hs => ⟨(hnm s.1 (hs1 ▸ List.mem_map.mpr ⟨s, hs, rfl⟩)).1, ⟨(hs2 s hs).1, by have := (hs2 s hs).2; omega⟩, lk_tbS hsd hs⟩, hL0, hL, hT⟩
      refine ⟨rfl, ?_⟩
      refine Ws_freeze (i := 8) rfl ?_
      refine Ws_seq (Wx_new (Wn_lst ?_))
      walk_at "wi"
      refine Ws_seq (Wx_new (Wn_lst ?_))
      walk_at "wi"
      refine Ws_seq (Ws_for (Wi_seq ?_))
      walk_at "wi"
      refine ⟨fun i _ ρ => ∃ (q : Int) (ps : List Pr) (y11 y12 y13 y14 y15 : En), ρ = [En.da (.int c), En.da (.list (Ls.map Lt.d)), En.da (.list (Tss.map Ts.d)), En.da (.int 4), En.da (.int 3), En.da (.int 14), En.da (.list (ds.map .int)), En.da (.list (nms.map .str)), En.da (.list (szs.map szD)), En.own (.list [.int q]), En.own (.list (ps.map (Pr.dd true true))), y11, y12, y13, y14, y15] ∧ (ps.map fun p => (p.f, p.n)) = szs.take i ∧ ∀ p ∈ ps, PdOk (tbS szs) p, ⟨20, [], _, _, _, _, _, rfl, by simp, fun p h => by cases h⟩, ?_, ?_⟩
      · rintro i dd g2 ρ2 hd ⟨q, ps, y11, y12, y13, y14, y15, rfl, hp1, hp2⟩
        rw [List.getElem?_map] at hd
        obtain ⟨sz, hsz, rfl⟩ := Option.map_eq_some_iff.mp hd
        have hsm := List.mem_of_getElem? hsz
        have hm1 := hs2 sz hsm
        have hpl : ps.length ≤ i := by have := congrArg List.length hp1; rw [List.length_map, List.length_take] at this; omega
        have hil : i < szs.length := (List.getElem?_eq_some_iff.mp hsz).1
        refine Wg_tupA ⟨_, rfl, rfl, Wgs_cons (Wx_name ⟨rfl, Wgs_cons (Wx_name ⟨rfl, Wgs_nil ?_⟩)⟩)⟩
        refine Ws_seq (Ws_lend (i := 9) rfl fun o => Wx_new (Wn_lst ?_))
        walk_at "wi"
        refine We_callY0 o (Ln.box Ln.pure) (Wa_cons (We_var rfl (Wa_raw rfl (Wa_nil ⟨ds, q, rfl, rfl, hd0, hdg, fun d1 q1 hd10 hd11 => ?_⟩))))
        walk_at "wi"
        have r0 : 0 ≤ d1 % 12 := Int.emod_nonneg d1 (by decide)
        have r1 : d1 % 12 < 12 := Int.emod_lt_of_pos d1 (by decide)
        obtain ⟨rm, erm, hrm⟩ : ∃ rm : Nat, 3 + d1 % (14 - 2) = (rm : Int) ∧ rm ≤ 14 := ⟨(3 + d1 % 12).toNat, by show 3 + d1 % 12 = _; omega, by omega⟩
        rw [erm]
        show Ws _ _ () [En.da (.int c), En.da (.list (Ls.map Lt.d)), En.da (.list (Tss.map Ts.d)), En.da (.int 4), En.da (.int 3), En.da (.int 14), En.da (.list (ds.map .int)), En.da (.list (nms.map .str)), En.da (.list (szs.map szD)), En.own (.list [.int q1]), En.own (.list (ps.map (Pr.dd true true))), En.da (.str sz.1), En.da (.int sz.2), En.own (.list [.int (rm : Nat)]), y14, y15] _
        refine Ws_seq (Ws_lend (i := 9) rfl fun o1 => Ws_lend (i := 13) rfl fun o2 => Wx_set ?_)
        refine We_callY0 (o1, o2) Ln.id (Wa_cons (We_var rfl (Wa_raw rfl (Wa_raw rfl (Wa_cons (We_int (Wa_cons (We_var rfl (Wa_cons (We_var rfl (Wa_cons (We_var rfl (Wa_cons (We_var rfl (Wa_nil ⟨ds, q1, rm, 2, sz.2, szs, Ls, Tss, tbS szs, rfl, rfl, hbk _ (by omega), by omega, by omega, fun rs1 rm1 q2 hz1 hok1 hdp1 => ?_⟩)))))))))))))))
        refine ⟨rfl, rfl, rfl, ?_⟩
        show Ws _ _ () [En.da (.int c), En.da (.list (Ls.map Lt.d)), En.da (.list (Tss.map Ts.d)), En.da (.int 4), En.da (.int 3), En.da (.int 14), En.da (.list (ds.map .int)), En.da (.list (nms.map .str)), En.da (.list (szs.map szD)), En.own (.list [.int q2]), En.own (.list (ps.map (Pr.dd true true))), En.da (.str sz.1), En.da (.int sz.2), En.own (.list [.int (rm1 : Nat)]), En.da (.list (Rw.dl true rs1)), y15] _
        refine Ws_seq (Ws_lend (i := 9) rfl fun o1 => Ws_lend (i := 13) rfl fun o2 => Wx_new (Wn_op rn_cat (We_var rfl ?_)))
        refine We_callY0 (o1, o2) Ln.id (Wa_cons (We_var rfl (Wa_raw rfl (Wa_raw rfl (Wa_cons (We_int (Wa_cons (We_var rfl (Wa_cons (We_var rfl (Wa_cons (We_var rfl (Wa_cons (We_var rfl (Wa_nil ⟨ds, q2, rm1, 2, sz.2, szs, Ls, Tss, tbS szs, rfl, rfl, hbk _ (by omega), by omega, by omega, fun rs2 rm2 q3 hz2 hok2 hdp2 => ?_⟩)))))))))))))))
        have hl1 := len_szl rs1
        have hl2 := len_szl rs2
        refine ⟨_, _, rfl, rfl, by rw [dl_len, dl_len]; omega, rfl, rfl, rfl, ?_⟩
        rw [← dl_app3]
        refine Ws_freeze (i := 14) rfl ?_
        refine Ws_app rfl ?_
        walk_at "wi"
        refine ⟨by rw [List.length_map]; omega, q3, ps ++ [⟨sz.1, sz.2, rs1 ++ rs2⟩], En.da (.str sz.1), En.da (.int sz.2), En.own (.list [.int (rm2 : Nat)]), En.da (.list (Rw.dl true (rs1 ++ rs2))), y15, ?_, ?_, fun p hp => ?_⟩
        · rw [List.map_append]; rfl
        · rw [List.map_append, hp1, take_get hsz]; rfl
        · rcases (List.mem_append.mp hp) with hp | hp
          · exact hp2 p hp
          · (rw [List.mem_singleton.mp hp])
            exact ⟨hnm sz.1 (hs1 ▸ List.mem_map.mpr ⟨sz, hsm, rfl⟩), hm1, okl_of fun x hx => (List.mem_append.mp hx).elim (fun z => okl_mem hok1 z) fun z => okl_mem hok2 z, dep_app hdp1 hdp2, by show Rw.szl (rs1 ++ rs2) ≤ 14; rw [szl_app2]; omega⟩
      · rintro g2 ρ2 ⟨q, ps, y11, y12, y13, y14, y15, rfl, hp1, hp2⟩
        rw [List.length_map, List.take_length] at hp1
        have etb : tbD ps = tbS szs := by rw [← hp1]; unfold tbD tbS; rw [List.map_map]; rfl
        have hpl : ps.length = kn := by rw [← hsl, ← hp1, List.length_map]
        have hpf : ps.map Pr.f = szs.map (·.1) := by rw [← hp1, List.map_map]; rfl
        refine Ws_freeze (i := 10) rfl ?_
        refine Ws_ret (We_call0 Ln.pure (Wa_cons (We_var rfl (Wa_cons (We_int (Wa_nil ⟨ps, 4, tbS szs, rfl, fun p hp => ?_, by omega, fun ps' hl ht => ?_⟩))))))
        · have h := hp2 p hp
          exact ⟨by have := h.dep; omega, h.ok, by have := h.sz; omega⟩
        · have efn : (ps'.map fun p => (p.f, p.n)) = ps.map fun p => (p.f, p.n) := map_of_at hl fun i x y hx hy => by obtain ⟨a, b, _⟩ := ht i y x hy hx; rw [a, b]
          have etb' : tbD ps' = tbS szs := by rw [← hp1, ← efn]; unfold tbD tbS; rw [List.map_map]; rfl
          have hpf' : ps'.map Pr.f = szs.map (·.1) := by rw [← hp1, ← efn, List.map_map]; rfl
          refine hk ps' (by omega) (by omega) (by rw [hpf']; exact hsd) fun p' hp' => ?_
          rw [etb']
          obtain ⟨i, hi, rfl⟩ := List.getElem_of_mem hp'
          exact (hp2 ps[i] (List.getElem_mem _)).tm (ht i _ _ (List.getElem?_eq_getElem (by omega)) (List.getElem?_eq_getElem hi))
end
theorem passE {P : Program} {w : World} {X : L2.Cx} : Passes (CX P w) X E0 := fun _ _ _ _ _ _ _ c => by
  obtain ⟨_, _, _, _, _, _, _, _, _, _, _, _, z⟩ := c
  exact z.elim
theorem eqv_kyAll : ∀ a b : List Key, PyData.eqvAll (a.map keyD) (b.map keyD) = decide (a = b)
  | [], [] => by simp [PyData.eqvAll]
  | [], _ :: _ => by simp [PyData.eqvAll]
  | _ :: _, [] => by simp [PyData.eqvAll]
  | x :: a, y :: b => by
    rw [List.map_cons, List.map_cons, PyData.eqvAll, eqv_kyAll a b]
    have h : PyData.eqv (keyD x) (keyD y) = decide (x = y) := by
      cases x with
      | inl m => cases y with
        | inl n => exact eqv_int.trans (by simp)
        | inr n => simp [keyD, PyData.eqv]
      | inr m => cases y with
        | inl n => simp [keyD, PyData.eqv]
        | inr n => exact eqv_str.trans (by simp)
    rw [h, Bool.eq_iff_iff]
    simp
theorem eqv_ky (a b : List Key) : PyData.eqv (kyD a) (kyD b) = decide (a = b) := by
  unfold kyD
  rw [PyData.eqv, eqv_kyAll]
theorem any_ky (us : List (List Key)) (k : List Key) : ((us.map kyD).any fun z => PyData.eqv z (kyD k)) = us.any fun x => decide (x = k) := by
  rw [List.any_map]
  congr 1
  funext x
  exact eqv_ky x k
theorem ShpEq {d : PyData} (h : SeqAt.shaped d = true) : PyData.eqv d d = true := SeqAt.eqv_refl d (SeqAt.canLay_of_shaped h)
theorem find_nm {ps : List Pr} {p : Pr} {i : Nat} (nd : (ps.map Pr.f).Nodup) (h : ps[i]? = some p) : ps.find? (isNm (.str p.f)) = some p := by
  refine find_at h ?_ ?_
  · rw [List.find?_eq_none]
    intro q hq z
    exact nodup_take nd h q hq (of_decide_eq_true (eqv_str ▸ z))
  · show PyData.eqv (.str p.f) (.str p.f) = true
    rw [eqv_str]; exact decide_eq_true rfl
section
variable {γ : Type} {B : Bd γ} {te : TE} {g : γ} {ρ : List En} {k : KD γ}
/-- _law_hand(script) -/
theorem Wn_hand (h : We B te g ρ fun d g1 => ∃ ns : List Int, d = .list (ns.map .int) ∧ ns.length ≤ 63 ∧ ∀ hd, HandD hd → k hd g1) : Wn B (tCall (spHand B.K) [] E0 (tCons te tNil)) g ρ k := fun S H0 σ H Q s x q =>
  h S H0 σ H _ s x fun y H1 d g1 f I dy ⟨ns, e, hl, hk⟩ => by
    subst e
    obtain ⟨a, xs, rfl, ea, na, dl⟩ := dy.lst_inv
    obtain rfl := dl.int_inv
    have s1 := s.step f I
    refine ⟨a, ns, rfl, SqL.of ea, hl, fun p c H2 hp hc hh sm => ?_⟩
    have nc : ¬ ((SS S σ ρ).add p) c := fun z => z.elim (fun z => s1.olds.not hc z) fun z => by
      subst z
      obtain ⟨cs, at_, rest, total, e1, e2, _⟩ := hh
      rw [e1] at e2
      injection e2 with e2
      injection e2 with e2
      cases cs with
      | nil => cases e2
      | cons c0 cs => injection e2 with e2; cases e2
    obtain ⟨hd, hhd, ho⟩ := at_hand (K := B.K) (S := (SS S σ ρ).add p) hh nc
    exact q p H2 hd g1 (f.gone (B.C.old _ _ _ I) hp) (f.trans (Frm.of sm)) (B.C.same (fun b m => .inl (s.subs b m)) (add_old hp I) sm) ho (by obtain ⟨_, _, _, _, rfl, _⟩ := hhd; exact nt_l) (hk hd hhd)
/-- d[i:] of a list -/
theorem We_slL {r : V → Option Int → Option Int → Hp → VK → Prop} {i : Int} (hr : r = rSlL B.K) (h : We B te g ρ fun d g1 => ∃ ds, d = .list ds ∧ k (.list (cutD ds (some i) none)) g1) : We B (tSl r te (tPart (tC (.int i))) tNoPart) g ρ k := fun S H0 σ H Q s x q => by
  subst hr
  refine h S H0 σ H _ s x fun y1 H1 d g1 f1 I1 d1 ⟨ds, e1, hk⟩ => ?_
  subst e1
  obtain ⟨a, xs, rfl, ea, na, dl⟩ := d1.lst_inv
  refine ⟨i, rfl, a, xs, rfl, SqL.of ea, fun p hp => ?_⟩
  have sm := same_new (o := .lst (cutV xs (some i) none)) (Same.refl H1) hp
  have np : ¬ SS S σ ρ p := fun z => (s.step f1 I1).olds.not hp z
  exact q _ _ _ g1 (f1.trans (Frm.of sm)) (B.C.same s.subs I1 sm) (.ref (.lst upd_same (dal_cut ((dl.same sm)))) np) hk
end
mutual
theorem fl_ok {m : Int} {tb : List (Key × PyData)} : ∀ (r : Rw), r.ok m tb → ∀ q ∈ r.fl, q.ok m tb ∧ q.dep ≤ r.dep
  | .ite v t b c, h, q, hq => by
    have h0 := h
    rw [Rw.ok] at h
    rw [Rw.fl] at hq
    rcases (List.mem_cons.mp hq) with rfl | hq
    · exact ⟨h0, Nat.le_refl _⟩
    rw [Rw.dep]
    rcases (List.mem_append.mp hq) with hq | hq
    · have := fll_ok b h.2.2.1 q hq; exact ⟨this.1, by omega⟩
    · have := fll_ok c h.2.2.2 q hq; exact ⟨this.1, by omega⟩
  | .eith b c, h, q, hq => by
    have h0 := h
    rw [Rw.ok] at h
    rw [Rw.fl] at hq
    rcases (List.mem_cons.mp hq) with rfl | hq
    · exact ⟨h0, Nat.le_refl _⟩
    rw [Rw.dep]
    rcases (List.mem_append.mp hq) with hq | hq
    · have := fll_ok b h.1 q hq; exact ⟨this.1, by omega⟩
    · have := fll_ok c h.2 q hq; exact ⟨this.1, by omega⟩
  | .whil v t b, h, q, hq => by
    have h0 := h
    rw [Rw.ok] at h
    rw [Rw.fl] at hq
    rcases (List.mem_cons.mp hq) with rfl | hq
    · exact ⟨h0, Nat.le_refl _⟩
    rw [Rw.dep]
    have := fll_ok b h.2.2 q hq
    exact ⟨this.1, by omega⟩
  | .deed _ _, h, q, hq => by rw [List.mem_singleton.mp hq]; exact ⟨h, Nat.le_refl _⟩
  | .copy _ _, h, q, hq => by rw [List.mem_singleton.mp hq]; exact ⟨h, Nat.le_refl _⟩
  | .need _ _, h, q, hq => by rw [List.mem_singleton.mp hq]; exact ⟨h, Nat.le_refl _⟩
  | .call _ _ _, h, q, hq => by rw [List.mem_singleton.mp hq]; exact ⟨h, Nat.le_refl _⟩
  | .stop, h, q, hq => by rw [List.mem_singleton.mp hq]; exact ⟨h, Nat.le_refl _⟩
theorem fll_ok {m : Int} {tb : List (Key × PyData)} : ∀ (rs : List Rw), Rw.okl m tb rs → ∀ q ∈ Rw.fll rs, q.ok m tb ∧ q.dep ≤ Rw.depl rs
  | [], _, q, hq => by cases hq
  | r :: rs, h, q, hq => by
    rw [Rw.okl] at h
    rw [Rw.fll] at hq
    rw [Rw.depl]
    rcases (List.mem_append.mp hq) with hq | hq
    · have := fl_ok r h.1 q hq; exact ⟨this.1, by omega⟩
    · have := fll_ok rs h.2 q hq; exact ⟨this.1, by omega⟩
end
theorem wy_small {n : Nat} {a : PyData} {p : Nat} (h : Small n a) : Small (n + 1) (wyD a p) := small_tup fun d hd => by
  simp only [List.mem_cons, List.not_mem_nil, or_false] at hd
  rcases hd with rfl | rfl
  · exact h
  · exact small_int.mono (by omega)
theorem wd_small {z : Str} (h : Small 0 (.str z)) {v : Int} {t : Ts} : Small 2 (.tuple [.str z, .int v, t.d]) := small_tup fun d hd => by
  simp only [List.mem_cons, List.not_mem_nil, or_false] at hd
  rcases hd with rfl | rfl | rfl
  · exact h.mono (by omega)
  · exact small_int.mono (by omega)
  · exact small_ts t
theorem lit_small (z : Str) (h : (PyData.str z).canLay0 = true) (h2 : Nat.ble (PyData.str z).depth 0 = true) : Small 0 (.str z) := ⟨h, Nat.le_of_ble_eq_true h2⟩
theorem so_small {v : Int} {t : Ts} : Small 2 (soD v t) := wd_small (lit_small _ (by kernel_rfl) (by kernel_rfl))
theorem no_small {v : Int} {t : Ts} : Small 2 (noD v t) := wd_small (lit_small _ (by kernel_rfl) (by kernel_rfl))
theorem st_small : Small 2 stD := small_tup fun d hd => by
  rw [List.mem_singleton.mp hd]
  exact (lit_small "stay" (by kernel_rfl) (by kernel_rfl)).mono (by omega)
theorem at_small {m : Int} {tb : List (Key × PyData)} {r : Rw} {hs : List Nat} {f : Nat} (h : r.ok m tb) : ∀ d ∈ arAt r hs f, Small 4 d := by
  intro d hd
  cases r with
  | stop => cases hd
  | need v t => rw [List.mem_singleton.mp hd]; exact (wy_small so_small).mono (by omega)
  | ite v t b c =>
    simp only [arAt, List.mem_cons, List.not_mem_nil, or_false] at hd
    rcases hd with rfl | rfl
    · exact (wy_small so_small).mono (by omega)
    · exact (wy_small no_small).mono (by omega)
  | eith b c =>
    simp only [arAt, List.mem_cons, List.not_mem_nil, or_false] at hd
    rcases hd with rfl | rfl
    · exact (wy_small st_small).mono (by omega)
    · exact (wy_small st_small).mono (by omega)
  | whil v t b =>
    simp only [arAt, List.mem_cons, List.not_mem_nil, or_false] at hd
    rcases hd with rfl | rfl
    · exact (wy_small so_small).mono (by omega)
    · exact (wy_small no_small).mono (by omega)
  | deed v l => rw [List.mem_singleton.mp hd]; exact wy_small ((small_rw (s := false) _ h).mono (by simp [Rw.dep]))
  | copy v u => rw [List.mem_singleton.mp hd]; exact wy_small ((small_rw (s := false) _ h).mono (by simp [Rw.dep]))
  | call g as v => rw [List.mem_singleton.mp hd]; exact wy_small ((small_rw (s := false) _ h).mono (by simp [Rw.dep]))
mutual
theorem ar_small {m : Int} {tb : List (Key × PyData)} : ∀ (r : Rw) (p f : Nat), r.ok m tb → ∀ x ∈ r.ar p f, ∀ d ∈ x, Small 4 d
  | .ite v t b c, p, f, h, x, hx => by
    rw [ar_eq] at hx
    rcases (List.mem_cons.mp hx) with rfl | hx
    · exact at_small h
    rw [Rw.ok] at h
    simp only [Rw.bl, arbA, List.append_nil] at hx
    rcases (List.mem_append.mp hx) with hx | hx
    · exact arl_small b _ _ h.2.2.1 x hx
    · exact arl_small c _ _ h.2.2.2 x hx
  | .eith b c, p, f, h, x, hx => by
    rw [ar_eq] at hx
    rcases (List.mem_cons.mp hx) with rfl | hx
    · exact at_small h
    rw [Rw.ok] at h
    simp only [Rw.bl, arbA, List.append_nil] at hx
    rcases (List.mem_append.mp hx) with hx | hx
    · exact arl_small b _ _ h.1 x hx
    · exact arl_small c _ _ h.2 x hx
  | .whil v t b, p, f, h, x, hx => by
    rw [ar_eq] at hx
    rcases (List.mem_cons.mp hx) with rfl | hx
    · exact at_small h
    rw [Rw.ok] at h
    simp only [Rw.bl, arbA, List.append_nil] at hx
    exact arl_small b _ _ h.2.2 x hx
  | .deed v l, p, f, h, x, hx => by rw [ar_eq] at hx; rw [List.mem_singleton.mp hx]; exact at_small h
  | .copy v u, p, f, h, x, hx => by rw [ar_eq] at hx; rw [List.mem_singleton.mp hx]; exact at_small h
  | .need v t, p, f, h, x, hx => by rw [ar_eq] at hx; rw [List.mem_singleton.mp hx]; exact at_small h
  | .call g as v, p, f, h, x, hx => by rw [ar_eq] at hx; rw [List.mem_singleton.mp hx]; exact at_small h
  | .stop, p, f, h, x, hx => by rw [ar_eq] at hx; rw [List.mem_singleton.mp hx]; exact at_small h
theorem arl_small {m : Int} {tb : List (Key × PyData)} : ∀ (rs : List Rw) (p f : Nat), Rw.okl m tb rs → ∀ x ∈ Rw.arl rs p f, ∀ d ∈ x, Small 4 d
  | [], _, _, _, x, hx => by cases hx
  | r :: rs, p, f, h, x, hx => by
    rw [Rw.okl] at h
    rw [Rw.arl] at hx
    rcases (List.mem_append.mp hx) with hx | hx
    · exact ar_small r _ _ h.1 x hx
    · exact arl_small rs _ _ h.2 x hx
end
/-- the shapes of what the law compares -/
theorem shp_told {m : Int} {tb : List (Key × PyData)} {rs : List Rw} (h : Rw.okl m tb rs) (hd : Rw.depl rs ≤ 21) : Shp (.list (Rw.dl false (Rw.fll rs) ++ [.none])) := (small_sq (s := true) (n := 45) fun d hm => by
  rcases (List.mem_append.mp hm) with hm | hm
  · rw [dl_map] at hm
    obtain ⟨q, hq, rfl⟩ := List.mem_map.mp hm
    obtain ⟨a, b⟩ := fll_ok rs h q hq
    exact (small_rw (s := false) q a).mono (by omega)
  · (rw [List.mem_singleton.mp hm])
    exact ⟨by kernel_rfl, Nat.le_of_ble_eq_true (by kernel_rfl)⟩).shaped (by decide)
theorem shp_ints (ns : List Nat) : Shp (.tuple (ns.map fun i => .int (i : Nat))) := (small_tup (n := 0) fun d hm => by
  obtain ⟨q, _, rfl⟩ := List.mem_map.mp hm
  exact small_int).shaped (by decide)
theorem shp_arw {m : Int} {tb : List (Key × PyData)} {rs : List Rw} (h : Rw.okl m tb rs) : Shp (arwD rs) := (small_tup (n := 5) fun d hm => by
  rcases (List.mem_append.mp hm) with hm | hm
  · obtain ⟨x, hx, rfl⟩ := List.mem_map.mp hm
    exact small_tup fun d hd => arl_small rs _ _ h x hx d hd
  · (rw [List.mem_singleton.mp hm])
    exact small_tup fun d hd => by cases hd).shaped (by decide)
theorem shp_kys (us : List (List Key)) (h : ∀ k ∈ us, Small 1 (kyD k)) : Small 2 (.list (us.map kyD)) := small_sq (s := true) fun d hm => by
  obtain ⟨k, hk, rfl⟩ := List.mem_map.mp hm
  exact h k hk
theorem addK_mem {us : List (List Key)} {k x : List Key} (h : x ∈ addK us k) : x ∈ us ∨ x = k := by
  unfold addK at h
  split at h
  · exact .inl h
  · rcases (List.mem_append.mp h) with h | h
    · exact .inl h
    · (exact .inr (List.mem_singleton.mp h))
theorem stepL_sm {us : List (List Key)} {r : Rw} (h : ∀ k ∈ us, Small 1 (kyD k)) : ∀ k ∈ stepL us r, Small 1 (kyD k) := fun k hk => by
  cases r with
  | deed v l =>
    rcases addK_mem hk with hk | rfl
    · exact h k hk
    · rw [← lt_key]; exact small_lt l
  | _ => exact h k hk
theorem stepT_sm {us : List (List Key)} {r : Rw} (h : ∀ k ∈ us, Small 1 (kyD k)) : ∀ k ∈ stepT us r, Small 1 (kyD k) := fun k hk => by
  cases r with
  | need v t =>
    rcases addK_mem hk with hk | rfl
    · exact h k hk
    · rw [← ts_key]; exact small_ts t
  | ite v t b c =>
    rcases addK_mem hk with hk | rfl
    · exact h k hk
    · rw [← ts_key]; exact small_ts t
  | whil v t b =>
    rcases addK_mem hk with hk | rfl
    · exact h k hk
    · rw [← ts_key]; exact small_ts t
  | _ => exact h k hk
theorem fold_sm {f : List (List Key) → Rw → List (List Key)} (hf : ∀ us r, (∀ k ∈ us, Small 1 (kyD k)) → ∀ k ∈ f us r, Small 1 (kyD k)) : ∀ (rs : List Rw) (us : List (List Key)), (∀ k ∈ us, Small 1 (kyD k)) → ∀ k ∈ rs.foldl f us, Small 1 (kyD k)
  | [], us, h => h
  | r :: rs, us, h => fold_sm hf rs (f us r) (hf us r h)
theorem uses_sm (rs : List Rw) : ∀ k ∈ usesOf rs, Small 1 (kyD k) := fold_sm (fun _ _ h => stepL_sm h) rs [] fun k h => by cases h
theorem asks_sm (rs : List Rw) : ∀ k ∈ asksOf rs, Small 1 (kyD k) := fold_sm (fun _ _ h => stepT_sm h) rs [] fun k h => by cases h
theorem wd_deed {r : Rw} (h : r.wd = "deed") : ∃ v l, r = .deed v l := by
  cases r with
  | deed v l => exact ⟨v, l, rfl⟩
  | _ => exact absurd h (by simp only [Rw.wd]; decide +kernel)
theorem wd_ndeed {r : Rw} {us : List (List Key)} (h : r.wd ≠ "deed") : stepL us r = us := by
  cases r with
  | deed v l => exact absurd rfl h
  | _ => rfl
def rwT : Rw → Option Ts
  | .need _ t => some t
  | .ite _ t _ _ => some t
  | .whil _ t _ => some t
  | _ => none
theorem ts_at {r : Rw} {t : Ts} (h : rwT r = some t) : ∃ ds, rowsOf (Rw.d false r) = some ds ∧ atI ds 2 = some t.d := by
  cases r <;> cases h <;> exact ⟨_, rfl, rfl⟩
theorem ts_step {r : Rw} {t : Ts} {us : List (List Key)} (h : rwT r = some t) : stepT us r = addK us (tsK t) := by
  cases r <;> cases h <;> rfl
theorem ts_nstep {r : Rw} {us : List (List Key)} (h : rwT r = none) : stepT us r = us := by
  cases r <;> first | rfl | cases h
theorem ts_in (r : Rw) : ([PyData.str "need", .str "if", .str "while"].any fun z => PyData.eqv z (.str r.wd)) = (rwT r).isSome := by
  cases r with
  | deed v l => exact (show ([PyData.str "need", .str "if", .str "while"].any fun z => PyData.eqv z (.str "deed")) = false by kernel_rfl)
  | copy v u => exact (show ([PyData.str "need", .str "if", .str "while"].any fun z => PyData.eqv z (.str "copy")) = false by kernel_rfl)
  | need v t => exact (show ([PyData.str "need", .str "if", .str "while"].any fun z => PyData.eqv z (.str "need")) = true by kernel_rfl)
  | ite v t b c => exact (show ([PyData.str "need", .str "if", .str "while"].any fun z => PyData.eqv z (.str "if")) = true by kernel_rfl)
  | eith b c => exact (show ([PyData.str "need", .str "if", .str "while"].any fun z => PyData.eqv z (.str "either")) = false by kernel_rfl)
  | whil v t b => exact (show ([PyData.str "need", .str "if", .str "while"].any fun z => PyData.eqv z (.str "while")) = true by kernel_rfl)
  | call g as v => exact (show ([PyData.str "need", .str "if", .str "while"].any fun z => PyData.eqv z (.str "call")) = false by kernel_rfl)
  | stop => exact (show ([PyData.str "need", .str "if", .str "while"].any fun z => PyData.eqv z (.str "stop")) = false by kernel_rfl)
theorem shp_nwt : Shp (.tuple [.str "need", .str "if", .str "while"]) := by kernel_rfl
theorem allR_sum (ps : List Pr) : (allR ps).length = (ps.map fun p => Rw.szl p.rs).sum := by
  unfold allR
  rw [List.length_flatten, List.map_map]
  congr 1
  exact List.map_congr_left fun p _ => fll_len p.rs
theorem shp_plc : Shp (.tuple [.str "place"]) := by kernel_rfl
theorem shp_noneT : Shp (.tuple [.str "none"]) := by kernel_rfl
abbrev s_law : Stmt := top 71
abbrev N_law : List Str := ["_law_script", "_law_hand_here", "_law_letters", "_law_tests", "_law_drawn", "_law_number", "_law_deep", "_law_listed_here", "_law_program_here", "_law_uses", "_law_asks", "_law_name", "_law_mine", "_law_rows", "_law_flat", "_law_told", "_law_row", "_law_odd", "_law_strange", "_law_way", "e", "_law_k", "_law_place", "_law_ways"]
abbrev P_law : List Str := ["_law_script"]
theorem sc_law : FnScope N_law P_law (defScope s_law) := ⟨rfl, rfl, rfl, by decide +kernel, rfl, by decide +kernel, by decide +kernel⟩
-- slots: 0 _law_script, 1 _law_hand_here, 2 _law_letters, 3 _law_tests, 4 _law_drawn, 5 _law_number, 6 _law_deep, 7 _law_listed_here, 8 _law_program_here, 9 _law_uses, 10 _law_asks, 11 _law_name, 12 _law_mine, 13 _law_rows, 14 _law_flat, 15 _law_told, 16 _law_row, 17 _law_odd, 18 _law_strange, 19 _law_way, 20 e, 21 _law_k, 22 _law_place, 23 _law_ways
abbrev lawS (i : Nat) : Stmt := (defBody s_law).getD i (.Pass ⟨0, 0, 0, 0⟩)
theorem callN_eq (fs : List Rw) : True := trivial
def iD (ns : List Nat) : List PyData := ns.map fun i => .int (i : Nat)
section
variable {P : Program} {w : World} {K : PySem.W.Frag} {mg : Str → Option Value} {base : Heap}
/-- the callees of the law -/
structure LwG (P : Program) (w : World) (K : PySem.W.Frag) (mg : Str → Option Value) (base : Heap) : Prop where
  draw : Keeps CX0 P w K mg base "_law_draw" 2 ["_law_hand_here", "_law_many"] (spDraw_ K)
  listed : Keeps CX0 P w K mg base "_law_listed" 24 ["_law_rows"] (spX K Co.pure (RLi 22))
  pc : Keeps (CX P w) P w K mg base "place_count" 26 ["program", "name"] (spX K Co.pure (RCnt 22))
  cp : Keeps (CX P w) P w K mg base "call_places" 26 ["program", "name"] (spX K Co.pure (RCpl 22))
  ar : Keeps (CX P w) P w K mg base "arrows_of" 48 ["program", "name"] (spX K Co.pure (RArr 22))
  ra : Keeps (CX P w) P w K mg base "row_at_place" 26 ["program", "name", "place"] (spX K Co.pure (RRap 22))
  la : Keeps CX0 P w K mg base "_law_arrows" 26 ["_law_rows"] (spX K Co.pure (RLar 22))
  rf : Keeps CX0 P w K mg base "_law_refused" 49 ["_law_way", "_law_program_here", "_law_name", "_law_place"] (spX K Co.pure (RRef 22))
  al : Keeps CX0 P w K mg base "alphabet_of" 25 ["program"] (spX K Co.pure (RAlp 22))
/-- the program of the law -/
structure LwP (ps : List Pr) : Prop where
  ok : PgOk 22 ps
  dp : ∀ p ∈ ps, Rw.depl p.rs ≤ 20
  sz : ∀ p ∈ ps, Rw.szl p.rs ≤ 100
  ln : ps.length ≤ 5
  nm : ∀ p ∈ ps, p.f.length ≤ 5
theorem kp_law_loop {fa : Addr} {cdv : Value} {A : Around} {outer : List Env} {s : Shared} {H : Hp} {E : XK} (N : Nb mg) (G : LwG P w K mg base) (hr : Room 49 (A.deeper (envOfC "law" (defScope s_law) s.heap.objs.size fa cdv))) :
    ∃ t, PS (cxOf CX0 P w K mg base N_law "law" (defScope s_law) fa cdv A outer s H E).nox (lawS 10) t ∧ ∀ (ps : List Pr) (hd : PyData) (e0 e2 e3 e4 e5 e6 y11 y12 y13 y14 y15 y16 y17 y18 y19 y20 y21 y22 y23 : En) (x : KX Unit) (kt : Kz Unit), LwP ps → HandD hd →
      (∀ hd (y11 y12 y13 y14 y15 y16 y17 y18 y19 y20 y21 y22 y23 : En), HandD hd → kt.nx () [e0, En.own hd, e2, e3, e4, e5, e6, En.da (.list (ps.map (Pr.dd false false))), En.da (pgD ps), En.own (.list ((usesOf (allR ps)).map kyD)), En.own (.list ((asksOf (allR ps)).map kyD)), y11, y12, y13, y14, y15, y16, y17, y18, y19, y20, y21, y22, y23]) →
      Ws ⟨K, Co.pure, E, x⟩ t () [e0, En.own hd, e2, e3, e4, e5, e6, En.da (.list (ps.map (Pr.dd false false))), En.da (pgD ps), En.own (.list []), En.own (.list []), y11, y12, y13, y14, y15, y16, y17, y18, y19, y20, y21, y22, y23] kt := by
  have G__law_draw := G.draw
  have G__law_listed := G.listed
  have G_place_count := G.pc
  have G_call_places := G.cp
  have G_arrows_of := G.ar
  have G_row_at_place := G.ra
  have G__law_arrows := G.la
  have G__law_refused := G.rf
  refine ⟨_, (ps_for PassesOwn.never rfl (pi_seqE (pv 7)) (pg_tupA (by rfl) (pgs_cons (pg_name (i := 11) sc_law.nd rfl (by walk_at "lv")) (pgs_cons (pg_name (i := 12) sc_law.nd rfl (by walk_at "lv")) (pgs_cons (pg_name (i := 13) sc_law.nd rfl (by walk_at "lv")) pgs_nil)))) (pss_cons (ps_set (i := 14) sc_law.nd rfl (by walk_at "lv") (pe_k (G__law_listed.up (by omega)) hr (by rfl) pass0 (pa_cons (pv 13) pa_nil)))
        (pss_cons (ps_if (PW.pt (pw_or (pt_cmpR (op_neD hr.units) (pe_k (G_place_count.up (by omega)) hr (by rfl) (passE (P := P) (w := w)) (pa_cons (pv 8) (pa_cons (pv 11) pa_nil))) (pe_callB call_len (by rfl) N.len (by decide +kernel) (pa_cons (pv 14) pa_nil)) (nomark _)) (pw_or1 (pt_truth (pe_callB call_isi (by rfl) N.isinstance boot_isinstance (pa_cons (pe_k (G_place_count.up (by omega)) hr (by rfl) (passE (P := P) (w := w)) (pa_cons (pv 8) (pa_cons (pv 11) pa_nil))) (pa_cons (pe_bltn (v := .ty "bool") (by rfl) N.bool (by decide +kernel) rfl) pa_nil))) (by intro _; rfl))))) (pss_one (ps_ret pe_bl)) pss_nil)
        (pss_cons (ps_setLc (i := 15) (own := [("_law_place", 22)]) (g := gName 22) (tt := tYes) rfl sc_law.nd rfl rfl (sw_true rfl rfl rfl (by decide +kernel)) (pi_range1 (by rfl) N.range (pa_cons (pe_op op_add (pe_callB call_len (by rfl) N.len (by decide +kernel) (pa_cons (pv 14) pa_nil)) pe_int) pa_nil)) (blkOk_by (N := N_law) (sc := defScope s_law) (by decide +kernel)) (fun _ _ _ _ _ => (pg_name (i := 22) sc_law.nd rfl (by walk_at "lv"))) (fun _ _ _ _ _ => pts_nil) (fun _ _ _ _ _ => (pe_k (G_row_at_place.up (by omega)) hr (by rfl) (passE (P := P) (w := w)) (pa_cons (pv 8) (pa_cons (pv 11) (pa_cons (pv 22) pa_nil))))))
        (pss_cons (ps_if (pt_cmpR (op_neD hr.units) (pv 15) (pe_op op_cat (pv 14) (pe_lst (pa_cons pe_non pa_nil))) (nomark _)) (pss_one (ps_ret pe_bl)) pss_nil)
        (pss_cons (ps_if (pt_cmpR (op_neD hr.units) (pe_k (G_call_places.up (by omega)) hr (by rfl) (passE (P := P) (w := w)) (pa_cons (pv 8) (pa_cons (pv 11) pa_nil))) (pe_callTy call_tuple_of (by rfl) N.tuple (by decide +kernel) (pa_cons (pe_lc (own := [("_law_place", 22)]) (g := gName 22) rfl sc_law.nd (pi_range1 (by rfl) N.range (pa_cons (pe_callB call_len (by rfl) N.len (by decide +kernel) (pa_cons (pv 14) pa_nil)) pa_nil)) (blkOk_by (N := N_law) (sc := defScope s_law) (by decide +kernel)) (fun _ _ _ _ _ => (pg_name (i := 22) sc_law.nd rfl (by walk_at "lv"))) (fun _ _ _ _ _ => (pts_one (pt_cmpR (r := rEqD K) (op_eqD hr.units) (pe_ix (r := rIxA K) ix_any (pe_ix (r := rIxA K) ix_any (pv 14) (pv 22) (fun _ _ => rfl)) pe_int (fun _ _ => rfl)) pe_str (nomark _)))) (fun _ _ _ _ _ => (pv 22))) pa_nil)) (nomark _)) (pss_one (ps_ret pe_bl)) pss_nil)
        (pss_cons (ps_if (pt_cmpR (op_neD hr.units) (pe_k (G_arrows_of.up (by omega)) hr (by rfl) (passE (P := P) (w := w)) (pa_cons (pv 8) (pa_cons (pv 11) pa_nil))) (pe_callTy call_tuple_of (by rfl) N.tuple (by decide +kernel) (pa_cons (pe_lc (own := [("_law_ways", 23)]) (g := gName 23) (tt := tYes) rfl sc_law.nd (pi_seqE (pe_k (G__law_arrows.up (by omega)) hr (by rfl) pass0 (pa_cons (pv 13) pa_nil))) (blkOk_by (N := N_law) (sc := defScope s_law) (by decide +kernel)) (fun _ _ _ _ _ => (pg_name (i := 23) sc_law.nd rfl (by walk_at "lv"))) (fun _ _ _ _ _ => pts_nil) (fun _ _ _ _ _ => (pe_callTy (r := rTupOf K) call_tuple_of (by rfl) N.tuple (by decide +kernel) (pa_cons (pv 23) pa_nil)))) pa_nil)) (nomark _)) (pss_one (ps_ret pe_bl)) pss_nil)
        (pss_cons (ps_for PassesOwn.never rfl (pi_seqE (pv 14)) (pg_name (i := 16) sc_law.nd rfl (by walk_at "lv")) (pss_cons (ps_if (PW.pt (pw_and (pt_cmpR (op_eqD hr.units) (pe_ix ix_any (pv 16) pe_int (fun _ _ => rfl)) pe_str (nomark _)) (pw_and1 (pt_cmpR (op_notInD (Room.u65 hr)) (pe_ix ix_any (pv 16) pe_int (fun _ _ => rfl)) (pv 9) (by rfl))))) (pss_one (ps_expr (pe_bm PySem.F.plainAttrs_list PySem.F.slot_list_append PySem.F.type_list_append mt_append (pv 9) (pa_cons (pe_ix ix_any (pv 16) pe_int (fun _ _ => rfl)) pa_nil)))) pss_nil)
        (pss_one (ps_if (PW.pt (pw_and (pt_cmpR (op_inT (Room.u65 hr)) (pe_ix ix_any (pv 16) pe_int (fun _ _ => rfl)) (pe_tup (pa_cons pe_str (pa_cons pe_str (pa_cons pe_str pa_nil)))) (by rfl)) (pw_and1 (pt_cmpR (op_notInD (Room.u65 hr)) (pe_ix ix_any (pv 16) pe_int (fun _ _ => rfl)) (pv 10) (by rfl))))) (pss_one (ps_expr (pe_bm PySem.F.plainAttrs_list PySem.F.slot_list_append PySem.F.type_list_append mt_append (pv 10) (pa_cons (pe_ix ix_any (pv 16) pe_int (fun _ _ => rfl)) pa_nil)))) pss_nil))))
        (pss_cons (ps_set (i := 17) sc_law.nd rfl (by walk_at "lv") (pe_ix ix_any (pe_tup (pa_cons (pe_op op_add (pe_callB call_len (by rfl) N.len (by decide +kernel) (pa_cons (pv 14) pa_nil)) pe_int) (pa_cons (pe_un un_neg pe_int) (pa_cons pe_bl (pa_cons pe_non (pa_cons pe_str (pa_cons (pe_op op_add (pe_callB call_len (by rfl) N.len (by decide +kernel) (pa_cons (pv 14) pa_nil)) pe_int) pa_nil))))))) (pe_k (G__law_draw.up (by omega)) hr (by rfl) pass0 (pa_cons (pv 1) (pa_cons pe_int pa_nil))) (fun _ _ => rfl)))
        (pss_one (ps_if (PW.pt (pw_or (pt_cmpR (op_neD hr.units) (pe_k (G__law_refused.up (by omega)) hr (by rfl) pass0 (pa_cons pe_int (pa_cons (pv 8) (pa_cons (pv 11) (pa_cons (pv 17) pa_nil))))) (pe_tup (pa_cons pe_str pa_nil)) (nomark _)) (pw_or1 (pt_cmpR (op_neD hr.units) (pe_k (G__law_refused.up (by omega)) hr (by rfl) pass0 (pa_cons pe_int (pa_cons (pv 8) (pa_cons (pv 11) (pa_cons (pe_callB call_len (by rfl) N.len (by decide +kernel) (pa_cons (pv 14) pa_nil)) pa_nil))))) (pe_tup (pa_cons pe_str pa_nil)) (nomark _))))) (pss_one (ps_ret pe_bl)) pss_nil))))))))))), ?_⟩
  intro ps hd e0 e2 e3 e4 e5 e6 y11 y12 y13 y14 y15 y16 y17 y18 y19 y20 y21 y22 y23 x kt hp hhd hk
  try dsimp only [cxOf, L2.Cx.wish, L2.Cx.nox]
  refine Ws_for (Wi_seq ?_)
  walk_at "wi"
  have hps : ∀ q ∈ ps, Shp (.str q.f) := fun q hq => (nm_shp (hp.ok.all q hq).nm).shaped (by decide)
  have hdq : ∀ q ∈ ps, Rw.depl q.rs < 22 ∧ Rw.szl q.rs ≤ 60000 := fun q hq => ⟨by have := hp.dp q hq; omega, by have := hp.sz q hq; omega⟩
  refine ⟨fun i _ ρ => ∃ (hd : PyData) (y11 y12 y13 y14 y15 y16 y17 y18 y19 y20 y21 y22 y23 : En), HandD hd ∧ ρ = [e0, En.own hd, e2, e3, e4, e5, e6, En.da (.list (ps.map (Pr.dd false false))), En.da (pgD ps), En.own (.list ((usesOf (allR (ps.take i))).map kyD)), En.own (.list ((asksOf (allR (ps.take i))).map kyD)), y11, y12, y13, y14, y15, y16, y17, y18, y19, y20, y21, y22, y23], ⟨hd, _, _, _, _, _, _, _, _, _, _, _, _, _, hhd, rfl⟩, ?_, ?_⟩
  · rintro i dd g2 ρ2 hdd ⟨hd, y11, y12, y13, y14, y15, y16, y17, y18, y19, y20, y21, y22, y23, hhd, rfl⟩
    rw [List.getElem?_map] at hdd
    obtain ⟨p, hpi, rfl⟩ := Option.map_eq_some_iff.mp hdd
    have hm := List.mem_of_getElem? hpi
    have ho := hp.ok.all p hm
    have hdp := hp.dp p hm
    have hsz := hp.sz p hm
    have hfd := find_nm hp.ok.nd hpi
    have hn0 : ∀ {R : Prop}, ps.find? (isNm (.str p.f)) = none → R := fun z => by rw [hfd] at z; cases z
    have rp : ∀ {R : Pr → KD Unit → KX Unit → Prop} {es : List En} {k : KD Unit} {x : KX Unit}, R p k x → RPn 22 R es k x (pgD ps) (.str p.f) := fun h => ⟨ps, rfl, hps p hm, hps, hdq, fun q hq => by rw [hfd] at hq; cases hq; exact h, hn0⟩
    have hfl : (Rw.dl false (Rw.fll p.rs)).length = Rw.szl p.rs := by rw [dl_len, fll_len]
    have hhl := ho.ok
    refine Wg_tupA ⟨_, rfl, rfl, Wgs_cons (Wx_name ⟨rfl, Wgs_cons (Wx_name ⟨rfl, Wgs_cons (Wx_name ⟨rfl, Wgs_nil ?_⟩)⟩)⟩)⟩
    refine Ws_seq (Wx_set ?_)
    walk_at "wi"
    refine ⟨by omega, by omega, rfl, ?_⟩
    refine Ws_seq (Ws_no_if ?_ (Ws_next ?_))
    · walk_at "wi"
      refine ⟨hps p hm, hps, hdq, fun q hq => ?_, fun z => hn0 z⟩
      obtain rfl : p = q := Option.some.inj (hfd.symm.trans hq)
      walk_at "wi"
      rw [hfl]
      refine ⟨fun _ => ?_, fun h => by rw [eqv_int] at h; simp at h⟩
      walk_at "wi"
      refine ⟨hps p hm, hps, hdq, fun q hq => ?_, fun z => hn0 z⟩
      obtain rfl : p = q := Option.some.inj (hfd.symm.trans hq)
      walk_at "wi"
      exact ⟨_, _, _, rfl, rfl, _, rfl, rfl, rfl⟩
    refine Ws_seq (Wx_new (Wn_lc (GIn.name (by decide)) (Wi_rng1 ?_)))
    walk_at "wi"
    rw [hfl]
    refine ⟨by omega, by omega, by rw [List.length_map, List.length_range]; omega, fun j acc _ => acc = ((Rw.dl false (Rw.fll p.rs)) ++ [PyData.none]).take j, rfl, ?_, ?_⟩
    · rintro j dd acc g2 hd rfl
      rw [List.getElem?_map] at hd
      obtain ⟨j', hj, rfl⟩ := Option.map_eq_some_iff.mp hd
      have hij : j' = j ∧ j < Rw.szl p.rs + 1 := by
        obtain ⟨a, b⟩ := List.getElem?_eq_some_iff.mp hj
        rw [List.length_range] at a
        rw [List.getElem_range] at b
        exact ⟨b.symm, by omega⟩
      obtain ⟨rfl, hlt⟩ := hij
      refine Wx_name ⟨rfl, Wt_yes ⟨fun _ => ?_, fun z => nomatch z⟩⟩
      walk_at "wi"
      refine ⟨hps p hm, hps, hdq, fun q hq => ?_, fun z => hn0 z⟩
      obtain rfl : p = q := Option.some.inj (hfd.symm.trans hq)
      refine ⟨fun h => ?_, fun j2 e2 hj2 => ?_⟩
      · have hw : wDd 0 ((Rw.szl p.rs : Nat) : Int) (.int (j' : Nat)) = true := wDd_int ⟨by omega, by omega⟩
        rw [hw] at h; cases h
      · obtain rfl : j' = j2 := by injection e2 with e2; omega
        refine (take_get (x := ((Rw.fll p.rs)[j']?.map (Rw.d false)).getD .none) ?_).symm
        by_cases hj3 : j' < (Rw.fll p.rs).length
        · rw [List.getElem?_append_left (by rw [dl_len]; exact hj3), dl_map, List.getElem?_map, List.getElem?_eq_getElem hj3]; rfl
        · have hj4 : j' = (Rw.fll p.rs).length := by rw [fll_len] at hj3 ⊢; omega
          rw [List.getElem?_append_right (by rw [dl_len]; omega), dl_len, hj4, Nat.sub_self, List.getElem?_eq_none (Nat.le_refl _)]; rfl
    · rintro acc g2 rfl
      refine ⟨rfl, ?_⟩
      have hto : (Rw.dl false (Rw.fll p.rs) ++ [PyData.none]).take (((Rw.szl p.rs : Nat) : Int) + 1).toNat = Rw.dl false (Rw.fll p.rs) ++ [PyData.none] := List.take_of_length_le (by rw [List.length_append, hfl, List.length_singleton]; omega)
      rw [List.length_map, List.length_range, hto]
      refine Ws_freeze (i := 15) rfl ?_
      refine Ws_seq (Ws_no_if ?_ (Ws_next ?_))
      · walk_at "wi"
        refine We_new (Wn_op rn_cat (We_var rfl (We_lst (Wa_cons (We_non (Wa_nil ?_))))))
        have hsh := shp_told hhl (by omega)
        refine ⟨[.none], rfl, by decide, _, _, rfl, rfl, by rw [hfl, List.length_singleton]; omega, hsh, hsh, _, rfl, by rw [ShpEq hsh]; rfl, rfl⟩
      refine Ws_seq (Ws_no_if ?_ (Ws_next ?_))
      · walk_at "wi"
        refine ⟨hps p hm, hps, hdq, fun q hq => ?_, fun z => hn0 z⟩
        obtain rfl : p = q := Option.some.inj (hfd.symm.trans hq)
        refine We_cb rf_tup (Wa_cons (We_new (Wn_lc (GIn.name (by decide)) (Wi_rng1 ?_))))
        walk_at "wi"
        rw [hfl]
        refine ⟨by omega, by omega, by rw [List.length_map, List.length_range]; omega, fun j acc _ => acc = (callN (Rw.fll p.rs) j).map fun i => .int (i : Nat), rfl, ?_, ?_⟩
        · rintro j dd acc g2 hd rfl
          rw [List.getElem?_map] at hd
          obtain ⟨j', hj, rfl⟩ := Option.map_eq_some_iff.mp hd
          have hij : j' = j ∧ j < Rw.szl p.rs := by
            obtain ⟨a, b⟩ := List.getElem?_eq_some_iff.mp hj
            rw [List.length_range] at a
            rw [List.getElem_range] at b
            exact ⟨b.symm, by omega⟩
          obtain ⟨rfl, hlt⟩ := hij
          obtain ⟨r, hr2, er⟩ := dl_get (List.getElem?_eq_getElem (by omega : j' < (Rw.dl false (Rw.fll p.rs)).length))
          obtain ⟨ds, e1, e2⟩ := rw_ix0 false r
          have sw := shp_wd r
          refine Wx_name ⟨rfl, ?_⟩
          walk_at "wi"
          refine ⟨_, _, _, rfl, rfl, atI_nat (by rw [List.getElem?_eq_getElem (by omega : j' < (Rw.dl false (Rw.fll p.rs)).length), er]), ?_⟩
          walk_at "wi"
          refine ⟨ds, _, _, e1, rfl, e2, ?_⟩
          walk_at "wi"
          rw [callN_next hr2, isCall_wd, eqv_wd]
          refine ⟨fun h => ?_, fun h => ?_⟩
          · walk_at "wi"
            rw [if_pos h, List.map_append]
            rfl
          · rw [if_neg (by rw [h]; decide)]
            simp
        · rintro acc g2 rfl
          rw [List.length_map, List.length_range, show ((Rw.szl p.rs : Nat) : Int).toNat = (Rw.fll p.rs).length from (fll_len _).symm]
          have hsh := shp_ints (callN (Rw.fll p.rs) (Rw.fll p.rs).length)
          refine Wa_nil ⟨[_], rfl, _, _, rfl, rfl, hsh, hsh, _, rfl, by rw [ShpEq hsh]; rfl, rfl⟩
      refine Ws_seq (Ws_no_if ?_ (Ws_next ?_))
      · walk_at "wi"
        refine ⟨hps p hm, hps, hdq, fun q hq => ?_, fun z => hn0 z⟩
        obtain rfl : p = q := Option.some.inj (hfd.symm.trans hq)
        refine We_cb rf_tup (Wa_cons (We_new (Wn_lc (GIn.name (by decide)) (Wi_seq ?_))))
        walk_at "wi"
        have hal := arwl_len p.rs 0 (Rw.szl p.rs)
        refine ⟨by omega, by omega, (Rw.arl p.rs 0 (Rw.szl p.rs)).map .list ++ [.list []], rfl, by rw [List.length_append, List.length_map, List.length_singleton]; omega, fun j acc _ => acc = ((Rw.arl p.rs 0 (Rw.szl p.rs)).map PyData.tuple ++ [PyData.tuple []]).take j, rfl, ?_, ?_⟩
        · rintro j dd acc g2 hd rfl
          refine Wx_name ⟨rfl, Wt_yes ⟨fun _ => ?_, fun z => nomatch z⟩⟩
          rw [show (Rw.arl p.rs 0 (Rw.szl p.rs)).map PyData.list ++ [PyData.list []] = (Rw.arl p.rs 0 (Rw.szl p.rs) ++ [[]]).map PyData.list by rw [List.map_append]; rfl, List.getElem?_map] at hd
          obtain ⟨x1, hx1, rfl⟩ := Option.map_eq_some_iff.mp hd
          walk_at "wi"
          refine (take_get ?_).symm
          rw [show (Rw.arl p.rs 0 (Rw.szl p.rs)).map PyData.tuple ++ [PyData.tuple []] = (Rw.arl p.rs 0 (Rw.szl p.rs) ++ [[]]).map PyData.tuple by rw [List.map_append]; rfl, List.getElem?_map, hx1]
          rfl
        · rintro acc g2 rfl
          have hsh := shp_arw (rs := p.rs) hhl
          have hta : ((Rw.arl p.rs 0 (Rw.szl p.rs)).map PyData.tuple ++ [PyData.tuple []]).take ((Rw.arl p.rs 0 (Rw.szl p.rs)).map PyData.list ++ [PyData.list []]).length = (Rw.arl p.rs 0 (Rw.szl p.rs)).map PyData.tuple ++ [PyData.tuple []] := List.take_of_length_le (by rw [List.length_append, List.length_append, List.length_map, List.length_map]; exact Nat.le_refl _)
          rw [hta]
          refine Wa_nil ⟨[_], rfl, _, _, rfl, rfl, hsh, hsh, _, rfl, ?_, rfl⟩
          show (!PyData.eqv (arwD p.rs) (arwD p.rs)) = false
          rw [ShpEq hsh]; rfl
      refine Ws_seq (Ws_for (Wi_seq ?_))
      walk_at "wi"
      refine ⟨fun j _ ρ => ∃ y16 : En, ρ = [e0, En.own hd, e2, e3, e4, e5, e6, En.da (.list (ps.map (Pr.dd false false))), En.da (pgD ps), En.own (.list ((usesOf (allR (ps.take i) ++ (Rw.fll p.rs).take j)).map kyD)), En.own (.list ((asksOf (allR (ps.take i) ++ (Rw.fll p.rs).take j)).map kyD)), En.da (.str p.f), En.da (.int p.n), En.da (sq false (Rw.dl false p.rs)), En.da (.list (Rw.dl false (Rw.fll p.rs))), En.da (.list (Rw.dl false (Rw.fll p.rs) ++ [PyData.none])), y16, y17, y18, y19, y20, y21, y22, y23], ⟨y16, by rw [List.take_zero, List.append_nil]; rfl⟩, ?_, ?_⟩
      · rintro j dd g3 ρ3 hdd ⟨y16, rfl⟩
        obtain ⟨r, hr2, rfl⟩ := dl_get hdd
        obtain ⟨ds, e1, e2'⟩ := rw_ix0 false r
        have sw := shp_wd r
        have us1 : usesOf (allR (ps.take i) ++ (Rw.fll p.rs).take (j + 1)) = stepL (usesOf (allR (ps.take i) ++ (Rw.fll p.rs).take j)) r := by rw [take_get hr2, ← List.append_assoc, uses_snoc]
        have as1 : asksOf (allR (ps.take i) ++ (Rw.fll p.rs).take (j + 1)) = stepT (asksOf (allR (ps.take i) ++ (Rw.fll p.rs).take j)) r := by rw [take_get hr2, ← List.append_assoc, asks_snoc]
        have hal := allR_len ps i j p hpi
        rw [allR_sum ps] at hal
        have hal2 := hp.ok.sz
        have hul := uses_len (allR (ps.take i) ++ (Rw.fll p.rs).take j)
        have hkl := asks_len (allR (ps.take i) ++ (Rw.fll p.rs).take j)
        refine Wx_name ⟨rfl, ?_⟩
        refine Ws_seq (Ws_cutP (fun _ ρ1 => ρ1 = [e0, En.own hd, e2, e3, e4, e5, e6, En.da (.list (ps.map (Pr.dd false false))), En.da (pgD ps), En.own (.list ((usesOf (allR (ps.take i) ++ (Rw.fll p.rs).take (j + 1))).map kyD)), En.own (.list ((asksOf (allR (ps.take i) ++ (Rw.fll p.rs).take j)).map kyD)), En.da (.str p.f), En.da (.int p.n), En.da (sq false (Rw.dl false p.rs)), En.da (.list (Rw.dl false (Rw.fll p.rs))), En.da (.list (Rw.dl false (Rw.fll p.rs) ++ [PyData.none])), En.da (Rw.d false r), y17, y18, y19, y20, y21, y22, y23]) ?_ ?_)
        · refine Ws_if (Wt_peek ?_)
          walk_at "wi"
          refine ⟨ds, _, _, e1, rfl, e2', ?_⟩
          walk_at "wi"
          rw [eqv_wd]
          refine ⟨fun h => ?_, fun h => ?_⟩
          · obtain ⟨v, l, rfl⟩ := wd_deed (of_decide_eq_true h)
            walk_at "wi"
            refine ⟨(small_lt l).shaped (by decide), (shp_kys _ (uses_sm _)).shaped (by decide), _, rfl, ?_⟩
            rw [lt_key, any_ky, us1]
            show _ ∧ _
            refine ⟨fun h => ?_, fun h => ?_⟩
            · refine Ws_app rfl ?_
              walk_at "wi"
              refine ⟨by rw [List.length_map]; omega, ?_⟩
              show _ = _
              rw [show stepL (usesOf (allR (ps.take i) ++ (Rw.fll p.rs).take j)) (.deed v l) = usesOf (allR (ps.take i) ++ (Rw.fll p.rs).take j) ++ [ltK l] from if_neg (fun z => by rw [z] at h; cases h), List.map_append]
              rw [lt_key]; rfl
            · refine Ws_next ?_
              rw [show stepL (usesOf (allR (ps.take i) ++ (Rw.fll p.rs).take j)) (.deed v l) = usesOf (allR (ps.take i) ++ (Rw.fll p.rs).take j) from if_pos (by simpa using h)]
              rfl
          · refine ⟨(fun z => nomatch z), fun _ => Ws_next ?_⟩
            rw [us1, wd_ndeed (of_decide_eq_false h)]
            rfl
        rintro g1 ρ1 rfl
        refine Ws_if (Wt_peek ?_)
        walk_at "wi"
        refine ⟨ds, _, _, e1, rfl, e2', ?_⟩
        walk_at "wi"
        rw [ts_in]
        cases ht : rwT r with
        | none =>
          refine ⟨(fun z => nomatch z), fun _ => ⟨(fun z => nomatch z), fun _ => Ws_next ⟨En.da (Rw.d false r), ?_⟩⟩⟩
          rw [as1, ts_nstep ht]
        | some t =>
          obtain ⟨ds2, e3', e4'⟩ := ts_at ht
          refine ⟨fun _ => ?_, (fun z => nomatch z)⟩
          walk_at "wi"
          refine ⟨_, _, _, e3', rfl, e4', ?_⟩
          walk_at "wi"
          refine ⟨(small_ts t).shaped (by decide), (shp_kys _ (asks_sm _)).shaped (by decide), _, rfl, ?_⟩
          rw [ts_key, any_ky]
          refine ⟨fun h => ?_, fun h => ?_⟩
          · refine Ws_app rfl ?_
            walk_at "wi"
            refine ⟨_, _, _, e3', rfl, e4', ?_⟩
            refine ⟨by rw [List.length_map]; omega, En.da (Rw.d false r), ?_⟩
            rw [as1, ts_step ht, show addK (asksOf (allR (ps.take i) ++ (Rw.fll p.rs).take j)) (tsK t) = asksOf (allR (ps.take i) ++ (Rw.fll p.rs).take j) ++ [tsK t] from if_neg (fun z => by rw [z] at h; cases h), List.map_append, ts_key]
            rfl
          · refine Ws_next ⟨En.da (Rw.d false r), ?_⟩
            rw [as1, ts_step ht, show addK (asksOf (allR (ps.take i) ++ (Rw.fll p.rs).take j)) (tsK t) = asksOf (allR (ps.take i) ++ (Rw.fll p.rs).take j) from if_pos (by simpa using h)]
      · rintro g3 ρ3 ⟨y16, rfl⟩
        rw [hfl, ← fll_len, List.take_length, ← allR_snoc, ← take_get hpi]
        refine Ws_seq (Ws_lend (i := 1) rfl fun o => Wx_set ?_)
        refine We_op rd_ixA ?_
        walk_at "wi"
        refine We_callY0 o Ln.id (Wa_raw rfl (Wa_cons (We_int (Wa_nil ⟨hhd, 6, rfl, ⟨by decide, by decide⟩, fun r hd2 r0 r1 hhd2 => ?_⟩))))
        have hno : ∀ m : Int, (m < 0 ∨ (Rw.szl p.rs : Nat) < m) → wDd 0 (Rw.szl p.rs : Nat) (.int m) = false := fun m hm => by
          cases hw : wDd 0 ((Rw.szl p.rs : Nat) : Int) (.int m) with
          | false => rfl
          | true =>
            obtain ⟨m2, e, m0, m1⟩ := wDd_ok hw
            injection e with e
            omega
        obtain ⟨od, hod, hod2, hod3⟩ : ∃ od, atI [PyData.int (((Rw.dl false (Rw.fll p.rs)).length : Nat) + 1), PyData.int (-1), PyData.bool true, PyData.none, PyData.str "0", PyData.int (((Rw.dl false (Rw.fll p.rs)).length : Nat) + 900)] r = some od ∧ wDd 0 (Rw.szl p.rs : Nat) od = false ∧ od.canLay0 = true := by
          have hr6 : r = 0 ∨ r = 1 ∨ r = 2 ∨ r = 3 ∨ r = 4 ∨ r = 5 := by omega
          rcases hr6 with rfl | rfl | rfl | rfl | rfl | rfl
          · exact ⟨_, rfl, hno _ (by rw [hfl]; omega), rfl⟩
          · exact ⟨_, rfl, hno _ (by omega), rfl⟩
          · exact ⟨_, rfl, rfl, rfl⟩
          · exact ⟨_, rfl, rfl, rfl⟩
          · exact ⟨_, rfl, rfl, by kernel_rfl⟩
          · exact ⟨_, rfl, hno _ (by rw [hfl]; omega), rfl⟩
        refine ⟨_, _, od, rfl, rfl, hod, rfl, rfl, ?_⟩
        refine Ws_no_if ?_ (Ws_next ⟨hd2, En.da (.str p.f), En.da (.int p.n), En.da (sq false (Rw.dl false p.rs)), En.da (.list (Rw.dl false (Rw.fll p.rs))), En.da (.list (Rw.dl false (Rw.fll p.rs) ++ [PyData.none])), y16, En.da od, y18, y19, y20, y21, y22, y23, hhd2, rfl⟩)
        walk_at "wi"
        refine ⟨ps, .str p.f, od, 3, rfl, hod3, hps p hm, hps, hdq, fun z => hn0 z, fun q hq => ?_⟩
        obtain rfl : p = q := Option.some.inj (hfd.symm.trans hq)
        refine ⟨rfl, fun _ => ?_, fun i2 ei hi2 => ?_⟩
        · walk_at "wi"
          refine ⟨ps, .str p.f, .int (((Rw.dl false (Rw.fll p.rs)).length : Nat) : Int), 3, rfl, rfl, hps p hm, hps, hdq, fun z => hn0 z, fun q hq => ?_⟩
          obtain rfl : p = q := Option.some.inj (hfd.symm.trans hq)
          refine ⟨rfl, fun hw => ?_, fun i3 ei hi3 => ?_⟩
          · rw [hfl, show wDd 0 ((Rw.szl p.rs : Nat) : Int) (.int ((Rw.szl p.rs : Nat) : Int)) = true from wDd_int ⟨by omega, Int.le_refl _⟩] at hw
            cases hw
          · walk_at "wi"
            rfl
        · rw [ei, show wDd 0 ((Rw.szl p.rs : Nat) : Int) (.int (i2 : Nat)) = true from wDd_int ⟨by omega, by omega⟩] at hod2
          cases hod2
  · rintro g2 ρ2 ⟨hd, y11, y12, y13, y14, y15, y16, y17, y18, y19, y20, y21, y22, y23, hhd, rfl⟩
    rw [List.length_map, List.take_length]
    exact hk hd _ _ _ _ _ _ _ _ _ _ _ _ _ hhd
end
section
variable {P : Program} {w : World} {K : PySem.W.Frag} {mg : Str → Option Value} {base : Heap}
/-- from the nest of 21 on -/
def Tail16 (X : L2.Cx) (K : PySem.W.Frag) (E : XK) : Prop := ∃ t, PSs X ((defBody s_law).drop 16) t ∧ ∀ (rs : List Rw) (hd : PyData) (e9 e10 e0 e2 e3 e4 e5 e6 e7 e8 y11 y12 y14 y15 y16 y17 y18 y19 y20 y21 y22 y23 : En) (x : KX Unit) (kt : Kz Unit), (∀ tb, Rw.okl 1 tb rs) → Rw.depl rs = 21 → Rw.szl rs ≤ 100 → kt.rt (.bool true) () →
  Ws ⟨K, Co.pure, E, x⟩ t () [e0, En.own hd, e2, e3, e4, e5, e6, e7, e8, e9, e10, y11, y12, En.da (.tuple (Rw.dl false rs)), y14, y15, y16, y17, y18, y19, y20, y21, y22, y23] kt
theorem kp_law_tail {fa : Addr} {cdv : Value} {A : Around} {outer : List Env} {s : Shared} {H : Hp} {E : XK} (N : Nb mg) (G : LwG P w K mg base) (G__law_nest : Keeps CX0 P w K mg base "_law_nest" 1 ["_law_deep", "_law_number", "_law_test_here"] (spX K Co.pure RNe)) (hr : Room 49 (A.deeper (envOfC "law" (defScope s_law) s.heap.objs.size fa cdv)))
    (T16 : Tail16 (cxOf CX0 P w K mg base N_law "law" (defScope s_law) fa cdv A outer s H E).nox K E) :
    ∃ t, PSs (cxOf CX0 P w K mg base N_law "law" (defScope s_law) fa cdv A outer s H E).nox ((defBody s_law).drop 11) t ∧ ∀ (ps ps0 : List Pr) (pn : Pr) (Tss : List Ts) (T0 : Ts) (nu : Int) (hd : PyData) (e0 e2 e4 e6 y11 y12 y13 y14 y15 y16 y17 y18 y19 y20 y21 y22 y23 : En) (x : KX Unit) (kt : Kz Unit), LwP ps → HandD hd → ps = ps0 ++ [pn] → pn.f = "nest9" → T0.Ok → Tss[0]? = some T0 → kt.rt (.bool true) () → (∀ p ∈ ps, p.f ≠ "nest8") →
      Ws ⟨K, Co.pure, E, x⟩ t () [e0, En.own hd, e2, En.da (.list (Tss.map Ts.d)), e4, En.da (.int nu), e6, En.da (.list (ps.map (Pr.dd false false))), En.da (pgD ps), En.own (.list ((usesOf (allR ps)).map kyD)), En.own (.list ((asksOf (allR ps)).map kyD)), y11, y12, y13, y14, y15, y16, y17, y18, y19, y20, y21, y22, y23] kt := by
  have G__law_draw := G.draw
  have G_arrows_of := G.ar
  have G__law_arrows := G.la
  have G__law_refused := G.rf
  have G_alphabet_of := G.al
  obtain ⟨t16, h16, w16⟩ := T16
  refine ⟨_, (pss_cons (ps_if (pt_cmpR (op_neD hr.units) (pe_k (G_alphabet_of.up (by omega)) hr (by rfl) pass0 (pa_cons (pv 8) pa_nil)) (pe_tup (pa_cons (pe_callTy call_tuple_of (by rfl) N.tuple (by decide +kernel) (pa_cons (pv 9) pa_nil)) (pa_cons (pe_callTy call_tuple_of (by rfl) N.tuple (by decide +kernel) (pa_cons (pv 10) pa_nil)) pa_nil))) (nomark _)) (pss_one (ps_ret pe_bl)) pss_nil)
        (pss_cons (ps_set (i := 18) sc_law.nd rfl (by walk_at "lv") (pe_ix ix_any (pe_tup (pa_cons pe_str (pa_cons pe_str (pa_cons pe_non (pa_cons pe_int pa_nil))))) (pe_k (G__law_draw.up (by omega)) hr (by rfl) pass0 (pa_cons (pv 1) (pa_cons pe_int pa_nil))) (fun _ _ => rfl)))
        (pss_cons (ps_for PassesOwn.never rfl (pi_range1 (by rfl) N.range (pa_cons pe_int pa_nil)) (pg_name (i := 19) sc_law.nd rfl (by walk_at "lv")) (pss_one (ps_if (pt_cmpR (op_neD hr.units) (pe_k (G__law_refused.up (by omega)) hr (by rfl) pass0 (pa_cons (pv 19) (pa_cons (pv 8) (pa_cons (pv 18) (pa_cons (pe_un un_neg pe_int) pa_nil))))) (pe_tup (pa_cons pe_str (pa_cons (pv 18) pa_nil))) (nomark _)) (pss_one (ps_ret pe_bl)) pss_nil)))
        (pss_cons (ps_if (pt_cmpR (op_neD hr.units) (pe_k (G_arrows_of.up (by omega)) hr (by rfl) (passE (P := P) (w := w)) (pa_cons (pv 8) (pa_cons pe_str pa_nil))) (pe_callTy call_tuple_of (by rfl) N.tuple (by decide +kernel) (pa_cons (pe_lc (own := [("_law_ways", 23)]) (g := gName 23) (tt := tYes) rfl sc_law.nd (pi_seqE (pe_k (G__law_arrows.up (by omega)) hr (by rfl) pass0 (pa_cons (pe_ix ix_any (pe_ix ix_any (pv 7) (pe_un un_neg pe_int) (fun _ _ => rfl)) pe_int (fun _ _ => rfl)) pa_nil))) (blkOk_by (N := N_law) (sc := defScope s_law) (by decide +kernel)) (fun _ _ _ _ _ => (pg_name (i := 23) sc_law.nd rfl (by walk_at "lv"))) (fun _ _ _ _ _ => pts_nil) (fun _ _ _ _ _ => (pe_callTy (r := rTupOf K) call_tuple_of (by rfl) N.tuple (by decide +kernel) (pa_cons (pv 23) pa_nil)))) pa_nil)) (nomark _)) (pss_one (ps_ret pe_bl)) pss_nil)
        (pss_cons (ps_set (i := 13) sc_law.nd rfl (by walk_at "lv") (pe_k (G__law_nest.up (by omega)) hr (by rfl) pass0 (pa_cons pe_int (pa_cons (pv 5) (pa_cons (pe_ix ix_any (pv 3) pe_int (fun _ _ => rfl)) pa_nil)))))
        h16))))), ?_⟩
  intro ps ps0 pn Tss T0 nu hd e0 e2 e4 e6 y11 y12 y13 y14 y15 y16 y17 y18 y19 y20 y21 y22 y23 x kt hp hhd hpn hnf hT0 hTss hk hn8
  try dsimp only [cxOf, L2.Cx.wish, L2.Cx.nox]
  have hps : ∀ q ∈ ps, Shp (.str q.f) := fun q hq => (nm_shp (hp.ok.all q hq).nm).shaped (by decide)
  have hdq : ∀ q ∈ ps, Rw.depl q.rs < 22 ∧ Rw.szl q.rs ≤ 60000 := fun q hq => ⟨by have := hp.dp q hq; omega, by have := hp.sz q hq; omega⟩
  have hpm : pn ∈ ps := by rw [hpn]; simp
  have hfn : ps.find? (isNm (.str "nest9")) = some pn := by
    have : ps[ps0.length]? = some pn := by rw [hpn]; simp
    have := find_nm hp.ok.nd this
    rw [hnf] at this
    exact this
  have hlast : atI (ps.map (Pr.dd false false)) (-1) = some (pn.dd false false) := by
    rw [hpn, List.map_append]
    exact atI_last _ _
  clear hpn
  clear ps0
  have hal : (allR ps).length ≤ 60000 := by rw [allR_sum]; have := hp.ok.sz; omega
  have hul := uses_len (allR ps)
  have hkl := asks_len (allR ps)
  refine Ws_freeze (i := 9) rfl ?_
  refine Ws_freeze (i := 10) rfl ?_
  refine Ws_seq (Ws_no_if ?_ (Ws_next ?_))
  · walk_at "wi"
    have hsh : Shp (.tuple [.tuple ((usesOf (allR ps)).map kyD), .tuple ((asksOf (allR ps)).map kyD)]) := (small_tup (n := 2) fun d hd => by
      simp only [List.mem_cons, List.not_mem_nil, or_false] at hd
      rcases hd with rfl | rfl
      · exact small_tup fun d hd => by
          obtain ⟨k, hk, rfl⟩ := List.mem_map.mp hd
          exact uses_sm _ k hk
      · exact small_tup fun d hd => by
          obtain ⟨k, hk, rfl⟩ := List.mem_map.mp hd
          exact asks_sm _ k hk).shaped (by decide)
    exact ⟨hsh, hsh, _, rfl, by rw [ShpEq hsh]; rfl, rfl⟩
  refine Ws_seq (Ws_lend (i := 1) rfl fun o => Wx_set ?_)
  walk_at "wi"
  refine We_callY0 o Ln.id (Wa_raw rfl (Wa_cons (We_int (Wa_nil ⟨hhd, 4, rfl, ⟨by decide, by decide⟩, fun r hd2 r0 r1 hhd2 => ?_⟩))))
  have nof : ∀ od : PyData, (∀ p ∈ ps, PyData.eqv (.str p.f) od = false) → ps.find? (isNm od) = none := fun od h => by
    rw [List.find?_eq_none]
    intro q hq z
    have z2 : PyData.eqv (.str q.f) od = true := z
    rw [h q hq] at z2
    cases z2
  obtain ⟨od, hod, hsh, hnf2⟩ : ∃ od, atI [PyData.str "nest8", PyData.str "", PyData.none, PyData.int 0] r = some od ∧ Small 1 od ∧ ps.find? (isNm od) = none := by
    have hr4 : r = 0 ∨ r = 1 ∨ r = 2 ∨ r = 3 := by omega
    rcases hr4 with rfl | rfl | rfl | rfl
    · exact ⟨_, rfl, (lit_small _ (by kernel_rfl) (by kernel_rfl)).mono (by omega), nof _ fun p hp8 => by rw [eqv_str]; exact decide_eq_false (hn8 p hp8)⟩
    · refine ⟨_, rfl, (lit_small _ (by kernel_rfl) (by kernel_rfl)).mono (by omega), nof _ fun p hp8 => ?_⟩
      rw [eqv_str]
      refine decide_eq_false fun e => ?_
      have := (hp.ok.all p hp8).nm
      rw [e] at this
      exact absurd this (by decide +kernel)
    · exact ⟨_, rfl, ⟨by kernel_rfl, Nat.le_of_ble_eq_true (by kernel_rfl)⟩, nof _ fun p _ => by simp [PyData.eqv]⟩
    · exact ⟨_, rfl, small_int.mono (by omega), nof _ fun p _ => by simp [PyData.eqv]⟩
  have hod2 := hsh.shaped (by decide)
  refine ⟨_, _, od, rfl, rfl, hod, rfl, rfl, ?_⟩
  refine Ws_seq (Ws_for (Wi_rng1 ?_))
  walk_at "wi"
  refine ⟨fun i _ ρ => ∃ y19 : En, ρ = [e0, En.own hd2, e2, En.da (.list (Tss.map Ts.d)), e4, En.da (.int nu), e6, En.da (.list (ps.map (Pr.dd false false))), En.da (pgD ps), En.da (.list ((usesOf (allR ps)).map kyD)), En.da (.list ((asksOf (allR ps)).map kyD)), y11, y12, y13, y14, y15, y16, y17, En.da od, y19, y20, y21, y22, y23], ⟨y19, rfl⟩, ?_, ?_⟩
  · rintro i dd g2 ρ2 hdd ⟨y19, rfl⟩
    rw [List.getElem?_map] at hdd
    obtain ⟨j, hj, rfl⟩ := Option.map_eq_some_iff.mp hdd
    refine Wx_name ⟨rfl, ?_⟩
    refine Ws_no_if ?_ (Ws_next ⟨_, rfl⟩)
    have hnd : Shp (.tuple [.str "name", od]) := (small_tup (n := 1) fun d hd => by
      simp only [List.mem_cons, List.not_mem_nil, or_false] at hd
      rcases hd with rfl | rfl
      · exact (lit_small "name" (by kernel_rfl) (by kernel_rfl)).mono (by omega)
      · exact hsh).shaped (by decide)
    walk_at "wi"
    refine ⟨ps, od, .int (-1), (j : Int), rfl, rfl, hod2, hps, hdq, fun _ => ?_, fun q hq => by rw [hnf2] at hq; cases hq⟩
    walk_at "wi"
    exact ⟨by rw [ShpEq hnd]; rfl, rfl⟩
  · rintro g2 ρ2 ⟨y19, rfl⟩
    have hdn := hp.dp pn hpm
    have hsn := hp.sz pn hpm
    have ho := hp.ok.all pn hpm
    have hhl := ho.ok
    refine Ws_seq (Ws_no_if ?_ (Ws_next ?_))
    · walk_at "wi"
      refine ⟨fun q hq => ?_, fun z => by rw [hfn] at z; cases z⟩
      obtain rfl : pn = q := Option.some.inj (hfn.symm.trans hq)
      refine We_cb rf_tup (Wa_cons (We_new (Wn_lc (GIn.name (by decide)) (Wi_seq ?_))))
      walk_at "wi"
      have hal2 := arwl_len pn.rs 0 (Rw.szl pn.rs)
      refine ⟨_, _, _, rfl, rfl, hlast, ?_⟩
      walk_at "wi"
      refine ⟨by omega, by omega, (Rw.arl pn.rs 0 (Rw.szl pn.rs)).map .list ++ [.list []], rfl, by rw [List.length_append, List.length_map, List.length_singleton]; omega, fun j acc _ => acc = ((Rw.arl pn.rs 0 (Rw.szl pn.rs)).map PyData.tuple ++ [PyData.tuple []]).take j, rfl, ?_, ?_⟩
      · rintro j dd acc g2 hd rfl
        refine Wx_name ⟨rfl, Wt_yes ⟨fun _ => ?_, fun z => nomatch z⟩⟩
        rw [show (Rw.arl pn.rs 0 (Rw.szl pn.rs)).map PyData.list ++ [PyData.list []] = (Rw.arl pn.rs 0 (Rw.szl pn.rs) ++ [[]]).map PyData.list by rw [List.map_append]; rfl, List.getElem?_map] at hd
        obtain ⟨x1, hx1, rfl⟩ := Option.map_eq_some_iff.mp hd
        walk_at "wi"
        refine (take_get ?_).symm
        rw [show (Rw.arl pn.rs 0 (Rw.szl pn.rs)).map PyData.tuple ++ [PyData.tuple []] = (Rw.arl pn.rs 0 (Rw.szl pn.rs) ++ [[]]).map PyData.tuple by rw [List.map_append]; rfl, List.getElem?_map, hx1]
        rfl
      · rintro acc g2 rfl
        have hsh := shp_arw (rs := pn.rs) hhl
        have hta : ((Rw.arl pn.rs 0 (Rw.szl pn.rs)).map PyData.tuple ++ [PyData.tuple []]).take ((Rw.arl pn.rs 0 (Rw.szl pn.rs)).map PyData.list ++ [PyData.list []]).length = (Rw.arl pn.rs 0 (Rw.szl pn.rs)).map PyData.tuple ++ [PyData.tuple []] := List.take_of_length_le (by rw [List.length_append, List.length_append, List.length_map, List.length_map]; exact Nat.le_refl _)
        rw [hta]
        refine Wa_nil ⟨[_], rfl, _, _, rfl, rfl, hsh, hsh, _, rfl, ?_, rfl⟩
        show (!PyData.eqv (arwD pn.rs) (arwD pn.rs)) = false
        rw [ShpEq hsh]; rfl
    refine Ws_seq (Wx_set ?_)
    walk_at "wi"
    refine ⟨_, _, T0.d, rfl, rfl, atI_nat (j := 0) (by rw [List.getElem?_map, hTss]; rfl), ?_⟩
    refine Wa_nil ⟨21, nu, T0, rfl, hT0, by decide, fun rs h1 h2 h3 => ⟨rfl, w16 rs hd2 _ _ _ _ _ _ _ _ _ _ _ _ _ _ _ _ _ _ _ _ _ _ x kt h1 h2 (by omega) hk⟩⟩
end
/-! ### walks where an error is handled -/
theorem list_ends_hot {prog : Program} {w : World} {A : Around} {E : Value → Shared → Prop} {s : Shared} {it l x1 : Addr} {i : Nat} {items : Array Value} {Q : Option Value → Shared → Prop} (hot : HotX.HotAt A x1 s.heap) (hit : s.heap.IsListIter it l i) (hl : s.heap.IsList l items) (hx : items[i]? = none)
    (hQ : ∀ h', Heap.ExtBut it s.heap h' → Q none { s with heap := h' }) : (wpAny (model prog w) A (pyNext (.ref it)) Q E s) := by
  obtain ⟨hh, o1, vs1, h1, d1, c1⟩ := (hot)
  obtain ⟨oi, hoi, hci, hdi⟩ := id hit
  obtain ⟨oq, hoq, _, nq, hdq⟩ := hl
  have ne : x1 ≠ it := fun z => by
    subst z
    rw [hoi] at h1
    cases h1
    rw [hdi] at d1
    have d2 := Data.fields.inj d1
    rw [← d2] at c1
    cases c1
  unfold pyNext
  refine wpAny_bind (wpAny_attempt (wpAny_callSpecial?_slot (name := Str.ofString "__next__") hit.typeIs slot_listiter_next (wpAny_call_entry slot_listiter_next hit.typeIs entry_listiter_next ?_ (args_listiter_next _))))
  refine (wpAny_bind (wpAny_field hoi hdi (x := .ref l) rfl ?_) : wpAny _ _ (field (.ref it) 0 >>= _) _ _ s)
  show (wpAny _ _ (if (Value.ref l == Value.none) = true then _ else _) _ _ s)
  rw [if_neg (by intro z; cases z)]
  refine (wpAny_bind (wpAny_field hoi hdi (x := .int i 0) rfl ?_) : wpAny _ _ (field (.ref it) 1 >>= _) _ _ s)
  refine (wpAny_bind (wpAny_seqItems hoq hdq ?_) : wpAny _ _ (seqItems? (.ref l) >>= _) _ _ s)
  (simp only [Int.toNat_natCast, hx])
  refine wpAny_bind (wpAny_rule (wpAny_bind (wpAny_setField hoi hdi (by simp) ?_)))
  refine (wpAny_bind ?_ : wpAny _ _ (newExc (.type "StopIteration") [] >>= _) _ _ _)
  simp only [newExc, newTuple]
  refine (wpAny_bind (wpAny_newObj_type ?_ (by size_fits)))
  refine (wpAny_bind (m := firstArgMember _ _) (wpAny_of_eq (a := Value.none) (by first | rfl | (simp only [firstArgMember]; rfl)) ?_))
  refine (wpAny_newObj_type ?_ (by size_fits))
  refine HotX.raiseNew_hot ⟨hh, o1, vs1, Heap.get?_push_of_some _ (Heap.get?_push_of_some _ ((Heap.get?_update_other _ _ ne.symm).trans h1)), d1, c1⟩ (Nat.ne_of_lt (Heap.lt_size (Heap.get?_push_of_some _ ((Heap.get?_update_other _ _ ne.symm).trans h1)))) (Heap.get?_push_size _ rfl) rfl (by first | (simp; done) | (simp; omega) | (simp only [Array.size_append]; simp; omega)) ?_
  refine (wpAny_bind (wpAny_isInstance (T := "StopIteration") (b := true) ⟨_, Heap.get?_update_self _ (Heap.get?_push_size _ rfl) rfl, rfl⟩ isSubtype_stop ?_))
  refine wpAny_pure (hQ _ fun b o nb e => ?_)
  have e2 : (s.heap.update it (Obj.mapFields fun x => x.setIfInBounds 0 Value.none)).get? b = some o := (Heap.get?_update_other _ _ nb.symm).trans e
  rw [Heap.get?_update_other _ _ (Nat.ne_of_gt (Heap.lt_size (Heap.get?_push_of_some _ e2)))]
  exact Heap.get?_push_of_some _ (Heap.get?_push_of_some _ e2)
theorem tuple_ends_hot {prog : Program} {w : World} {A : Around} {E : Value → Shared → Prop} {s : Shared} {it l x1 : Addr} {i : Nat} {items : Array Value} {Q : Option Value → Shared → Prop} (hot : HotX.HotAt A x1 s.heap) (hit : s.heap.IsTupleIter it l i) (hl : s.heap.IsTuple l items) (hx : items[i]? = none)
    (hQ : ∀ h', Heap.ExtBut it s.heap h' → Q none { s with heap := h' }) : (wpAny (model prog w) A (pyNext (.ref it)) Q E s) := by
  obtain ⟨hh, o1, vs1, h1, d1, c1⟩ := (hot)
  obtain ⟨oi, hoi, hci, hdi⟩ := id hit
  obtain ⟨oq, hoq, _, nq, hdq⟩ := hl
  have ne : x1 ≠ it := fun z => by
    subst z
    rw [hoi] at h1
    cases h1
    rw [hdi] at d1
    have d2 := Data.fields.inj d1
    rw [← d2] at c1
    cases c1
  unfold pyNext
  refine wpAny_bind (wpAny_attempt (wpAny_callSpecial?_slot (name := Str.ofString "__next__") hit.typeIs F.slot_tuple_iterator_next (wpAny_call_entry F.slot_tuple_iterator_next hit.typeIs F.entry_tuple_iterator_next ?_ (F.args_tuple_iterator_next_1 _))))
  refine (wpAny_bind (wpAny_field hoi hdi (x := .ref l) rfl ?_) : wpAny _ _ (field (.ref it) 0 >>= _) _ _ s)
  show (wpAny _ _ (if (Value.ref l == Value.none) = true then _ else _) _ _ s)
  rw [if_neg (by intro z; cases z)]
  refine (wpAny_bind (wpAny_field hoi hdi (x := .int i 0) rfl ?_) : wpAny _ _ (field (.ref it) 1 >>= _) _ _ s)
  refine (wpAny_bind (wpAny_seqItems hoq hdq ?_) : wpAny _ _ (seqItems? (.ref l) >>= _) _ _ s)
  (simp only [Int.toNat_natCast, hx])
  refine wpAny_bind (wpAny_rule (wpAny_bind (wpAny_setField hoi hdi (by simp) ?_)))
  refine (wpAny_bind ?_ : wpAny _ _ (newExc (.type "StopIteration") [] >>= _) _ _ _)
  simp only [newExc, newTuple]
  refine (wpAny_bind (wpAny_newObj_type ?_ (by size_fits)))
  refine (wpAny_bind (m := firstArgMember _ _) (wpAny_of_eq (a := Value.none) (by first | rfl | (simp only [firstArgMember]; rfl)) ?_))
  refine (wpAny_newObj_type ?_ (by size_fits))
  refine HotX.raiseNew_hot ⟨hh, o1, vs1, Heap.get?_push_of_some _ (Heap.get?_push_of_some _ ((Heap.get?_update_other _ _ ne.symm).trans h1)), d1, c1⟩ (Nat.ne_of_lt (Heap.lt_size (Heap.get?_push_of_some _ ((Heap.get?_update_other _ _ ne.symm).trans h1)))) (Heap.get?_push_size _ rfl) rfl (by first | (simp; done) | (simp; omega) | (simp only [Array.size_append]; simp; omega)) ?_
  refine (wpAny_bind (wpAny_isInstance (T := "StopIteration") (b := true) ⟨_, Heap.get?_update_self _ (Heap.get?_push_size _ rfl) rfl, rfl⟩ isSubtype_stop ?_))
  refine wpAny_pure (hQ _ fun b o nb e => ?_)
  have e2 : (s.heap.update it (Obj.mapFields fun x => x.setIfInBounds 0 Value.none)).get? b = some o := (Heap.get?_update_other _ _ nb.symm).trans e
  rw [Heap.get?_update_other _ _ (Nat.ne_of_gt (Heap.lt_size (Heap.get?_push_of_some _ e2)))]
  exact Heap.get?_push_of_some _ (Heap.get?_push_of_some _ e2)
theorem list_turns_hot {P : Program} {w : World} {K : PySem.W.Frag} {tg : Expr} (a it : Addr) : L2H.TurnH P w K tg (Itl K a) [it] it (fun i h => h.IsListIter it a i) where
  mem := List.mem_singleton.mpr rfl
  obj := (turn_list (P := P) (w := w) (K := K) (tg := tg) a it).obj
  keep := (turn_list (P := P) (w := w) (K := K) (tg := tg) a it).keep
  self := (turn_list (P := P) (w := w) (K := K) (tg := tg) a it).self
  item := by
    rintro X hP hw hK hc i pins s σ H E I hf st hg
    subst hP hw hK
    obtain ⟨xs, x, hq, hx⟩ := hg
    obtain ⟨its, rv, p, hz⟩ := (I.list hq)
    obtain ⟨u, hu, ru⟩ := (rv.get hx)
    obtain ⟨f0, f1, f2, f3, f4, f5⟩ := hf it (List.mem_singleton.mpr rfl)
    refine (wpAny_pyNext_list_item st p.isList (x := u) (by simpa using hu) fun h' st' sb => ?_)
    have I1 : (Inv X pins σ H { s with heap := h' }) := I.turned (t' := s.toks) (fun b o hb e => (sb.2 b hb).trans e) f0 f1 f3 f4 f5
    obtain ⟨o, e, c, d⟩ := id st'
    exact ⟨u, rfl, go_of (s := { s with heap := h' }) e c d (by decide) ⟨x, H, I1, ru, ⟨rfl, fun ys hy => I.list_inj hy hq ▸ hx⟩, st', fun b hb => (hf b hb).1⟩⟩
  done := by
    rintro X hP hw hK hc i pins s σ H E I hf st hg
    subst hP hw hK
    obtain ⟨xs, hq, hx⟩ := hg
    obtain ⟨its, rv, p, hz⟩ := (I.list hq)
    obtain ⟨f0, f1, f2, f3, f4, f5⟩ := hf it (List.mem_singleton.mpr rfl)
    obtain ⟨x1, hot⟩ := hc.at I
    have hl := rv.length
    exact list_ends_hot hot st p.isList (by simp; omega) fun h' eb => ⟨rfl, I.turned (t' := s.toks) (fun b o hb e => eb b o hb e) f0 f1 f3 f4 f5⟩
theorem tuple_turns_hot {P : Program} {w : World} {K : PySem.W.Frag} {tg : Expr} (a it : Addr) : L2H.TurnH P w K tg (Itt K a) [it] it (fun i h => h.IsTupleIter it a i) where
  mem := List.mem_singleton.mpr rfl
  obj := (turn_tuple (P := P) (w := w) (K := K) (tg := tg) a it).obj
  keep := (turn_tuple (P := P) (w := w) (K := K) (tg := tg) a it).keep
  self := (turn_tuple (P := P) (w := w) (K := K) (tg := tg) a it).self
  item := by
    rintro X hP hw hK hc i pins s σ H E I hf st hg
    subst hP hw hK
    obtain ⟨xs, x, hq, hx⟩ := hg
    obtain ⟨its, rv, p, hz⟩ := (I.tuple hq)
    obtain ⟨u, hu, ru⟩ := (rv.get hx)
    obtain ⟨f0, f1, f2, f3, f4, f5⟩ := hf it (List.mem_singleton.mpr rfl)
    refine (wpAny_pyNext_tuple_item st (show s.heap.IsTuple a its.toArray from p) (x := u) (by simpa using hu) fun h' st' sb => ?_)
    have I1 : (Inv X pins σ H { s with heap := h' }) := I.turned (t' := s.toks) (fun b o hb e => (sb.2 b hb).trans e) f0 f1 f3 f4 f5
    obtain ⟨o, e, c, d⟩ := id st'
    exact ⟨u, rfl, go_of (s := { s with heap := h' }) e c d (by decide) ⟨x, H, I1, ru, ⟨rfl, fun ys hy => I.tuple_inj hy hq ▸ hx⟩, st', fun b hb => (hf b hb).1⟩⟩
  done := by
    rintro X hP hw hK hc i pins s σ H E I hf st hg
    subst hP hw hK
    obtain ⟨xs, hq, hx⟩ := hg
    obtain ⟨its, rv, p, hz⟩ := (I.tuple hq)
    obtain ⟨f0, f1, f2, f3, f4, f5⟩ := hf it (List.mem_singleton.mpr rfl)
    obtain ⟨x1, hot⟩ := hc.at I
    have hl := rv.length
    exact tuple_ends_hot hot st (show s.heap.IsTuple a its.toArray from p) (by simp; omega) fun h' eb => ⟨rfl, I.turned (t' := s.toks) (fun b o hb e => eb b o hb e) f0 f1 f3 f4 f5⟩
section
variable {X : L2.Cx} {tg e : Expr} {te : TE}
theorem pi_seqH (h : PE X e te) : L2H.PIH X tg e (iSeqE te) where
  run pins s σ H R I q := by
    refine thn (h.run pins s σ H _ I q) fun v s1 z => ?_
    obtain ⟨x, H1, I1, r1, a, xs, rfl, sq, q1⟩ := z
    obtain rfl : v = .ref a := r1
    have I2 : ∀ oi, Inv X pins σ H1 { s1 with heap := s1.heap.push oi } := fun oi => I1.kept (t' := s1.toks) fun _ _ => Heap.get?_push_of_some _
    have fr : ∀ b ∈ [s1.heap.objs.size], FpOk X pins H1 b := fun b hb => List.mem_singleton.mp hb ▸ I1.fpOk Nat.le.refl (I1.hok.fresh Nat.le.refl)
    cases sq with
    | inl hl =>
      obtain ⟨its, rv, p, _⟩ := I1.list (SqL.of hl)
      exact wpAny_pyIter_list p.isList ⟨_, _, _, _, H1, rfl, I2 _, list_turns_hot a _, ⟨_, Heap.get?_push_size _ rfl, rfl, rfl⟩, fr, q1 _ (walk_list.mono (fun H' z => SqL.of (z.trans hl)) fun _ _ _ _ _ _ y => y)⟩
    | inr ht =>
      obtain ⟨its, rv, p, _⟩ := I1.tuple (SqT.of ht)
      exact wpAny_pyIter_tuple (show s1.heap.IsTuple a its.toArray from p) ⟨_, _, _, _, H1, rfl, I2 _, tuple_turns_hot a _, ⟨_, Heap.get?_push_size _ rfl, rfl, rfl⟩, fr, q1 _ (walk_tup.mono (fun H' z => SqT.of (z.trans ht)) fun _ _ _ _ _ _ y => y)⟩
end
theorem spread_hot {prog : Program} {w : World} {A : Around} {E : Value → Shared → Prop} {s : Shared} {t x1 : Addr} {items : Array Value} {Q : List Value → Shared → Prop} (hot : HotX.HotAt A x1 s.heap) (ht : s.heap.IsTuple t items)
    (hQ : ∀ h', Heap.ExtBut s.heap.objs.size s.heap h' → Q items.toList { s with heap := h' }) : (wpAny (model prog w) A (unpackItems (.ref t) items.size none) Q E s) := by
  have nt : t ≠ s.heap.objs.size := by
    obtain ⟨o, ho, _⟩ := ht
    (exact Nat.ne_of_lt (Heap.lt_size ho))
  obtain ⟨hh, o1, vs1, h1, d1, c1⟩ := (hot)
  unfold unpackItems
  refine wpAny_bind ?_
  unfold notIterableAtAll
  refine wpAny_bind (wpAny_specialOf ht.typeIs F.slot_tuple_iter.lookup (wpAny_pure ?_))
  (simp only [Bool.false_eq_true, if_false])
  refine wpAny_bind (wpAny_holding (wpAny_pyIter_tuple ht (wpAny_bind (wpAny_holding (wpAny_draw_tuple nt items.size 0 _ _ ⟨_, Heap.get?_push_size _ rfl, rfl, rfl⟩ (ht.push _) (by omega) fun h₁ hit₁ hs₁ => ?_)))))
  rw [show List.take items.size (List.drop 0 items.toList) = items.toList by rw [List.drop_zero]; exact List.take_of_length_le (by simp), if_neg (by simp)]
  have hot1 : HotX.HotAt A x1 h₁ := ⟨hh, o1, vs1, hs₁.extBut _ _ (Nat.ne_of_lt (Heap.lt_size h1)) (Heap.get?_push_of_some _ h1), d1, c1⟩
  refine wpAny_bind (wpAny_holding (tuple_ends_hot hot1 hit₁ ((ht.push _).extBut hs₁.extBut nt) (by simp) fun h₂ he₂ => ?_))
  (simp only [Option.isSome_none, Bool.false_eq_true, if_false])
  exact wpAny_pure (hQ h₂ fun b o hb e => he₂ b o hb (hs₁.extBut b o hb (Heap.get?_push_of_some _ e)))
section
variable {X : L2.Cx} {pos : Pos}
theorem pg_tupH {es : List Expr} {k : Nat} {t : TGs} {n : Nat} (hc : L2H.HotC X) (h : PGs X es t) (hn : (assignEach es X.env).length = n := by rfl) (hst : (assignEach es X.env).findIdx? (·.1) = none := by rfl) : PG X (.Tuple es k pos) (gTup X.K n t) := by
  refine ⟨fun pins s σ H v u Q I r hw => (?_)⟩
  obtain ⟨a, xs, rfl, hq, hl, hw⟩ := hw
  cases r
  obtain ⟨its, rv, ht, hz⟩ := (I.tuple hq)
  obtain ⟨x1, hot⟩ := hc.at I
  have many : (assignEach es X.env).length = its.toArray.size := by simp [hn, ← hl, rv.length]
  rw [arm_assign_Tuple]
  refine (wpAny_bind (wpAny_standAt ?_))
  unfold unpack
  rw [many, hst]
  refine wpAny_bind (wpAny_holding (spread_hot hot (show s.heap.IsTuple a its.toArray from ht) fun h' hx => ?_))
  have I1 : (Inv X pins σ H { s with heap := h' }) := I.kept (t' := s.toks) fun b o e => hx b o (Nat.ne_of_lt (Heap.lt_size e)) e
  (exact h.run pins _ σ H xs _ Q I1 (by simpa using rv) hw)
end
/-! ### defs where an error is handled, by data -/
def KeepsH (CX : CXT) (P : Program) (w : World) (K : PySem.W.Frag) (mg : Str → Option Value) (base : Heap) (x : Str) (k : Nat) (ps : List Str) (sp : Sp) : Prop :=
  ∃ fd, L2H.FnH P w K mg base CX k (He.ga K x) fd ps sp ∧ Binds K fd ps [] ∧ PySem.W.keepIn K (.ref (He.ga K x)) = true ∧ mg x = some (.ref (He.ga K x))
theorem KeepsH.up {CX : CXT} {P : Program} {w : World} {K : PySem.W.Frag} {mg : Str → Option Value} {base : Heap} {x : Str} {j k : Nat} {ps : List Str} {sp : Sp} (h : KeepsH CX P w K mg base x j ps sp) (l : j ≤ k) : KeepsH CX P w K mg base x k ps sp := by
  obtain ⟨fd, F, r⟩ := h
  exact ⟨fd, ⟨F.len, fun A outer s H args us vs Q E p hr => F.run A outer s H args us vs Q E p (hr.mono l)⟩, r⟩
theorem unitsH {k : Nat} {A : Around} (r : L2H.RoomH k A) : A.units + 64 < cLine := by have := r.un; omega
theorem tCall_S {sp : Sp} {t : TA} : tCall sp [] E0 t = tCallS sp (fun _ => E0) t := by
  funext σ H Q
  show (t σ H fun vs H1 => sp (vs ++ []) H1 Q E0) = _
  simp only [List.append_nil]
  rfl
theorem pe_kH {X : L2.Cx} {k : Nat} {ps : List Str} {sp : Sp} {x : Str} {p pos : Pos} {e : Expr} {es : List Expr} {t : TA} (hc : L2H.HotC X) (h : KeepsH CX0 X.prog X.w X.K X.mg X.base x k ps sp) (hr : L2H.RoomH k X.A) (hg : Gl X x) (ha : PA X (e :: es) t)
    (dbg : (x == ("__debug__" : Str)) = false := by decide) (hst : starEach (e :: es) X.env = (false, eval e X.env) :: starEach es X.env := by rfl) (hpl : (backTo pos (starEach es X.env)).any (·.1) = false := by rfl) : PE X (.Call (.Name x p) (e :: es) [] pos) (tCall sp [] E0 t) := by
  obtain ⟨fd, F, b, kp, m⟩ := h
  rw [tCall_S]
  exact L2H.pe_callH F hr hc hg m kp b (fun σ pins H s e s' _ z => z.elim) ha dbg hst hpl
section
variable {γ : Type} {P : Program} {w : World} {K : PySem.W.Frag} {mg : Str → Option Value} {base : Heap}
theorem keeps_xH {C : Co γ} {R : List En → γ → KD γ → KX γ → Prop} {nm : Str} {st : Stmt} {N ps : List Str} {lv : Nat} (F : At K mg nm st) (sc : FnScope N ps (defScope st)) (hb : bindsBy st nm ps) (len : ∀ es g k x, R es g k x → es.length = ps.length)
    (hbody : ∀ (f : Addr) (cdv : Value) (A : Around) (outer : List Env) (s : Shared) (H : Hp) (E : XK) (p : Addr × Obj) es g k x, L2H.HotC (L2H.cxH CX0 P w K mg base N nm (defScope st) f cdv A outer s H E p).nox → L2H.RoomH lv (A.deeper (envOfC nm (defScope st) s.heap.objs.size f cdv)) → R es g k x →
      ∃ t, PSs (L2H.cxH CX0 P w K mg base N nm (defScope st) f cdv A outer s H E p).nox (defBody st) t ∧ Ws ⟨K, C, E, x⟩ t g (slots N es) ⟨fun g' _ => k .none g', k, fun _ _ => False, fun _ _ => False⟩) : KeepsH CX0 P w K mg base nm (lv + 1) ps (spX K C R) := by
  obtain ⟨m, fd, F⟩ := F
  refine ⟨fd, ?_, F.bindsN hb, F.kp, m⟩
  obtain ⟨oc, od, dV, kV, doc, pm, an, cdv, ct, osl, rfl, lk, hcd, _, _⟩ := (F.ex)
  refine L2H.fn_ofH lk hcd sc (fun vs H Q E h => ?_) (fun A outer s H vs Q E p hot hr h => ?_)
  · obtain ⟨S, g, es, k, x, _, _, _, al, hR, _⟩ := h
    rw [arl_len al]; exact len _ _ _ _ hR
  · obtain ⟨S, g, es, k, x, sub, old, I, al, hR, q, hx⟩ := h
    obtain ⟨t, h1, h2⟩ := hbody _ cdv A outer s H E p es g k x ⟨p, hot, List.mem_singleton.mpr rfl⟩ hr hR
    exact ⟨t, h1.nox, ws_run sub old I al q hx h2⟩
end
section
variable {P : Program} {w : World} {K : PySem.W.Frag} {mg : Str → Option Value} {base : Heap}
theorem kph__law_blocks (F : At K mg "_law_blocks" s__law_blocks) : KeepsH CX0 P w K mg base "_law_blocks" 1 ["_law_row"] (spX K Co.pure RBlk) := by
  refine keeps_xH F sc__law_blocks (fun _ _ _ _ _ _ us hl => match us, hl with | [_], _ => rfl) (fun es g k x h => ?_) (fun f cdv A outer s H E pp es g k x hc hr h => ?_)
  · obtain ⟨s, r, rfl, _⟩ := h; rfl
  · obtain ⟨s, r, rfl, hk⟩ := h
    refine ⟨_, (pss_cons (ps_if (pt_cmpR (op_eqD (unitsH hr)) (pe_ix ix_any (pv 0) pe_int (fun _ _ => rfl)) pe_str (nomark _)) (pss_one (ps_ret (pe_lst (pa_cons (pe_ix ix_any (pv 0) pe_int (fun _ _ => rfl)) (pa_cons (pe_ix ix_any (pv 0) pe_int (fun _ _ => rfl)) pa_nil))))) pss_nil)
        (pss_cons (ps_if (pt_cmpR (op_eqD (unitsH hr)) (pe_ix ix_any (pv 0) pe_int (fun _ _ => rfl)) pe_str (nomark _)) (pss_one (ps_ret (pe_lst (pa_cons (pe_ix ix_any (pv 0) pe_int (fun _ _ => rfl)) (pa_cons (pe_ix ix_any (pv 0) pe_int (fun _ _ => rfl)) pa_nil))))) pss_nil)
        (pss_one (ps_ret (pe_ifExp (pt_cmpR (op_eqD (unitsH hr)) (pe_ix ix_any (pv 0) pe_int (fun _ _ => rfl)) pe_str (nomark _)) (pe_lst (pa_cons (pe_ix ix_any (pv 0) pe_int (fun _ _ => rfl)) pa_nil)) (pe_lst pa_nil)))))), ?_⟩
    cases r with
    | ite v t b c =>
      walk_at "we"
      all_goals exact hk
    | eith b c =>
      walk_at "we"
      all_goals exact hk
    | _ =>
      walk_at "we"
      all_goals exact hk
theorem kph__law_too_deep (F : At K mg "_law_too_deep" s__law_too_deep) (G__law_blocks : KeepsH CX0 P w K mg base "_law_blocks" 1 ["_law_row"] (spX K Co.pure RBlk)) : ∀ n, KeepsH CX0 P w K mg base "_law_too_deep" (n + 2) ["_law_rows", "_law_depth"] (spX K Co.pure (RTd n)) := by
  intro n
  induction n with
  | zero => exact keeps_xH F sc__law_too_deep (fun _ _ _ _ _ _ us hl => match us, hl with | [_, _], _ => rfl) (fun es g k x h => by obtain ⟨_, _, rfl, _⟩ := h; rfl) (fun fa cdv A outer s H E pp es g k x hc hr h => by obtain ⟨_, _, _, z, _⟩ := h; exact absurd z (Nat.not_lt_zero _))
  | succ n ih =>
    refine keeps_xH F sc__law_too_deep (fun _ _ _ _ _ _ us hl => match us, hl with | [_, _], _ => rfl) (fun es g k x h => by obtain ⟨_, _, rfl, _⟩ := h; rfl) (fun fa cdv A outer s H E pp es g kk x hc hr h => ?_)
    obtain ⟨rs, k, rfl, hn, hk⟩ := h
    refine ⟨_, (pss_cons (ps_set (i := 2) sc__law_too_deep.nd rfl (by walk_at "lv") pe_int)
        (pss_cons (L2H.ps_forH PassesOwn.never hc (pi_seqH (pv 0)) (pg_name (i := 3) sc__law_too_deep.nd rfl (by walk_at "lv")) (pss_cons (ps_if (PW.pt (pw_and (pt_truth (pe_kH hc (G__law_blocks.up (by omega)) hr (by rfl) (pa_cons (pv 3) pa_nil)) (by intro _; rfl)) (pw_and1 (pt_cmpR op_ge (pv 1) pe_int (nomark _))))) (pss_one (ps_ret (pe_tup (pa_cons pe_bl (pa_cons (pv 2) pa_nil))))) pss_nil)
        (pss_cons (ps_set (i := 2) sc__law_too_deep.nd rfl (by walk_at "lv") (pe_op op_add (pv 2) pe_int))
        (pss_one (L2H.ps_forH PassesOwn.never hc (pi_seqH (pe_kH hc (G__law_blocks.up (by omega)) hr (by rfl) (pa_cons (pv 3) pa_nil))) (pg_name (i := 4) sc__law_too_deep.nd rfl (by walk_at "lv")) (pss_cons (ps_asg (pe_kH hc (ih.up (by omega)) hr (by rfl) (pa_cons (pv 4) (pa_cons (pe_op op_add (pv 1) pe_int) pa_nil))) (pg_tupH hc (pgs_cons (pg_name (i := 5) sc__law_too_deep.nd rfl (by walk_at "lv")) (pgs_cons (pg_name (i := 6) sc__law_too_deep.nd rfl (by walk_at "lv")) pgs_nil))))
        (pss_cons (ps_if (pt_truth (pv 5) (by intro _; rfl)) (pss_one (ps_ret (pe_tup (pa_cons pe_bl (pa_cons (pe_op op_add (pv 2) (pv 6)) pa_nil))))) pss_nil)
        (pss_one (ps_set (i := 2) sc__law_too_deep.nd rfl (by walk_at "lv") (pe_op op_add (pv 2) (pv 6)))))))))))
        (pss_one (ps_ret (pe_tup (pa_cons pe_bl (pa_cons (pv 2) pa_nil))))))), ?_⟩
    try dsimp only [L2H.cxH, cxOf, L2.Cx.wish, L2.Cx.nox]
    have yes : ∀ q : Nat, Rw.dpl rs k = some q → kk (.tuple [.bool true, .int (q : Nat)]) () := fun q hq => by unfold tdD at hk; rw [hq] at hk; exact hk
    refine Ws_seq (Wx_set ?_)
    walk_at "wi"
    refine Ws_seq (Ws_for (Wi_seq ?_))
    walk_at "wi"
    refine ⟨fun i _ ρ => ∃ y3 y4 y5 y6 : En, ρ = [En.da (.tuple (Rw.dl false rs)), En.da (.int (k : Nat)), En.da (.int (Rw.szl (rs.take i) : Nat)), y3, y4, y5, y6] ∧ Rw.dpl rs k = (Rw.dpl (rs.drop i) k).map (Rw.szl (rs.take i) + ·), ⟨_, _, _, _, rfl, ?_⟩, ?_, ?_⟩
    · rw [List.drop_zero, List.take_zero]
      cases Rw.dpl rs k <;> simp [Rw.szl]
    · rintro i dd g2 ρ2 hd ⟨y3, y4, y5, y6, rfl, hdp⟩
      obtain ⟨r, hr2, rfl⟩ := dl_get hd
      have hdr := dep_mem (List.mem_of_getElem? hr2)
      refine Wx_name ⟨rfl, ?_⟩
      by_cases hdeep : r.bl ≠ [] ∧ (20 : Int) ≤ (k : Nat)
      · have hq : Rw.dpl rs k = some (Rw.szl (rs.take i) + 0) := by
          rw [hdp, drop_get hr2, Rw.dpl, dpa_eq, if_pos ⟨hdeep.1, by omega⟩]; rfl
        refine Ws_seq (Ws_if ?_)
        refine Wt_and (Wt_tru (We_call0 Ln.pure (Wa_cons (We_var rfl (Wa_nil ⟨false, r, rfl, _, rfl, ?_⟩)))))
        rw [blD_isE]
        refine ⟨fun _ => ?_, fun h => ?_⟩
        · walk_at "wi"
          refine ⟨fun _ => ?_, fun h => absurd hdeep.2 (of_decide_eq_false h)⟩
          walk_at "wj"
          exact yes _ hq
        · exact absurd (List.isEmpty_iff.mp (by simpa using h)) hdeep.1
      · have hdpa : r.dpa k = dpb r.bl (k + 1) 1 := by rw [dpa_eq, if_neg (fun z => hdeep ⟨z.1, by omega⟩)]
        refine Ws_seq (Ws_no_if ?_ (Ws_next ?_))
        · refine Wt_and (Wt_tru (We_call0 Ln.pure (Wa_cons (We_var rfl (Wa_nil ⟨false, r, rfl, _, rfl, ?_⟩)))))
          rw [blD_isE]
          refine ⟨fun h => ?_, fun h => ⟨rfl, rfl⟩⟩
          walk_at "wi"
          refine ⟨decide_eq_false fun z => hdeep ⟨fun e => ?_, z⟩, rfl⟩
          rw [e] at h; cases h
        refine Ws_seq (Wx_set ?_)
        walk_at "wi"
        refine Ws_for (Wi_seq (We_call0 Ln.pure (Wa_cons (We_var rfl (Wa_nil ⟨false, r, rfl, _, rfl, ?_⟩)))))
        refine ⟨fun j _ ρ => ∃ y4 y5 y6 : En, ρ = [En.da (.tuple (Rw.dl false rs)), En.da (.int (k : Nat)), En.da (.int ((Rw.szl (rs.take i) + (1 + ((r.bl.take j).map Rw.szl).sum) : Nat) : Int)), En.da (Rw.d false r), y4, y5, y6] ∧ r.dpa k = dpb (r.bl.drop j) (k + 1) (1 + ((r.bl.take j).map Rw.szl).sum), ⟨y4, y5, y6, ?_, ?_⟩, ?_, ?_⟩
        · rfl
        · simp [hdpa]
        · rintro j dd g3 ρ3 hdd ⟨y4, y5, y6, rfl, hdb⟩
          obtain ⟨b, hb, rfl⟩ := blD_get hdd
          have hbm := List.mem_of_getElem? hb
          have hdb2 := dep_bl hbm
          have esum : ((r.bl.take (j + 1)).map Rw.szl).sum = ((r.bl.take j).map Rw.szl).sum + Rw.szl b := by
            rw [take_get hb, List.map_append, List.sum_append]; simp
          rw [drop_get hb] at hdb
          refine Wx_name ⟨rfl, ?_⟩
          refine Ws_seq (Ws_asg (We_call0 Ln.pure ?_))
          walk_at "wi"
          refine ⟨by omega, ?_⟩
          unfold tdD
          cases hq : Rw.dpl b (k + 1) with
          | some q =>
            refine Wg_tup ⟨_, rfl, rfl, Wgs_cons (Wx_name ⟨rfl, Wgs_cons (Wx_name ⟨rfl, Wgs_nil ?_⟩)⟩)⟩
            have hq2 : Rw.dpl rs k = some (Rw.szl (rs.take i) + (1 + ((r.bl.take j).map Rw.szl).sum + q)) := by
              rw [hdp, drop_get hr2, Rw.dpl, hdb, dpb, hq]; rfl
            have hy := yes _ hq2
            rw [show Rw.szl (rs.take i) + (1 + ((r.bl.take j).map Rw.szl).sum + q) = Rw.szl (rs.take i) + (1 + ((r.bl.take j).map Rw.szl).sum) + q by omega] at hy
            walk_at "wj"
            exact hy
          | none =>
            refine Wg_tup ⟨_, rfl, rfl, Wgs_cons (Wx_name ⟨rfl, Wgs_cons (Wx_name ⟨rfl, Wgs_nil ?_⟩)⟩)⟩
            walk_at "wj"
            refine ⟨En.da (.tuple (Rw.dl false b)), En.da (.bool false), En.da (.int (Rw.szl b : Nat)), ?_, ?_⟩
            · rw [show Rw.szl (rs.take i) + (1 + ((r.bl.take (j + 1)).map Rw.szl).sum) = Rw.szl (rs.take i) + (1 + ((r.bl.take j).map Rw.szl).sum) + Rw.szl b by rw [esum]; omega]
              rfl
            · rw [hdb, dpb, hq, esum]
              simp only [Option.map_none, Option.none_or]
              rw [Nat.add_assoc]
        · rintro g3 ρ3 ⟨y4, y5, y6, rfl, hdb⟩
          rw [show (blD false r).length = r.bl.length from List.length_map _, drop_all, show dpb [] (k + 1) (1 + ((r.bl.take r.bl.length).map Rw.szl).sum) = none from rfl] at hdb
          have hd2 := dpl_drop hr2 hdp hdb
          rw [show (blD false r).length = r.bl.length from List.length_map _, take_all]
          refine ⟨En.da (Rw.d false r), y4, y5, y6, ?_, ?_⟩
          · rw [take_get hr2, szl_snoc, sz_bl]
          · rw [hd2, take_get hr2, szl_snoc]
    · rintro g2 ρ2 ⟨y3, y4, y5, y6, rfl, hdp⟩
      rw [dl_len, drop_all, show Rw.dpl [] k = none from rfl] at hdp
      unfold tdD at hk
      rw [show Rw.dpl rs k = none from hdp] at hk
      rw [dl_len, take_all]
      walk_at "wj"
      exact hk
end
theorem exm_one {K : PySem.W.Frag} {cls c : Value} : PySem.W.exmAny K cls [c] = PySem.W.exmOne K cls c := by
  have e : PySem.W.exmAny K cls [c] = (match PySem.W.exmOne K cls c, PySem.W.exmAny K cls [] with | some b, some d => some (b || d) | _, _ => none) := rfl
  rw [e]
  cases PySem.W.exmOne K cls c with
  | none => rfl
  | some b => show some (b || false) = _; rw [Bool.or_false]
theorem as_mix {K : PySem.W.Frag} {c : Value} {i : Nat} {ts : Addr → Value → Option Addr → TS} {F : WX} {D : Ends} : wAs K c i ts F D = wMix K F D [([c], some i, ts)] := by
  funext cls d σ H
  unfold wAs wMix
  rw [exm_one]
  rfl
theorem takesN0 {X : L2.Cx} : L2N.Takes X (fun _ _ _ _ => False) := fun u s' h => by
  obtain ⟨a, B, sI, pins, σ, H, cls, d, e, I, nb, up, sky, na, os, ag, w⟩ := h
  exact w.elim
theorem passN {P : Program} {w : World} {X : L2.Cx} : Passes (L2N.CX P w) X E0 := fun _ _ _ _ _ _ _ c => by
  obtain ⟨_, _, _, _, _, _, _, _, _, _, _, _, z⟩ := c
  exact z.elim
theorem no_frz {ρ : List En} {i : Nat} {d : PyData} (h : (ρ.map frz)[i]? = some (En.own d)) : False := by
  rw [List.getElem?_map] at h
  obtain ⟨e, _, z⟩ := Option.map_eq_some_iff.mp h
  cases e <;> cases z
/-- nothing of ours is grown any more -/
theorem Ws_end {K : PySem.W.Frag} {E : XK} {x : KX Unit} {t : TS} {ρ : List En} {kt : Kz Unit} (h : Ws ⟨K, Co.pure, E, x⟩ t () (ρ.map frz) ⟨fun _ _ => False, kt.rt, fun _ _ => False, fun _ _ => False⟩) : Ws ⟨K, Co.pure, E, x⟩ t () ρ kt := fun S H0 σ H D s xe L =>
  h S H σ H D s.peek (fun nm od H' g' es f I xd hx => xe nm od H' g' es (s.frm.trans f) I xd hx) ⟨fun _ _ _ _ _ _ z => z.elim, fun y H' d g' f I dy r => L.rt y H' d g' (s.frm.trans f) I dy r, fun _ _ _ _ _ _ z => z.elim, fun _ _ _ _ _ _ z => z.elim⟩
section
variable {P : Program} {w : World} {K : PySem.W.Frag} {mg : Str → Option Value} {base : Heap}
abbrev tLwT (K : PySem.W.Frag) (E : L2.St → XK) : TS := tDrop (tMakeS (He.ga K "Program") (spY K (CB K) (RPi 22)) E (tCons (tLst (tCons (tTup (tCons (tC (.str "main")) (tCons (tC (.int 1)) (tCons (tVar 13) tNil)))) tNil)) tNil))
abbrev tLwH (K : PySem.W.Frag) (a : Addr) (cls : Value) (d : Option Addr) : TS := tRet (tOp (rEqD K) (tTup (tCons (tXf a cls d (He.ga K "BadProgram") "name" (tVar 20)) (tCons (tXf a cls d (He.ga K "BadProgram") "place" (tVar 20)) (tCons (tXf a cls d (He.ga K "BadProgram") "what" (tVar 20)) tNil)))) (tTup (tCons (tC (.str "main")) (tCons (tOp (rIxA K) (tCall (spX K Co.pure (RTd 22)) [] E0 (tCons (tVar 13) (tCons (tC (.int 0)) tNil))) (tC (.int 1))) (tCons (tC (.str "deep")) tNil)))))
theorem kp_tail16 {fa : Addr} {cdv : Value} {A : Around} {outer : List Env} {s : Shared} {H : Hp} {E : XK} (SB : ErrF P w K mg base "BadProgram" ["name", "place", "what"]) (TD : KeepsH CX0 P w K mg base "_law_too_deep" 24 ["_law_rows", "_law_depth"] (spX K Co.pure (RTd 22))) (MP : Mk K (He.ga K "Program") (He.ma K (He.ga K "Program") "__init__")) (KP : KeepsM (L2N.CX P w) P w K mg base (He.ma K (He.ga K "Program") "__init__") 29 ["self", "procedures"] (spY K (CB K) (RPi 22))) (gP : mg "Program" = some (.ref (He.ga K "Program")))
    (hr : Room 49 (A.deeper (envOfC "law" (defScope s_law) s.heap.objs.size fa cdv))) : Tail16 (cxOf CX0 P w K mg base N_law "law" (defScope s_law) fa cdv A outer s H E).nox K E := by
  obtain ⟨fP, FP, bP⟩ := KP
  refine ⟨_, pss_cons (L2N.ps_try_as (i := 20) (tb := fun W => tLwT K (WE W)) (ts := fun a cls d => tLwH K a cls d) (Wout := fun _ _ _ _ => False) rfl rfl sc_law.nd rfl rfl ⟨(by rfl), by decide, .inl SB.a.xt.g⟩ takesN0
      (fun W pn xe tk _ => pss_one (ps_expr (pe_makeS MP FP (hr.mono (by omega)) (by rfl) gP bP (fun σ => L2N.passAt tk σ) (pa_cons (pe_lst (pa_cons (pe_tup (pa_cons pe_str (pa_cons pe_int (pa_cons (pv 13) pa_nil)))) pa_nil)) pa_nil))))
      (fun a oe cls d pn hz hf => pss_one (ps_ret (pe_cmpR (op_eqD hr.units) (pe_tup (pa_cons (pe_xf SB.xf (SB.a.xt.no _ (by decide)) hz.zc hf (pv 20)) (pa_cons (pe_xf SB.xf (SB.a.xt.no _ (by decide)) hz.zc hf (pv 20)) (pa_cons (pe_xf SB.xf (SB.a.xt.no _ (by decide)) hz.zc hf (pv 20)) pa_nil)))) (pe_tup (pa_cons pe_str (pa_cons (pe_ix (r := rIxA K) ix_any (pe_kH ⟨(a, oe), ⟨rfl, by obtain ⟨vs, hv⟩ := hf; exact ⟨vs, hv, hz.2.2 vs hv⟩⟩, List.mem_cons_self⟩ (TD.up (show 24 ≤ 49 by decide)) (L2H.roomH_mark hr _) (by rfl) (pa_cons (pv 13) (pa_cons pe_int pa_nil))) pe_int (fun _ _ => rfl)) (pa_cons pe_str pa_nil)))) (nomark _)))))
      (pss_one (ps_ret pe_bl)), ?_⟩
  intro rs hd e9 e10 e0 e2 e3 e4 e5 e6 e7 e8 y11 y12 y14 y15 y16 y17 y18 y19 y20 y21 y22 y23 x kt hok hdp hsz hk
  try dsimp only [cxOf, L2.Cx.wish, L2.Cx.nox]
  simp only [as_mix]
  refine Ws_end ?_
  have hd0 : Rw.dpl rs 0 ≠ none := fun z => by
    have := (dpl_none _ rs 0 (Nat.le_refl _) (by omega)).mp z
    omega
  have nmM : nmB "main" = true := by decide +kernel
  have pg : PgOk 22 [(⟨"main", 1, rs⟩ : Pr)] := ⟨⟨Nat.le_refl _, (by decide : 1 ≤ 300)⟩, fun p hp => by rw [List.mem_singleton.mp hp]; exact ⟨nmM, (by decide : (1 : Int) ≤ 1 ∧ (1 : Int) ≤ 40), hok _, by show Rw.depl rs ≤ 25; omega, by show Rw.szl rs ≤ 60000; omega⟩, by simp, fun p hp => by rw [List.mem_singleton.mp hp]; show Rw.depl rs < 22; omega, by show Rw.szl rs + 0 ≤ 3000; omega⟩
  refine Ws_seq (Ws_try (tbE := fun E => tLwT K E) (x' := fun z es _ => z = "BadProgram" ∧ ∃ q, Rw.dpl rs 0 = some q ∧ es = bpX "main" (q : Nat) "deep") (fun W D σ H => rfl) (fun i d z => no_frz z) (fun E' => ?_) (fun z es hx => ?_))
  · refine Ws_drop (We_new (Wn_makeS (Wa_cons (We_lst (Wa_cons (We_tup (Wa_cons (We_str (Wa_cons (We_int (Wa_cons (We_var rfl (Wa_nil ⟨[.str "main", .int 1, .tuple (Rw.dl false rs)], rfl, Nat.le_of_ble_eq_true rfl, Wa_nil ⟨[.tuple [.str "main", .int 1, .tuple (Rw.dl false rs)]], rfl, Nat.le_of_ble_eq_true rfl, Wa_nil fun p => ?_⟩⟩)))))))))))))
    exact ⟨false, false, true, [⟨"main", 1, rs⟩], rfl, rfl, pg, fun hno => absurd (hno _ List.mem_cons_self) hd0, fun p2 hp2 q hq g' => by rw [List.mem_singleton.mp hp2] at hq ⊢; exact ⟨rfl, q, hq, rfl⟩⟩
  · obtain ⟨rfl, q, hq, rfl⟩ := hx
    have hsh : Shp (.tuple [.str "main", .int (q : Nat), .str "deep"]) := by kernel_rfl
    refine .nmd (exm1 SB.xm) (fun z => nomatch z) (Nat.lt_of_lt_of_eq (by decide : 20 < 24) rfl) fun a dd fs => ?_
    refine Ws_ret (We_op rd_eqD (We_tup (Wa_cons (We_xf rfl rfl (Wa_cons (We_xf rfl rfl (Wa_cons (We_xf rfl rfl (Wa_nil ⟨[.str "main", .int (q : Nat), .str "deep"], rfl, Nat.le_of_ble_eq_true rfl, ?_⟩)))))))))
    refine We_tup (Wa_cons (We_str (Wa_cons (We_op rd_ixA (We_call0 Ln.pure (Wa_cons (We_var rfl (Wa_cons (We_int (Wa_nil ⟨rs, 0, rfl, by omega, ?_⟩))))))))))
    unfold tdD
    rw [hq]
    refine We_int ⟨_, 1, .int (q : Nat), rfl, rfl, rfl, Wa_cons (We_str (Wa_nil ⟨[.str "main", .int (q : Nat), .str "deep"], rfl, Nat.le_of_ble_eq_true rfl, hsh, hsh, ?_⟩))⟩
    show kt.rt (.bool (PyData.eqv (.tuple [.str "main", .int (q : Nat), .str "deep"]) (.tuple [.str "main", .int (q : Nat), .str "deep"]))) ()
    rw [ShpEq hsh]
    exact hk
end
/-! ### the script, as it stands -/
def Co.sq (K : PySem.W.Frag) (a : Addr) (xs : List V) : Co Bool where
  M := fun _ => False
  I := fun T g H => g = true → (∃ o, H a = some (.frz o (.lst xs)) ∧ ¬ T a) ∨ SqL K (fun _ => none) a xs
  old := fun _ _ _ _ _ m => m.elim
  keep := fun _ _ _ _ _ _ f h e => (h e).imp (fun ⟨o, q, n⟩ => ⟨o, f _ _ n q, n⟩) id
  mono := fun _ _ _ _ w h e => (h e).imp (fun ⟨o, q, n⟩ => ⟨o, q, fun z => n (w _ _ q z)⟩) id
theorem sq_sql {K : PySem.W.Frag} {H : Hp} {a : Addr} {xs : List V} {T : Ad} (h : (Co.sq K a xs).I T true H) : SqL K H a xs := by
  rcases h rfl with ⟨o, q, _⟩ | (h | ⟨o, h⟩) | h
  · exact .inl (.inr ⟨o, q⟩)
  · cases h
  · cases h
  · exact .inr h
theorem sq_start {K : PySem.W.Frag} {H : Hp} {a : Addr} {xs : List V} {g : Bool} (hO : Only H) (h : SqL K H a xs) : (Co.sq K a xs).I (fun _ => False) g H := fun _ => by
  rcases (h) with (h | ⟨o, h⟩) | h
  · rcases hO a with z | ⟨o, ys, z⟩ <;> rw [h] at z <;> cases z
  · exact .inl ⟨o, h, fun z => z⟩
  · exact .inr (.inr h)
section
variable {K : PySem.W.Frag} {E : XK} {x : KX Bool} {ρ : List En} {k : KD Bool} {i j : Nat} {a : Addr} {ns : List Int} {t : TS} {kt : Kz Bool} {te : TE}
theorem We_slS {r : V → Option Int → Option Int → Hp → VK → Prop} {m : Int} (hr : r = rSlL K) (e : ρ[j]? = some (En.raw (.ref a))) (h : k (.list (cutD (ns.map PyData.int) (some m) none)) true) : We ⟨K, Co.sq K a (ns.map V.int), E, x⟩ (tSl r (tVar j) (tPart (tC (.int m))) tNoPart) true ρ k := fun S H0 σ H Q s xe q => by
  subst hr
  refine ⟨_, s.raw j _ e, m, rfl, a, _, rfl, sq_sql s.I, fun p hp => ?_⟩
  have sm := same_new (o := .lst (cutV (ns.map V.int) (some m) none)) (Same.refl H) hp
  have np : ¬ SS S σ ρ p := fun z => s.olds.not hp z
  exact q _ _ _ true (Frm.of sm) (Co.same _ (fun _ z => z.elim) s.I sm) (.ref (.lst upd_same (dal_cut (DaL.ints ns))) np) h
theorem We_lenS {r : List V → Hp → VK → Prop} (hr : r = rLen K) (e : ρ[j]? = some (En.raw (.ref a))) (h : k (.int (ns.length : Nat)) true) : We ⟨K, Co.sq K a (ns.map V.int), E, x⟩ (tCB r (tCons (tVar j) tNil)) true ρ k := fun S H0 σ H Q s xe q => by
  subst hr
  refine ⟨_, s.raw j _ e, _, ns.length, rfl, ?_, q _ H _ true (Frm.refl _ _) s.I (.int _) h⟩
  exact .inl ⟨_, sq_sql s.I, by rw [List.length_map]⟩
theorem We_ixS (e : ρ[j]? = some (En.raw (.ref a))) (h : We ⟨K, Co.sq K a (ns.map V.int), E, x⟩ te true ρ fun d g => ∃ (m : Nat) (n : Int), d = .int (m : Nat) ∧ g = true ∧ ns[m]? = some n ∧ k (.int n) true) : We ⟨K, Co.sq K a (ns.map V.int), E, x⟩ (tOp (rIxA K) (tVar j) te) true ρ k := fun S H0 σ H Q s xe q => by
  refine ⟨_, s.raw j _ e, h S H0 σ H _ s xe fun y H1 d g1 f1 I1 dy ⟨m, n, e1, e2, e3, hk⟩ => ?_⟩
  subst e1 e2
  rw [dy.int_inv]
  exact .inl ⟨a, _, _, _, rfl, rfl, sq_sql I1, atI_nat (by rw [List.getElem?_map, e3]; rfl), q _ H1 _ true f1 I1 (.int n) hk⟩
/-- the script is used up -/
theorem Ws_used (h : Ws ⟨K, Co.pure, E, Nev Unit⟩ t () ρ ⟨fun _ ρ => kt.nx false ρ, fun d _ => kt.rt d false, fun _ ρ => kt.bk false ρ, fun _ ρ => kt.ct false ρ⟩) : Ws ⟨K, Co.sq K a (ns.map V.int), E, Nev Bool⟩ t true ρ kt := fun S H0 σ H D s xe L =>
  have bk : ∀ {σ' : L2.St} {H' : Hp} {ρ' : List En} {g' : Unit}, Sl K Co.pure S H0 g' H' σ' ρ' → Sl K (Co.sq K a (ns.map V.int)) S H0 false H' σ' ρ' := fun s' => ⟨s'.frm, s'.old, s'.sub, s'.tn, (fun z => nomatch z), s'.len, s'.da, s'.own, s'.raw, s'.nt, s'.inj⟩
  h S H0 σ H D ⟨s.frm, s.old, s.sub, s.tn, trivial, s.len, s.da, s.own, s.raw, s.nt, s.inj⟩ (XE.nev rfl)
    ⟨fun σ' H' ρ' g' s' st w => L.nx σ' H' ρ' false (bk s') st w, fun y H' d g' f I dy w => L.rt y H' d false f (fun z => nomatch z) dy w, fun σ' H' ρ' g' s' st w => L.bk σ' H' ρ' false (bk s') st w, fun σ' H' ρ' g' s' st w => L.ct σ' H' ρ' false (bk s') st w⟩
end
section
variable {P : Program} {w : World} {K : PySem.W.Frag} {mg : Str → Option Value} {base : Heap}
def RCellS (i : Addr × List Int) : List En → Bool → KD Bool → KX Bool → Prop := fun es g k _ => ∃ j : Nat, es = [En.raw (.ref i.1), En.da (.int (j : Nat))] ∧ g = true ∧ j ≤ 1000 ∧ ∀ c : Int, k (.int c) true

theorem kps__law_cell (F : At K mg "_law_cell" s__law_cell) (N : Nb mg) : Keeps CX0 P w K mg base "_law_cell" 1 ["_law_script", "_law_at"] (spY K (fun i : Addr × List Int => Co.sq K i.1 (i.2.map V.int)) RCellS) := by
  refine keeps_y F sc__law_cell (fun _ _ _ _ _ _ us hl => match us, hl with | [_, _], _ => rfl) (fun i es g k x h => ?_) (fun fa cdv A outer s H E p es g k x hr h => ?_)
  · obtain ⟨_, rfl, _⟩ := h; rfl
  · obtain ⟨a, ns⟩ := p
    obtain ⟨i, rfl, rfl, hi, hk⟩ := h
    refine ⟨_, (pss_one (ps_ret (pe_ifExp (pt_cmpR op_lt (pv 1) (pe_callB call_len (by rfl) N.len (by decide +kernel) (pa_cons (pv 0) pa_nil)) (nomark _)) (pe_callTy call_int1 (by rfl) N.int (by decide +kernel) (pa_cons (pe_ix ix_any (pv 0) (pv 1) (fun _ _ => rfl)) pa_nil)) (pe_op op_add (pe_op op_mul pe_int (pv 1)) pe_int)))), ?_⟩
    try dsimp only [cxOf, L2.Cx.wish]
    refine Ws_ret (We_if (Wt_val (We_op rd_b0 (We_var rfl (We_lenS rfl rfl ?_)))))
    walk_at "wj"
    refine ⟨fun h => ?_, fun h => ?_⟩
    · have := of_decide_eq_true h
      refine We_cb rf_int (Wa_cons (We_ixS rfl (We_var rfl ⟨i, ns[i]'(by omega), rfl, rfl, List.getElem?_eq_getElem (by omega), Wa_nil ⟨[_], rfl, _, rfl, hk _⟩⟩)))
    · walk_at "wj"
      exact hk _
end
mutual
theorem ok_mono {m : Int} {tb tb' : List (Key × PyData)} (w : ∀ k v, lkM tb k = some v → lkM tb' k = some v) : ∀ (r : Rw), r.ok m tb → r.ok m tb'
  | .ite v t b c, h => by rw [Rw.ok] at h ⊢; exact ⟨h.1, h.2.1, okl_mono w b h.2.2.1, okl_mono w c h.2.2.2⟩
  | .eith b c, h => by rw [Rw.ok] at h ⊢; exact ⟨okl_mono w b h.1, okl_mono w c h.2⟩
  | .whil v t b, h => by rw [Rw.ok] at h ⊢; exact ⟨h.1, h.2.1, okl_mono w b h.2.2⟩
  | .call f as v, h => by
    rw [Rw.ok] at h ⊢
    obtain ⟨h1, h2, ⟨c, h3, h4⟩, h5⟩ := h
    exact ⟨h1, h2, ⟨c, w _ _ h3, h4⟩, h5⟩
  | .deed _ _, h => by rw [Rw.ok] at h ⊢; exact h
  | .copy _ _, h => by rw [Rw.ok] at h ⊢; exact h
  | .need _ _, h => by rw [Rw.ok] at h ⊢; exact h
  | .stop, _ => by rw [Rw.ok]; trivial
theorem okl_mono {m : Int} {tb tb' : List (Key × PyData)} (w : ∀ k v, lkM tb k = some v → lkM tb' k = some v) : ∀ (rs : List Rw), Rw.okl m tb rs → Rw.okl m tb' rs
  | [], _ => trivial
  | r :: rs, h => by rw [Rw.okl] at h ⊢; exact ⟨ok_mono w r h.1, okl_mono w rs h.2⟩
end
theorem lk_app {a b : List (Key × PyData)} {k : Key} {v : PyData} (h : lkM a k = some v) : lkM (a ++ b) k = some v := by
  unfold lkM at h ⊢
  obtain ⟨p, hp, e⟩ := Option.map_eq_some_iff.mp h
  rw [List.find?_append, hp]
  exact congrArg some e
/-- the program that the law makes -/
theorem lw_prog {ds : List Pr} {rn : List Rw} (h1 : 1 ≤ ds.length) (h4 : ds.length ≤ 4) (nd : (ds.map Pr.f).Nodup) (hd : ∀ p ∈ ds, PdOk (tbD ds) p) (hn : ∀ tb, Rw.okl 1 tb rn) (hn2 : Rw.depl rn ≤ 20) (hn3 : Rw.szl rn ≤ 100) :
    LwP (ds ++ [⟨"nest9", 1, rn⟩]) ∧ ∀ p ∈ ds ++ [(⟨"nest9", 1, rn⟩ : Pr)], p.f ≠ "nest8" := by
  have n9 : nmB "nest9" = true := by decide +kernel
  have l9 : ("nest9" : Str).length = 5 := by decide +kernel
  have l8 : ("nest8" : Str).length = 5 := by decide +kernel
  have hm : ∀ p, p ∈ ds ++ [(⟨"nest9", 1, rn⟩ : Pr)] → p ∈ ds ∨ p = ⟨"nest9", 1, rn⟩ := fun p hp => (List.mem_append.mp hp).imp id fun z => List.mem_singleton.mp z
  have hs : (ds.map fun p => Rw.szl p.rs).sum ≤ ds.length * 14 := by
    clear h1 h4 nd hm
    have hd2 : ∀ p ∈ ds, Rw.szl p.rs ≤ 14 := fun p hp => (hd p hp).sz
    clear hd
    induction ds with
    | nil => simp
    | cons a l ih =>
      have := ih fun p hp => hd2 p (List.mem_cons_of_mem _ hp)
      have := hd2 a List.mem_cons_self
      rw [List.map_cons, List.sum_cons, List.length_cons]
      omega
  refine ⟨⟨⟨⟨by rw [List.length_append]; omega, by rw [List.length_append, List.length_singleton]; omega⟩, fun p hp => ?_, ?_, fun p hp => ?_, ?_⟩, fun p hp => ?_, fun p hp => ?_, by rw [List.length_append, List.length_singleton]; omega, fun p hp => ?_⟩, fun p hp => ?_⟩
  · have et : tbD (ds ++ [(⟨"nest9", 1, rn⟩ : Pr)]) = tbD ds ++ tbD [⟨"nest9", 1, rn⟩] := by unfold tbD; rw [List.map_append]
    rcases hm p hp with hp | rfl
    · have h := hd p hp
      have hn2 := h.n
      have hz := h.sz
      have hdd := h.dep
      exact ⟨h.nm.1, ⟨h.n.1, by omega⟩, by rw [et]; exact okl_mono (fun _ _ => lk_app) _ h.ok, by omega, by omega⟩
    · exact ⟨n9, (by decide : (1 : Int) ≤ 1 ∧ (1 : Int) ≤ 40), hn _, by show Rw.depl rn ≤ 25; omega, by show Rw.szl rn ≤ 60000; omega⟩
  · (rw [List.map_append, List.nodup_append])
    refine ⟨nd, by simp, fun a ha b hb e => ?_⟩
    obtain ⟨p, hp, rfl⟩ := List.mem_map.mp ha
    have hb2 : b = "nest9" := List.mem_singleton.mp hb
    have := (hd p hp).nm.2
    rw [e, hb2, l9] at this
    omega
  · rcases hm p hp with hp | rfl
    · have := (hd p hp).dep; omega
    · show Rw.depl rn < 22; omega
  · rw [List.map_append, List.sum_append]
    show _ + (Rw.szl rn + 0) ≤ 3000
    omega
  · rcases hm p hp with hp | rfl
    · have := (hd p hp).dep; omega
    · exact hn2
  · rcases hm p hp with hp | rfl
    · have := (hd p hp).sz; omega
    · exact hn3
  · rcases hm p hp with hp | rfl
    · have := (hd p hp).nm.2; omega
    · exact Nat.le_of_eq l9
  · intro e
    rcases hm p hp with hp | rfl
    · have := (hd p hp).nm.2
      rw [e, l8] at this
      omega
    · exact absurd e (show ¬ (("nest9" : Str) = "nest8") by decide +kernel)
section
variable {γ : Type} {B : Bd γ} {tl : TA} {g : γ} {ρ : List En} {k : KD γ} {nm : Str}
theorem Wn_makeN {R : Addr → List En → PB → KD PB → KX PB → Prop} (h : Wa B tl g ρ fun es g1 => ∀ p, R p (En.raw (.ref p) :: es) ((), insD nm []) (fun d g' => d = .none ∧ NT g'.2 ∧ k g'.2 g1) fun _ _ _ => False) : Wn B (tMake (He.ga B.K nm) (spY B.K (CB B.K) R) [] E0 tl) g ρ k := fun S H0 σ H Q s x q =>
  h S H0 σ H _ s x fun ys H1 es g1 f I al hR => Wn_make0 (B := ⟨B.K, B.C, E0, Nev γ⟩) rfl (s.step f I) (XE.nev rfl) al hR fun a H' d g' n f2 I2 ho nt hk => q a H' d g' (f.gone (B.C.old _ _ _ I) n) (f.trans f2) I2 ho nt hk
end
section
variable {P : Program} {w : World} {K : PySem.W.Frag} {mg : Str → Option Value} {base : Heap}
theorem kp_law_head {fa : Addr} {cdv : Value} {A : Around} {outer : List Env} {s : Shared} {H : Hp} {E : XK} (N : Nb mg) (G : LwG P w K mg base)
    (G__law_hand : Keeps CX0 P w K mg base "_law_hand" 1 ["_law_script"] (spHand K)) (G__law_letter : Keeps CX0 P w K mg base "_law_letter" 1 ["_law_a", "_law_b", "_law_wide"] (spX K Co.pure RLet)) (G__law_test : Keeps CX0 P w K mg base "_law_test" 1 ["_law_a", "_law_b", "_law_wide"] (spX K Co.pure RTst))
    (G__law_cell : Keeps CX0 P w K mg base "_law_cell" 1 ["_law_script", "_law_at"] (spY K (fun i : Addr × List Int => Co.sq K i.1 (i.2.map V.int)) RCellS)) (G__law_program : Keeps CX0 P w K mg base "_law_program" 7 ["_law_cell_here", "_law_letters", "_law_tests", "_law_most", "_law_many", "_law_most_rows"] (spX K Co.pure RPg)) (G__law_tight : Keeps CX0 P w K mg base "_law_tight" 24 ["_law_rows"] (spX K Co.pure (RTi 22)))
    (G__law_nest : Keeps CX0 P w K mg base "_law_nest" 1 ["_law_deep", "_law_number", "_law_test_here"] (spX K Co.pure RNe)) (MP : Mk K (He.ga K "Program") (He.ma K (He.ga K "Program") "__init__")) (KP : KeepsM (L2N.CX P w) P w K mg base (He.ma K (He.ga K "Program") "__init__") 29 ["self", "procedures"] (spY K (CB K) (RPi 22))) (gP : mg "Program" = some (.ref (He.ga K "Program")))
    (hr : Room 49 (A.deeper (envOfC "law" (defScope s_law) s.heap.objs.size fa cdv))) (T16 : Tail16 (cxOf CX0 P w K mg base N_law "law" (defScope s_law) fa cdv A outer s H E).nox K E) :
    ∃ t, PSs (cxOf CX0 P w K mg base N_law "law" (defScope s_law) fa cdv A outer s H E).nox (defBody s_law) t ∧ ∀ (a : Addr) (ns : List Int) (k : KD Bool), ns.length ≤ 63 → k (.bool true) false →
      Ws ⟨K, Co.sq K a (ns.map V.int), E, Nev Bool⟩ t true (slots N_law [En.raw (.ref a)]) ⟨fun g' _ => k .none g', k, fun _ _ => False, fun _ _ => False⟩ := by
  have G__law_draw := G.draw
  obtain ⟨fP, FP, bP⟩ := KP
  obtain ⟨t10, h10, w10⟩ := kp_law_loop (fa := fa) (cdv := cdv) (A := A) (outer := outer) (s := s) (H := H) (E := E) N G hr
  obtain ⟨t11, h11, w11⟩ := kp_law_tail (fa := fa) (cdv := cdv) (A := A) (outer := outer) (s := s) (H := H) (E := E) N G G__law_nest hr T16
  refine ⟨_, (pss_cons (ps_set (i := 1) sc_law.nd rfl (by walk_at "lv") (pe_k (G__law_hand.up (by omega)) hr (by rfl) pass0 (pa_cons (pe_slice sl_list (pv 0) (po_some pe_int) po_none) pa_nil)))
        (pss_cons (ps_setLc (i := 2) (own := [("_law_k", 21)]) (g := gName 21) (tt := tYes) rfl sc_law.nd rfl rfl (sw_true rfl rfl rfl (by decide +kernel)) (pi_range1 (by rfl) N.range (pa_cons pe_int pa_nil)) (blkOk_by (N := N_law) (sc := defScope s_law) (by decide +kernel)) (fun _ _ _ _ _ => (pg_name (i := 21) sc_law.nd rfl (by walk_at "lv"))) (fun _ _ _ _ _ => pts_nil) (fun _ _ _ _ _ => (pe_k (G__law_letter.up (by omega)) hr (by rfl) pass0 (pa_cons (pe_k (G__law_draw.up (by omega)) hr (by rfl) pass0 (pa_cons (pv 1) (pa_cons pe_int pa_nil))) (pa_cons (pe_k (G__law_draw.up (by omega)) hr (by rfl) pass0 (pa_cons (pv 1) (pa_cons pe_int pa_nil))) (pa_cons pe_int pa_nil))))))
        (pss_cons (ps_setLc (i := 3) (own := [("_law_k", 21)]) (g := gName 21) (tt := tYes) rfl sc_law.nd rfl rfl (sw_true rfl rfl rfl (by decide +kernel)) (pi_range1 (by rfl) N.range (pa_cons pe_int pa_nil)) (blkOk_by (N := N_law) (sc := defScope s_law) (by decide +kernel)) (fun _ _ _ _ _ => (pg_name (i := 21) sc_law.nd rfl (by walk_at "lv"))) (fun _ _ _ _ _ => pts_nil) (fun _ _ _ _ _ => (pe_k (G__law_test.up (by omega)) hr (by rfl) pass0 (pa_cons (pe_k (G__law_draw.up (by omega)) hr (by rfl) pass0 (pa_cons (pv 1) (pa_cons pe_int pa_nil))) (pa_cons (pe_k (G__law_draw.up (by omega)) hr (by rfl) pass0 (pa_cons (pv 1) (pa_cons pe_int pa_nil))) (pa_cons pe_int pa_nil))))))
        (pss_cons (ps_set (i := 4) sc_law.nd rfl (by walk_at "lv") (pe_k (G__law_program.up (by omega)) hr (by rfl) pass0 (pa_cons (pe_k (G__law_cell.up (by omega)) hr (by rfl) pass0 (pa_cons (pv 0) (pa_cons pe_int pa_nil))) (pa_cons (pv 2) (pa_cons (pv 3) (pa_cons pe_int (pa_cons pe_int (pa_cons pe_int pa_nil))))))))
        (pss_cons (ps_set (i := 5) sc_law.nd rfl (by walk_at "lv") (pe_k (G__law_draw.up (by omega)) hr (by rfl) pass0 (pa_cons (pv 1) (pa_cons (pe_op op_pow pe_int pe_int) pa_nil))))
        (pss_cons (ps_set (i := 6) sc_law.nd rfl (by walk_at "lv") (pe_op op_add pe_int (pe_k (G__law_draw.up (by omega)) hr (by rfl) pass0 (pa_cons (pv 1) (pa_cons pe_int pa_nil)))))
        (pss_cons (ps_set (i := 7) sc_law.nd rfl (by walk_at "lv") (pe_op op_cat (pe_lc (own := [("_law_name", 11), ("_law_mine", 12), ("_law_rows", 13)]) (g := gTupA 3 (gCons (gName 11) (gCons (gName 12) (gCons (gName 13) gNil)))) (tt := tYes) rfl sc_law.nd (pi_seqE (pv 4)) (blkOk_by (N := N_law) (sc := defScope s_law) (by decide +kernel)) (fun _ _ _ _ _ => (pg_tupA (by rfl) (pgs_cons (pg_name (i := 11) sc_law.nd rfl (by walk_at "lv")) (pgs_cons (pg_name (i := 12) sc_law.nd rfl (by walk_at "lv")) (pgs_cons (pg_name (i := 13) sc_law.nd rfl (by walk_at "lv")) pgs_nil))))) (fun _ _ _ _ _ => pts_nil) (fun _ _ _ _ _ => (pe_tup (pa_cons (pv 11) (pa_cons (pv 12) (pa_cons (pe_k (G__law_tight.up (by omega)) hr (by rfl) pass0 (pa_cons (pv 13) pa_nil)) pa_nil)))))) (pe_lst (pa_cons (pe_tup (pa_cons pe_str (pa_cons pe_int (pa_cons (pe_k (G__law_nest.up (by omega)) hr (by rfl) pass0 (pa_cons (pv 6) (pa_cons (pv 5) (pa_cons (pe_ix ix_any (pv 3) pe_int (fun _ _ => rfl)) pa_nil)))) pa_nil)))) pa_nil))))
        (pss_cons (ps_set (i := 8) sc_law.nd rfl (by walk_at "lv") (pe_make (dvs := []) (E := E0) MP FP (hr.mono (by omega)) (by rfl) gP bP .nil passN (pa_cons (pv 7) pa_nil)))
        (pss_cons (ps_set (i := 9) sc_law.nd rfl (by walk_at "lv") (pe_lst pa_nil))
        (pss_cons (ps_set (i := 10) sc_law.nd rfl (by walk_at "lv") (pe_lst pa_nil))
        (pss_cons h10 h11))))))))))), ?_⟩
  intro a ns k hns hk
  try dsimp only [cxOf, L2.Cx.wish, L2.Cx.nox]
  refine Ws_seq (Wx_new (Wn_hand (We_slS rfl rfl ⟨ns.drop 1, ?_, by rw [List.length_drop]; omega, fun hd hhd => ⟨rfl, ?_⟩⟩)))
  · rw [show (1 : Int) = ((1 : Nat) : Int) from rfl, cutD_from, List.map_drop]
  refine Ws_seq (Ws_lend (i := 1) rfl fun o => Wx_new (Wn_lc (GIn.name (by decide)) (Wi_rng1 ?_)))
  walk_at "wi"
  refine ⟨by decide, fun i acc g2 => ∃ (Ls : List Lt) (d : PyData), acc = Ls.map Lt.d ∧ g2 = (true, d) ∧ HandD d ∧ Ls.length = i ∧ ∀ L ∈ Ls, L.Ok, ⟨[], hd, rfl, rfl, hhd, rfl, fun L h => by cases h⟩, ?_, ?_⟩
  · rintro i dd acc g2 hdd ⟨Ls, d1, rfl, rfl, hhd1, hl, hok⟩
    refine Wx_name ⟨rfl, Wt_yes ⟨fun _ => ?_, fun z => nomatch z⟩⟩
    refine We_call0 Ln.pure (Wa_cons (We_callY0 o (Ln.box Ln.pure) (Wa_raw rfl (Wa_cons (We_int (Wa_nil ⟨hhd1, 8, rfl, ⟨by decide, by decide⟩, fun r2 d2 a0 a1 hhd2 => ?_⟩))))))
    refine Wa_cons (We_callY0 o (Ln.box Ln.pure) (Wa_raw rfl (Wa_cons (We_int (Wa_nil ⟨hhd2, 1000, rfl, ⟨by decide, by decide⟩, fun r3 d3 b0 b1 hhd3 => ?_⟩)))))
    refine Wa_cons (We_int (Wa_nil ⟨r2, r3, rfl, ⟨a0, a1⟩, ⟨b0, b1⟩, fun L hL => ?_⟩))
    refine ⟨Ls ++ [L], d3, by rw [List.map_append]; rfl, rfl, hhd3, by rw [List.length_append, hl]; rfl, fun M hM => ?_⟩
    rcases List.mem_append.mp hM with hM | hM
    · exact hok M hM
    · rw [List.mem_singleton.mp hM]; exact hL
  rintro acc g2 ⟨Ls, d1, rfl, rfl, hhd1, hl1, hok1⟩
  have hL0 : Ls ≠ [] := by rintro rfl; cases hl1
  refine ⟨rfl, rfl, ?_⟩
  refine Ws_freeze (i := 2) rfl ?_
  show Ws _ _ true [En.raw (.ref a), En.own d1, En.da (.list (Ls.map Lt.d)), En.no, En.no, En.no, En.no, En.no, En.no, En.no, En.no, En.no, En.no, En.no, En.no, En.no, En.no, En.no, En.no, En.no, En.no, En.no, En.no, En.no] _
  refine Ws_seq (Ws_lend (i := 1) rfl fun o => Wx_new (Wn_lc (GIn.name (by decide)) (Wi_rng1 ?_)))
  walk_at "wi"
  refine ⟨by decide, fun i acc g2 => ∃ (Ls : List Ts) (d : PyData), acc = Ls.map Ts.d ∧ g2 = (true, d) ∧ HandD d ∧ Ls.length = i ∧ ∀ L ∈ Ls, L.Ok, ⟨[], d1, rfl, rfl, hhd1, rfl, fun L h => by cases h⟩, ?_, ?_⟩
  · rintro i dd acc g2 hdd ⟨Ls, d1, rfl, rfl, hhd1, hl, hok⟩
    refine Wx_name ⟨rfl, Wt_yes ⟨fun _ => ?_, fun z => nomatch z⟩⟩
    refine We_call0 Ln.pure (Wa_cons (We_callY0 o (Ln.box Ln.pure) (Wa_raw rfl (Wa_cons (We_int (Wa_nil ⟨hhd1, 3, rfl, ⟨by decide, by decide⟩, fun r2 d2 a0 a1 hhd2 => ?_⟩))))))
    refine Wa_cons (We_callY0 o (Ln.box Ln.pure) (Wa_raw rfl (Wa_cons (We_int (Wa_nil ⟨hhd2, 1000, rfl, ⟨by decide, by decide⟩, fun r3 d3 b0 b1 hhd3 => ?_⟩)))))
    refine Wa_cons (We_int (Wa_nil ⟨r2, r3, rfl, ⟨a0, by omega⟩, ⟨b0, b1⟩, fun L hL => ?_⟩))
    refine ⟨Ls ++ [L], d3, by rw [List.map_append]; rfl, rfl, hhd3, by rw [List.length_append, hl]; rfl, fun M hM => ?_⟩
    rcases List.mem_append.mp hM with hM | hM
    · exact hok M hM
    · rw [List.mem_singleton.mp hM]; exact hL
  rintro acc g2 ⟨Tss, d2, rfl, rfl, hhd2, hl2, hok2⟩
  refine ⟨rfl, rfl, ?_⟩
  refine Ws_freeze (i := 3) rfl ?_
  show Ws _ _ true [En.raw (.ref a), En.own d2, En.da (.list (Ls.map Lt.d)), En.da (.list (Tss.map Ts.d)), En.no, En.no, En.no, En.no, En.no, En.no, En.no, En.no, En.no, En.no, En.no, En.no, En.no, En.no, En.no, En.no, En.no, En.no, En.no, En.no] _
  obtain ⟨T0, hT0⟩ : ∃ T0, Tss[0]? = some T0 := by
    cases Tss with
    | nil => cases hl2
    | cons T r => exact ⟨T, rfl⟩
  have hT0k := hok2 T0 (List.mem_of_getElem? hT0)
  have hT0a : atI (Tss.map Ts.d) 0 = some T0.d := atI_nat (j := 0) (by rw [List.getElem?_map, hT0]; rfl)
  refine Ws_seq (Wx_set ?_)
  refine We_call0 Ln.pure (Wa_cons (We_callY0 (a, ns) Ln.id (Wa_raw rfl (Wa_cons (We_int (Wa_nil ⟨0, rfl, rfl, by decide, fun c => ?_⟩))))))
  refine Wa_cons (We_var rfl (Wa_cons (We_var rfl (Wa_cons (We_int (Wa_cons (We_int (Wa_cons (We_int (Wa_nil ⟨c, Ls, Tss, rfl, hL0, hok1, hok2, fun ds h1 h4 nd hds => ⟨rfl, ?_⟩⟩))))))))))
  refine Ws_used ?_
  refine Ws_seq (Ws_lend (i := 1) rfl fun o => Wx_set ?_)
  refine We_callY0 o Ln.id (Wa_raw rfl (Wa_cons ?_))
  walk_at "wi"
  refine fun nu d3 _ _ hhd3 => ⟨rfl, rfl, ?_⟩
  show Ws _ _ () [En.raw (.ref a), En.own d3, En.da (.list (Ls.map Lt.d)), En.da (.list (Tss.map Ts.d)), En.da (.list (ds.map (Pr.dd true true))), En.da (.int nu), En.no, En.no, En.no, En.no, En.no, En.no, En.no, En.no, En.no, En.no, En.no, En.no, En.no, En.no, En.no, En.no, En.no, En.no] _
  refine Ws_seq (Ws_lend (i := 1) rfl fun o => Wx_set ?_)
  walk_at "wi"
  refine We_callY0 o Ln.id (Wa_raw rfl (Wa_cons (We_int (Wa_nil ⟨hhd3, 20, rfl, ⟨by decide, by decide⟩, fun dp d4 p0 p1 hhd4 => ?_⟩))))
  walk_at "wi"
  obtain ⟨dn, edn, hdn⟩ : ∃ dn : Nat, 1 + dp = (dn : Int) ∧ dn ≤ 20 := ⟨(1 + dp).toNat, by omega, by omega⟩
  rw [edn]
  show Ws _ _ () [En.raw (.ref a), En.own d4, En.da (.list (Ls.map Lt.d)), En.da (.list (Tss.map Ts.d)), En.da (.list (ds.map (Pr.dd true true))), En.da (.int nu), En.da (.int (dn : Nat)), En.no, En.no, En.no, En.no, En.no, En.no, En.no, En.no, En.no, En.no, En.no, En.no, En.no, En.no, En.no, En.no, En.no] _
  refine Ws_seq (Wx_new (Wn_op rn_cat (We_new (Wn_lc (GIn.tupA (GIns.name (by decide) (GIns.name (by decide) (GIns.name (by decide) GIns.nil)))) (Wi_seq (We_var rfl ⟨_, rfl, ?_⟩))))))
  refine ⟨by rw [List.length_map]; omega, fun i acc _ => acc = (ds.take i).map (Pr.dd false false), rfl, ?_, ?_⟩
  · rintro i dd acc g2 hdd rfl
    rw [List.getElem?_map] at hdd
    obtain ⟨p, hp, rfl⟩ := Option.map_eq_some_iff.mp hdd
    have hpo := hds p (List.mem_of_getElem? hp)
    have hpz := hpo.sz
    have hpd := hpo.dep
    refine Wg_tupA ⟨_, rfl, rfl, Wgs_cons (Wx_name ⟨rfl, Wgs_cons (Wx_name ⟨rfl, Wgs_cons (Wx_name ⟨rfl, Wgs_nil ?_⟩)⟩)⟩)⟩
    refine Wt_yes ⟨fun _ => ?_, fun z => nomatch z⟩
    walk_at "wi"
    refine ⟨by omega, by omega, Wa_nil ⟨[.str p.f, .int p.n, .tuple (Rw.dl false p.rs)], rfl, Nat.le_of_ble_eq_true rfl, ?_⟩⟩
    rw [take_get hp, List.map_append]
    rfl
  rintro acc g2 rfl
  rw [List.length_map, List.take_length]
  refine We_lst ?_
  walk_at "wi"
  refine ⟨_, _, T0.d, rfl, rfl, hT0a, ?_⟩
  refine Wa_nil ⟨dn, nu, T0, rfl, hT0k, by omega, fun rn hn1 hn2 hn3 => ?_⟩
  refine Wa_nil ⟨[.str "nest9", .int 1, .tuple (Rw.dl false rn)], rfl, Nat.le_of_ble_eq_true rfl, Wa_nil ⟨[.tuple [.str "nest9", .int 1, .tuple (Rw.dl false rn)]], rfl, Nat.le_of_ble_eq_true rfl, _, _, rfl, rfl, by rw [List.length_map]; show ds.length + 1 ≤ 60000; omega, rfl, ?_⟩⟩
  obtain ⟨hpr, hp8⟩ := lw_prog h1 h4 nd hds hn1 (by omega) (by omega)
  generalize hps : ds ++ [(⟨"nest9", 1, rn⟩ : Pr)] = ps at hpr hp8
  have elist : ds.map (Pr.dd false false) ++ [.tuple [.str "nest9", .int 1, .tuple (Rw.dl false rn)]] = ps.map (Pr.dd false false) := by rw [← hps, List.map_append]; rfl
  rw [elist]
  refine Ws_freeze (i := 7) rfl ?_
  show Ws _ _ () [En.raw (.ref a), En.own d4, En.da (.list (Ls.map Lt.d)), En.da (.list (Tss.map Ts.d)), En.da (.list (ds.map (Pr.dd true true))), En.da (.int nu), En.da (.int (dn : Nat)), En.da (.list (ps.map (Pr.dd false false))), En.no, En.no, En.no, En.no, En.no, En.no, En.no, En.no, En.no, En.no, En.no, En.no, En.no, En.no, En.no, En.no] _
  refine Ws_seq (Wx_new (Wn_makeN (Wa_cons (We_var rfl (Wa_nil fun p => ⟨false, false, true, ps, rfl, rfl, hpr.ok, fun _ => ⟨rfl, nt_d, rfl, ?_⟩, fun q hq z hz g' => ?_⟩)))))
  · refine Ws_freeze (i := 8) rfl ?_
    refine Ws_seq (Wx_new (Wn_lst ?_))
    walk_at "wi"
    refine Ws_seq (Wx_new (Wn_lst ?_))
    walk_at "wi"
    show Ws _ _ () [En.raw (.ref a), En.own d4, En.da (.list (Ls.map Lt.d)), En.da (.list (Tss.map Ts.d)), En.da (.list (ds.map (Pr.dd true true))), En.da (.int nu), En.da (.int (dn : Nat)), En.da (.list (ps.map (Pr.dd false false))), En.da (pgD ps), En.own (.list []), En.own (.list []), En.no, En.no, En.no, En.no, En.no, En.no, En.no, En.no, En.no, En.no, En.no, En.no, En.no] _
    refine Ws_seq (w10 ps d4 _ _ _ _ _ _ _ _ _ _ _ _ _ _ _ _ _ _ _ (Nev Unit) _ hpr hhd4 fun hd5 y11 y12 y13 y14 y15 y16 y17 y18 y19 y20 y21 y22 y23 hhd5 => ?_)
    exact w11 ps ds ⟨"nest9", 1, rn⟩ Tss T0 nu hd5 _ _ _ _ _ _ _ _ _ _ _ _ _ _ _ _ _ (Nev Unit) _ hpr hhd5 hps.symm rfl hT0k hT0 hk hp8
  · have hn := (dpl_none _ q.rs 0 (Nat.le_refl _) (by omega)).mpr (by have := hpr.dp q hq; omega)
    rw [hn] at hz
    cases hz
end
/-- what the law leans on -/
structure LawSrc (P : Program) (w : World) (K : PySem.W.Frag) (mg : Str → Option Value) (base : Heap) : Prop where
  n : Nb mg
  g : LwG P w K mg base
  hand : Keeps CX0 P w K mg base "_law_hand" 1 ["_law_script"] (spHand K)
  lt : Keeps CX0 P w K mg base "_law_letter" 1 ["_law_a", "_law_b", "_law_wide"] (spX K Co.pure RLet)
  ts : Keeps CX0 P w K mg base "_law_test" 1 ["_law_a", "_law_b", "_law_wide"] (spX K Co.pure RTst)
  ce : Keeps CX0 P w K mg base "_law_cell" 1 ["_law_script", "_law_at"] (spY K (fun i : Addr × List Int => Co.sq K i.1 (i.2.map V.int)) RCellS)
  pr : Keeps CX0 P w K mg base "_law_program" 7 ["_law_cell_here", "_law_letters", "_law_tests", "_law_most", "_law_many", "_law_most_rows"] (spX K Co.pure RPg)
  ti : Keeps CX0 P w K mg base "_law_tight" 24 ["_law_rows"] (spX K Co.pure (RTi 22))
  ne : Keeps CX0 P w K mg base "_law_nest" 1 ["_law_deep", "_law_number", "_law_test_here"] (spX K Co.pure RNe)
  mp : Mk K (He.ga K "Program") (He.ma K (He.ga K "Program") "__init__")
  kp : KeepsM (L2N.CX P w) P w K mg base (He.ma K (He.ga K "Program") "__init__") 29 ["self", "procedures"] (spY K (CB K) (RPi 22))
  gp : mg "Program" = some (.ref (He.ga K "Program"))
  sb : ErrF P w K mg base "BadProgram" ["name", "place", "what"]
  td : KeepsH CX0 P w K mg base "_law_too_deep" 24 ["_law_rows", "_law_depth"] (spX K Co.pure (RTd 22))
section
variable {P : Program} {w : World} {K : PySem.W.Frag} {mg : Str → Option Value} {base : Heap}
def spLaw (K : PySem.W.Frag) : Sp := fun vs H Q _ => ∃ (a : Addr) (ns : List Int), vs = [.ref a] ∧ Only H ∧ SqL K H a (ns.map V.int) ∧ ns.length ≤ 63 ∧ ∀ H', Q (.bl true) H'
theorem kp_law {fd : FuncData} (F : FunD K "law" "law" (defArgs s_law) (defBody s_law) (defScope s_law) [] [] (He.ga K "law") fd) (S : LawSrc P w K mg base) : FnOk P w K mg base CX0 50 (He.ga K "law") fd ["_law_script"] (spLaw K) := by
  refine F.ok sc_law (fun vs H Q E h => ?_) (fun cdv A outer s H vs Q E hr h => ?_)
  · obtain ⟨a, ns, rfl, _⟩ := h
    rfl
  · obtain ⟨a, ns, rfl, hO, hS, hlen, hq⟩ := h
    obtain ⟨t, h1, h2⟩ := kp_law_head (fa := He.ga K "law") (cdv := cdv) (A := A) (outer := outer) (s := s) (H := H) (E := E) S.n S.g S.hand S.lt S.ts S.ce S.pr S.ti S.ne S.mp S.kp S.gp hr (kp_tail16 S.sb S.td S.mp S.kp S.gp hr)
    refine ⟨t, h1.nox, ?_⟩
    have none_ : ∀ z : Addr, ¬ (fun _ : Addr => False) z := fun _ z => z
    exact ws_run (K := K) (C := Co.sq K a (ns.map V.int)) (S := fun _ => False) (g := true) (es := [En.raw (.ref a)]) (k := fun d _ => d = .bool true) (x := Nev Bool) (E := E) (fun a m => m.elim) (fun a m => m.elim) (sq_start hO hS) (.raw .nil)
      (fun y H' d g' f I dy hd => by subst hd; rw [dy.bl_inv]; exact hq H') (XE.nev rfl) (h2 a ns (fun d _ => d = .bool true) hlen rfl)
end
section
variable {P : Program} {w : World} {K : PySem.W.Frag} {mg : Str → Option Value} {base : Heap}
theorem ki_BadProgram (F : AtI K "BadProgram" "BadProgram.__init__" (inClass (top 7) 0)) (T : ExF K mg "BadProgram" "BookError" ["name", "place", "what"]) : KeepsI P w K mg base "BadProgram" ["name", "place", "what"] := by
  refine ini_of F ⟨rfl, rfl, rfl, by decide +kernel, rfl, by decide +kernel, by decide +kernel⟩ (fun _ _ _ _ _ _ us hl => match us, hl with | [_, _, _, _], _ => rfl) (fun fd cdv A outer s H vs Q E h => ?_)
  obtain ⟨a, ys, rfl, hl, ha, k⟩ := h
  obtain ⟨y, z, u, rfl⟩ := three_of hl
  refine ⟨_, pss_cons (ps_ost (pv 0) (pv 1)) (pss_cons (ps_ost (pv 0) (pv 2)) (pss_one (ps_ost (pv 0) (pv 3)))), ?_⟩
  refine ⟨_, rfl, _, rfl, a, _, rfl, T.ox, T.no _ (by decide), .inl ⟨ha, fun d hd hne => ?_⟩⟩
  refine ⟨_, rfl, _, rfl, a, _, rfl, T.ox, T.no _ (by decide), .inr ⟨d, _, upd_same, (by rw [upd_ne hne, upd_same]), (by show 1 ≤ 900; decide), ?_⟩⟩
  refine ⟨_, rfl, _, rfl, a, _, rfl, T.ox, T.no _ (by decide), .inr ⟨d, _, (by rw [upd_ne hne.symm, upd_same]), upd_same, (by show 2 ≤ 900; decide), ?_⟩⟩
  refine k d _ hd hne ?_ upd_same fun b o hb e => ?_
  · rw [upd_ne hne.symm, upd_ne hne.symm, upd_same]
  · rw [upd_ne (ne_of_none e hd), upd_ne (ne_of_none e hd), upd_ne hb, upd_ne (ne_of_none e hd)]
    exact e
theorem ki_NoProcedure (F : AtI K "NoProcedure" "NoProcedure.__init__" (inClass (top 8) 0)) (T : ExF K mg "NoProcedure" "BookError" ["name"]) : KeepsI P w K mg base "NoProcedure" ["name"] := by
  refine ini_of F ⟨rfl, rfl, rfl, by decide +kernel, rfl, by decide +kernel, by decide +kernel⟩ (fun _ _ _ _ _ _ us hl => match us, hl with | [_, _], _ => rfl) (fun fd cdv A outer s H vs Q E h => ?_)
  obtain ⟨a, ys, rfl, hl, ha, k⟩ := h
  obtain ⟨y, rfl⟩ := one_of hl
  refine ⟨_, pss_one (ps_ost (pv 0) (pv 1)), ?_⟩
  refine ⟨_, rfl, _, rfl, a, _, rfl, T.ox, T.no _ (by decide), .inl ⟨ha, fun d hd hne => ?_⟩⟩
  refine k d _ hd hne upd_same ?_ fun b o hb e => ?_
  · rw [upd_ne hne, upd_same]
    rfl
  · rw [upd_ne hb, upd_ne (ne_of_none e hd)]
    exact e
end
theorem tab_ok {K : PySem.W.Frag} {w : World} (c : (tabs.map fun t => He.dicW K (t.1 K)) = tabs.map fun t => some (He.keysIn w.params t.2)) (i : Nat) {t : He.Tab} (h : tabs[i]? = some t) : ∃ es n, KDict K w (t.1 K) es n := by
  have e2 : (tabs.map fun t => He.dicW K (t.1 K))[i]? = (tabs.map fun t => some (He.keysIn w.params t.2))[i]? := congrArg (fun l => l[i]?) c
  (rw [List.getElem?_map, List.getElem?_map, h] at e2)
  exact He.dicW_ok (Option.some.inj e2)
theorem diB_ok {K : PySem.W.Frag} {w : World} {mg : Str → Option Value} {nm : Str} {ws : List Str} {tbl : Str → Option Int} (g : mg nm = some (.ref (He.ga K nm))) (d : ∃ es n, KDict K w (He.ga K nm) es n) (h : diB K nm ws tbl = true) : DicI K w mg nm ws tbl := by
  refine ⟨_, g, d, fun z hz => ?_⟩
  have hb := List.all_eq_true.mp h z hz
  cases e : tbl z with
  | some i =>
    rw [e] at hb
    cases q : PySem.W.nsIn K (He.ga K nm) z with
    | none => rw [q] at hb; cases hb
    | some r =>
      rw [q] at hb
      cases r with
      | none => cases hb
      | some v =>
        cases v with
        | int j t =>
          have hj : j = i := of_decide_eq_true hb
          subst hj
          exact ⟨t, rfl⟩
        | _ => cases hb
  | none =>
    rw [e] at hb
    cases q : PySem.W.nsIn K (He.ga K nm) z with
    | none => rw [q] at hb; cases hb
    | some r =>
      rw [q] at hb
      cases r with
      | none => rfl
      | some v => cases v <;> cases hb
/-! ### what the law stands on -/
theorem fact {K : PySem.W.Frag} (h : facts K = true) {i : Nat} {b : Bool} (e : (fL K)[i]? = some b) : b = true := List.all_eq_true.mp h b (List.mem_of_getElem? e)
theorem law_src {P : Program} {w : World} {K : PySem.W.Frag} {h : Heap} {mg : Str → Option Value} (X : K.In h) (G : h.Ns mainGlobals mg) (b1 : facts K = true) (c : He5.SaysA [] fns K) (ct3 : (tabs.map fun t => He.dicW K (t.1 K)) = tabs.map fun t => some (He.keysIn w.params t.2)) (base : Heap) : LawSrc P w K mg base := by
  have fr : ∀ x, x ∈ blts → mg x = none := fun x hx => He.free_ok X G (List.all_eq_true.mp (fact b1 (i := 0) rfl) x hx)
  have gl : ∀ x, x ∈ gnames → mg x = some (.ref (He.ga K x)) := fun x hx => He.glo_ok X G (List.all_eq_true.mp (fact b1 (i := 1) rfl) x hx)
  have at_ : ∀ (i : Nat) (x : Str) (st : Stmt), fns[i]? = some (dG x st) → x ∈ gnames → At K mg x st := fun i x st hi hm => ⟨gl _ hm, c.def_ i (d := dG x st) hi⟩
  have am : ∀ (i : Nat) (C m q : Str) (st : Stmt), fns[i]? = some (dM C m q st) → AtM K (He.ga K C) (He.ma K (He.ga K C) m) m q st := fun i C m q st hi => c.def_ i (d := dM C m q st) hi
  have N : Nb mg := ⟨fr _ (by decide), fr _ (by decide), fr _ (by decide), fr _ (by decide), fr _ (by decide), fr _ (by decide), fr _ (by decide), fr _ (by decide), fr _ (by decide), fr _ (by decide), fr _ (by decide), fr _ (by decide), fr _ (by decide), fr _ (by decide), fr _ (by decide)⟩
  have cn := of_decide_eq_true (fact b1 (i := 2) rfl)
  have ct := of_decide_eq_true (fact b1 (i := 3) rfl)
  have gBE := He.glo_ok X G (fact b1 (i := 4) rfl)
  have mMOST := He.int_ok X G (fact b1 (i := 5) rfl)
  have mMOST_REST := He.int_ok X G (fact b1 (i := 6) rfl)
  have mMOST_PROCEDURES := He.int_ok X G (fact b1 (i := 7) rfl)
  have mMOST_VARIABLES := He.int_ok X G (fact b1 (i := 8) rfl)
  have mMOST_ROWS := He.int_ok X G (fact b1 (i := 9) rfl)
  have mDEEPEST := He.int_ok X G (fact b1 (i := 10) rfl)
  have mMOST_CHARACTERS := He.int_ok X G (fact b1 (i := 11) rfl)
  have mSMALL_LETTERS := He.str_ok X G (fact b1 (i := 12) rfl)
  have mFIGURES := He.str_ok X G (fact b1 (i := 13) rfl)
  have T_BadProgram : ExF K mg "BadProgram" "BookError" ["name", "place", "what"] := exB_ok X G (fact b1 (i := 14) rfl)
  have KT_BadProgram : KeepsI P w K mg base "BadProgram" ["name", "place", "what"] := ki_BadProgram (c.def_ 49 (d := dM "BadProgram" "__init__" "BadProgram.__init__" (inClass (top 7) 0)) rfl) T_BadProgram
  have EA_BadProgram : ErrA P w K mg base "BadProgram" ["name", "place", "what"] := ⟨T_BadProgram, KT_BadProgram⟩
  have EF_BadProgram : ErrF P w K mg base "BadProgram" ["name", "place", "what"] := ⟨EA_BadProgram, xfB_ok (fact b1 (i := 15) rfl), of_decide_eq_true (fact b1 (i := 16) rfl)⟩
  have T_NoProcedure : ExF K mg "NoProcedure" "BookError" ["name"] := exB_ok X G (fact b1 (i := 17) rfl)
  have KT_NoProcedure : KeepsI P w K mg base "NoProcedure" ["name"] := ki_NoProcedure (c.def_ 50 (d := dM "NoProcedure" "__init__" "NoProcedure.__init__" (inClass (top 8) 0)) rfl) T_NoProcedure
  have EA_NoProcedure : ErrA P w K mg base "NoProcedure" ["name"] := ⟨T_NoProcedure, KT_NoProcedure⟩
  have EF_NoProcedure : ErrF P w K mg base "NoProcedure" ["name"] := ⟨EA_NoProcedure, xfB_ok (fact b1 (i := 18) rfl), of_decide_eq_true (fact b1 (i := 19) rfl)⟩
  have T_BadPlace : ExF K mg "BadPlace" "BookError" [] := exB_ok X G (fact b1 (i := 20) rfl)
  have R_exmOne_BadPlace_NoProcedure := of_decide_eq_true (fact b1 (i := 21) rfl)
  have R_exmOne_BadPlace_BadPlace := of_decide_eq_true (fact b1 (i := 22) rfl)
  have D_LENGTHS : DicI K w mg "LENGTHS" words8 tblL := diB_ok (He.glo_ok X G (fact b1 (i := 23) rfl)) (tab_ok ct3 0 (t := (fun K => He.ga K "LENGTHS", ["deed", "copy", "need", "if", "either", "while", "call", "stop"])) rfl) (fact b1 (i := 24) rfl)
  have D_VARIABLE_AT : DicI K w mg "VARIABLE_AT" words8 tblV := diB_ok (He.glo_ok X G (fact b1 (i := 25) rfl)) (tab_ok ct3 1 (t := (fun K => He.ga K "VARIABLE_AT", ["deed", "copy", "need", "if", "while", "call"])) rfl) (fact b1 (i := 26) rfl)
  have D_BLOCKS_FROM : DicI K w mg "BLOCKS_FROM" words8 tblB := diB_ok (He.glo_ok X G (fact b1 (i := 27) rfl)) (tab_ok ct3 2 (t := (fun K => He.ga K "BLOCKS_FROM", ["if", "either", "while"])) rfl) (fact b1 (i := 28) rfl)
  have pb := id (fact b1 (i := 29) rfl)
  have gP0 := id (fact b1 (i := 30) rfl)
  have gP := He.glo_ok X G gP0
  have T : PrgT K := by
    obtain ⟨p1, p⟩ := and_ok pb
    exact ⟨He.cls_ok p1, He.noat_ok (and_ok p).1⟩
  have M : Mk K (He.ga K "Program") (He.ma K (He.ga K "Program") "__init__") := He.mkr_ok (and_ok (and_ok pb).2).2
  have G1 : Keeps CX0 P w K mg base "_law_mix" 1 ["_law_number", "_law_turn"] spMix := kp_mix (at_ 1 _ _ rfl (by decide)) N.int
  have G2 : Keeps CX0 P w K mg base "_law_draw" 2 ["_law_hand_here", "_law_many"] spDraw := kp_draw (at_ 0 _ _ rfl (by decide)) G1 N.int N.len
  have G3 : Keeps CX0 P w K mg base "_law_draw" 2 ["_law_hand_here", "_law_many"] (spDraw_ K) := kx_draw G2
  have G4 : Keeps CX0 P w K mg base "_law_blocks" 1 ["_law_row"] (spX K Co.pure RBlk) := kp__law_blocks (at_ 3 _ _ rfl (by decide))
  have G5 : Keeps CX0 P w K mg base "_law_listed" 24 ["_law_rows"] (spX K Co.pure (RLi 22)) := kp__law_listed (at_ 2 _ _ rfl (by decide)) N G4 22
  have G6 : Keeps (CX P w) P w K mg base "procedure_of" 3 ["program", "name"] (spX K Co.pure RPof) := kp_procedure_of (at_ 5 _ _ rfl (by decide)) T EA_NoProcedure
  have G7 : Keeps CX0 P w K mg base "block_places" 1 ["row"] (spX K Co.pure RPlc) := kp_block_places (at_ 8 _ _ rfl (by decide)) N D_BLOCKS_FROM
  have G8 : Keeps CX0 P w K mg base "blocks_of" 2 ["row"] (spX K Co.pure RBlk) := kp_blocks_of (at_ 7 _ _ rfl (by decide)) G7
  have G9 : Keeps CX0 P w K mg base "rows_count" 24 ["rows"] (spX K Co.pure (RSz 22)) := kp_rows_count (at_ 6 _ _ rfl (by decide)) N G8 22
  have G10 : Keeps (CX P w) P w K mg base "place_count" 26 ["program", "name"] (spX K Co.pure (RCnt 22)) := kp_place_count 22 (at_ 4 _ _ rfl (by decide)) G6 G9
  have G11 : Keeps CX0 P w K mg base "flat_rows" 24 ["rows"] (spX K Co.pure (RFl 22)) := kp_flat_rows (at_ 10 _ _ rfl (by decide)) G8 22
  have G12 : Keeps (CX P w) P w K mg base "call_places" 26 ["program", "name"] (spX K Co.pure (RCpl 22)) := kp_call_places 22 (at_ 9 _ _ rfl (by decide)) N G6 G11
  have G13 : ∀ n, Keeps CX0 P w K mg base "rows_count" (n + 2) ["rows"] (spX K Co.pure (RSz n)) := kp_rows_count (at_ 6 _ _ rfl (by decide)) N G8
  have G14 : Keeps CX0 P w K mg base "_arrows_at" 1 ["row", "heads", "following"] (spX K Co.pure RAt) := kp__arrows_at (at_ 14 _ _ rfl (by decide))
  have G15 : Keeps CX0 P w K mg base "_append_arrows" 3 ["rows", "behind", "arrows"] (spY K (CB K) (RApA 0)) := kp_app_all (at_ 12 _ _ rfl (by decide)) (at_ 13 _ _ rfl (by decide)) N G13 G8 G14 0
  have G16 : Keeps CX0 P w K mg base "_append_row" 4 ["row", "following", "arrows"] (spY K (CB K) (RApR 1)) := kp__append_row 0 (at_ 13 _ _ rfl (by decide)) N G8 G14 G13 G15
  have G17 : Keeps CX0 P w K mg base "_append_arrows" 5 ["rows", "behind", "arrows"] (spY K (CB K) (RApA 1)) := kp__append_arrows 0 (at_ 12 _ _ rfl (by decide)) N G13 G16
  have G18 : Keeps CX0 P w K mg base "_append_row" 6 ["row", "following", "arrows"] (spY K (CB K) (RApR 2)) := kp__append_row 1 (at_ 13 _ _ rfl (by decide)) N G8 G14 G13 G17
  have G19 : Keeps CX0 P w K mg base "_append_arrows" 7 ["rows", "behind", "arrows"] (spY K (CB K) (RApA 2)) := kp__append_arrows 1 (at_ 12 _ _ rfl (by decide)) N G13 G18
  have G20 : Keeps CX0 P w K mg base "_append_row" 8 ["row", "following", "arrows"] (spY K (CB K) (RApR 3)) := kp__append_row 2 (at_ 13 _ _ rfl (by decide)) N G8 G14 G13 G19
  have G21 : Keeps CX0 P w K mg base "_append_arrows" 9 ["rows", "behind", "arrows"] (spY K (CB K) (RApA 3)) := kp__append_arrows 2 (at_ 12 _ _ rfl (by decide)) N G13 G20
  have G22 : Keeps CX0 P w K mg base "_append_row" 10 ["row", "following", "arrows"] (spY K (CB K) (RApR 4)) := kp__append_row 3 (at_ 13 _ _ rfl (by decide)) N G8 G14 G13 G21
  have G23 : Keeps CX0 P w K mg base "_append_arrows" 11 ["rows", "behind", "arrows"] (spY K (CB K) (RApA 4)) := kp__append_arrows 3 (at_ 12 _ _ rfl (by decide)) N G13 G22
  have G24 : Keeps CX0 P w K mg base "_append_row" 12 ["row", "following", "arrows"] (spY K (CB K) (RApR 5)) := kp__append_row 4 (at_ 13 _ _ rfl (by decide)) N G8 G14 G13 G23
  have G25 : Keeps CX0 P w K mg base "_append_arrows" 13 ["rows", "behind", "arrows"] (spY K (CB K) (RApA 5)) := kp__append_arrows 4 (at_ 12 _ _ rfl (by decide)) N G13 G24
  have G26 : Keeps CX0 P w K mg base "_append_row" 14 ["row", "following", "arrows"] (spY K (CB K) (RApR 6)) := kp__append_row 5 (at_ 13 _ _ rfl (by decide)) N G8 G14 G13 G25
  have G27 : Keeps CX0 P w K mg base "_append_arrows" 15 ["rows", "behind", "arrows"] (spY K (CB K) (RApA 6)) := kp__append_arrows 5 (at_ 12 _ _ rfl (by decide)) N G13 G26
  have G28 : Keeps CX0 P w K mg base "_append_row" 16 ["row", "following", "arrows"] (spY K (CB K) (RApR 7)) := kp__append_row 6 (at_ 13 _ _ rfl (by decide)) N G8 G14 G13 G27
  have G29 : Keeps CX0 P w K mg base "_append_arrows" 17 ["rows", "behind", "arrows"] (spY K (CB K) (RApA 7)) := kp__append_arrows 6 (at_ 12 _ _ rfl (by decide)) N G13 G28
  have G30 : Keeps CX0 P w K mg base "_append_row" 18 ["row", "following", "arrows"] (spY K (CB K) (RApR 8)) := kp__append_row 7 (at_ 13 _ _ rfl (by decide)) N G8 G14 G13 G29
  have G31 : Keeps CX0 P w K mg base "_append_arrows" 19 ["rows", "behind", "arrows"] (spY K (CB K) (RApA 8)) := kp__append_arrows 7 (at_ 12 _ _ rfl (by decide)) N G13 G30
  have G32 : Keeps CX0 P w K mg base "_append_row" 20 ["row", "following", "arrows"] (spY K (CB K) (RApR 9)) := kp__append_row 8 (at_ 13 _ _ rfl (by decide)) N G8 G14 G13 G31
  have G33 : Keeps CX0 P w K mg base "_append_arrows" 21 ["rows", "behind", "arrows"] (spY K (CB K) (RApA 9)) := kp__append_arrows 8 (at_ 12 _ _ rfl (by decide)) N G13 G32
  have G34 : Keeps CX0 P w K mg base "_append_row" 22 ["row", "following", "arrows"] (spY K (CB K) (RApR 10)) := kp__append_row 9 (at_ 13 _ _ rfl (by decide)) N G8 G14 G13 G33
  have G35 : Keeps CX0 P w K mg base "_append_arrows" 23 ["rows", "behind", "arrows"] (spY K (CB K) (RApA 10)) := kp__append_arrows 9 (at_ 12 _ _ rfl (by decide)) N G13 G34
  have G36 : Keeps CX0 P w K mg base "_append_row" 24 ["row", "following", "arrows"] (spY K (CB K) (RApR 11)) := kp__append_row 10 (at_ 13 _ _ rfl (by decide)) N G8 G14 G13 G35
  have G37 : Keeps CX0 P w K mg base "_append_arrows" 25 ["rows", "behind", "arrows"] (spY K (CB K) (RApA 11)) := kp__append_arrows 10 (at_ 12 _ _ rfl (by decide)) N G13 G36
  have G38 : Keeps CX0 P w K mg base "_append_row" 26 ["row", "following", "arrows"] (spY K (CB K) (RApR 12)) := kp__append_row 11 (at_ 13 _ _ rfl (by decide)) N G8 G14 G13 G37
  have G39 : Keeps CX0 P w K mg base "_append_arrows" 27 ["rows", "behind", "arrows"] (spY K (CB K) (RApA 12)) := kp__append_arrows 11 (at_ 12 _ _ rfl (by decide)) N G13 G38
  have G40 : Keeps CX0 P w K mg base "_append_row" 28 ["row", "following", "arrows"] (spY K (CB K) (RApR 13)) := kp__append_row 12 (at_ 13 _ _ rfl (by decide)) N G8 G14 G13 G39
  have G41 : Keeps CX0 P w K mg base "_append_arrows" 29 ["rows", "behind", "arrows"] (spY K (CB K) (RApA 13)) := kp__append_arrows 12 (at_ 12 _ _ rfl (by decide)) N G13 G40
  have G42 : Keeps CX0 P w K mg base "_append_row" 30 ["row", "following", "arrows"] (spY K (CB K) (RApR 14)) := kp__append_row 13 (at_ 13 _ _ rfl (by decide)) N G8 G14 G13 G41
  have G43 : Keeps CX0 P w K mg base "_append_arrows" 31 ["rows", "behind", "arrows"] (spY K (CB K) (RApA 14)) := kp__append_arrows 13 (at_ 12 _ _ rfl (by decide)) N G13 G42
  have G44 : Keeps CX0 P w K mg base "_append_row" 32 ["row", "following", "arrows"] (spY K (CB K) (RApR 15)) := kp__append_row 14 (at_ 13 _ _ rfl (by decide)) N G8 G14 G13 G43
  have G45 : Keeps CX0 P w K mg base "_append_arrows" 33 ["rows", "behind", "arrows"] (spY K (CB K) (RApA 15)) := kp__append_arrows 14 (at_ 12 _ _ rfl (by decide)) N G13 G44
  have G46 : Keeps CX0 P w K mg base "_append_row" 34 ["row", "following", "arrows"] (spY K (CB K) (RApR 16)) := kp__append_row 15 (at_ 13 _ _ rfl (by decide)) N G8 G14 G13 G45
  have G47 : Keeps CX0 P w K mg base "_append_arrows" 35 ["rows", "behind", "arrows"] (spY K (CB K) (RApA 16)) := kp__append_arrows 15 (at_ 12 _ _ rfl (by decide)) N G13 G46
  have G48 : Keeps CX0 P w K mg base "_append_row" 36 ["row", "following", "arrows"] (spY K (CB K) (RApR 17)) := kp__append_row 16 (at_ 13 _ _ rfl (by decide)) N G8 G14 G13 G47
  have G49 : Keeps CX0 P w K mg base "_append_arrows" 37 ["rows", "behind", "arrows"] (spY K (CB K) (RApA 17)) := kp__append_arrows 16 (at_ 12 _ _ rfl (by decide)) N G13 G48
  have G50 : Keeps CX0 P w K mg base "_append_row" 38 ["row", "following", "arrows"] (spY K (CB K) (RApR 18)) := kp__append_row 17 (at_ 13 _ _ rfl (by decide)) N G8 G14 G13 G49
  have G51 : Keeps CX0 P w K mg base "_append_arrows" 39 ["rows", "behind", "arrows"] (spY K (CB K) (RApA 18)) := kp__append_arrows 17 (at_ 12 _ _ rfl (by decide)) N G13 G50
  have G52 : Keeps CX0 P w K mg base "_append_row" 40 ["row", "following", "arrows"] (spY K (CB K) (RApR 19)) := kp__append_row 18 (at_ 13 _ _ rfl (by decide)) N G8 G14 G13 G51
  have G53 : Keeps CX0 P w K mg base "_append_arrows" 41 ["rows", "behind", "arrows"] (spY K (CB K) (RApA 19)) := kp__append_arrows 18 (at_ 12 _ _ rfl (by decide)) N G13 G52
  have G54 : Keeps CX0 P w K mg base "_append_row" 42 ["row", "following", "arrows"] (spY K (CB K) (RApR 20)) := kp__append_row 19 (at_ 13 _ _ rfl (by decide)) N G8 G14 G13 G53
  have G55 : Keeps CX0 P w K mg base "_append_arrows" 43 ["rows", "behind", "arrows"] (spY K (CB K) (RApA 20)) := kp__append_arrows 19 (at_ 12 _ _ rfl (by decide)) N G13 G54
  have G56 : Keeps CX0 P w K mg base "_append_row" 44 ["row", "following", "arrows"] (spY K (CB K) (RApR 21)) := kp__append_row 20 (at_ 13 _ _ rfl (by decide)) N G8 G14 G13 G55
  have G57 : Keeps CX0 P w K mg base "_append_arrows" 45 ["rows", "behind", "arrows"] (spY K (CB K) (RApA 21)) := kp__append_arrows 20 (at_ 12 _ _ rfl (by decide)) N G13 G56
  have G58 : Keeps CX0 P w K mg base "_append_row" 46 ["row", "following", "arrows"] (spY K (CB K) (RApR 22)) := kp__append_row 21 (at_ 13 _ _ rfl (by decide)) N G8 G14 G13 G57
  have G59 : Keeps CX0 P w K mg base "_append_arrows" 47 ["rows", "behind", "arrows"] (spY K (CB K) (RApA 22)) := kp__append_arrows 21 (at_ 12 _ _ rfl (by decide)) N G13 G58
  have G60 : Keeps (CX P w) P w K mg base "arrows_of" 48 ["program", "name"] (spX K Co.pure (RArr 22)) := kp_arrows_of 22 (at_ 11 _ _ rfl (by decide)) N G6 G9 G59
  have G61 : Keeps CX0 P w K mg base "is_whole" 1 ["thing"] (spWhT K) := kp_whT (at_ 17 _ _ rfl (by decide)) N
  have G62 : Keeps CX0 P w K mg base "is_whole_from" 2 ["thing", "low", "high"] (spWfT K) := kp_wfT (at_ 16 _ _ rfl (by decide)) G61
  have G63 : Keeps CX0 P w K mg base "is_whole_from" 2 ["thing", "low", "high"] (spWholeF_ K) := kx_wholeF G62
  have G64 : Keeps (CX P w) P w K mg base "row_at_place" 26 ["program", "name", "place"] (spX K Co.pure (RRap 22)) := kp_row_at_place 22 (at_ 15 _ _ rfl (by decide)) N G6 G11 G63 T_BadPlace
  have G65 : Keeps CX0 P w K mg base "_law_size" 23 ["_law_rows"] (spX K Co.pure (RSz 22)) := kp__law_size (at_ 19 _ _ rfl (by decide)) N G4 22
  have G66 : ∀ n, Keeps CX0 P w K mg base "_law_size" (n + 1) ["_law_rows"] (spX K Co.pure (RSz n)) := kp__law_size (at_ 19 _ _ rfl (by decide)) N G4
  have G67 : Keeps CX0 P w K mg base "_law_put" 25 ["_law_rows", "_law_place", "_law_behind", "_law_out"] (spY K (CB K) (RPut 22)) := kp__law_put (at_ 20 _ _ rfl (by decide)) N G4 G66 22
  have G68 : Keeps CX0 P w K mg base "_law_arrows" 26 ["_law_rows"] (spX K Co.pure (RLar 22)) := kp__law_arrows 22 (at_ 18 _ _ rfl (by decide)) N G65 G67
  have G69 : Keeps CX0 P w K mg base "_law_refused" 49 ["_law_way", "_law_program_here", "_law_name", "_law_place"] (spX K Co.pure (RRef 22)) := kp__law_refused 22 (at_ 21 _ _ rfl (by decide)) EF_NoProcedure T_BadPlace R_exmOne_BadPlace_NoProcedure R_exmOne_BadPlace_BadPlace G10 G12 G60 G64
  have G70 : Keeps CX0 P w K mg base "alphabet_of" 25 ["program"] (spX K Co.pure (RAlp 22)) := kp_alphabet_of 22 (at_ 22 _ _ rfl (by decide)) N T G11
  have G71 : LwG P w K mg base := ⟨G3, G5, G10, G12, G60, G64, G68, G69, G70⟩
  have G72 : Keeps CX0 P w K mg base "_law_hand" 1 ["_law_script"] (spHand K) := kp_hand (at_ 23 _ _ rfl (by decide)) N.int N.enumerate N.abs
  have G73 : Keeps CX0 P w K mg base "_law_letter" 1 ["_law_a", "_law_b", "_law_wide"] spLet := kp_let (at_ 24 _ _ rfl (by decide)) N
  have G74 : Keeps CX0 P w K mg base "_law_letter" 1 ["_law_a", "_law_b", "_law_wide"] (spX K Co.pure RLet) := kx_let G73
  have G75 : Keeps CX0 P w K mg base "_law_test" 1 ["_law_a", "_law_b", "_law_wide"] spTst := kp_tst (at_ 25 _ _ rfl (by decide)) N
  have G76 : Keeps CX0 P w K mg base "_law_test" 1 ["_law_a", "_law_b", "_law_wide"] (spX K Co.pure RTst) := kx_tst G75
  have G77 : Keeps CX0 P w K mg base "_law_cell" 1 ["_law_script", "_law_at"] (spY K (fun i : Addr × List Int => Co.sq K i.1 (i.2.map V.int)) RCellS) := kps__law_cell (at_ 26 _ _ rfl (by decide)) N
  have G78 : Keeps CX0 P w K mg base "_law_digits" 1 ["_law_cell_here", "_law_many"] (spX K Co.pure RDg) := kp__law_digits (at_ 28 _ _ rfl (by decide)) N
  have G79 : Keeps CX0 P w K mg base "_law_names" 1 ["_law_ds", "_law_at", "_law_many"] (spX K Co.pure RNames) := kp__law_names (at_ 29 _ _ rfl (by decide)) N
  have G80 : Keeps CX0 P w K mg base "_law_next" 1 ["_law_ds", "_law_pos"] (spY K (CB K) RNext) := kp__law_next (at_ 30 _ _ rfl (by decide)) N
  have G81 : Keeps CX0 P w K mg base "_law_block" 5 ["_law_ds", "_law_pos", "_law_room", "_law_deep", "_law_mine", "_law_sizes", "_law_letters", "_law_tests"] (spY K (C2 K) (RLb 3)) := kp__law_block (at_ 31 _ _ rfl (by decide)) N G80 3
  have G82 : Keeps CX0 P w K mg base "_law_tame_rows" 5 ["_law_rows", "_law_left"] (spY K (CB K) (RTr 3)) := kp__law_tame_rows (at_ 33 _ _ rfl (by decide)) N G4 3
  have G83 : Keeps CX0 P w K mg base "_law_tame" 6 ["_law_program_here", "_law_most"] (spX K Co.pure (RTm 3)) := kp__law_tame 3 (at_ 32 _ _ rfl (by decide)) N G82
  have G84 : Keeps CX0 P w K mg base "_law_program" 7 ["_law_cell_here", "_law_letters", "_law_tests", "_law_most", "_law_many", "_law_most_rows"] (spX K Co.pure RPg) := kp__law_program (at_ 27 _ _ rfl (by decide)) N G78 G79 G80 G81 G83
  have G85 : Keeps CX0 P w K mg base "_law_tight" 24 ["_law_rows"] (spX K Co.pure (RTi 22)) := kp__law_tight (at_ 34 _ _ rfl (by decide)) N G4 22
  have G86 : Keeps CX0 P w K mg base "_law_nest" 1 ["_law_deep", "_law_number", "_law_test_here"] (spX K Co.pure RNe) := kp__law_nest (at_ 35 _ _ rfl (by decide)) N
  have G87 : Keeps CX0 P w K mg base "is_sequence" 1 ["thing"] (spSeqT K) := kp_seqT (at_ 36 _ _ rfl (by decide)) N
  have G88 : Keeps CX0 P w K mg base "is_sequence" 1 ["thing"] (spSeq_ K) := kx_seq G87
  have G89 : Keeps CX0 P w K mg base "is_sequence_of" 2 ["thing", "many"] (spX K Co.pure RSqO) := kp_is_sequence_of (at_ 38 _ _ rfl (by decide)) N G88
  have G90 : Keeps CX0 P w K mg base "is_name" 1 ["thing"] (spX K Co.pure RNm) := kp_is_name (at_ 39 _ _ rfl (by decide)) N mMOST_CHARACTERS mSMALL_LETTERS mFIGURES
  have G91 : Keeps (L2N.CX P w) P w K mg base "_checked_heads" 3 ["procedures"] (spX K Co.pure RHd) := kp__checked_heads (at_ 37 _ _ rfl (by decide)) N mMOST_VARIABLES EA_BadProgram G89 G90 G63
  have G92 : Keeps CX0 P w K mg base "_has_row_form" 2 ["row"] (spX K Co.pure RForm) := kp__has_row_form (at_ 43 _ _ rfl (by decide)) N D_LENGTHS G88
  have G93 : Keeps CX0 P w K mg base "_call_fault" 3 ["row", "variables", "variables_of"] (spX K Co.pure RCf) := kp__call_fault (at_ 44 _ _ rfl (by decide)) N G88 G63
  have G94 : Keeps CX0 P w K mg base "fits_letter" 3 ["letter"] (spFitT K flT) := kp_flT (at_ 45 _ _ rfl (by decide)) N mMOST mMOST_REST G87 G62
  have G95 : Keeps CX0 P w K mg base "fits_letter" 3 ["letter"] (spFit_ K flT) := kx_fit G94
  have G96 : Keeps CX0 P w K mg base "fits_test" 3 ["test"] (spFitT K ftT) := kp_ftT (at_ 46 _ _ rfl (by decide)) N mMOST mMOST_REST G87 G62
  have G97 : Keeps CX0 P w K mg base "fits_test" 3 ["test"] (spFit_ K ftT) := kx_fit G96
  have G98 : Keeps CX0 P w K mg base "_row_fault" 4 ["row", "variables", "variables_of", "depth"] (spX K Co.pure RRf) := kp__row_fault (at_ 42 _ _ rfl (by decide)) N mDEEPEST D_VARIABLE_AT G88 G63 G92 G93 G8 G95 G97
  have G99 : Keeps (L2N.CX P w) P w K mg base "_checked_rows" 27 ["name", "variables_of", "rows", "place", "depth"] (spX K Co.pure (RCr 22)) := kp__checked_rows (at_ 41 _ _ rfl (by decide)) N EA_BadProgram G98 G88 G7 22
  have G100 : Keeps (L2N.CX P w) P w K mg base "_checked_procedure" 28 ["procedure", "variables_of"] (spX K Co.pure (RCp 22)) := kp__checked_procedure 22 (at_ 40 _ _ rfl (by decide)) N EA_BadProgram G88 G99
  have G101 : KeepsM (L2N.CX P w) P w K mg base (He.ma K (He.ga K "Program") "__init__") 29 ["self", "procedures"] (spY K (CB K) (RPi 22)) := kp_program_init 22 (am 51 _ _ _ _ rfl) N T mMOST_PROCEDURES mMOST_ROWS EA_BadProgram G88 G91 G100 G9
  have G102 : KeepsH CX0 P w K mg base "_law_blocks" 1 ["_law_row"] (spX K Co.pure RBlk) := kph__law_blocks (at_ 3 _ _ rfl (by decide))
  have G103 : KeepsH CX0 P w K mg base "_law_too_deep" 24 ["_law_rows", "_law_depth"] (spX K Co.pure (RTd 22)) := kph__law_too_deep (at_ 47 _ _ rfl (by decide)) G102 22
  exact ⟨N, G71, G72, G74, G76, G77, G84, G85, G86, M, G101, gP, EF_BadProgram, G103⟩
theorem law_at {K : PySem.W.Frag} {h : Heap} {mg : Str → Option Value} (X : K.In h) (G : h.Ns mainGlobals mg) (b1 : facts K = true) : mg "law" = some (.ref (He.ga K "law")) :=
  He.glo_ok X G (List.all_eq_true.mp (fact b1 (i := 1) rfl) "law" (by decide))
theorem binds_law {K : PySem.W.Frag} {fd : FuncData} (F : FunD K "law" "law" (defArgs s_law) (defBody s_law) (defScope s_law) [] [] (He.ga K "law") fd) (s : Shared) (u : Value) : BindsTo s fd ⟨[u], []⟩ [("_law_script", u)] :=
  FunD.bindsA (ps := ["_law_script"]) F (fun _ _ _ _ _ _ us hl => match us, hl with | [_], _ => rfl) s [u] rfl
end My
set_option Elab.async false
set_option linter.all false
set_option maxRecDepth 100000
set_option maxHeartbeats 8000000
open PySem PySem.W PySem.Calls PyProof.Rows
theorem PySem.Challenge.cw_truebooks_k05_places_and_arrows_holds : PySem.Challenge.rw_truebooks_k05_places_and_arrows.Holds := by
  apply My.holds_of
  refine L2.walk_ofE (l := PySem.Challenge.rw_truebooks_k05_places_and_arrows) (n := 63) (k := 50) (x := "_law_script") (CX := L2.CX0) rfl (by decide) (by kernel_rfl) ⟨rfl, by decide, by decide⟩ ?F (fun _ _ _ _ z => z)
  intro w mg fa h Y G hmg0
  obtain ⟨K, KX, c⟩ := Y
  have c1 : My.facts K = true := congrArg (fun z : My.AlM => z.1) c
  have c2 : He5.SaysA [] My.fns K := congrArg (fun z : My.AlM => z.2.1) c
  have c3 : (My.tabs.map fun t => He.dicW K (t.1 K)) = My.tabs.map fun t => some (He.keysIn w.params t.2) := congrArg (fun z : My.AlM => z.2.2) c
  have hmg : mg ("law" : PySem.Str) = some (.ref fa) := by
    have e : (HandSHeadRun.topDef My.R.prog 71).name = ("law" : PySem.Str) := by kernel_rfl
    rw [← e]
    exact hmg0
  obtain ⟨fd0, F0⟩ := c2.def_ 48 (d := My.dG "law" My.s_law) rfl
  have ea : fa = He.ga K "law" := by
    have m0 := My.law_at KX G c1
    rw [hmg] at m0
    exact Value.ref.inj (Option.some.inj m0)
  subst ea
  exact ⟨K, fd0, My.spLaw K, KX, fun s u => My.binds_law F0 s u, fun H a ns hl hO hS => ⟨a, ns, rfl, hO, hS, hl, fun _ => rfl⟩, fun base _ _ => My.kp_law F0 (My.law_src KX G c1 c2 c3 base)⟩
